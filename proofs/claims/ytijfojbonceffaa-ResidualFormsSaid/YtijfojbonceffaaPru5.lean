/- Part 5 of what these claims stand on: contracts of the program's and the reference's functions, and plain facts. Conditions: each states its own. -/
import Derived.Test.YtijfojbonceffaaPru4
import Derived.Laws.Cover3
namespace Go.Proofs.Ytijfojbonceffaa
set_option linter.unusedVariables false
set_option linter.unusedSimpArgs false
section
open Go Go.RowKit
/-- Values on a line. -/
def linL (v s : Int) (n : Nat) : List Int := (List.range n).map fun i : Nat => wrap64 (v + (i : Int) * s)
theorem linL_len (v s : Int) (n : Nat) : (linL v s n).length = n := by simp [linL]
theorem linL_succ (v s : Int) (n : Nat) : linL v s (n + 1) = linL v s n ++ [wrap64 (v + (n : Int) * s)] := by simp [linL, List.range_succ]
theorem linL_get (v s : Int) {i n : Nat} (h : i < n) : (linL v s n).getD i 0 = wrap64 (v + (i : Int) * s) := by simp [linL, List.getD_eq_getElem?_getD, h]
theorem linL_t (v s : Int) (n : Nat) : IsT (linL v s n) := by
  intro x hx
  simp only [linL, List.mem_map] at hx
  obtain ⟨i, _, rfl⟩ := hx
  exact wrap64_64 _
theorem dif_lin (v s : Int) (hv : I64 v) (hs : I64 s) : ∀ n, difL (linL v s (n + 1)) = v :: List.replicate n s
  | 0 => by simp [linL, difL, difF, wrap64_id hv]
  | n + 1 => by
    rw [linL_succ, difL_snoc (k := n) (linL_len v s (n + 1)), dif_lin v s hv hs n, linL_get v s (by omega), List.replicate_succ', List.cons_append]
    congr 3
    have e : ((n + 1 : Nat) : Int) * s = (n : Int) * s + s := by rw [Int.natCast_succ, Int.add_mul, Int.one_mul]
    rw [e]
    obtain ⟨p, hp⟩ : ∃ p, (n : Int) * s = p := ⟨_, rfl⟩
    rw [hp]
    unfold I64 at hs
    simp only [wrap64]; omega
theorem difF_rep (s : Int) : ∀ n, difF s (List.replicate n s) = List.replicate n 0
  | 0 => rfl
  | n + 1 => by
    rw [List.replicate_succ, difF, difF_rep s n, List.replicate_succ]
    congr 1
    simp only [wrap64]; omega
theorem res_lin (v s : Int) (hv : I64 v) (hs : I64 s) (n : Nat) : resL (linL v s (n + 2)) 2 = zig v :: zig (wrap64 (s - v)) :: List.replicate n 0 := by
  have e : resI (linL v s (n + 2)) 2 = v :: wrap64 (s - v) :: List.replicate n 0 := by
    show difL (difL (linL v s (n + 1 + 1))) = _
    rw [dif_lin v s hv hs (n + 1), List.replicate_succ, difL, difF, difF_rep]
  rw [resL, e]
  simp [zig]
theorem encV_zs : ∀ k, (encV (List.replicate k 0)).length = k
  | 0 => rfl
  | k + 1 => by rw [List.replicate_succ, encV_cons, List.length_append, encV_zs k, encB_small (by omega)]; simp; omega
theorem lin_len (v s : Int) (hv : I64 v) (hs : I64 s) {n : Nat} (h : 2 ≤ n) (hn : n ≤ 65536) : (bestR (linL v s n)).length ≤ 22 + n - 2 := by
  obtain ⟨m, rfl⟩ : ∃ m, n = m + 2 := ⟨n - 2, by omega⟩
  have h1 := bestR_le (linL v s (m + 2)) 2 (by omega)
  have hq := resL_q (linL_t v s (m + 2)) 2
  have h2 := (enN_len hq (by rw [resL_len, linL_len]; exact hn)).2.1
  rw [res_lin v s hv hs m, encV_cons, encV_cons, List.length_append, List.length_append, encV_zs] at h2
  have z1 := zig_lt hv.1 hv.2
  have z2 := zig_lt (wrap64_64 (s - v)).1 (wrap64_64 (s - v)).2
  have b1 := encB_length_le (zig v) 9 (by omega)
  have b2 := encB_length_le (zig (wrap64 (s - v))) 9 (by omega)
  rw [cR, List.length_cons, res_lin v s hv hs m] at h1
  omega
set_option maxRecDepth 100000 in
set_option maxHeartbeats 6400000 in
theorem law_rshort (y : Option Addr) (len cap4 : Nat) (v s nn : Int) (W : World) (hL : IsList W y len cap4) (hv : I64 v) (hs1 : -2147483648 ≤ s) (hs2 : s ≤ 2147483647) (hnn : I64 nn) :
    Calls Try.prog 7 #[.slice y len cap4, .int .i64 v, .int .i32 s, .int .i64 nn] W (Ret (.bool true) W) := by
  have KN : Hid (Calls Try.prog 8 #[.slice y len cap4] W (NewPost W)) := t_new W y len cap4 hL
  have KL : Hid (∀ w, TapeOk W.heap.size w W.heap.size → Calls Try.prog 9 #[.pointer (some ⟨W.heap.size, 0, none⟩), .int .i64 25] w (ValsPost 25 W.heap.size W.heap.size w)) := hide (fun w h => t_values 25 W.heap.size W.heap.size (by omega) w h)
  have KK := hide (fun w => l_known11 w)
  have i60 : I64 60 := ⟨by omega, by omega⟩
  have is_ : I64 s := ⟨by omega, by omega⟩
  have KM := hide (fun w => t_modI nn 60 w hnn i60)
  have Hlin := hide (fun n h hn => lin_len v s hv is_ (n := n) h hn)
  have Hv := hide hv
  have ecs : IntKind.i64.wrap s = s := by rw [IntKind.wrap_i64]; omega
  clear hL hnn
  go_enter Try.func7, Try.ntmps7
  go_upto_region 2 with (first
    | (go_at_call 8; (with_reducible refine (KN.out).mono ?_); rintro e w1 ⟨rfl, hT, hE⟩; have T1 := hide hT; have E1 := hide hE; have kl := hide (KL.out w1 hT); clear hT hE)
    | (go_at_call 9; (with_reducible refine (kl.out).mono ?_); rintro e w2 ⟨Am, n, cap, m, rfl, hn, hn25, hncap, hncap2, hO, hT2, hU2⟩; have S2 := hide (Bt.of E1.out T1.out hO hT2 hU2); have Hn := hide hn; clear hO hT2 hU2 hncap hncap2 hn))
  obtain ⟨B, hB⟩ : ∃ B, w1.heap.size = B := ⟨_, rfl⟩
  rw [hB] at S2
  have hmt := S2.out.o.2
  have hml : m.length ≤ 65536 := by have := Hn.out; omega
  obtain ⟨zB, hzB⟩ : ∃ zB, (bestR m).length = zB := ⟨_, rfl⟩
  have hzb := cR_len hmt hml 0
  have hzb2 := bestR_le m 0 (by omega)
  have hzB2 : zB ≤ 1000 := by have := Hn.out; omega
  have KE : Hid (∀ w, Bt W B Am n cap m w → Calls Try.prog 10 #[.slice Am n cap] w fun e w' => ∃ A4 c4, e = .returned (.tuple #[.slice A4 zB c4, .int .i64 0]) ∧ Ext w w') := hide (fun w s => (p_encR Am n cap m w s.times Hn.out).mono fun e w' h => by
    rw [enR_ok hml] at h
    obtain ⟨A4, c4, rfl, _, _, _, _, hE⟩ := h.parts
    exact ⟨A4, c4, by simp only [hzB]; rfl, hE⟩)
  have KR : Hid (∀ k : Nat, k ≤ 2 → ∀ w, Bt W B Am n cap m w → Calls Try.prog 13 #[.slice Am n cap, .int .i64 (k : Int)] w fun e w' => ∃ A1 c1, e = .returned (.tuple #[.slice A1 n c1, .bool true]) ∧ WordsAt w' A1 (resL m k) ∧ Ext w w') := hide (fun k hk w s => by
    have e : resR m (k : Int) = some (resL m k) := by unfold resR; rw [if_neg (by omega), Int.toNat_natCast]
    have := p_res Am n cap m (k : Int) w s.times Hn.out (by omega) ⟨by omega, by omega⟩
    rw [e] at this
    refine this.mono fun e w' h => ?_
    obtain ⟨v, rfl, ho, hE⟩ := h
    obtain ⟨A1, c1, rfl, _, _, hw⟩ := ho.at_
    exact ⟨A1, c1, by rw [show (some (resL m k)).getD [] = resL m k from rfl, resL_len, Hn.out]; rfl, hw, hE⟩)
  have KX : Hid (∀ k : Nat, k ≤ 2 → ∃ z ze : Nat, zB ≤ 1 + z ∧ z ≤ 1000 ∧ ∀ A1 c1 w, WordsAt w A1 (resL m k) → Calls Try.prog 17 #[.slice A1 n c1] w fun e w' => ∃ A4 c4, e = .returned (.tuple #[.slice A4 z c4, .int .i64 (ze : Int)]) ∧ Ext w w') := hide (fun k hk => by
    have h1 := bestR_le m k hk
    have h2 := cR_len hmt hml k
    rw [cR, List.length_cons] at h1 h2
    refine ⟨(enN (resL m k)).1.length, (enN (resL m k)).2, by omega, by have := Hn.out; omega, fun A1 c1 w h => (r_encN A1 n c1 (resL m k) w h (by rw [resL_len]; exact Hn.out)).mono fun e w' h => ?_⟩
    obtain ⟨A4, c4, rfl, _, _, _, _, hE⟩ := h.parts
    exact ⟨A4, c4, rfl, hE⟩)
  have ke := hide (KE.out w2 S2.out)
  clear KN KL kl T1 E1 hB hmt hml hzB hzb hzb2
  go_upto_region 3 with (go_at_call 10; (with_reducible refine (ke.out).mono ?_); rintro e w3 ⟨A3, c3, rfl, hE⟩; have S3 := hide (S2.out.ext hE); clear hE)
  clear ke KE S2
  go_wp2_with fail
  go_loopw [12] (fun iv wr => ∃ k : Nat, k ≤ 3 ∧ iv = .int .i64 (k : Int) ∧ Hid (Bt W B Am n cap m wr)) (fun iv _ => 3 - (intOf iv).toNat)
  case atStart => exact ⟨0, by omega, rfl, S3⟩
  case round =>
    clear S3
    obtain ⟨k, hk, rfl, HS⟩ := hrel
    by_cases hlt : k ≤ 2
    · have d2 : decide ((k : Int) ≤ 2) = true := decide_eq_true (by omega)
      have KR1 := hide (KR.out k hlt _ HS.out)
      obtain ⟨z, ze, hz1, hz2, K2⟩ := KX.out k hlt
      have K2 := hide K2
      have d4 : decide ((1 : Int) + (z : Int) < (zB : Int)) = false := decide_eq_false (by omega)
      have d5 : decide (1 + z < zB) = false := decide_eq_false (by omega)
      clear hz1
      go_wp2_with (first
        | (go_at_call 13; (with_reducible refine (KR1.out).mono ?_); rintro e w4 ⟨A1, c1, rfl, hw, hE⟩; have S4 := hide (HS.out.ext hE); have k2 := hide (K2.out A1 c1 w4 hw); clear hw hE)
        | (go_at_call 17; (with_reducible refine (k2.out).mono ?_); rintro e w5 ⟨A4, c4, rfl, hE⟩; have S5 := hide (S4.out.ext hE); clear hE))
      go_roundw
      case rel => exact ⟨k + 1, by omega, by go_num, S5⟩
      case measure => simp [intOf]; omega
    · obtain rfl : k = 3 := by omega
      go_upto_region 11 with (go_at_call 19; (with_reducible refine (KM.out _).mono ?_); rintro e w6 ⟨mm, rfl, hmm, hw6⟩; have m0 := hmm.1; have m1 := hmm.2.1 (by omega); clear hmm)
      obtain ⟨N, hN⟩ : ∃ N : Nat, (2 : Int) + mm = (N : Int) := ⟨(2 + mm).toNat, by omega⟩
      rw [hN]
      have hN1 : 2 ≤ N := by omega
      have hN2 : N ≤ 61 := by omega
      have HE6 : Hid (Ext W w6) := hide (by subst hw6; exact HS.out.e)
      clear hN m0 m1 hw6 KM HS KR KX
      go_wp2_with fail
      go_loopw [17, 18] (fun lv iv wr => ∃ i : Nat, i ≤ N ∧ iv = .int .i64 (i : Int) ∧ Hid (OwnT W.heap.size wr lv (linL v s i)) ∧ Hid (Ext W wr)) (fun _ iv _ => N - (intOf iv).toNat)
      case atStart => exact ⟨0, by omega, rfl, hide (OwnT.nil_ _ _), HE6⟩
      case round =>
        clear HE6
        obtain ⟨i, hi, rfl, HO, HE⟩ := hrel
        by_cases hlt2 : i < N
        · have d6 : decide ((i : Int) < (N : Int)) = true := decide_eq_true (by omega)
          have hp1 : (i : Int) * s ≤ 61 * 2147483648 := by
            have h1 : (i : Int) * s ≤ (i : Int) * 2147483648 := Int.mul_le_mul_of_nonneg_left (by omega) (by omega)
            omega
          have hp2 : -(61 * 2147483648) ≤ (i : Int) * s := by
            have h1 : (i : Int) * (-2147483648) ≤ (i : Int) * s := Int.mul_le_mul_of_nonneg_left (by omega) (by omega)
            omega
          have hst := linL_succ v s i
          obtain ⟨p, hp⟩ : ∃ p, (i : Int) * s = p := ⟨_, rfl⟩
          rw [hp] at hp1 hp2 hst
          obtain ⟨y, y1, y2, iy⟩ := wr64 (v + p)
          rw [y1] at hst
          have p1 : wrap64 ((i : Int) * s) = p := by rw [hp]; simp only [wrap64]; omega
          have p2 : IntKind.i64.wrap ((i : Int) * s) = p := by rw [hp, IntKind.wrap_i64]; omega
          have Hst := hide hst
          have hle : (linL v s i).length + [y].length ≤ 17592186044416 := by rw [linL_len]; simp; omega
          have O3 := hide (HO.out.alloc (.cells #[Value.int .i64 y] 2))
          have hone := hide (one_atT wr y iy _ rfl)
          have E3 := hide (Ext.trans HE.out (ext_alloc wr (.cells #[Value.int .i64 y] 2)))
          clear hst HO HE
          go_wp2_with (at_builtin; refine wl_appendT rfl (.tmp 62) (.tmp 69) rfl W.heap.size _ (linL v s i) [y] rfl O3.out _ 1 1 rfl hone.out rfl hle E3.out.size ?_; intro v6 w7 hO6 hG6 hA6)
          have O6 := hide (show OwnT W.heap.size w7 v6 (linL v s (i + 1)) by rw [Hst.out]; exact hO6)
          have E6 := hide (below_grownT E3.out (Nat.le_refl _) O3.out hG6)
          clear hO6 hG6 hA6 O3 E3
          go_roundw
          case rel => exact ⟨i + 1, by omega, by go_num, O6, E6⟩
          case measure => simp [intOf]; omega
        · obtain rfl : i = N := by omega
          have d6 : decide ((i : Int) < (i : Int)) = false := decide_eq_false (by omega)
          obtain ⟨A9, c9, rfl, _, _, h9⟩ := HO.out.at_
          rw [linL_len] at ⊢
          have hz := Hlin.out i hN1 (by omega)
          obtain ⟨z, hzz⟩ : ∃ z, (bestR (linL v s i)).length = z := ⟨_, rfl⟩
          have KE : Hid (Calls Try.prog 10 #[.slice A9 i c9] wr fun e w' => ∃ A4 c4, e = .returned (.tuple #[.slice A4 z c4, .int .i64 0]) ∧ Ext wr w') := hide ((p_encR A9 i c9 (linL v s i) wr h9 (linL_len v s i)).mono fun e w' h => by
            rw [enR_ok (by rw [linL_len]; omega)] at h
            obtain ⟨A4, c4, rfl, _, _, _, _, hE⟩ := h.parts
            exact ⟨A4, c4, by simp only [hzz]; rfl, hE⟩)
          rw [hzz] at hz
          have d7 : decide ((z : Int) ≤ (22 : Int) + (i : Int) - 2) = true := decide_eq_true (by omega)
          have hz3 : z ≤ 1000 := by omega
          clear h9 hz hzz HO
          go_wp2_with (first
            | (go_at_call 10; (with_reducible refine (KE.out).mono ?_); rintro e w8 ⟨A4, c4, rfl, hE⟩; have E8 := hide (Ext.trans HE.out hE); clear hE)
            | (go_at_call 16; (with_reducible refine (KK.out _).mono ?_); rintro e w9 ⟨rfl, hE⟩; have E9 := hide (Ext.trans E8.out hE); clear hE))
          go_ret
          exact ⟨rfl, E9.out⟩
end
end Go.Proofs.Ytijfojbonceffaa
