/- Layer 10: StampsRegular. Conditions: the arguments are numbers of their types. -/
import Derived.Test.YtjmigglibidbdaaTms3
namespace Go.Proofs.Ytjmigglibidbdaa
set_option linter.unusedVariables false
set_option linter.unusedSimpArgs false
open Go Go.RowKit
/-- Times at equal distances. -/
def apT (f : Int) (s k : Nat) : List Int := (List.range k).map fun i => f + ((i * s : Nat) : Int)
theorem apT_len (f : Int) (s k : Nat) : (apT f s k).length = k := by simp [apT]
theorem apT_one (f : Int) (s : Nat) : apT f s (0 + 1) = [f] := by simp [apT]
theorem apT_succ (f : Int) (s k : Nat) : apT f s (k + 1) = apT f s k ++ [f + ((k * s : Nat) : Int)] := by simp [apT, List.range_succ]
theorem apT_get (f : Int) (s : Nat) {j k : Nat} (h : j < k) : (apT f s k).getD j 0 = f + ((j * s : Nat) : Int) := by simp [apT, List.getD_eq_getElem?_getD, h]
theorem apT_take (f : Int) (s : Nat) {k : Nat} (h : 2 ≤ k) : (apT f s k).take 2 = apT f s 2 := by
  unfold apT
  rw [← List.map_take, List.take_range, Nat.min_eq_left h]
theorem apT_inc (f : Int) {s : Nat} (k : Nat) (hs : 1 ≤ s) : incB (apT f s k) = true := by
  rw [incB_iff]
  intro i hi
  rw [apT_len] at hi
  rw [apT_get f s (by omega), apT_get f s hi, Nat.succ_mul]
  omega
theorem apT_df (f : Int) (s : Nat) {i k : Nat} (h : i + 1 < k) : dfT (apT f s k) i = s := by
  unfold dfT
  rw [apT_get f s h, apT_get f s (show i < k by omega), Nat.succ_mul]
  omega
theorem apT_cod (f : Int) (s k : Nat) (hk : 2 ≤ k) : codL (apT f s k) = (s - 1) :: List.replicate (k - 2) 0 := by
  apply List.ext_getElem
  · rw [codL_len, apT_len]; simp; omega
  · intro i h1 h2
    rw [codL_len, apT_len] at h1
    have e := codL_get (apT f s k) (i := i) (by rw [apT_len]; exact h1)
    rw [getD_lt (by rw [codL_len, apT_len]; exact h1)] at e
    rw [e]
    unfold codK
    cases i with
    | zero => rw [if_pos rfl, apT_df f s (by omega)]; rfl
    | succ i =>
      rw [if_neg (by omega), apT_df f s (by omega), apT_df f s (by omega)]
      simp [wrap64, zig]
theorem wdt_lo {x k : Nat} (hx : x < 18446744073709551616) (h : 2 ^ k ≤ x) : k < wdt [x] := by
  rcases Nat.lt_or_ge k (wdt [x]) with h1 | h1
  · exact h1
  · have := (wdt_iff (l := [x]) (IsQ.one hx) k).2 h1 x (List.mem_singleton.2 rfl)
    omega
/-- A number of 32 bits alone is encoded plainly. -/
theorem enN_one {x : Nat} (hx : x < 4294967296) : (enN [x]).1.length = 1 + (encB x).length := by
  have hq : x < 18446744073709551616 := by omega
  have e : encV [x] = encB x := by simp [encV]
  have hS : pkS [x] = (wdt [x] + 7) / 8 := by unfold pkS; simp
  have h : (encB x).length ≤ 1 + pkS [x] := by
    rw [hS]
    rcases Nat.lt_or_ge x (2 ^ 7) with h | h
    · have := encB_length_le x 0 (by simpa using h); omega
    have w1 := wdt_lo hq h
    rcases Nat.lt_or_ge x (2 ^ 14) with h | h
    · have := encB_length_le x 1 (by simpa using h); omega
    have w2 := wdt_lo hq h
    rcases Nat.lt_or_ge x (2 ^ 21) with h | h
    · have := encB_length_le x 2 (by simpa using h); omega
    have w3 := wdt_lo hq h
    rcases Nat.lt_or_ge x (2 ^ 28) with h | h
    · have := encB_length_le x 3 (by simpa using h); omega
    have w4 := wdt_lo hq h
    have := encB_length_le x 4 (by omega); omega
  unfold enN
  rw [e, if_neg (by simp), if_neg (by omega), List.length_cons]
  omega
theorem encV_zeros (x k : Nat) : (encV (x :: List.replicate k 0)).length = (encB x).length + k := by
  rw [encV_cons, List.length_append]
  congr 1
  induction k with
  | zero => rfl
  | succ k ih => rw [List.replicate_succ, encV_cons, List.length_append, ih, encB_small (by omega)]; simp; omega
theorem reg_len (f : Int) {s k : Nat} (hs : 1 ≤ s) (hs2 : s ≤ 4294967296) (hk : 2 ≤ k) (hk2 : k ≤ 65536) : (enT (apT f s k)).1.length ≤ (enT (apT f s 2)).1.length + k - 2 := by
  rw [enT_of (by rw [apT_len]; omega) (apT_inc f k hs), enT_of (by rw [apT_len]; omega) (apT_inc f 2 hs), apT_cod f s k hk, apT_cod f s 2 (by omega)]
  rw [Nat.sub_self, List.replicate_zero, enN_one (by omega)]
  have hq : IsQ ((s - 1) :: List.replicate (k - 2) 0) := by
    intro y hy
    rcases List.mem_cons.1 hy with rfl | hy
    · omega
    · have := (List.mem_replicate.1 hy).2; omega
  have := (enN_len hq (by simp; omega)).2.1
  rw [encV_zeros] at this
  omega
theorem run_uptoT (A : Option Addr) (n k cap : Nat) (hk : k ≤ cap) (w : World) : (Instr.slice 22 (.slice A n cap) none (some (.int .i64 (k : Int))) none).run Try.prog w = .ok (.slice A k cap) w := by
  have he : Try.prog.elem 22 = 2 := by kernel_rfl
  have hz := Try.sizeOf2
  rw [run_slice_h w 22 A n cap (by kernel_rfl) .i64 k (by omega) (by omega), he, hz]
  simp [Result.andThen, sliced]
  intro _
  cases A with
  | none => rfl
  | some a => simp [Addr.add]
set_option maxRecDepth 100000 in
set_option maxHeartbeats 3200000 in
theorem law_tregular (f0 : Int) (d : Nat) (n : Int) (W : World) (hf : I64 f0) (hd : d < 4294967296) (hn : I64 n) :
    Calls Try.prog 7 #[.int .i64 f0, .int .u32 (d : Int), .int .i64 n] W (Ret (.bool true) W) := by
  have KK := hide (fun w => l_known10 w)
  have i100 : I64 100 := ⟨by omega, by omega⟩
  have KM := hide (fun w => t_modI n 100 w hn i100)
  obtain ⟨s, hs⟩ : ∃ s, d + 1 = s := ⟨_, rfl⟩
  have Hs : Hid (s ≤ 4294967296) := hide (by omega)
  have Hd : Hid (s = d + 1) := hide hs.symm
  have KX : Hid (∀ m : Nat, 2 ≤ m → m ≤ 101 → ∀ f : Int, I64 f → f ≤ 4611686018427387904 → ∃ (z : Nat) (q : List Nat) (z2 : Nat), (z ≤ z2 + m - 2 ∧ z2 ≤ 1000000) ∧
      (∀ A c w, TimesAt w A (apT f s m) → Calls Try.prog 11 #[.slice A m c] w (fun e w' => ∃ A3 c3, e = .returned (.tuple #[.slice A3 z c3, .int .i64 0]) ∧ Ext w w')) ∧
      (∀ A c w, TimesAt w A (apT f s m) → Calls Try.prog 11 #[.slice A 2 c] w (fun e w' => ∃ A3 c3, e = .returned (.tuple #[.slice A3 z2 c3, .int .i64 0]) ∧ Ext w w'))) := hide (fun m hm hm2 f hf hf2 => by
    have h1 : 1 ≤ s := by omega
    have ok : ∀ k, k ≤ 65536 → (enT (apT f s k)).2 = 0 := fun k hk => by
      rw [enT_of (by rw [apT_len]; exact hk) (apT_inc f k h1)]
      exact enN_ok (by rw [codL_len, apT_len]; omega)
    refine ⟨(enT (apT f s m)).1.length, [], (enT (apT f s 2)).1.length, ⟨reg_len f h1 Hs.out hm (by omega), ?_⟩, fun A c w h => ?_, fun A c w h => ?_⟩
    · rw [enT_of (by rw [apT_len]; omega) (apT_inc f 2 h1), apT_cod f s 2 (by omega), Nat.sub_self, List.replicate_zero, enN_one (by have := Hs.out; omega)]
      have := encB_length_le (s - 1) 9 (by have := Hs.out; omega)
      omega
    · refine (p_encT A m c (apT f s m) w h (apT_len f s m)).mono fun e w' h => ?_
      obtain ⟨A3, c3, rfl, _, _, _, _, hE⟩ := h.parts
      exact ⟨A3, c3, by rw [ok m (by omega)]; rfl, hE⟩
    · have h2 := h.take 2
      rw [apT_take f s hm] at h2
      refine (p_encT A 2 c (apT f s 2) w h2 (apT_len f s 2)).mono fun e w' h => ?_
      obtain ⟨A3, c3, rfl, _, _, _, _, hE⟩ := h.parts
      exact ⟨A3, c3, by rw [ok 2 (by omega)]; rfl, hE⟩)
  have hf2 := hf
  unfold I64 at hf2
  have ed : IntKind.i64.wrap (d : Int) = (d : Int) := by rw [IntKind.wrap_i64]; omega
  clear hn hs
  go_enter Try.func7, Try.ntmps7
  go_upto_region 2 with (go_at_call 17; (with_reducible refine (KM.out _).mono ?_); rintro e w1 ⟨mm, rfl, hmm, hw1⟩; have m0 := hmm.1; have m1 := hmm.2.1 (by omega); clear hmm)
  obtain ⟨m, hm⟩ : ∃ m : Nat, (2 : Int) + mm = (m : Int) := ⟨(2 + mm).toNat, by omega⟩
  rw [hm]
  have hm1 : 2 ≤ m := by omega
  have hm2 : m ≤ 101 := by omega
  have HE1 : Hid (Ext W w1) := hide (by subst hw1; exact Ext.refl _)
  have KX := hide (KX.out m hm1 hm2)
  clear hm m0 m1 hw1 KM
  by_cases hbig : 4611686018427387904 < f0
  · have d1 : decide ((4611686018427387904 : Int) < f0) = true := decide_eq_true hbig
    go_upto_region 4 with fail
    obtain ⟨f, hff⟩ : ∃ f, f0 - 4611686018427387904 = f := ⟨_, rfl⟩
    rw [hff]
    have Hf2 : Hid (f ≤ 4611686018427387904) := hide (by omega)
    have Hif : Hid (I64 f) := hide ⟨by omega, by omega⟩
    clear hff hbig hf2 hf
    go_upto_region 5 with fail
    have E2 := hide (Ext.trans HE1.out (ext_alloc w1 (.cells #[.int .i64 f] 2)))
    have O2 := hide (own_ofT (B := W.heap.size) (w := w1.alloc (.cells #[.int .i64 f] 2)) (g := w1.heap.size) (n := 1) (cap := 1) (l := [f]) (m := []) HE1.out.size (heap_alloc_new w1 _) rfl rfl (by omega) (IsT.one Hif.out))
    obtain ⟨w2, hw2⟩ : ∃ w2, w1.alloc (.cells #[.int .i64 f] 2) = w2 := ⟨_, rfl⟩
    rw [hw2] at O2 E2 ⊢
    rw [← apT_one f s] at O2
    clear hw2 HE1
    go_wp2_with fail
    go_loopw [7, 8] (fun lv iv wr => ∃ j : Nat, j + 1 ≤ m ∧ iv = .int .i64 ((j : Int) + 1) ∧ Hid (OwnT W.heap.size wr lv (apT f s (j + 1))) ∧ Hid (Ext W wr)) (fun _ iv _ => m - (intOf iv).toNat)
    case atStart => exact ⟨0, by omega, rfl, O2, E2⟩
    case round =>
      clear O2 E2
      obtain ⟨j, hj, rfl, HO, HE⟩ := hrel
      obtain ⟨Al, cl, rfl, hlc, hlc2, hla⟩ := HO.out.at_
      rw [apT_len] at HO hlc ⊢
      by_cases hlt : j + 1 < m
      · have d3 : decide ((j : Int) + 1 < (m : Int)) = true := decide_eq_true (by omega)
        obtain ⟨bl, ol, rfl, hbl, hcl⟩ := hla.2.2 (by rw [apT_len]; omega)
        have ct := hcl j (by rw [apT_len]; omega)
        rw [apT_get f s (by omega)] at ct
        have hjs := Nat.mul_le_mul (show j ≤ 101 by omega) Hs.out
        have hst := apT_succ f s (j + 1)
        have hjs2 : (j + 1) * s = j * s + s := Nat.succ_mul j s
        obtain ⟨x, hx⟩ : ∃ x, f + ((j * s : Nat) : Int) = x := ⟨_, rfl⟩
        have hif := Hif.out
        unfold I64 at hif
        have hx1 : -9223372036854775808 ≤ x := by omega
        have hx2 : x ≤ 4611686018427387904 + 433791696896 := by have := Hf2.out; omega
        rw [hx] at ct
        obtain ⟨y, hy⟩ : ∃ y, x + (d : Int) + 1 = y := ⟨_, rfl⟩
        have hyy : f + (((j + 1) * s : Nat) : Int) = y := by have := Hd.out; omega
        rw [hyy] at hst
        have iy : I64 y := ⟨by omega, by omega⟩
        have ey : wrap64 (wrap64 (x + (d : Int)) + 1) = y := by simp only [wrap64]; omega
        have Hst := hide hst
        have ix : ∀ w, (Instr.indexAt 22 (.slice (some ⟨bl, ol, none⟩) (j + 1) cl) (.int .i64 (j : Int))).run Try.prog w = .ok (.pointer (some ⟨bl, ol + j, none⟩)) w := fun w => idxT bl ol (j + 1) cl j (by omega) w
        have hle : (apT f s (j + 1)).length + [y].length ≤ 17592186044416 := by rw [apT_len]; simp; omega
        have O3 := hide (HO.out.alloc (.cells #[Value.int .i64 y] 2))
        have hone := hide (one_atT wr y iy _ rfl)
        have E3 := hide (Ext.trans HE.out (ext_alloc wr (.cells #[Value.int .i64 y] 2)))
        clear hla hcl hbl hx hyy hst hjs hjs2 hif HO HE hlc hlc2
        go_wp2_with (at_builtin; refine wl_appendT rfl (.tmp 27) (.tmp 37) rfl W.heap.size _ (apT f s (j + 1)) [y] rfl O3.out _ 1 1 rfl hone.out rfl hle E3.out.size ?_; intro v6 w6 hO6 hG6 hA6)
        have O6 := hide (show OwnT W.heap.size w6 v6 (apT f s (j + 1 + 1)) by rw [Hst.out]; exact hO6)
        have E6 := hide (below_grownT E3.out (Nat.le_refl _) O3.out hG6)
        clear hO6 hG6 hA6 O3 E3
        go_roundw
        case rel => exact ⟨j + 1, by omega, by go_num, O6, E6⟩
        case measure => simp [intOf]; omega
      · have hjm : j + 1 = m := by omega
        have d3 : decide ((j : Int) + 1 < (m : Int)) = false := decide_eq_false (by omega)
        rw [hjm] at HO hlc hla ⊢
        obtain ⟨z, q, z2, hz, K1, K2⟩ := KX.out f Hif.out Hf2.out
        have k1 := hide (K1 Al cl wr hla)
        have d6 : decide ((z : Int) ≤ (z2 : Int) + (m : Int) - 2) = true := decide_eq_true (by omega)
        have hsl := run_uptoT Al m 2 cl (by omega)
        have HL := hide hla
        have hz3 : z2 ≤ 1000000 := by omega
        have hz4 : z ≤ 1000200 := by omega
        clear hjm hla HO hz
        go_wp2_with (first
          | (go_at_call 11; (with_reducible refine (k1.out).mono ?_); rintro e w3 ⟨A3, c3, rfl, hE⟩; have E3 := hide (Ext.trans HE.out hE); have k2 := hide (K2 Al cl w3 (HL.out.ext hE)); clear hE k1)
          | (go_at_call 11; (with_reducible refine (k2.out).mono ?_); rintro e w4 ⟨A4, c4, rfl, hE⟩; have E4 := hide (Ext.trans E3.out hE); clear hE)
          | (go_at_call 16; (with_reducible refine (KK.out _).mono ?_); rintro e w5 ⟨rfl, hE⟩; have E5 := hide (Ext.trans E4.out hE); clear hE))
        go_ret
        exact ⟨rfl, E5.out⟩
  · have d1 : decide ((4611686018427387904 : Int) < f0) = false := decide_eq_false hbig
    go_upto_region 4 with fail
    have Hf2 : Hid (f0 ≤ 4611686018427387904) := hide (by omega)
    have Hif : Hid (I64 f0) := hide hf
    clear hbig hf2 hf
    go_upto_region 5 with fail
    have E2 := hide (Ext.trans HE1.out (ext_alloc w1 (.cells #[.int .i64 f0] 2)))
    have O2 := hide (own_ofT (B := W.heap.size) (w := w1.alloc (.cells #[.int .i64 f0] 2)) (g := w1.heap.size) (n := 1) (cap := 1) (l := [f0]) (m := []) HE1.out.size (heap_alloc_new w1 _) rfl rfl (by omega) (IsT.one Hif.out))
    obtain ⟨w2, hw2⟩ : ∃ w2, w1.alloc (.cells #[.int .i64 f0] 2) = w2 := ⟨_, rfl⟩
    rw [hw2] at O2 E2 ⊢
    rw [← apT_one f0 s] at O2
    clear hw2 HE1
    go_wp2_with fail
    go_loopw [7, 8] (fun lv iv wr => ∃ j : Nat, j + 1 ≤ m ∧ iv = .int .i64 ((j : Int) + 1) ∧ Hid (OwnT W.heap.size wr lv (apT f0 s (j + 1))) ∧ Hid (Ext W wr)) (fun _ iv _ => m - (intOf iv).toNat)
    case atStart => exact ⟨0, by omega, rfl, O2, E2⟩
    case round =>
      clear O2 E2
      obtain ⟨j, hj, rfl, HO, HE⟩ := hrel
      obtain ⟨Al, cl, rfl, hlc, hlc2, hla⟩ := HO.out.at_
      rw [apT_len] at HO hlc ⊢
      by_cases hlt : j + 1 < m
      · have d3 : decide ((j : Int) + 1 < (m : Int)) = true := decide_eq_true (by omega)
        obtain ⟨bl, ol, rfl, hbl, hcl⟩ := hla.2.2 (by rw [apT_len]; omega)
        have ct := hcl j (by rw [apT_len]; omega)
        rw [apT_get f0 s (by omega)] at ct
        have hjs := Nat.mul_le_mul (show j ≤ 101 by omega) Hs.out
        have hst := apT_succ f0 s (j + 1)
        have hjs2 : (j + 1) * s = j * s + s := Nat.succ_mul j s
        obtain ⟨x, hx⟩ : ∃ x, f0 + ((j * s : Nat) : Int) = x := ⟨_, rfl⟩
        have hif := Hif.out
        unfold I64 at hif
        have hx1 : -9223372036854775808 ≤ x := by omega
        have hx2 : x ≤ 4611686018427387904 + 433791696896 := by have := Hf2.out; omega
        rw [hx] at ct
        obtain ⟨y, hy⟩ : ∃ y, x + (d : Int) + 1 = y := ⟨_, rfl⟩
        have hyy : f0 + (((j + 1) * s : Nat) : Int) = y := by have := Hd.out; omega
        rw [hyy] at hst
        have iy : I64 y := ⟨by omega, by omega⟩
        have ey : wrap64 (wrap64 (x + (d : Int)) + 1) = y := by simp only [wrap64]; omega
        have Hst := hide hst
        have ix : ∀ w, (Instr.indexAt 22 (.slice (some ⟨bl, ol, none⟩) (j + 1) cl) (.int .i64 (j : Int))).run Try.prog w = .ok (.pointer (some ⟨bl, ol + j, none⟩)) w := fun w => idxT bl ol (j + 1) cl j (by omega) w
        have hle : (apT f0 s (j + 1)).length + [y].length ≤ 17592186044416 := by rw [apT_len]; simp; omega
        have O3 := hide (HO.out.alloc (.cells #[Value.int .i64 y] 2))
        have hone := hide (one_atT wr y iy _ rfl)
        have E3 := hide (Ext.trans HE.out (ext_alloc wr (.cells #[Value.int .i64 y] 2)))
        clear hla hcl hbl hx hyy hst hjs hjs2 hif HO HE hlc hlc2
        go_wp2_with (at_builtin; refine wl_appendT rfl (.tmp 27) (.tmp 37) rfl W.heap.size _ (apT f0 s (j + 1)) [y] rfl O3.out _ 1 1 rfl hone.out rfl hle E3.out.size ?_; intro v6 w6 hO6 hG6 hA6)
        have O6 := hide (show OwnT W.heap.size w6 v6 (apT f0 s (j + 1 + 1)) by rw [Hst.out]; exact hO6)
        have E6 := hide (below_grownT E3.out (Nat.le_refl _) O3.out hG6)
        clear hO6 hG6 hA6 O3 E3
        go_roundw
        case rel => exact ⟨j + 1, by omega, by go_num, O6, E6⟩
        case measure => simp [intOf]; omega
      · have hjm : j + 1 = m := by omega
        have d3 : decide ((j : Int) + 1 < (m : Int)) = false := decide_eq_false (by omega)
        rw [hjm] at HO hlc hla ⊢
        obtain ⟨z, q, z2, hz, K1, K2⟩ := KX.out f0 Hif.out Hf2.out
        have k1 := hide (K1 Al cl wr hla)
        have d6 : decide ((z : Int) ≤ (z2 : Int) + (m : Int) - 2) = true := decide_eq_true (by omega)
        have hsl := run_uptoT Al m 2 cl (by omega)
        have HL := hide hla
        have hz3 : z2 ≤ 1000000 := by omega
        have hz4 : z ≤ 1000200 := by omega
        clear hjm hla HO hz
        go_wp2_with (first
          | (go_at_call 11; (with_reducible refine (k1.out).mono ?_); rintro e w3 ⟨A3, c3, rfl, hE⟩; have E3 := hide (Ext.trans HE.out hE); have k2 := hide (K2 Al cl w3 (HL.out.ext hE)); clear hE k1)
          | (go_at_call 11; (with_reducible refine (k2.out).mono ?_); rintro e w4 ⟨A4, c4, rfl, hE⟩; have E4 := hide (Ext.trans E3.out hE); clear hE)
          | (go_at_call 16; (with_reducible refine (KK.out _).mono ?_); rintro e w5 ⟨rfl, hE⟩; have E5 := hide (Ext.trans E4.out hE); clear hE))
        go_ret
        exact ⟨rfl, E5.out⟩
end Go.Proofs.Ytjmigglibidbdaa
