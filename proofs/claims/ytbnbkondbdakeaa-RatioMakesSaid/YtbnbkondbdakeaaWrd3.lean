/- addProduct and mulWords of the program. Condition: the words are of 64 bits. -/
import Derived.Test.YtbnbkondbdakeaaWrdG
import Derived.Test.YtbnbkondbdakeaaBits
import Derived.Laws.Cover3
namespace Go.Proofs.Ytbnbkondbdakeaa
set_option linter.unusedVariables false
set_option linter.unusedSimpArgs false
open Go Go.RowKit
/-- What has been added so far of a product by one word. -/
def MulRel (p q : List Nat) (f : Nat) (os : List Nat) (k c : Nat) : Prop := os.length = p.length ∧ os.drop k = p.drop k ∧ c < 18446744073709551616 ∧ val (os.take k) + 18446744073709551616 ^ k * c = val (p.take k) + val (q.take k) * f
theorem MulRel.step {p q os : List Nat} {f k c x y h l l1 c1 s c2 : Nat} (hr : MulRel p q f os k c) (hk : k < p.length) (hq : k < q.length) (hx : p[k] = x) (hy : q[k] = y) (bx : x < 18446744073709551616) (by' : y < 18446744073709551616) (bf : f < 18446744073709551616)
    (hh : y * f / 18446744073709551616 = h) (hl : y * f % 18446744073709551616 = l) (h1 : (l + c) % 18446744073709551616 = l1) (h2 : (l + c) / 18446744073709551616 = c1) (h3 : (x + l1) % 18446744073709551616 = s) (h4 : (x + l1) / 18446744073709551616 = c2) :
    MulRel p q f (os.set k s) (k + 1) (h + c1 + c2) ∧ h + c1 + c2 < 18446744073709551616 ∧ s < 18446744073709551616 ∧ c1 ≤ 1 ∧ c2 ≤ 1 ∧ l < 18446744073709551616 ∧ l1 < 18446744073709551616 ∧ h < 18446744073709551616 := by
  obtain ⟨r1, r2, r3, r4⟩ := hr
  have hp := prod_le by' bf
  have e : x + y * f + c = s + 18446744073709551616 * (h + c1 + c2) := by omega
  have b : h + c1 + c2 < 18446744073709551616 := by omega
  refine ⟨⟨by simpa using r1, by rw [drop_set]; exact (drop_get r2 (by omega) hk).2, b, ?_⟩, b, by omega, by omega, by omega, by omega, by omega, by omega⟩
  rw [val_set_take _ _ _ (by omega), val_take_succ p k hk, val_take_succ q k hq, hx, hy, Nat.pow_succ]
  rw [Nat.add_mul, Nat.mul_assoc (18446744073709551616 ^ k) y f]
  generalize y * f = t at *
  generalize h + c1 + c2 = z at *
  generalize 18446744073709551616 ^ k = K at *
  have e2 : K * (x + t + c) = K * (s + 18446744073709551616 * z) := by rw [e]
  rw [Nat.mul_add, Nat.mul_add, Nat.mul_add, ← Nat.mul_assoc] at e2
  omega
def AddProdPost (g : Nat) (T : TypeId) (P p Q q : List Nat) (f : Nat) (w : World) (e : Ending) (w' : World) : Prop :=
  ∃ (c : Nat) (os : List Nat), e = .returned (.int .u64 (c : Int)) ∧ c < 18446744073709551616 ∧ os.length = 4 ∧ W64 os ∧ val os + 18446744073709551616 ^ 4 * c = val p + val q * f ∧ Arr w' g T (P ++ os ++ Q) ∧ Upd g w w'
set_option maxHeartbeats 1000000 in
theorem p_addProduct (g o ca a b c d f : Nat) (T : TypeId) (P p Q : List Nat) (w : World) (hA : Arr w g T (P ++ p ++ Q)) (hP : P.length = o) (hp : p.length = 4) (wp : W64 p) (wq : W64 [a, b, c, d]) (hf : f < 18446744073709551616) :
    Calls Try.prog 150 #[.slice (some ⟨g, o, none⟩) 4 ca, .agg #[.int .u64 (a : Int), .int .u64 (b : Int), .int .u64 (c : Int), .int .u64 (d : Int)], .int .u64 (f : Int)] w (AddProdPost g T P p Q [a, b, c, d] f w) := by
  have hW := hide (arr_new w 118 [a, b, c, d] #[.int .u64 (a : Int), .int .u64 (b : Int), .int .u64 (c : Int), .int .u64 (d : Int)] rfl)
  have E0 := hide (ext_alloc w (.cells #[.int .u64 (a : Int), .int .u64 (b : Int), .int .u64 (c : Int), .int .u64 (d : Int)] 118))
  have lg := hA.lt
  have HA := hide hA
  obtain ⟨q, hq⟩ : ∃ q, q = [a, b, c, d] := ⟨_, rfl⟩
  rw [← hq] at hW wq
  have Hq : Hid (q.length = 4) := by rw [hq]; exact rfl
  have HP := hide hP
  have Hp := hide hp
  rw [← hq]
  clear hA hP hp hq
  go_enter Try.func150, Try.ntmps150
  go_wp2_with fail
  go_loopw [14, 7] (fun i t wr => ∃ (k c : Nat) (os : List Nat), i = .int .i64 k ∧ t = .int .u64 c ∧ k ≤ 4 ∧ c < 18446744073709551616 ∧ Hid (MulRel p q f os k c) ∧ W64 os ∧ Hid (Arr wr g T (P ++ os ++ Q)) ∧ Arr wr w.heap.size 118 q ∧ Upd g w wr) (fun i _ _ => 4 - (intOf i).toNat)
  case atStart => exact ⟨0, 0, p, rfl, rfl, by omega, by omega, ⟨rfl, rfl, by omega, by simp [val]⟩, wp, HA.out.ext E0.out, hW.out, E0.out.upd g⟩
  case round =>
    obtain ⟨k, c, os, rfl, rfl, hk, hc, HR, wo, HO, hQ, hU⟩ := hrel
    have HL : Hid (os.length = 4) := HR.out.1.trans Hp.out
    by_cases hk4 : k < 4
    · have hkn : k < os.length := by rw [HL.out]; omega
      have hkp : k < p.length := by rw [Hp.out]; omega
      have hkq : k < q.length := by rw [Hq.out]; omega
      have cg := HO.out.seg HP.out k hkn
      have fg := HO.out.free (o + k)
      have cb := hQ.at k hkq
      obtain ⟨x, hx⟩ : ∃ x, os[k] = x := ⟨_, rfl⟩
      obtain ⟨y, hy⟩ : ∃ y, q[k] = y := ⟨_, rfl⟩
      have hx2 : p[k] = x := by rw [← hx]; exact (drop_get HR.out.2.1 hkn hkp).1.symm
      have bx : x < 18446744073709551616 := by rw [← hx]; exact w64_get wo k hkn
      have b_y : y < 18446744073709551616 := by rw [← hy]; exact w64_get wq k hkq
      rw [hx] at cg
      rw [hy] at cb
      obtain ⟨h, hh⟩ : ∃ h, y * f / 18446744073709551616 = h := ⟨_, rfl⟩
      obtain ⟨l, hl⟩ : ∃ l, y * f % 18446744073709551616 = l := ⟨_, rfl⟩
      obtain ⟨l1, h1⟩ : ∃ l1, (l + c) % 18446744073709551616 = l1 := ⟨_, rfl⟩
      obtain ⟨c1, h2⟩ : ∃ c1, (l + c) / 18446744073709551616 = c1 := ⟨_, rfl⟩
      obtain ⟨s, h3⟩ : ∃ s, (x + l1) % 18446744073709551616 = s := ⟨_, rfl⟩
      obtain ⟨c2, h4⟩ : ∃ c2, (x + l1) / 18446744073709551616 = c2 := ⟨_, rfl⟩
      obtain ⟨hS, z1, z2, z3, z4, z5, z6, z7⟩ := HR.out.step hkp hkq hx2 hy bx b_y hf hh hl h1 h2 h3 h4
      have hadd := add64_eq0 l c l1 c1 h1 h2
      have hadd2 := add64_eq0 x l1 s c2 h3 h4
      have HHH := hide hh
      have HLL := hide hl
      have HS := hide hS
      have HW := hide (HO.out.segset HP.out k s hkn)
      have HU := hide (hU.set (o + k) (.int .u64 (s : Int)))
      have HQ := hide (hQ.far (b := g) (by omega) (o + k) (.int .u64 (s : Int)))
      have q1 : (h : Int) + c1 ≤ 18446744073709551615 := by omega
      have q2 : (h : Int) + c1 + c2 ≤ 18446744073709551615 := by omega
      clear hx hy hx2 hh hl h1 h2 h3 h4 hS
      go_wp2_with (go_at_call 126; refine (b_mul64 y f h l _ b_y hf HHH HLL).mono ?_; rintro e' w' ⟨rfl, rfl⟩)
      exact ⟨⟨k + 1, _, _, by go_num, by go_num, by omega, z1, HS, w64_set wo _ _ z2, HW, HQ.out, HU.out⟩, by simp [intOf]; omega⟩
    · obtain rfl : k = 4 := by omega
      have H1 : Hid (val os + 18446744073709551616 ^ 4 * c = val p + val q * f) := by
        obtain ⟨r1, _, _, r4⟩ := HR.out
        rw [List.take_of_length_le (by rw [HL.out]; omega), List.take_of_length_le (by rw [Hp.out]; omega), List.take_of_length_le (by rw [Hq.out]; omega)] at r4
        exact r4
      go_wp2
      go_ret
      exact ⟨c, os, rfl, hc, HL.out, wo, H1.out, HO.out, hU⟩
end Go.Proofs.Ytbnbkondbdakeaa
/- mulWords of the program: the product of two numbers of four words. Condition: the words are of 64 bits. -/
namespace Go.Proofs.Ytbnbkondbdakeaa
set_option linter.unusedVariables false
set_option linter.unusedSimpArgs false
open Go Go.RowKit
theorem val_zeros (n : Nat) : val (List.replicate n 0) = 0 := by
  induction n with
  | zero => rfl
  | succ n ih => rw [List.replicate_succ, val, ih]
theorem w64_cat {a b : List Nat} (h : W64 a) (k : W64 b) : W64 (a ++ b) := fun x hx => by rcases List.mem_append.1 hx with h1 | h1; exact h x h1; exact k x h1
theorem mul_round (L os A : List Nat) (m k c f : Nat) (h8 : L.length = 8) (hk : k < 4) (hv : val L = val (A.take k) * m) (hz : L.drop (k + 4) = List.replicate (4 - k) 0) (ho : os.length = 4) (he : val os + 18446744073709551616 ^ 4 * c = val ((L.drop k).take 4) + m * f) (hA : k < A.length) (hf : A[k] = f) (hc : c < 18446744073709551616) (wL : W64 L) (wo : W64 os) :
    ((L.take k ++ os ++ L.drop (k + 4)).set (k + 4) c).length = 8 ∧ W64 ((L.take k ++ os ++ L.drop (k + 4)).set (k + 4) c) ∧ val ((L.take k ++ os ++ L.drop (k + 4)).set (k + 4) c) = val (A.take (k + 1)) * m ∧ ((L.take k ++ os ++ L.drop (k + 4)).set (k + 4) c).drop (k + 1 + 4) = List.replicate (4 - (k + 1)) 0 := by
  have hT : (L.take k).length = k := by simp; omega
  have e1 : (L.take k ++ os ++ L.drop (k + 4)).set (k + 4) c = L.take k ++ os ++ (c :: List.replicate (3 - k) 0) := by
    rw [hz, show 4 - k = (3 - k) + 1 by omega, List.replicate_succ, List.set_append_right _ _ (by simp [hT, ho])]
    congr 1
    rw [List.length_append, hT, ho, Nat.sub_self]; rfl
  rw [e1]
  refine ⟨by simp [hT, ho]; omega, ?_, ?_, ?_⟩
  · refine w64_cat (w64_cat (w64_take wL k) wo) ?_
    intro x hx
    rcases List.mem_cons.1 hx with rfl | hx
    · exact hc
    · rw [List.eq_of_mem_replicate hx]; omega
  · have e2 : val L = val (L.take k) + 18446744073709551616 ^ k * val ((L.drop k).take 4) := by
      rw [val_take_drop L k (by omega), val_take_drop (L.drop k) 4 (by simp; omega), List.drop_drop, hz, val_zeros]; simp
    rw [val_append, val_append, hT, List.length_append, hT, ho, val, val_zeros, val_take_succ A k hA, hf, Nat.add_mul, ← hv, e2, Nat.pow_add]
    generalize 18446744073709551616 ^ 4 = M at *
    generalize 18446744073709551616 ^ k = K at *
    have e3 : K * (val os + M * c) = K * (val ((L.drop k).take 4) + m * f) := by rw [he]
    rw [Nat.mul_add, Nat.mul_add, ← Nat.mul_assoc] at e3
    rw [Nat.mul_zero, Nat.add_zero, Nat.mul_assoc K f m, Nat.mul_comm f m]
    omega
  · rw [List.drop_append, List.length_append, hT, ho, List.drop_of_length_le (by rw [List.length_append, hT, ho]; omega), show k + 1 + 4 - (k + 4) = 1 by omega, show 4 - (k + 1) = 3 - k by omega]; rfl
theorem four_new (w : World) (o p q r : Obj) : ((((w.alloc o).alloc p).alloc q).alloc r).heap[w.heap.size]? = some o ∧ ((((w.alloc o).alloc p).alloc q).alloc r).heap[w.heap.size + 1]? = some p ∧ ((((w.alloc o).alloc p).alloc q).alloc r).heap[w.heap.size + 1 + 1]? = some q ∧ ((((w.alloc o).alloc p).alloc q).alloc r).heap[w.heap.size + 1 + 1 + 1]? = some r := by
  obtain ⟨h1, h2, h3⟩ := three_boxes w o p q
  have h4 := heap_alloc_new (((w.alloc o).alloc p).alloc q) r
  have hs : (((w.alloc o).alloc p).alloc q).heap.size = w.heap.size + 1 + 1 + 1 := by simp
  rw [hs] at h4
  exact ⟨keep5 (ext_alloc _ _) h1, keep5 (ext_alloc _ _) h2, keep5 (ext_alloc _ _) h3, h4⟩
theorem eight_list {L : List Nat} (h : L.length = 8) : ∃ a b c d e f g i, L = [a, b, c, d, e, f, g, i] := by
  match L, h with
  | [a, b, c, d, e, f, g, i], _ => exact ⟨a, b, c, d, e, f, g, i, rfl⟩
theorem eight_val (a b c d e f g i : Nat) : val [a, b, c, d, e, f, g, i] = mag4 a b c d + 115792089237316195423570985008687907853269984665640564039457584007913129639936 * mag4 e f g i := by
  simp only [mag4, val]; omega
/-- An array's element by value. -/
theorem idxRun (a b c d k f : Nat) (hk : k < [a, b, c, d].length) (h : [a, b, c, d][k] = f) (w : World) : (Instr.index 118 (.agg #[.int .u64 (a : Int), .int .u64 (b : Int), .int .u64 (c : Int), .int .u64 (d : Int)]) (.int .i64 (k : Int))).run Try.prog w = .ok (.int .u64 (f : Int)) w := by
  have hk2 : k < 4 := hk
  have : k = 0 ∨ k = 1 ∨ k = 2 ∨ k = 3 := by omega
  rcases this with rfl | rfl | rfl | rfl <;> (subst h; simp [Instr.index, run_underlying Try.underlying118, Try.sizeOf22, part, isAgg, run_underlying Try.underlying22, asIntOf])
/-- A part of an array. -/
theorem slRun (T n g l : Nat) (h : Int) (m : Nat) (hm : h = ((m : Nat) : Int)) (hT : Try.prog.underlying T = some (.array (Try.prog.arrayLen T) (Try.prog.elem T))) (hn : Try.prog.arrayLen T = n) (he : Try.prog.elem T = 22) (h1 : l ≤ m) (h2 : m ≤ n) (h3 : l < n) (w : World) :
    (Instr.sliceAt T (.pointer (some ⟨g, 0, none⟩)) (some (.int .i64 (l : Int))) (some (.int .i64 h)) none).run Try.prog w = .ok (.slice (some ⟨g, l, none⟩) (m - l) (n - l)) w := by
  subst hm
  rw [run_sliceAt_array_lh w T ⟨g, 0, none⟩ hT .i64 .i64 (l : Int) (m : Int) (by omega) (by omega) (by rw [hn]; omega), he, Try.sizeOf22, hn]
  simp only [Result.andThen_ok, slicedAt, Int.toNat_natCast, Nat.mul_one]
  rw [if_neg (by omega)]
  by_cases h0 : l = 0
  · subst h0; simp [Addr.add]
  · simp [Addr.add, h0]
set_option maxHeartbeats 1000000 in
set_option maxRecDepth 100000 in
theorem p_mulWords (a b c d e f g h n m : Nat) (hn : mag4 a b c d = n) (hm : mag4 e f g h = m) (w : World) (hw : W64 [a, b, c, d]) (hw' : W64 [e, f, g, h]) :
    Calls Try.prog 144 #[.agg #[.int .u64 (a : Int), .int .u64 (b : Int), .int .u64 (c : Int), .int .u64 (d : Int)], .agg #[.int .u64 (e : Int), .int .u64 (f : Int), .int .u64 (g : Int), .int .u64 (h : Int)]] w
      (WordsRet ((n * m) % 115792089237316195423570985008687907853269984665640564039457584007913129639936) (decide (n * m < 115792089237316195423570985008687907853269984665640564039457584007913129639936)) w) := by
  obtain ⟨o, ho⟩ : ∃ o, decide (n * m < 115792089237316195423570985008687907853269984665640564039457584007913129639936) = o := ⟨_, rfl⟩
  rw [ho]
  have H4 := four_new w (.cells #[.int .u64 (a : Int), .int .u64 (b : Int), .int .u64 (c : Int), .int .u64 (d : Int)] 118) (.cells #[.int .u64 (e : Int), .int .u64 (f : Int), .int .u64 (g : Int), .int .u64 (h : Int)] 118) (.cells #[.int .u64 0, .int .u64 0, .int .u64 0, .int .u64 0] 118) (.cells #[.int .u64 0, .int .u64 0, .int .u64 0, .int .u64 0, .int .u64 0, .int .u64 0, .int .u64 0, .int .u64 0] 152)
  obtain ⟨W, hW⟩ : ∃ W, W = ((((w.alloc (.cells #[.int .u64 (a : Int), .int .u64 (b : Int), .int .u64 (c : Int), .int .u64 (d : Int)] 118)).alloc (.cells #[.int .u64 (e : Int), .int .u64 (f : Int), .int .u64 (g : Int), .int .u64 (h : Int)] 118)).alloc (.cells #[.int .u64 0, .int .u64 0, .int .u64 0, .int .u64 0] 118)).alloc (.cells #[.int .u64 0, .int .u64 0, .int .u64 0, .int .u64 0, .int .u64 0, .int .u64 0, .int .u64 0, .int .u64 0] 152)) := ⟨_, rfl⟩
  have E0 : Ext w W := by rw [hW]; exact (((ext_alloc _ _).trans (ext_alloc _ _)).trans (ext_alloc _ _)).trans (ext_alloc _ _)
  rw [← hW] at H4
  have A0 : Arr W w.heap.size 118 [a, b, c, d] := H4.1
  have A1 : Arr W (w.heap.size + 1) 118 [e, f, g, h] := H4.2.1
  have A2 : Arr W (w.heap.size + 1 + 1) 118 [0, 0, 0, 0] := H4.2.2.1
  have A3 : Arr W (w.heap.size + 1 + 1 + 1) 152 [0, 0, 0, 0, 0, 0, 0, 0] := H4.2.2.2
  have HW := hide hW
  have HO := hide ho
  have HM := hide hm
  obtain ⟨A, hA⟩ : ∃ A, A = [a, b, c, d] := ⟨_, rfl⟩
  have VA : Hid (val A = n) := by rw [hA]; exact hn
  have LA : Hid (A.length = 4) := by rw [hA]; exact rfl
  have HA := hide hA
  obtain ⟨c0, c1, c2, c3, f0, f1, f2, f3⟩ := A0.four
  clear hW H4 ho hn hm hA
  go_enter Try.func144, Try.ntmps144
  go_wp2_with fail
  rw [← HW.out]
  clear HW
  go_loopw [12] (fun i wr => ∃ (k : Nat) (L : List Nat), i = .int .i64 k ∧ k ≤ 4 ∧ Hid (L.length = 8) ∧ W64 L ∧ Hid (val L = val (A.take k) * m) ∧ Hid (L.drop (k + 4) = List.replicate (4 - k) 0) ∧ Arr wr (w.heap.size + 1 + 1 + 1) 152 L ∧ Upd (w.heap.size + 1 + 1 + 1) W wr) (fun i _ => 4 - (intOf i).toNat)
  case atStart => exact ⟨0, [0, 0, 0, 0, 0, 0, 0, 0], rfl, by omega, rfl, by (intro x hx; simp at hx; omega), by (unfold Hid; simp [val]), rfl, A3, Upd.refl _ _⟩
  case round =>
    obtain ⟨k, L, rfl, hk, HL, wL, HV, HZ, hP, hU⟩ := hrel
    by_cases hk4 : k < 4
    · have hkA : k < A.length := by rw [LA.out]; omega
      obtain ⟨f', hf⟩ : ∃ f', A[k] = f' := ⟨_, rfl⟩
      have hidx : ∀ w, (Instr.index 118 (.agg #[.int .u64 (a : Int), .int .u64 (b : Int), .int .u64 (c : Int), .int .u64 (d : Int)]) (.int .i64 (k : Int))).run Try.prog w = .ok (.int .u64 (f' : Int)) w := by
        have e := HA.out; subst e; exact idxRun a b c d k f' hkA hf
      have bf : f' < 18446744073709551616 := by
        have e := HA.out; subst e; rw [← hf]; exact w64_get hw k hkA
      have HF := hide hf
      have B1 := A1.upd hU (by omega)
      obtain ⟨d0, d1, d2, d3, g0, g1, g2, g3⟩ := B1.four
      clear hf
      have hsl := slRun 152 8 (w.heap.size + 1 + 1 + 1) k ((k : Int) + 4) (k + 4) (by omega) (by kernel_rfl) (by kernel_rfl) (by kernel_rfl) (by omega) (by omega) (by omega)
      rw [show k + 4 - k = 4 by omega] at hsl
      have hwr : IntKind.i64.wrap ((k : Int) + 4) = (k : Int) + 4 := by rw [IntKind.wrap_i64]; omega
      have hwr1 : (0 : Int) ≤ (k : Int) + 4 := by omega
      have hwr2 : (k : Int) + 4 < 8 := by omega
      have hwr3 : ((k : Int) + 4).toNat = k + 4 := by omega
      have HCT : Hid (L.take k ++ (L.drop k).take 4 ++ L.drop (k + 4) = L) := by
        unfold Hid
        rw [List.append_assoc, ← List.drop_drop, List.take_append_drop, List.take_append_drop]
      have HPA : Hid (Arr wr (w.heap.size + 1 + 1 + 1) 152 (L.take k ++ (L.drop k).take 4 ++ L.drop (k + 4))) := by rw [HCT.out]; exact hP
      have T1 : Hid ((L.take k).length = k) := by unfold Hid; rw [List.length_take, HL.out]; omega
      have T2 : Hid (((L.drop k).take 4).length = 4) := by unfold Hid; rw [List.length_take, List.length_drop, HL.out]; omega
      have w4 : W64 ((L.drop k).take 4) := w64_take (w64_drop wL k) 4
      have HR : Hid (∀ (c : Nat) (os : List Nat), os.length = 4 → c < 18446744073709551616 → W64 os → val os + 18446744073709551616 ^ 4 * c = val ((L.drop k).take 4) + val [e, f, g, h] * f' → _) := fun c os h1 h2 h3 h4 => mul_round L os A m k c f' HL.out hk4 HV.out HZ.out h1 (by rw [← HM.out]; exact h4) hkA HF.out h2 wL h3
      go_wp2_with fail
      go_region_with (go_at_call 150; refine (p_addProduct (w.heap.size + 1 + 1 + 1) k (8 - k) e f g h f' 152 (L.take k) ((L.drop k).take 4) (L.drop (k + 4)) _ HPA.out.drew T1.out T2.out w4 hw' bf).mono ?_; rintro e' w' ⟨c', os, rfl, hc', hl', hws, hv, hA', hU'⟩; obtain ⟨R1, R2, R3, R4⟩ := HR.out c' os hl' hc' hws hv; have R1 := hide R1; have R3 := hide R3; have R4 := hide R4; have hcs := hA'.at (k + 4) (by have := R1.out; rw [List.length_set] at this; omega); have hfs := hA'.free (k + 4); have HAA := hide (hA'.set (k + 4) c'); have HUU := hide (((hU.drew).trans hU').set (k + 4) (.int .u64 (c' : Int))); clear hv hA' hU' hl')
      all_goals go_wp2_with fail
      all_goals exact ⟨⟨k + 1, _, by go_num, by omega, R1, R2, R3, R4, HAA.out, HUU.out⟩, by simp [intOf]; omega⟩
    · obtain rfl : k = 4 := by omega
      have H1 : Hid (val L = n * m) := by
        unfold Hid
        rw [HV.out, List.take_of_length_le (by rw [LA.out]; omega), VA.out]
      obtain ⟨l0, l1, l2, l3, l4, l5, l6, l7, rfl⟩ := eight_list HL.out
      have B2 := A2.upd hU (by omega)
      have E1 := hU.ext E0 (by omega)
      have p0 := hP.at 0 (by simp)
      have p1 := hP.at 1 (by simp)
      have p2 := hP.at 2 (by simp)
      have p3 := hP.at 3 (by simp)
      have p4 := hP.at 4 (by simp)
      have p5 := hP.at 5 (by simp)
      have p6 := hP.at 6 (by simp)
      have p7 := hP.at 7 (by simp)
      have lq := B2.lt
      have lq2 : w.heap.size + 1 + 1 < wr.heap.size + 1 := by omega
      have lp := hP.lt
      have lp2 : w.heap.size + 1 + 1 + 1 < wr.heap.size + 1 := by omega
      simp only [List.getElem_cons_zero, List.getElem_cons_succ] at p0 p1 p2 p3 p4 p5 p6 p7
      obtain ⟨d0, d1, d2, d3, g0, g1, g2, g3⟩ := B2.four
      clear hP hU HZ HV HL hk4
      have hat1 : ∀ w2, (Instr.arrayAt 118 (.slice (some ⟨w.heap.size + 1 + 1 + 1, 0, none⟩) 4 8)).run Try.prog w2 = .ok (.pointer (some ⟨w.heap.size + 1 + 1 + 1, 0, none⟩)) w2 := fun w2 => run_arrayAt w2 118 _ 4 _ 4 8 Try.underlying118 (by omega)
      have hat2 : ∀ w2, (Instr.arrayAt 118 (.slice (some ⟨w.heap.size + 1 + 1 + 1, 4, none⟩) 4 4)).run Try.prog w2 = .ok (.pointer (some ⟨w.heap.size + 1 + 1 + 1, 4, none⟩)) w2 := fun w2 => run_arrayAt w2 118 _ 4 _ 4 4 Try.underlying118 (by omega)
      obtain ⟨o2, ho2⟩ : ∃ o2, decide (mag4 l4 l5 l6 l7 ≠ 0) = o2 := ⟨_, rfl⟩
      have hq := eql0 118 Try.underlying118 l4 l5 l6 l7 o2 ho2
      have HT : Hid (Ending.returned (Value.tuple #[.agg #[.int .u64 (l0 : Int), .int .u64 (l1 : Int), .int .u64 (l2 : Int), .int .u64 (l3 : Int)], .bool (!o2)]) = .returned (.tuple #[.agg #[.int .u64 (l0 : Int), .int .u64 (l1 : Int), .int .u64 (l2 : Int), .int .u64 (l3 : Int)], .bool o]) ∧ W64 [l0, l1, l2, l3] ∧ mag4 l0 l1 l2 l3 = (n * m) % 115792089237316195423570985008687907853269984665640564039457584007913129639936) := by
        have w4 : W64 [l0, l1, l2, l3] := fun x hx => wL x (by simp at hx ⊢; omega)
        obtain ⟨b0, b1, b2, b3⟩ := w64_four w4
        have hb := mag_lt b0 b1 b2 b3
        have he := eight_val l0 l1 l2 l3 l4 l5 l6 l7
        rw [H1.out] at he
        refine ⟨?_, w4, ?_⟩
        · have e : (!o2) = o := by
            rw [← HO.out, ← ho2]
            by_cases h0 : mag4 l4 l5 l6 l7 = 0
            · rw [decide_eq_false (by omega), decide_eq_true (by omega)]; rfl
            · rw [decide_eq_true h0, decide_eq_false (by omega)]; rfl
          rw [e]
        · rw [he, Nat.add_mul_mod_self_left, Nat.mod_eq_of_lt hb]
      clear H1 
      clear ho2
      go_wp2_with fail
      go_region
      all_goals go_wp2_with fail
      all_goals go_region
      all_goals go_wp2_with fail
      all_goals exact bodyPost_ret (v := .tuple #[.agg #[.int .u64 (l0 : Int), .int .u64 (l1 : Int), .int .u64 (l2 : Int), .int .u64 (l3 : Int)], .bool (!o2)]) (by simp [results, Try.results144, go_sem, d0, d1, d2, d3, lq, lq2]) rfl ⟨l0, l1, l2, l3, HT.out.1, HT.out.2.1, HT.out.2.2, ((((ext_four E1 (by omega) _ _ _ _).trans (ext_alloc _ _)).trans (ext_alloc _ _)).trans (ext_drew _)).trans (ext_drew _)⟩
end Go.Proofs.Ytbnbkondbdakeaa
/- Mul of the program. Conditions: the cells stand for numbers. -/
namespace Go.Proofs.Ytbnbkondbdakeaa
set_option linter.unusedVariables false
set_option linter.unusedSimpArgs false
open Go Go.RowKit
theorem mul_abs (s t : Bool) (n m : Nat) (x y : Int) (hx : x = if s then -(n : Int) else n) (hy : y = if t then -(m : Int) else m) :
    (if (s != t) then -((n * m : Nat) : Int) else ((n * m : Nat) : Int)) = x * y ∧ (x * y).natAbs = n * m := by
  have e : (x * y).natAbs = n * m := by
    rw [Int.natAbs_mul]
    have h1 : x.natAbs = n := by cases s <;> simp at hx <;> omega
    have h2 : y.natAbs = m := by cases t <;> simp at hy <;> omega
    rw [h1, h2]
  refine ⟨?_, e⟩
  subst hx; subst hy
  cases s <;> cases t <;> simp [Int.neg_mul, Int.mul_neg]
theorem neqB (s t u : Bool) (h : (s != t) = u) (w : World) : (binOp .neq 4 (.bool s) (.bool t)).run Try.prog w = .ok (.bool u) w := by
  subst h
  have e := fun d => run_equalIn_bool' w d 4 s t Try.underlying4
  simp only [binOp]
  simp [Op.equal, Op.maxDepth, e 9999]
  cases s <;> cases t <;> rfl
set_option maxHeartbeats 400000 in
set_option maxRecDepth 100000 in
theorem p_wmul (s t : Bool) (a b c d e f g h : Nat) (x y : Int) (w : World) (hx : IsW s a b c d x) (hy : IsW t e f g h y) :
    Calls Try.prog 118 #[.agg #[.bool s, .int .u64 (a : Int), .int .u64 (b : Int), .int .u64 (c : Int), .int .u64 (d : Int)], .agg #[.bool t, .int .u64 (e : Int), .int .u64 (f : Int), .int .u64 (g : Int), .int .u64 (h : Int)]] w (WideRet (x * y) w) := by
  obtain ⟨W, hW⟩ : ∃ W, W = (((w.alloc (.cells #[.bool s, .int .u64 (a : Int), .int .u64 (b : Int), .int .u64 (c : Int), .int .u64 (d : Int)] 25)).alloc (.cells #[.bool t, .int .u64 (e : Int), .int .u64 (f : Int), .int .u64 (g : Int), .int .u64 (h : Int)] 25)).alloc (.cells #[.bool false, .int .u64 0, .int .u64 0, .int .u64 0, .int .u64 0] 25)) := ⟨_, rfl⟩
  have H3 := three_boxes w (.cells #[.bool s, .int .u64 (a : Int), .int .u64 (b : Int), .int .u64 (c : Int), .int .u64 (d : Int)] 25) (.cells #[.bool t, .int .u64 (e : Int), .int .u64 (f : Int), .int .u64 (g : Int), .int .u64 (h : Int)] 25) (.cells #[.bool false, .int .u64 0, .int .u64 0, .int .u64 0, .int .u64 0] 25)
  rw [← hW] at H3
  have B0 : Box W w.heap.size s a b c d := H3.1
  have B1 : Box W (w.heap.size + 1) t e f g h := H3.2.1
  have B2 : Box W (w.heap.size + 1 + 1) false 0 0 0 0 := H3.2.2
  have E0 : Ext w W := by rw [hW]; exact ((ext_alloc _ _).trans (ext_alloc _ _)).trans (ext_alloc _ _)
  have HW := hide hW
  clear hW H3
  obtain ⟨n, hn⟩ : ∃ n, x.natAbs = n := ⟨_, rfl⟩
  obtain ⟨m, hm⟩ : ∃ m, y.natAbs = m := ⟨_, rfl⟩
  have MX : Hid (mag4 a b c d = n) := by rw [← hn]; exact hx.abs
  have MY : Hid (mag4 e f g h = m) := by rw [← hm]; exact hy.abs
  have wx := hx.w64
  have wy := hy.w64
  obtain ⟨u, hu⟩ : ∃ u, (s != t) = u := ⟨_, rfl⟩
  have SZ : Hid ((if u then -((n * m : Nat) : Int) else ((n * m : Nat) : Int)) = x * y ∧ (x * y).natAbs = n * m) := by
    have h1 := hx.2.2.2.2
    have h2 := hy.2.2.2.2
    rw [MX.out] at h1
    rw [MY.out] at h2
    rw [← hu]
    exact mul_abs s t n m x y h1 h2
  have hnb := neqB s t u hu
  clear hn hm hx hy hu
  obtain ⟨c0, c1, c2, c3, c4, f0, f1, f2, f3, f4⟩ := five_cells B0
  obtain ⟨d0, d1, d2, d3, d4, g0, g1, g2, g3, g4⟩ := five_cells B1
  by_cases hf : n * m < 115792089237316195423570985008687907853269984665640564039457584007913129639936
  · have HO : Hid (decide (n * m < 115792089237316195423570985008687907853269984665640564039457584007913129639936) = true) := by unfold Hid; rw [decide_eq_true_iff]; exact hf
    have HM : Hid ((n * m) % 115792089237316195423570985008687907853269984665640564039457584007913129639936 = n * m) := by unfold Hid; rw [Nat.mod_eq_of_lt hf]
    have HF : Hid ((x * y).natAbs < 115792089237316195423570985008687907853269984665640564039457584007913129639936) := by rw [SZ.out.2]; exact hf
    clear hf
    go_enter Try.func118, Try.ntmps118
    go_upto_region 1 with fail
    rw [← HW.out]
    clear HW
    go_wp2_with (first
      | (go_at_call 144; refine (p_mulWords a b c d e f g h n m MX.out MY.out _ wx wy).mono ?_; rintro e' w' ⟨a1, b1, c1', d1', rfl, hw1, hm1, hE⟩; rw [HO.out]; rw [HM.out] at hm1; have Hm1 := hide hm1; clear hm1; have R0 := B0.ext hE; have R1 := B1.ext hE; have R2 := B2.ext hE; obtain ⟨c0, c1, c2, c3, c4, f0, f1, f2, f3, f4⟩ := five_cells R0; obtain ⟨d0, d1, d2, d3, d4, g0, g1, g2, g3, g4⟩ := five_cells R1; have l0 := R0.lt; have l1 := R1.lt; have l2 := R2.lt; have E1 := E0.trans hE; clear hE)
      | (go_at_call 109; refine (p_signed u a1 b1 c1' d1' _ (w64_four hw1).1 (w64_four hw1).2.1 (w64_four hw1).2.2.1 (w64_four hw1).2.2.2).mono ?_; rintro e' w' ⟨s', a', b', c', d', rfl, hC, hE⟩; rw [Hm1.out, SZ.out.1] at hC; have E1 := (E1.trans (ext_alloc _ _)).trans hE; have R3 := (R2.ext (ext_alloc _ _)).ext hE; obtain ⟨d0, d1, d2, d3, d4, g0, g1, g2, g3, g4⟩ := five_cells R3; clear hE))
    all_goals exact bodyPost_ret (v := .tuple #[.agg #[.bool s', .int .u64 (a' : Int), .int .u64 (b' : Int), .int .u64 (c' : Int), .int .u64 (d' : Int)], .bool true]) (by simp [results, Try.results118, go_sem, d0, d1, d2, d3, d4]) rfl (wideRet_yes HF.out hC (ext_five E1 (by omega) _ _ _ _ _))
  · have HO : Hid (decide (n * m < 115792089237316195423570985008687907853269984665640564039457584007913129639936) = false) := by unfold Hid; rw [decide_eq_false_iff_not]; exact hf
    have HF : Hid (¬ (x * y).natAbs < 115792089237316195423570985008687907853269984665640564039457584007913129639936) := by rw [SZ.out.2]; exact hf
    clear hf
    go_enter Try.func118, Try.ntmps118
    go_upto_region 1 with fail
    rw [← HW.out]
    clear HW
    go_wp2_with (go_at_call 144; refine (p_mulWords a b c d e f g h n m MX.out MY.out _ wx wy).mono ?_; rintro e' w' ⟨a1, b1, c1', d1', rfl, hw1, hm1, hE⟩; rw [HO.out]; clear hm1; have R2 := B2.ext hE; have l2 := R2.lt; obtain ⟨d0, d1, d2, d3, d4, g0, g1, g2, g3, g4⟩ := five_cells R2; have E1 := E0.trans hE; clear hE)
    all_goals exact bodyPost_ret (v := .tuple #[.agg #[.bool false, .int .u64 0, .int .u64 0, .int .u64 0, .int .u64 0], .bool false]) (by simp [results, Try.results118, go_sem, d0, d1, d2, d3, d4, l2]) rfl (wideRet_no HF.out ((ext_five E1 (by omega) _ _ _ _ _).trans (ext_alloc _ _)))
end Go.Proofs.Ytbnbkondbdakeaa
