/- addProduct and mulWords of the program. Condition: the words are of 64 bits. -/
import Derived.Test.YtjmigglibidbdaaWrdG
import Derived.Test.YtjmigglibidbdaaBits
import Derived.Laws.Cover3
namespace Go.Proofs.Ytjmigglibidbdaa
set_option linter.unusedVariables false
set_option linter.unusedSimpArgs false
open Go Go.RowKit
/-- What has been added so far of a product by one word. -/
def MulRel (p q : List Nat) (f : Nat) (os : List Nat) (k c : Nat) : Prop := os.length = p.length ∧ os.drop k = p.drop k ∧ c < 18446744073709551616 ∧ val (os.take k) + 18446744073709551616 ^ k * c = val (p.take k) + val (q.take k) * f
theorem MulRel.step {p q os : List Nat} {f k c x y h l l1 c1 s c2 : Nat} (hr : MulRel p q f os k c) (hk : k < p.length) (hq : k < q.length) (hx : p[k] = x) (hy : q[k] = y) (bx : x < 18446744073709551616) (by' : y < 18446744073709551616) (bf : f < 18446744073709551616)
    (hh : y * f / 18446744073709551616 = h) (hl : y * f % 18446744073709551616 = l) (h1 : (l + c) % 18446744073709551616 = l1) (h2 : (l + c) / 18446744073709551616 = c1) (h3 : (x + l1) % 18446744073709551616 = s) (h4 : (x + l1) / 18446744073709551616 = c2) :
    MulRel p q f (os.set k s) (k + 1) (h + c1 + c2) ∧ h + c1 + c2 < 18446744073709551616 ∧ s < 18446744073709551616 ∧ c1 ≤ 1 ∧ c2 ≤ 1 ∧ l < 18446744073709551616 ∧ l1 < 18446744073709551616 ∧ h < 18446744073709551616 := by
  obtain ⟨r1, r2, r3, r4⟩ := hr
  have hp := prod_le by' bf
  have e : x + y * f + c = s + 18446744073709551616 * (h + c1 + c2) := by omega
  have b : h + c1 + c2 < 18446744073709551616 := by omega
  refine ⟨⟨by simpa using r1, by rw [drop_set]; exact (drop_get r2 (by omega) hk).2, b, ?_⟩, b, by omega, by omega, by omega, by omega, by omega, by omega⟩
  rw [val_set_take _ _ _ (by omega), val_take_succ p k hk, val_take_succ q k hq, hx, hy, Nat.pow_succ]
  rw [Nat.add_mul, Nat.mul_assoc (18446744073709551616 ^ k) y f]
  generalize y * f = t at *
  generalize h + c1 + c2 = z at *
  generalize 18446744073709551616 ^ k = K at *
  have e2 : K * (x + t + c) = K * (s + 18446744073709551616 * z) := by rw [e]
  rw [Nat.mul_add, Nat.mul_add, Nat.mul_add, ← Nat.mul_assoc] at e2
  omega
def AddProdPost (g : Nat) (T : TypeId) (P p Q q : List Nat) (f : Nat) (w : World) (e : Ending) (w' : World) : Prop :=
  ∃ (c : Nat) (os : List Nat), e = .returned (.int .u64 (c : Int)) ∧ c < 18446744073709551616 ∧ os.length = 4 ∧ W64 os ∧ val os + 18446744073709551616 ^ 4 * c = val p + val q * f ∧ Arr w' g T (P ++ os ++ Q) ∧ Upd g w w'
end Go.Proofs.Ytjmigglibidbdaa
/- mulWords of the program: the product of two numbers of four words. Condition: the words are of 64 bits. -/
namespace Go.Proofs.Ytjmigglibidbdaa
set_option linter.unusedVariables false
set_option linter.unusedSimpArgs false
open Go Go.RowKit
theorem val_zeros (n : Nat) : val (List.replicate n 0) = 0 := by
  induction n with
  | zero => rfl
  | succ n ih => rw [List.replicate_succ, val, ih]
theorem w64_cat {a b : List Nat} (h : W64 a) (k : W64 b) : W64 (a ++ b) := fun x hx => by rcases List.mem_append.1 hx with h1 | h1; exact h x h1; exact k x h1
theorem mul_round (L os A : List Nat) (m k c f : Nat) (h8 : L.length = 8) (hk : k < 4) (hv : val L = val (A.take k) * m) (hz : L.drop (k + 4) = List.replicate (4 - k) 0) (ho : os.length = 4) (he : val os + 18446744073709551616 ^ 4 * c = val ((L.drop k).take 4) + m * f) (hA : k < A.length) (hf : A[k] = f) (hc : c < 18446744073709551616) (wL : W64 L) (wo : W64 os) :
    ((L.take k ++ os ++ L.drop (k + 4)).set (k + 4) c).length = 8 ∧ W64 ((L.take k ++ os ++ L.drop (k + 4)).set (k + 4) c) ∧ val ((L.take k ++ os ++ L.drop (k + 4)).set (k + 4) c) = val (A.take (k + 1)) * m ∧ ((L.take k ++ os ++ L.drop (k + 4)).set (k + 4) c).drop (k + 1 + 4) = List.replicate (4 - (k + 1)) 0 := by
  have hT : (L.take k).length = k := by simp; omega
  have e1 : (L.take k ++ os ++ L.drop (k + 4)).set (k + 4) c = L.take k ++ os ++ (c :: List.replicate (3 - k) 0) := by
    rw [hz, show 4 - k = (3 - k) + 1 by omega, List.replicate_succ, List.set_append_right _ _ (by simp [hT, ho])]
    congr 1
    rw [List.length_append, hT, ho, Nat.sub_self]; rfl
  rw [e1]
  refine ⟨by simp [hT, ho]; omega, ?_, ?_, ?_⟩
  · refine w64_cat (w64_cat (w64_take wL k) wo) ?_
    intro x hx
    rcases List.mem_cons.1 hx with rfl | hx
    · exact hc
    · rw [List.eq_of_mem_replicate hx]; omega
  · have e2 : val L = val (L.take k) + 18446744073709551616 ^ k * val ((L.drop k).take 4) := by
      rw [val_take_drop L k (by omega), val_take_drop (L.drop k) 4 (by simp; omega), List.drop_drop, hz, val_zeros]; simp
    rw [val_append, val_append, hT, List.length_append, hT, ho, val, val_zeros, val_take_succ A k hA, hf, Nat.add_mul, ← hv, e2, Nat.pow_add]
    generalize 18446744073709551616 ^ 4 = M at *
    generalize 18446744073709551616 ^ k = K at *
    have e3 : K * (val os + M * c) = K * (val ((L.drop k).take 4) + m * f) := by rw [he]
    rw [Nat.mul_add, Nat.mul_add, ← Nat.mul_assoc] at e3
    rw [Nat.mul_zero, Nat.add_zero, Nat.mul_assoc K f m, Nat.mul_comm f m]
    omega
  · rw [List.drop_append, List.length_append, hT, ho, List.drop_of_length_le (by rw [List.length_append, hT, ho]; omega), show k + 1 + 4 - (k + 4) = 1 by omega, show 4 - (k + 1) = 3 - k by omega]; rfl
theorem four_new (w : World) (o p q r : Obj) : ((((w.alloc o).alloc p).alloc q).alloc r).heap[w.heap.size]? = some o ∧ ((((w.alloc o).alloc p).alloc q).alloc r).heap[w.heap.size + 1]? = some p ∧ ((((w.alloc o).alloc p).alloc q).alloc r).heap[w.heap.size + 1 + 1]? = some q ∧ ((((w.alloc o).alloc p).alloc q).alloc r).heap[w.heap.size + 1 + 1 + 1]? = some r := by
  obtain ⟨h1, h2, h3⟩ := three_boxes w o p q
  have h4 := heap_alloc_new (((w.alloc o).alloc p).alloc q) r
  have hs : (((w.alloc o).alloc p).alloc q).heap.size = w.heap.size + 1 + 1 + 1 := by simp
  rw [hs] at h4
  exact ⟨keep5 (ext_alloc _ _) h1, keep5 (ext_alloc _ _) h2, keep5 (ext_alloc _ _) h3, h4⟩
theorem eight_list {L : List Nat} (h : L.length = 8) : ∃ a b c d e f g i, L = [a, b, c, d, e, f, g, i] := by
  match L, h with
  | [a, b, c, d, e, f, g, i], _ => exact ⟨a, b, c, d, e, f, g, i, rfl⟩
theorem eight_val (a b c d e f g i : Nat) : val [a, b, c, d, e, f, g, i] = mag4 a b c d + 115792089237316195423570985008687907853269984665640564039457584007913129639936 * mag4 e f g i := by
  simp only [mag4, val]; omega
/-- A part of an array. -/
theorem slRun (T n g l : Nat) (h : Int) (m : Nat) (hm : h = ((m : Nat) : Int)) (hT : Try.prog.underlying T = some (.array (Try.prog.arrayLen T) (Try.prog.elem T))) (hn : Try.prog.arrayLen T = n) (he : Try.prog.elem T = 52) (h1 : l ≤ m) (h2 : m ≤ n) (h3 : l < n) (w : World) :
    (Instr.sliceAt T (.pointer (some ⟨g, 0, none⟩)) (some (.int .i64 (l : Int))) (some (.int .i64 h)) none).run Try.prog w = .ok (.slice (some ⟨g, l, none⟩) (m - l) (n - l)) w := by
  subst hm
  rw [run_sliceAt_array_lh w T ⟨g, 0, none⟩ hT .i64 .i64 (l : Int) (m : Int) (by omega) (by omega) (by rw [hn]; omega), he, Try.sizeOf52, hn]
  simp only [Result.andThen_ok, slicedAt, Int.toNat_natCast, Nat.mul_one]
  rw [if_neg (by omega)]
  by_cases h0 : l = 0
  · subst h0; simp [Addr.add]
  · simp [Addr.add, h0]
end Go.Proofs.Ytjmigglibidbdaa
/- Mul of the program. Conditions: the cells stand for numbers. -/
namespace Go.Proofs.Ytjmigglibidbdaa
set_option linter.unusedVariables false
set_option linter.unusedSimpArgs false
open Go Go.RowKit
theorem mul_abs (s t : Bool) (n m : Nat) (x y : Int) (hx : x = if s then -(n : Int) else n) (hy : y = if t then -(m : Int) else m) :
    (if (s != t) then -((n * m : Nat) : Int) else ((n * m : Nat) : Int)) = x * y ∧ (x * y).natAbs = n * m := by
  have e : (x * y).natAbs = n * m := by
    rw [Int.natAbs_mul]
    have h1 : x.natAbs = n := by cases s <;> simp at hx <;> omega
    have h2 : y.natAbs = m := by cases t <;> simp at hy <;> omega
    rw [h1, h2]
  refine ⟨?_, e⟩
  subst hx; subst hy
  cases s <;> cases t <;> simp [Int.neg_mul, Int.mul_neg]
theorem neqB (s t u : Bool) (h : (s != t) = u) (w : World) : (binOp .neq 4 (.bool s) (.bool t)).run Try.prog w = .ok (.bool u) w := by
  subst h
  have e := fun d => run_equalIn_bool' w d 4 s t Try.underlying4
  simp only [binOp]
  simp [Op.equal, Op.maxDepth, e 9999]
  cases s <;> cases t <;> rfl
end Go.Proofs.Ytjmigglibidbdaa
