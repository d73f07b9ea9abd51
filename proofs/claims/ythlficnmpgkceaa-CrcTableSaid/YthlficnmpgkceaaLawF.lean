/- Layer 6: the laws' sanity check; CrcParts. Conditions: the slices read as bytes. -/
import Derived.Test.YthlficnmpgkceaaCrcE
import Derived.Test.YthlficnmpgkceaaConA
import Derived.Test.YthlficnmpgkceaaTapS
import Derived.Test.YthlficnmpgkceaaBase
namespace Go.Proofs.Ythlficnmpgkceaa
set_option linter.unusedVariables false
set_option linter.unusedSimpArgs false
open Go Go.RowKit Go.Sort
theorem known_sum : (crcB 0#32 [49, 50, 51, 52, 53, 54, 55, 56, 57]).toNat = 3808858755 := by decide +kernel
set_option maxRecDepth 100000 in
theorem l_known6 (W : World) : Calls Try.prog 41 #[] W (Ret (.bool true) W) := by
  have hb := new_at W [49, 50, 51, 52, 53, 54, 55, 56, 57] (by intro x hx; simp at hx; omega) (by simp) #[.int .u8 49, .int .u8 50, .int .u8 51, .int .u8 52, .int .u8 53, .int .u8 54, .int .u8 55, .int .u8 56, .int .u8 57] rfl
  have cv := conv_lit (W.alloc (.cells #[.int .u8 49, .int .u8 50, .int .u8 51, .int .u8 52, .int .u8 53, .int .u8 54, .int .u8 55, .int .u8 56, .int .u8 57] 5)) W.heap.size 9 _ (heap_alloc_new W _)
  have hE := below_freeze (a := ⟨W.heap.size, 9, none⟩) (ext_alloc W (.cells #[.int .u8 49, .int .u8 50, .int .u8 51, .int .u8 52, .int .u8 53, .int .u8 54, .int .u8 55, .int .u8 56, .int .u8 57] 5)) (Nat.le_refl _)
  have hb := hb.freeze ⟨W.heap.size, 9, none⟩
  simp only [List.size_toArray, List.length_cons, List.length_nil, Nat.zero_add, Nat.reduceAdd] at cv
  obtain ⟨w2, hw2⟩ : ∃ w2, (W.alloc (.cells #[.int .u8 49, .int .u8 50, .int .u8 51, .int .u8 52, .int .u8 53, .int .u8 54, .int .u8 55, .int .u8 56, .int .u8 57] 5)).freeze ⟨W.heap.size, 9, none⟩ 1 = w2 := ⟨_, rfl⟩
  rw [hw2] at cv hE hb
  have KS : Hid (Calls Try.prog 44 #[.slice (some ⟨W.heap.size, 0, none⟩) 9 9] w2 (CrcRet (crcB 0#32 [49, 50, 51, 52, 53, 54, 55, 56, 57]) w2)) := p_sum _ 9 _ _ hb
  have ks := known_sum
  obtain ⟨x, hx⟩ : ∃ x, crcB 0#32 [49, 50, 51, 52, 53, 54, 55, 56, 57] = x := ⟨_, rfl⟩
  rw [hx] at KS ks
  have q : ((x.toNat : Int) == 3808858755) = true := by rw [ks]; rfl
  have KC : Hid (∀ w, Calls Try.prog 47 #[.slice none 0 0] w (Ret (.bool false) w)) := fun w => p_check_short none 0 0 w (by omega)
  have hE0 := hide hE
  clear hb hx ks hw2 hE
  go_enter Try.func41, Try.ntmps41
  go_wp2_with (first
    | (go_at_call 44; (with_reducible refine (KS.out).mono ?_); rintro e w1 ⟨rfl, hE⟩)
    | (go_at_call 47; (with_reducible refine (KC.out _).mono ?_); rintro e w3 ⟨rfl, hE2⟩))
  go_ret
  exact ⟨rfl, (Ext.trans hE0.out hE).trans hE2⟩
end Go.Proofs.Ythlficnmpgkceaa
