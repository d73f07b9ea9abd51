/- Layer 6: CrcTable. No condition. -/
import Derived.Test.YthlficnmpgkceaaLawL
import Derived.Test.YthlficnmpgkceaaByC
import Derived.Deep.MidRow
namespace Go.Proofs.Ythlficnmpgkceaa
set_option linter.unusedVariables false
set_option linter.unusedSimpArgs false
open Go Go.RowKit Go.Sort
theorem eqT (w : World) : (binOp .eql 67 (.agg (tcells 256)) (.agg (tcells 256))).run Try.prog w = .ok (.bool true) w := by
  kernel_rfl
theorem elN_xor (i b : Nat) : elN i ^^^ elN b = elN (i ^^^ b) := by
  unfold elN elB
  rw [← itB_xor, ofNat_xor]
theorem one_sum (i : Nat) (h : i < 256) : crcB 0#32 [i] = ~~~(elN (255 ^^^ i) ^^^ 16777215#32) := by
  unfold crcB runB
  simp only [List.foldl_cons, List.foldl_nil]
  unfold updB elN
  rw [byte_ix _ _ h]
  have e1 : (~~~0#32 : BitVec 32).toNat % 256 = 255 := by decide
  have e2 : (~~~0#32 : BitVec 32) >>> 8 = 16777215#32 := by decide
  rw [e1, e2]
set_option maxRecDepth 100000 in
set_option maxHeartbeats 8000000 in
theorem law_table (i b : Nat) (W : World) (hi : i < 256) (hb : b < 256) : Calls Try.prog 10 #[.int .u8 (i : Int), .int .u8 (b : Int)] W (Ret (.bool true) W) := by
  have x1 := xor8 255 i (by omega) hi
  have x2 := xor8 i b hi hb
  have hone := one_sum i hi
  have hel := elN_xor i b
  obtain ⟨j1, hj1⟩ : ∃ j, 255 ^^^ i = j := ⟨_, rfl⟩
  obtain ⟨j2, hj2⟩ : ∃ j, i ^^^ b = j := ⟨_, rfl⟩
  have hj1b : j1 < 256 := by rw [← hj1]; exact xor_b (by omega) hi
  have hj2b : j2 < 256 := by rw [← hj2]; exact xor_b hi hb
  rw [hj1] at x1 hone
  rw [hj2] at x2 hel
  have x1 : bits .xor .u8 255 (i : Int) = (j1 : Int) := x1
  have y1 := xor32 (elN j1) 16777215#32
  have e1 : (((16777215#32 : BitVec 32).toNat : Nat) : Int) = 16777215 := by decide
  rw [e1] at y1
  obtain ⟨z1, hz1⟩ : ∃ z, elN j1 ^^^ 16777215#32 = z := ⟨_, rfl⟩
  rw [hz1] at y1 hone
  have y2 := not32 z1
  rw [← hone] at y2
  have y3 := xor32 (elN i) (elN b)
  rw [hel] at y3
  have K0 : Hid (∀ w, Calls Try.prog 41 #[] w (Ret (.bool true) w)) := fun w => l_known6 w
  have K1 : Hid (∀ w, Calls Try.prog 49 #[] w (TabRet w)) := fun w => p_table w
  have K2 : Hid (∀ w, Calls Try.prog 50 #[] w (TabRet w)) := fun w => r_table w
  have K3 : Hid (∀ w A, BytesAt w A [i] → Calls Try.prog 44 #[.slice A 1 1] w (Ret (.int .u32 ((crcB 0#32 [i]).toNat : Int)) w)) := fun w A h => p_sum A 1 [i] w h
  obtain ⟨s, hs⟩ : ∃ s, crcB 0#32 [i] = s := ⟨_, rfl⟩
  rw [hs] at K3 y2
  clear hj1 hj2 hone hel hz1 hs e1
  have i1 := idxT .u8
  go_enter Try.func10, Try.ntmps10
  go_upto_region 2 with (first
    | (go_at_call 49; (with_reducible refine (K1.out _).mono ?_); rintro e w1 ⟨rfl, hE⟩)
    | (refine wpList_store_row rfl 67 (.tmp 5) (.tmp 7) rfl w1.heap.size (tcells 256) rfl rfl 67 (tcells 0) (new256 w1) (by rw [info256, tcells_size]) (by rw [tcells_size, tcells_size]) (tcells_one 256) ?_))
  have F := full256 w1
  have E : Below W.heap.size W ((w1.alloc (.cells Try.zeroCells67 67)).setRow w1.heap.size (tcells 256)) :=
    ext_setRow (Below.alloc hE hE.size _) hE.size _
  obtain ⟨w3, hw3⟩ : ∃ w3, w3 = (w1.alloc (.cells Try.zeroCells67 67)).setRow w1.heap.size (tcells 256) := ⟨_, rfl⟩
  rw [← hw3] at F E ⊢
  obtain ⟨g, hg⟩ : ∃ g, w1.heap.size = g := ⟨_, rfl⟩
  rw [hg] at F ⊢
  have hcell : ∀ j, j < 256 → w3.cell? ⟨g, j, none⟩ = some (.int .u32 ((elN j).toNat : Int)) := fun j h => by rw [F.cell, tcells_get _ _ h, if_pos h]
  have hrange : w3.rangeAt g 0 (tcells 256).toList := fun j v hv => by
    rw [Nat.zero_add, F.cell]; simpa using hv
  have hlen : (tcells 256).toList.length = 256 := by rw [Array.length_toList, tcells_size]
  have hTA : (tcells 256).toList.toArray = tcells 256 := rfl
  obtain ⟨TL, hTL⟩ : ∃ TL, (tcells 256).toList = TL := ⟨_, rfl⟩
  rw [hTL] at hrange hlen hTA
  have eT : ∀ w, (binOp .eql 67 (.agg TL.toArray) (.agg (tcells 256))).run Try.prog w = .ok (.bool true) w := fun w => by rw [hTA]; exact eqT w
  have hu := Try.underlying67
  have hinf : (Try.prog.info? 67).map (·.size) = some TL.length := by rw [hlen]; exact info256
  have d1 := hcell j1 hj1b
  have d2 := hcell i hi
  have d3 := hcell b hb
  have d4 := hcell j2 hj2b
  have t1 := idxT .u8 g j1 hj1b
  have t2 := idxT .u8 g i hi
  have t3 := idxT .u8 g b hb
  have t4 := idxT .u8 g j2 hj2b
  have gs : g < w3.heap.size := F.lt
  have E : Hid (Ext W w3) := hide E
  have hrange := hide hrange
  clear F hw3 hg hE hTA hTL hlen hcell i1
  go_upto_region 3 with fail
  have y2' : bits .xor .u32 (if IntKind.u32.signed = true then -1 else IntKind.u32.max) (z1.toNat : Int) = (s.toNat : Int) := y2
  rw [y2']
  have KS : Hid (∀ w', Ext w3 w' → w'.rangeAt g 0 TL ∧ w'.cell? ⟨g, i, none⟩ = some (.int .u32 ((elN i).toNat : Int)) ∧ w'.cell? ⟨g, b, none⟩ = some (.int .u32 ((elN b).toNat : Int)) ∧ w'.cell? ⟨g, j2, none⟩ = some (.int .u32 ((elN j2).toNat : Int))) := fun w' e =>
    ⟨fun j v hv => (e.cell (p := ⟨g, 0 + j, none⟩) gs).trans (hrange.out j v hv), (e.cell (p := ⟨g, i, none⟩) gs).trans d2, (e.cell (p := ⟨g, b, none⟩) gs).trans d3, (e.cell (p := ⟨g, j2, none⟩) gs).trans d4⟩
  have EE : Hid (Ext w3 w3.drew) := ext_drew _
  clear y2 y2' y1 d1 d2 d3 d4 hrange gs t1 x1
  go_region_held3 (fun w' => w'.rangeAt g 0 TL ∧ w'.cell? ⟨g, i, none⟩ = some (.int .u32 ((elN i).toNat : Int)) ∧ w'.cell? ⟨g, b, none⟩ = some (.int .u32 ((elN b).toNat : Int)) ∧ w'.cell? ⟨g, j2, none⟩ = some (.int .u32 ((elN j2).toNat : Int))) (first | exact KS.out _ EE.out | exact KS.out _ (EE.out.trans (ext_alloc _ _)) | exact KS.out _ (Ext.refl _))
    (first
      | (go_at_call 41; (with_reducible refine (K0.out _).mono ?_); rintro e w4 ⟨rfl, hE⟩; have EE := hide (EE.out.trans hE); clear hE)
      | (go_at_call 50; (with_reducible refine (K2.out _).mono ?_); rintro e w5 ⟨rfl, hE⟩; have EE := hide (EE.out.trans hE); clear hE)
      | (go_at_call 44; (with_reducible refine (K3.out _ _ (one_at _ i hi _ rfl)).mono ?_); rintro e w6 ⟨rfl, hE⟩; have EE := hide ((EE.out.trans (ext_alloc _ _)).trans hE); clear hE))
  go_wp2_with fail
  go_ret
  exact ⟨rfl, E.out.trans EE.out⟩
end Go.Proofs.Ythlficnmpgkceaa
