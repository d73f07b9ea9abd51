/- The reference's shifted and ReadWide of layer 5. Conditions: the slice reads as bytes. -/
import Derived.Test.YtdboaogdanahkaaFixA
import Derived.Test.YtdboaogdanahkaaMagK
import Derived.Test.YtdboaogdanahkaaByA
import Derived.Laws.CopyOwn
import Derived.Test.YtdboaogdanahkaaDeclV
import Derived.Deep.MidRow
import Derived.Test.YtdboaogdanahkaaRvM
import Derived.Test.YtdboaogdanahkaaVarF
import Derived.Test.YtdboaogdanahkaaVarMN
import Derived.Test.YtdboaogdanahkaaVarP
import Derived.Test.YtdboaogdanahkaaVarQ
namespace Go.Proofs.Ytdboaogdanahkaa
set_option linter.unusedVariables false
set_option linter.unusedSimpArgs false
open Go Go.RowKit
attribute [local go_sem] qUpon putAll slotV
def cutN (n : Nat) : Nat := if n < 115792089237316195423570985008687907853269984665640564039457584007913129639936 then n else 0
theorem cutN_f (n : Nat) : F256 (cutN n : Int) := by unfold cutN F256; split <;> omega
theorem ret_cut {z : Nat} {w w' : World} {e : Ending} (h : WideRet (z : Int) w e w') : Ret (.tuple #[.agg #[.bool (sg (cutN z : Int)), .int .u64 (l0 (cutN z : Int) : Int), .int .u64 (l1 (cutN z : Int) : Int), .int .u64 (l2 (cutN z : Int) : Int), .int .u64 (l3 (cutN z : Int) : Int)], .bool (decide (z < 115792089237316195423570985008687907853269984665640564039457584007913129639936))]) w e w' := by
  obtain ⟨s, a, b, c, d, o, rfl, ho, hC, hE⟩ := h
  rw [Int.natAbs_natCast] at ho hC
  have e1 : (if z < 115792089237316195423570985008687907853269984665640564039457584007913129639936 then (z : Int) else 0) = (cutN z : Int) := by unfold cutN; split <;> rfl
  rw [e1] at hC
  subst ho
  obtain ⟨rfl, rfl, rfl, rfl, rfl⟩ := isC_fix hC
  exact ⟨rfl, hE⟩
theorem d_mulN {M k : Nat} (hM : F256 (M : Int)) (hk : F256 (k : Int)) (w : World) : Calls Try.prog 93 #[.agg #[.bool (sg (M : Int)), .int .u64 (l0 (M : Int) : Int), .int .u64 (l1 (M : Int) : Int), .int .u64 (l2 (M : Int) : Int), .int .u64 (l3 (M : Int) : Int)], .agg #[.bool (sg (k : Int)), .int .u64 (l0 (k : Int) : Int), .int .u64 (l1 (k : Int) : Int), .int .u64 (l2 (k : Int) : Int), .int .u64 (l3 (k : Int) : Int)]] w (Ret (.tuple #[.agg #[.bool (sg (cutN (M * k) : Int)), .int .u64 (l0 (cutN (M * k) : Int) : Int), .int .u64 (l1 (cutN (M * k) : Int) : Int), .int .u64 (l2 (cutN (M * k) : Int) : Int), .int .u64 (l3 (cutN (M * k) : Int) : Int)], .bool (decide (M * k < 115792089237316195423570985008687907853269984665640564039457584007913129639936))]) w) :=
  (ref_wmul _ _ _ _ _ _ _ _ _ _ (M : Int) (k : Int) w (isC_of hM).1 (isC_of hk).1).mono fun _ _ h => ret_cut (z := M * k) (by rw [Int.natCast_mul]; exact h)
theorem d_addN {M k : Nat} (hM : F256 (M : Int)) (hk : F256 (k : Int)) (w : World) : Calls Try.prog 94 #[.agg #[.bool (sg (M : Int)), .int .u64 (l0 (M : Int) : Int), .int .u64 (l1 (M : Int) : Int), .int .u64 (l2 (M : Int) : Int), .int .u64 (l3 (M : Int) : Int)], .agg #[.bool (sg (k : Int)), .int .u64 (l0 (k : Int) : Int), .int .u64 (l1 (k : Int) : Int), .int .u64 (l2 (k : Int) : Int), .int .u64 (l3 (k : Int) : Int)]] w (Ret (.tuple #[.agg #[.bool (sg (cutN (M + k) : Int)), .int .u64 (l0 (cutN (M + k) : Int) : Int), .int .u64 (l1 (cutN (M + k) : Int) : Int), .int .u64 (l2 (cutN (M + k) : Int) : Int), .int .u64 (l3 (cutN (M + k) : Int) : Int)], .bool (decide (M + k < 115792089237316195423570985008687907853269984665640564039457584007913129639936))]) w) :=
  (ref_wadd _ _ _ _ _ _ _ _ _ _ (M : Int) (k : Int) w (isC_of hM).1 (isC_of hk).1).mono fun _ _ h => ret_cut (z := M + k) (by rw [Int.natCast_add]; exact h)
theorem res_row2 {fn : Func} {p u : Tmp} {ty : TypeId} (h : fn.results = #[.cell p ty, .tmp u]) (tmps : Array Value) (w : World) (g : Nat) (t : TypeId) (cs : Array Value) (d : TypeDesc)
    (hp : tmps.getD p undef = .pointer (some ⟨g, 0, none⟩)) (hg : Blk w g t cs)
    (hu : Try.prog.underlying ty = some d) (hd : (match (generalizing := false) d with | .struct _ | .array _ _ => true | _ => false) = true) (hi : (Try.prog.info? ty).map (·.size) = some cs.size) :
    (results fn tmps).run Try.prog w = .ok (.tuple #[.agg cs, tmps.getD u undef]) w := by
  have hp' : tmps[p]?.getD undef = .pointer (some ⟨g, 0, none⟩) := by simpa using hp
  simp [results, h, hp', asAddr, run_loadVar_row w g t ty cs (0, 0) d hg hu (by cases d <;> first | rfl | exact hd) hi, Sem.run_bind, Result.andThen]
theorem infoW' : (Try.prog.info? 32).map (·.size) = some 5 := by kernel_rfl
theorem wide_one' (s : Bool) (a b c d : Int) : (#[.bool s, .int .u64 a, .int .u64 b, .int .u64 c, .int .u64 d] : Array Value).all (·.oneCell') = true := by simp [Value.oneCell']
theorem zero_w : (.agg #[.bool false, .int .u64 0, .int .u64 0, .int .u64 0, .int .u64 0] : Value) = .agg #[.bool (sg (cutN 115792089237316195423570985008687907853269984665640564039457584007913129639936 : Int)), .int .u64 (l0 (cutN 115792089237316195423570985008687907853269984665640564039457584007913129639936 : Int) : Int), .int .u64 (l1 (cutN 115792089237316195423570985008687907853269984665640564039457584007913129639936 : Int) : Int), .int .u64 (l2 (cutN 115792089237316195423570985008687907853269984665640564039457584007913129639936 : Int) : Int), .int .u64 (l3 (cutN 115792089237316195423570985008687907853269984665640564039457584007913129639936 : Int) : Int)] := by kernel_rfl
set_option maxRecDepth 100000 in
set_option maxHeartbeats 8000000 in
theorem v_shifted (M k d : Nat) (W : World) (hM : F256 (M : Int)) (hk : k ≤ 128) (hd : d < 128) :
    Calls Try.prog 74 #[.agg #[.bool (sg (M : Int)), .int .u64 (l0 (M : Int) : Int), .int .u64 (l1 (M : Int) : Int), .int .u64 (l2 (M : Int) : Int), .int .u64 (l3 (M : Int) : Int)], .int .i64 (k : Int), .int .u64 (d : Int)] W (Ret (.tuple #[.agg #[.bool (sg (cutN (M * k + d) : Int)), .int .u64 (l0 (cutN (M * k + d) : Int) : Int), .int .u64 (l1 (cutN (M * k + d) : Int) : Int), .int .u64 (l2 (cutN (M * k + d) : Int) : Int), .int .u64 (l3 (cutN (M * k + d) : Int) : Int)], .bool (decide (M * k + d < 115792089237316195423570985008687907853269984665640564039457584007913129639936))]) W) := by
  have KO : Hid (∀ w, Calls Try.prog 35 #[.int .i64 (k : Int)] w (Ret (.agg #[.bool (sg (k : Int)), .int .u64 (l0 (k : Int) : Int), .int .u64 (l1 (k : Int) : Int), .int .u64 (l2 (k : Int) : Int), .int .u64 (l3 (k : Int) : Int)]) w)) := fun w => d_ofi (by omega) (by omega) w
  have KU : Hid (∀ w, Calls Try.prog 95 #[.int .u64 (d : Int)] w (Ret (.agg #[.bool (sg (d : Int)), .int .u64 (l0 (d : Int) : Int), .int .u64 (l1 (d : Int) : Int), .int .u64 (l2 (d : Int) : Int), .int .u64 (l3 (d : Int) : Int)]) w)) := fun w => d_ofu (by omega) w
  have KM := hide (fun w => d_mulN hM (show F256 (k : Int) by unfold F256; omega) w)
  have KA := hide (fun w => d_addN (cutN_f (M * k)) (show F256 (d : Int) by unfold F256; omega) w)
  have hyes : Hid (M * k < 115792089237316195423570985008687907853269984665640564039457584007913129639936 → cutN (M * k) + d = M * k + d) := fun h => by unfold cutN; rw [if_pos h]
  have hno : Hid (¬ M * k < 115792089237316195423570985008687907853269984665640564039457584007913129639936 → cutN (M * k + d) = 0 ∧ decide (M * k + d < 115792089237316195423570985008687907853269984665640564039457584007913129639936) = false) := fun h => ⟨by unfold cutN; rw [if_neg (by omega)], decide_eq_false (by omega)⟩
  have hyes2 : Hid (M * k < 115792089237316195423570985008687907853269984665640564039457584007913129639936 → cutN (cutN (M * k) + d) = cutN (M * k + d) ∧ decide (cutN (M * k) + d < 115792089237316195423570985008687907853269984665640564039457584007913129639936) = decide (M * k + d < 115792089237316195423570985008687907853269984665640564039457584007913129639936)) := fun h => by rw [hyes.out h]; exact ⟨rfl, rfl⟩
  have hbool : Hid (decide (M * k < 115792089237316195423570985008687907853269984665640564039457584007913129639936) = true ∧ M * k < 115792089237316195423570985008687907853269984665640564039457584007913129639936 ∨ decide (M * k < 115792089237316195423570985008687907853269984665640564039457584007913129639936) = false ∧ ¬ M * k < 115792089237316195423570985008687907853269984665640564039457584007913129639936) := by
    by_cases h : M * k < 115792089237316195423570985008687907853269984665640564039457584007913129639936
    · exact Or.inl ⟨decide_eq_true h, h⟩
    · exact Or.inr ⟨decide_eq_false h, h⟩
  obtain ⟨m2, hm2⟩ : ∃ v, cutN (cutN (M * k) + d) = v := ⟨_, rfl⟩
  obtain ⟨o2, ho2⟩ : ∃ v, decide (cutN (M * k) + d < 115792089237316195423570985008687907853269984665640564039457584007913129639936) = v := ⟨_, rfl⟩
  rw [hm2, ho2] at KA hyes2
  obtain ⟨m1, hm1⟩ : ∃ v, cutN (M * k) = v := ⟨_, rfl⟩
  obtain ⟨o1, ho1⟩ : ∃ v, decide (M * k < 115792089237316195423570985008687907853269984665640564039457584007913129639936) = v := ⟨_, rfl⟩
  rw [hm1, ho1] at KM
  rw [hm1] at KA
  rw [ho1] at hbool
  obtain ⟨m3, hm3⟩ : ∃ v, cutN (M * k + d) = v := ⟨_, rfl⟩
  obtain ⟨o3, ho3⟩ : ∃ v, decide (M * k + d < 115792089237316195423570985008687907853269984665640564039457584007913129639936) = v := ⟨_, rfl⟩
  rw [hm3, ho3] at hyes2 hno ⊢
  have E0 := ext_alloc W (.cells #[.bool (sg (M : Int)), .int .u64 (l0 (M : Int) : Int), .int .u64 (l1 (M : Int) : Int), .int .u64 (l2 (M : Int) : Int), .int .u64 (l3 (M : Int) : Int)] 32)
  have P0 := Blk.new W 32 #[.bool (sg (M : Int)), .int .u64 (l0 (M : Int) : Int), .int .u64 (l1 (M : Int) : Int), .int .u64 (l2 (M : Int) : Int), .int .u64 (l3 (M : Int) : Int)]
  obtain ⟨w0, hw0⟩ : ∃ w, W.alloc (.cells #[.bool (sg (M : Int)), .int .u64 (l0 (M : Int) : Int), .int .u64 (l1 (M : Int) : Int), .int .u64 (l2 (M : Int) : Int), .int .u64 (l3 (M : Int) : Int)] 32) = w := ⟨_, rfl⟩
  rw [hw0] at E0 P0
  have E1 := Ext.trans E0 (ext_alloc w0 (.cells #[.bool false, .int .u64 0, .int .u64 0, .int .u64 0, .int .u64 0] 32))
  have P1 := Blk.new w0 32 #[.bool false, .int .u64 0, .int .u64 0, .int .u64 0, .int .u64 0]
  have P0 := P0.alloc (.cells #[.bool false, .int .u64 0, .int .u64 0, .int .u64 0, .int .u64 0] 32)
  have h01 : W.heap.size < w0.heap.size := by have := E0.size; have := (Blk.new W 32 #[.bool (sg (M : Int)), .int .u64 (l0 (M : Int) : Int), .int .u64 (l1 (M : Int) : Int), .int .u64 (l2 (M : Int) : Int), .int .u64 (l3 (M : Int) : Int)]).lt; rw [hw0] at this; exact this
  obtain ⟨w1, hw1⟩ : ∃ w, w0.alloc (.cells #[.bool false, .int .u64 0, .int .u64 0, .int .u64 0, .int .u64 0] 32) = w := ⟨_, rfl⟩
  rw [hw1] at E1 P0 P1
  have hg0 : W.heap.size ≤ W.heap.size := Nat.le_refl _
  have z0 : w0.heap.size = W.heap.size + 1 := by rw [← hw0]; simp
  rw [z0] at P1 h01
  obtain ⟨g1, hg1⟩ : ∃ g, W.heap.size + 1 = g := ⟨_, rfl⟩
  rw [hg1] at P1 h01
  obtain ⟨g0, hg0'⟩ : ∃ g, W.heap.size = g := ⟨_, rfl⟩
  rw [hg0'] at P0 h01
  have Hw0 := hide hw0
  have Hw1 := hide hw1
  have Hg0 := hide hg0'
  have Hg1 := hide hg1
  have P0 : Hid (Box w1 g0 (sg (M : Int)) (l0 (M : Int)) (l1 (M : Int)) (l2 (M : Int)) (l3 (M : Int))) := P0
  have P1 := hide P1
  have E1 := hide E1
  clear hw0 hw1 hg0' hg1 z0 E0 hM hk hd hm1 ho1 hm2 ho2 hm3 ho3 hg0
  go_enter Try.func74, Try.ntmps74
  go_upto_region 1 with fail
  rw [Hw0.out, Hw1.out, Hg1.out, Hg0.out]
  refine wp_decl [.q, .q, .q, .q, .q, .q, .q, .al, .st 7, .q] [.agg #[.bool (sg (M : Int)), .int .u64 (l0 (M : Int) : Int), .int .u64 (l1 (M : Int) : Int), .int .u64 (l2 (M : Int) : Int), .int .u64 (l3 (M : Int) : Int)], .int .i64 (k : Int), .agg #[.bool (sg (k : Int)), .int .u64 (l0 (k : Int) : Int), .int .u64 (l1 (k : Int) : Int), .int .u64 (l2 (k : Int) : Int), .int .u64 (l3 (k : Int) : Int)], .tuple #[.agg #[.bool (sg (m1 : Int)), .int .u64 (l0 (m1 : Int) : Int), .int .u64 (l1 (m1 : Int) : Int), .int .u64 (l2 (m1 : Int) : Int), .int .u64 (l3 (m1 : Int) : Int)], .bool o1], .tuple #[.agg #[.bool (sg (m1 : Int)), .int .u64 (l0 (m1 : Int) : Int), .int .u64 (l1 (m1 : Int) : Int), .int .u64 (l2 (m1 : Int) : Int), .int .u64 (l3 (m1 : Int) : Int)], .bool o1], .agg #[.bool (sg (m1 : Int)), .int .u64 (l0 (m1 : Int) : Int), .int .u64 (l1 (m1 : Int) : Int), .int .u64 (l2 (m1 : Int) : Int), .int .u64 (l3 (m1 : Int) : Int)], .bool o1, undef, undef, .bool o1] (fun _ => (.cells #[.bool false, .int .u64 0, .int .u64 0, .int .u64 0, .int .u64 0] 32 (0, 0))) (fun _ => (.cells #[.bool (sg (m1 : Int)), .int .u64 (l0 (m1 : Int) : Int), .int .u64 (l1 (m1 : Int) : Int), .int .u64 (l2 (m1 : Int) : Int), .int .u64 (l3 (m1 : Int) : Int)] 32 (0, 0))) (fun _ => 0) (by kernel_rfl) (by kernel_rfl) (by kernel_rfl) rfl rfl (by simp) (by simp) ?_ ?_
  · refine ⟨?_, ?_, ?_, ?_, ?_, ?_, ?_, ?_, ?_, ?_, trivial⟩
    · refine op_q ?uvn0 ?h1n0 ?h2n0 ?h3n0
      case h1n0 => exact rfl
      case uvn0 => exact (.agg #[.bool (sg (M : Int)), .int .u64 (l0 (M : Int) : Int), .int .u64 (l1 (M : Int) : Int), .int .u64 (l2 (M : Int) : Int), .int .u64 (l3 (M : Int) : Int)])
      case h2n0 => exact rfl
      intro w' hw'
      have P6 := Box.same (show Box w1 g0 (sg (M : Int)) (l0 (M : Int)) (l1 (M : Int)) (l2 (M : Int)) (l3 (M : Int)) from P0.out) hw' (by simp)
      have xP6 := five_cells P6
      go_simp
    · refine op_q ?uvn1 ?h1n1 ?h2n1 ?h3n1
      case h1n1 => exact rfl
      case uvn1 => exact (.int .i64 (k : Int))
      case h2n1 => exact rfl
      intro w' hw'
      go_simp
    · refine op_q ?uvn2 ?h1n2 ?h2n2 ?h3n2
      case h1n2 => exact rfl
      case uvn2 => exact (.agg #[.bool (sg (k : Int)), .int .u64 (l0 (k : Int) : Int), .int .u64 (l1 (k : Int) : Int), .int .u64 (l2 (k : Int) : Int), .int .u64 (l3 (k : Int) : Int)])
      case h2n2 => exact rfl
      intro w' hw'
      go_simp
      exact KO.out w'
    · refine op_q ?uvn3 ?h1n3 ?h2n3 ?h3n3
      case h1n3 => exact rfl
      case uvn3 => exact (.tuple #[.agg #[.bool (sg (m1 : Int)), .int .u64 (l0 (m1 : Int) : Int), .int .u64 (l1 (m1 : Int) : Int), .int .u64 (l2 (m1 : Int) : Int), .int .u64 (l3 (m1 : Int) : Int)], .bool o1])
      case h2n3 => exact rfl
      intro w' hw'
      go_simp
      exact KM.out w'
    · refine op_q ?uvn4 ?h1n4 ?h2n4 ?h3n4
      case h1n4 => exact rfl
      case uvn4 => exact (.tuple #[.agg #[.bool (sg (m1 : Int)), .int .u64 (l0 (m1 : Int) : Int), .int .u64 (l1 (m1 : Int) : Int), .int .u64 (l2 (m1 : Int) : Int), .int .u64 (l3 (m1 : Int) : Int)], .bool o1])
      case h2n4 => exact rfl
      intro w' hw'
      go_simp
    · refine op_q ?uvn5 ?h1n5 ?h2n5 ?h3n5
      case h1n5 => exact rfl
      case uvn5 => exact (.agg #[.bool (sg (m1 : Int)), .int .u64 (l0 (m1 : Int) : Int), .int .u64 (l1 (m1 : Int) : Int), .int .u64 (l2 (m1 : Int) : Int), .int .u64 (l3 (m1 : Int) : Int)])
      case h2n5 => exact rfl
      intro w' hw'
      go_simp
    · refine op_q ?uvn6 ?h1n6 ?h2n6 ?h3n6
      case h1n6 => exact rfl
      case uvn6 => exact (.bool o1)
      case h2n6 => exact rfl
      intro w' hw'
      go_simp
    · refine op_al ?uzn7 ?h1n7 ?h2n7 ?h3n7
      case h1n7 => exact rfl
      case h2n7 => exact rfl
      intro ρ w'
      go_simp
      rfl
    · refine op_st (j := 7) (T := ?uTn8) (p := ?upn8) (x := ?uxn8) ?ufn8 ?uzn8 ?uvn8 ?h1n8 ?h2n8 ?h3n8 ?h4n8 ?h5n8 ?h6n8
      case h1n8 => exact rfl
      case h2n8 => exact rfl
      case ufn8 => exact (.cells #[.bool (sg (m1 : Int)), .int .u64 (l0 (m1 : Int) : Int), .int .u64 (l1 (m1 : Int) : Int), .int .u64 (l2 (m1 : Int) : Int), .int .u64 (l3 (m1 : Int) : Int)] 32 (0, 0))
      case uzn8 => exact (.cells #[.bool false, .int .u64 0, .int .u64 0, .int .u64 0, .int .u64 0] 32 (0, 0))
      case uvn8 => exact (.agg #[.bool (sg (m1 : Int)), .int .u64 (l0 (m1 : Int) : Int), .int .u64 (l1 (m1 : Int) : Int), .int .u64 (l2 (m1 : Int) : Int), .int .u64 (l3 (m1 : Int) : Int)])
      case h3n8 => exact rfl
      case h4n8 => exact rfl
      case h5n8 => go_simp
      intro ρ w' g' hp hx hz
      exact store_wide rfl hp hx hz
    · refine op_q ?uvn9 ?h1n9 ?h2n9 ?h3n9
      case h1n9 => exact rfl
      case uvn9 => exact (.bool o1)
      case h2n9 => exact rfl
      intro w' hw'
      go_simp
  · intro G w4 hI
    have hS := hI.same
    have E4 : Hid (Ext W w4) := hide (hS.ext' E1.out (by simp))
    have P4 : Blk w4 g1 32 #[.bool false, .int .u64 0, .int .u64 0, .int .u64 0, .int .u64 0] := hS.block P1.out (by simp)
    have P8 : Box w4 (G 7) (sg (m1 : Int)) (l0 (m1 : Int)) (l1 (m1 : Int)) (l2 (m1 : Int)) (l3 (m1 : Int)) := (hI.fulls 8 (List.mem_range.2 (show 8 < 10 by decide)) 7 rfl).2.2
    have m7 := (hI.made 7 (List.mem_range.2 (show 7 < 10 by decide)) rfl).1
    have hl1 := P1.out.lt
    clear hI hS
    simp only [putAll, slotV, ptrTo, Nat.zero_add, Nat.reduceAdd]
    generalize G 7 = g7 at *
    have P4 := hide P4
    have P8 := hide P8
    have n17 : g7 ≠ g1 := by omega
    clear KO KM P0 P1 E1 m7 hl1
    rcases hbool.out with ⟨rfl, hlt⟩ | ⟨rfl, hlt⟩
    · obtain ⟨e1, e2⟩ := hyes2.out hlt
      subst e1 e2
      clear hyes2 hno hyes hlt hbool
      go_upto_region 4 with fail
      have ltW0 : ∀ c, Tag.so c ∈ [Tag.q, .q, .q, .q, .q, .q, .so 0, .q] → (fun _ => g1) c < w4.heap.size := by intro c hc; exact P4.out.lt
      refine wp_decl [.q, .q, .q, .q, .q, .q, .so 0, .q] [.agg #[.bool (sg (m1 : Int)), .int .u64 (l0 (m1 : Int) : Int), .int .u64 (l1 (m1 : Int) : Int), .int .u64 (l2 (m1 : Int) : Int), .int .u64 (l3 (m1 : Int) : Int)], .int .u64 (d : Int), .agg #[.bool (sg (d : Int)), .int .u64 (l0 (d : Int) : Int), .int .u64 (l1 (d : Int) : Int), .int .u64 (l2 (d : Int) : Int), .int .u64 (l3 (d : Int) : Int)], .tuple #[.agg #[.bool (sg (m2 : Int)), .int .u64 (l0 (m2 : Int) : Int), .int .u64 (l1 (m2 : Int) : Int), .int .u64 (l2 (m2 : Int) : Int), .int .u64 (l3 (m2 : Int) : Int)], .bool o2], .agg #[.bool (sg (m2 : Int)), .int .u64 (l0 (m2 : Int) : Int), .int .u64 (l1 (m2 : Int) : Int), .int .u64 (l2 (m2 : Int) : Int), .int .u64 (l3 (m2 : Int) : Int)], .bool o2, undef, .bool o2] (fun _ => (.cells #[.bool false, .int .u64 0, .int .u64 0, .int .u64 0, .int .u64 0] 32 (0, 0))) (fun _ => (.cells #[.bool (sg (m2 : Int)), .int .u64 (l0 (m2 : Int) : Int), .int .u64 (l1 (m2 : Int) : Int), .int .u64 (l2 (m2 : Int) : Int), .int .u64 (l3 (m2 : Int) : Int)] 32 (0, 0))) (fun _ => g1) (by kernel_rfl) (by kernel_rfl) (by kernel_rfl) rfl rfl ltW0 (by intro c c' h1 h2 h3; simp at h1 h2; omega) ?_ ?_
      · refine ⟨?_, ?_, ?_, ?_, ?_, ?_, ?_, ?_, trivial⟩
        · refine op_q ?uvk0 ?h1k0 ?h2k0 ?h3k0
          case h1k0 => exact rfl
          case uvk0 => exact (.agg #[.bool (sg (m1 : Int)), .int .u64 (l0 (m1 : Int) : Int), .int .u64 (l1 (m1 : Int) : Int), .int .u64 (l2 (m1 : Int) : Int), .int .u64 (l3 (m1 : Int) : Int)])
          case h2k0 => exact rfl
          intro w' hw'
          have P6 := Box.same (show Box w4 g7 (sg (m1 : Int)) (l0 (m1 : Int)) (l1 (m1 : Int)) (l2 (m1 : Int)) (l3 (m1 : Int)) from P8.out) hw' (by intro c hc; simp at hc; (try subst hc); (try simp only); omega)
          have xP6 := five_cells P6
          go_simp
        · refine op_q ?uvk1 ?h1k1 ?h2k1 ?h3k1
          case h1k1 => exact rfl
          case uvk1 => exact (.int .u64 (d : Int))
          case h2k1 => exact rfl
          intro w' hw'
          go_simp
        · refine op_q ?uvk2 ?h1k2 ?h2k2 ?h3k2
          case h1k2 => exact rfl
          case uvk2 => exact (.agg #[.bool (sg (d : Int)), .int .u64 (l0 (d : Int) : Int), .int .u64 (l1 (d : Int) : Int), .int .u64 (l2 (d : Int) : Int), .int .u64 (l3 (d : Int) : Int)])
          case h2k2 => exact rfl
          intro w' hw'
          go_simp
          exact KU.out w'
        · refine op_q ?uvk3 ?h1k3 ?h2k3 ?h3k3
          case h1k3 => exact rfl
          case uvk3 => exact (.tuple #[.agg #[.bool (sg (m2 : Int)), .int .u64 (l0 (m2 : Int) : Int), .int .u64 (l1 (m2 : Int) : Int), .int .u64 (l2 (m2 : Int) : Int), .int .u64 (l3 (m2 : Int) : Int)], .bool o2])
          case h2k3 => exact rfl
          intro w' hw'
          go_simp
          exact KA.out w'
        · refine op_q ?uvk4 ?h1k4 ?h2k4 ?h3k4
          case h1k4 => exact rfl
          case uvk4 => exact (.agg #[.bool (sg (m2 : Int)), .int .u64 (l0 (m2 : Int) : Int), .int .u64 (l1 (m2 : Int) : Int), .int .u64 (l2 (m2 : Int) : Int), .int .u64 (l3 (m2 : Int) : Int)])
          case h2k4 => exact rfl
          intro w' hw'
          go_simp
        · refine op_q ?uvk5 ?h1k5 ?h2k5 ?h3k5
          case h1k5 => exact rfl
          case uvk5 => exact (.bool o2)
          case h2k5 => exact rfl
          intro w' hw'
          go_simp
        · refine op_so (c := 0) (T := ?uTk6) (p := ?upk6) (x := ?uxk6) ?ugk6 ?ufk6 ?uvk6 ?h1k6 ?h2k6 ?h3k6 ?h4k6 ?h5k6 ?h6k6 ?h7k6
          case h1k6 => exact rfl
          case h2k6 => exact rfl
          case ufk6 => exact (.cells #[.bool (sg (m2 : Int)), .int .u64 (l0 (m2 : Int) : Int), .int .u64 (l1 (m2 : Int) : Int), .int .u64 (l2 (m2 : Int) : Int), .int .u64 (l3 (m2 : Int) : Int)] 32 (0, 0))
          case ugk6 => exact g1
          case uvk6 => exact (.agg #[.bool (sg (m2 : Int)), .int .u64 (l0 (m2 : Int) : Int), .int .u64 (l1 (m2 : Int) : Int), .int .u64 (l2 (m2 : Int) : Int), .int .u64 (l3 (m2 : Int) : Int)])
          case h3k6 => exact rfl
          case h4k6 => exact rfl
          case h5k6 => go_simp; rfl
          case h6k6 => go_simp
          intro ρ w' hp hx hz
          exact store_wide rfl hp hx (hz.trans P4.out)
        · refine op_q ?uvk7 ?h1k7 ?h2k7 ?h3k7
          case h1k7 => exact rfl
          case uvk7 => exact (.bool o2)
          case h2k7 => exact rfl
          intro w' hw'
          go_simp
      · intro G w6 hI
        have hS := hI.same
        have E6 : Ext W w6 := hS.ext' E4.out (by intro c hc; simp at hc; (try subst hc); (try simp only); rw [Hg0.out]; omega)
        have P6 : Blk w6 g1 32 #[.bool (sg (m2 : Int)), .int .u64 (l0 (m2 : Int) : Int), .int .u64 (l1 (m2 : Int) : Int), .int .u64 (l2 (m2 : Int) : Int), .int .u64 (l3 (m2 : Int) : Int)] := hI.olds' 6 (List.mem_range.2 (show 6 < 8 by decide)) 0 rfl
        clear hI hS
        simp only [putAll, slotV, ptrTo, Nat.zero_add, Nat.reduceAdd]
        go_wp2_with fail
        exact bodyPost_ret (res_row2 (p := 6) (u := 7) (ty := 32) rfl _ _ g1 32 _ _ rfl P6 Try.underlying32 rfl (by rw [infoW']; rfl)) rfl ⟨by simp, E6⟩
    · obtain ⟨e1, e2⟩ := hno.out hlt
      subst e1 e2
      clear hyes2 hno hyes hlt hbool
      go_wp2_with (refine wpList_store_row rfl 32 (.tmp 6) (.tmp 19) rfl g1 #[.bool false, .int .u64 0, .int .u64 0, .int .u64 0, .int .u64 0] rfl rfl 32 #[.bool false, .int .u64 0, .int .u64 0, .int .u64 0, .int .u64 0] P4.out (by rw [infoW']; rfl) rfl (wide_one' _ _ _ _ _) ?_)
      have hr := P4.out.setRow #[.bool false, .int .u64 0, .int .u64 0, .int .u64 0, .int .u64 0]
      exact bodyPost_ret (res_row2 (p := 6) (u := 7) (ty := 32) rfl _ _ g1 32 _ _ rfl hr Try.underlying32 rfl (by rw [infoW']; rfl)) rfl ⟨by kernel_rfl, below_setRow E4.out (by rw [Hg0.out]; omega) _⟩
theorem res_rw3 {fn : Func} {p u v : Tmp} {ty : TypeId} (h : fn.results = #[.cell p ty, .tmp u, .tmp v]) (tmps : Array Value) (w : World) (g : Nat) (t : TypeId) (cs : Array Value) (d : TypeDesc)
    (hp : tmps.getD p undef = .pointer (some ⟨g, 0, none⟩)) (hg : Blk w g t cs)
    (hu : Try.prog.underlying ty = some d) (hd : (match (generalizing := false) d with | .struct _ | .array _ _ => true | _ => false) = true) (hi : (Try.prog.info? ty).map (·.size) = some cs.size) :
    (results fn tmps).run Try.prog w = .ok (.tuple #[.agg cs, tmps.getD u undef, tmps.getD v undef]) w := by
  have hp' : tmps[p]?.getD undef = .pointer (some ⟨g, 0, none⟩) := by simpa using hp
  simp [results, h, hp', asAddr, run_loadVar_row w g t ty cs (0, 0) d hg hu (by cases d <;> first | rfl | exact hd) hi, Sem.run_bind, Result.andThen]
theorem idxV (b off N cap j : Nat) (h : j < N) (w : World) : (Instr.indexAt 22 (.slice (some ⟨b, off, none⟩) N cap) (.int .i64 (j : Int))).run Try.prog w = .ok (.pointer (some ⟨b, off + j, none⟩)) w := by
  have hz := Try.sizeOf5
  have he : Try.prog.elem 22 = 5 := by kernel_rfl
  have hr := run_indexAt_slice (P := Try.prog) (w := w) 22 ⟨b, off, none⟩ N cap .i64 (j : Int) (by kernel_rfl)
  rw [hr, if_pos ⟨by omega, by omega⟩, he, hz]
  simp [Result.andThen, add_at]
theorem v_rwide_e (A : Option Addr) (c cap : Nat) (at_ e : Int) (W : World) (he : e ≠ 0) (K : Calls Try.prog 71 #[.slice A c cap, .int .i64 at_, .int .i64 37] (W.alloc (.cells #[.bool false, .int .u64 0, .int .u64 0, .int .u64 0, .int .u64 0] 32)) (RetSame (.tuple #[.slice none 0 0, .int .i64 e]) (W.alloc (.cells #[.bool false, .int .u64 0, .int .u64 0, .int .u64 0, .int .u64 0] 32)))) :
    Calls Try.prog 46 #[.slice A c cap, .int .i64 at_] W (Ret (.tuple #[.agg #[.bool false, .int .u64 0, .int .u64 0, .int .u64 0, .int .u64 0], .int .i64 0, .int .i64 e]) W) := by
  have E0 := ext_alloc W (.cells #[.bool false, .int .u64 0, .int .u64 0, .int .u64 0, .int .u64 0] 32)
  have P0 := Blk.new W 32 #[.bool false, .int .u64 0, .int .u64 0, .int .u64 0, .int .u64 0]
  obtain ⟨w1, hw1⟩ : ∃ w, W.alloc (.cells #[.bool false, .int .u64 0, .int .u64 0, .int .u64 0, .int .u64 0] 32) = w := ⟨_, rfl⟩
  rw [hw1] at E0 P0
  obtain ⟨q, hq⟩ : ∃ q, W.heap.size = q := ⟨_, rfl⟩
  rw [hq] at P0
  have Hw1 := hide hw1
  have Hq := hide hq
  have hqW : W.heap.size ≤ q := by rw [hq]; exact Nat.le_refl _
  have P0 := hide P0
  have E0 := hide E0
  clear hw1 hq
  rw [Hw1.out] at K
  have q1 : (e != 0) = true := by rw [bne_iff_ne]; exact he
  have K := hide K
  clear he
  go_enter Try.func46, Try.ntmps46
  go_upto_region 1 with fail
  rw [Hw1.out, Hq.out]
  go_wp2_with (first
    | (go_at_call 71; (with_reducible refine (K.out).mono ?_); rintro en w3 ⟨rfl, rfl⟩)
    | (refine wpList_store_row rfl 32 (.tmp 4) (.tmp 21) rfl q #[.bool false, .int .u64 0, .int .u64 0, .int .u64 0, .int .u64 0] rfl rfl 32 #[.bool false, .int .u64 0, .int .u64 0, .int .u64 0, .int .u64 0] P0.out (by rw [infoW']; rfl) rfl (wide_one' _ _ _ _ _) ?_))
  have hr := P0.out.setRow #[.bool false, .int .u64 0, .int .u64 0, .int .u64 0, .int .u64 0]
  exact bodyPost_ret (res_rw3 (p := 4) (u := 5) (v := 6) (ty := 32) rfl _ _ q 32 _ _ rfl hr Try.underlying32 rfl (by rw [infoW']; rfl)) rfl ⟨rfl, below_setRow E0.out hqW _⟩
set_option maxRecDepth 100000 in
set_option maxHeartbeats 3200000 in
theorem v_rwide_f0 (A : Option Addr) (c cap a : Nat) (W : World) (A2 : Option Addr) (c2 n x : Nat) (g : List Nat) (hK : ∀ w, Ext W w → Calls Try.prog 71 #[.slice A c cap, .int .i64 (a : Int), .int .i64 37] w (RetSame (.tuple #[.slice A2 n c2, .int .i64 0]) w)) (hb : BytesAt W A2 g) (hn : g.length = n) (hn1 : 1 ≤ n) (hn2 : n ≤ 37) (hx : g.getD (n - 1) 0 = x) (h1 : x = 0) (h2 : 1 < n) :
    Calls Try.prog 46 #[.slice A c cap, .int .i64 (a : Int)] W (Ret (.tuple #[.agg #[.bool false, .int .u64 0, .int .u64 0, .int .u64 0, .int .u64 0], .int .i64 0, .int .i64 5]) W) := by
  have E0 := ext_alloc W (.cells #[.bool false, .int .u64 0, .int .u64 0, .int .u64 0, .int .u64 0] 32)
  have P0 := Blk.new W 32 #[.bool false, .int .u64 0, .int .u64 0, .int .u64 0, .int .u64 0]
  obtain ⟨w1, hw1⟩ : ∃ w, W.alloc (.cells #[.bool false, .int .u64 0, .int .u64 0, .int .u64 0, .int .u64 0] 32) = w := ⟨_, rfl⟩
  rw [hw1] at E0 P0
  obtain ⟨q, hq⟩ : ∃ q, W.heap.size = q := ⟨_, rfl⟩
  rw [hq] at P0
  have Hw1 := hide hw1
  have Hq := hide hq
  have hqW : W.heap.size ≤ q := by rw [hq]; exact Nat.le_refl _
  have P0 := hide P0
  have E0 := hide E0
  clear hw1 hq
  obtain ⟨b, off, rfl, hbw, hcl⟩ := hb.2.2 (by omega)
  have D0 := hcl (n - 1) (by omega)
  rw [hx] at D0
  have ix0 := fun w => idxV b off n c2 (n - 1) (by omega) w
  rw [show ((n - 1 : Nat) : Int) = (n : Int) - 1 by omega] at ix0
  have Hbw := hide hbw
  have Hcl := hide hcl
  have hK := hide hK
  have Hn := hide hn
  have d0 : w1.cell? ⟨b, off + (n - 1), none⟩ = some (.int .u8 (x : Int)) := (E0.out.cell (p := ⟨b, off + (n - 1), none⟩) hbw).trans D0
  have f1 : ((x : Int) == 0) = true := by rw [beq_iff_eq]; omega
  have f2 : decide (1 < n) = true := decide_eq_true (by omega)
  have f2i : decide ((1 : Int) < (n : Int)) = true := decide_eq_true (by omega)
  clear hx hb hn hcl D0 hbw h1 h2
  go_enter Try.func46, Try.ntmps46
  go_upto_region 1 with fail
  rw [Hw1.out, Hq.out]
  go_wp2_with (first
    | (go_at_call 71; (with_reducible refine (hK.out _ E0.out).mono ?_); rintro en w3 ⟨rfl, rfl⟩)
    | (refine wpList_store_row rfl 32 (.tmp 4) (.tmp 45) rfl q #[.bool false, .int .u64 0, .int .u64 0, .int .u64 0, .int .u64 0] rfl rfl 32 #[.bool false, .int .u64 0, .int .u64 0, .int .u64 0, .int .u64 0] P0.out (by rw [infoW']; rfl) rfl (wide_one' _ _ _ _ _) ?_))
  have hr := P0.out.setRow #[.bool false, .int .u64 0, .int .u64 0, .int .u64 0, .int .u64 0]
  exact bodyPost_ret (res_rw3 (p := 4) (u := 5) (v := 6) (ty := 32) rfl _ _ q 32 _ _ rfl hr Try.underlying32 rfl (by rw [infoW']; rfl)) rfl ⟨rfl, below_setRow E0.out hqW _⟩
set_option maxRecDepth 100000 in
set_option maxHeartbeats 3200000 in
theorem v_rwide_f1 (A : Option Addr) (c cap a : Nat) (W : World) (A2 : Option Addr) (c2 n x : Nat) (g : List Nat) (hK : ∀ w, Ext W w → Calls Try.prog 71 #[.slice A c cap, .int .i64 (a : Int), .int .i64 37] w (RetSame (.tuple #[.slice A2 n c2, .int .i64 0]) w)) (hb : BytesAt W A2 g) (hn : g.length = n) (hn1 : 1 ≤ n) (hn2 : n ≤ 37) (hx : g.getD (n - 1) 0 = x) (h1 : x = 1) (h2 : n = 1) :
    Calls Try.prog 46 #[.slice A c cap, .int .i64 (a : Int)] W (Ret (.tuple #[.agg #[.bool false, .int .u64 0, .int .u64 0, .int .u64 0, .int .u64 0], .int .i64 0, .int .i64 5]) W) := by
  have E0 := ext_alloc W (.cells #[.bool false, .int .u64 0, .int .u64 0, .int .u64 0, .int .u64 0] 32)
  have P0 := Blk.new W 32 #[.bool false, .int .u64 0, .int .u64 0, .int .u64 0, .int .u64 0]
  obtain ⟨w1, hw1⟩ : ∃ w, W.alloc (.cells #[.bool false, .int .u64 0, .int .u64 0, .int .u64 0, .int .u64 0] 32) = w := ⟨_, rfl⟩
  rw [hw1] at E0 P0
  obtain ⟨q, hq⟩ : ∃ q, W.heap.size = q := ⟨_, rfl⟩
  rw [hq] at P0
  have Hw1 := hide hw1
  have Hq := hide hq
  have hqW : W.heap.size ≤ q := by rw [hq]; exact Nat.le_refl _
  have P0 := hide P0
  have E0 := hide E0
  clear hw1 hq
  obtain ⟨b, off, rfl, hbw, hcl⟩ := hb.2.2 (by omega)
  have D0 := hcl (n - 1) (by omega)
  rw [hx] at D0
  have ix0 := fun w => idxV b off n c2 (n - 1) (by omega) w
  rw [show ((n - 1 : Nat) : Int) = (n : Int) - 1 by omega] at ix0
  have Hbw := hide hbw
  have Hcl := hide hcl
  have hK := hide hK
  have Hn := hide hn
  have d0 : w1.cell? ⟨b, off + (n - 1), none⟩ = some (.int .u8 (x : Int)) := (E0.out.cell (p := ⟨b, off + (n - 1), none⟩) hbw).trans D0
  have f1 : ((x : Int) == 0) = false := by rw [beq_eq_false_iff_ne]; omega
  have f3 : ((n : Int) == 1) = true := by rw [beq_iff_eq]; omega
  have f4 : ((x : Int) == 1) = true := by rw [beq_iff_eq]; omega
  clear hx hb hn hcl D0 hbw h1 h2
  go_enter Try.func46, Try.ntmps46
  go_upto_region 1 with fail
  rw [Hw1.out, Hq.out]
  go_wp2_with (first
    | (go_at_call 71; (with_reducible refine (hK.out _ E0.out).mono ?_); rintro en w3 ⟨rfl, rfl⟩)
    | (refine wpList_store_row rfl 32 (.tmp 4) (.tmp 45) rfl q #[.bool false, .int .u64 0, .int .u64 0, .int .u64 0, .int .u64 0] rfl rfl 32 #[.bool false, .int .u64 0, .int .u64 0, .int .u64 0, .int .u64 0] P0.out (by rw [infoW']; rfl) rfl (wide_one' _ _ _ _ _) ?_))
  have hr := P0.out.setRow #[.bool false, .int .u64 0, .int .u64 0, .int .u64 0, .int .u64 0]
  exact bodyPost_ret (res_rw3 (p := 4) (u := 5) (v := 6) (ty := 32) rfl _ _ q 32 _ _ rfl hr Try.underlying32 rfl (by rw [infoW']; rfl)) rfl ⟨rfl, below_setRow E0.out hqW _⟩
theorem rowoff' {w : World} {g g' : Nat} {t : TypeId} {cs : Array Value} (h : Blk w g t cs) (hn : g ≠ g') (ds : Array Value) : Blk (w.setRow g' ds) g t cs := (setRow_other w g' g ds hn).trans h
def rvR (C a n : Nat) : Value := if C / 2 < 115792089237316195423570985008687907853269984665640564039457584007913129639936 then .tuple #[.agg #[.bool (sg (unc C)), .int .u64 (l0 (unc C) : Int), .int .u64 (l1 (unc C) : Int), .int .u64 (l2 (unc C) : Int), .int .u64 (l3 (unc C) : Int)], .int .i64 ((a : Int) + (n : Int)), .int .i64 0] else .tuple #[.agg #[.bool false, .int .u64 0, .int .u64 0, .int .u64 0, .int .u64 0], .int .i64 0, .int .i64 5]
theorem big_of {g : List Nat} {k : Nat} (hk : 1 ≤ k) (hg : 0 < g.length) (h : ¬ decB (g.drop k) < 115792089237316195423570985008687907853269984665640564039457584007913129639936) : ¬ decB g / 2 < 115792089237316195423570985008687907853269984665640564039457584007913129639936 := by
  have h1 := decB_drop (k := 0) hg
  rw [List.drop_zero, Nat.zero_add] at h1
  have h2 := decB_drop_le (g.drop 1) (k - 1)
  rw [List.drop_drop, show 1 + (k - 1) = k by omega] at h2
  omega
theorem w8 (y : Nat) (h : y < 256) : IntKind.u8.wrap ((y : Int).tmod 128) = ((y % 128 : Nat) : Int) := by
  rw [Int.tmod_eq_emod_of_nonneg (by omega)]
  simp [IntKind.wrap, IntKind.bits, IntKind.signed]; omega
theorem w8d (y : Nat) (h : y < 128) : IntKind.u8.wrap ((y : Int).tdiv 2) = ((y / 2 : Nat) : Int) := by
  rw [Int.tdiv_eq_ediv_of_nonneg (by omega)]
  simp [IntKind.wrap, IntKind.bits, IntKind.signed]; omega
theorem w64 (y : Nat) (h : y < 128) : IntKind.u64.wrap (y : Int) = (y : Int) := by
  simp [IntKind.wrap, IntKind.bits, IntKind.signed]; omega
set_option maxRecDepth 100000 in
set_option maxHeartbeats 16000000 in
theorem v_rwide_m0 (A : Option Addr) (c cap a : Nat) (W : World) (A2 : Option Addr) (c2 n x : Nat) (g : List Nat) (hK : ∀ w, Ext W w → Calls Try.prog 71 #[.slice A c cap, .int .i64 (a : Int), .int .i64 37] w (RetSame (.tuple #[.slice A2 n c2, .int .i64 0]) w)) (hb : BytesAt W A2 g) (hn : g.length = n) (hn1 : 1 ≤ n) (hn2 : n ≤ 37) (hx : g.getD (n - 1) 0 = x) (hgb0 : IsB g) (hac : a + n ≤ 4611686018427387904) (C : Nat) (hC : decB g = C) (h1 : x = 0 ∧ n = 1) :
    Calls Try.prog 46 #[.slice A c cap, .int .i64 (a : Int)] W (Ret (rvR C a n) W) := by
  have HR1 : Hid (C / 2 < 115792089237316195423570985008687907853269984665640564039457584007913129639936 → rvR C a n = .tuple #[.agg #[.bool (sg (unc C)), .int .u64 (l0 (unc C) : Int), .int .u64 (l1 (unc C) : Int), .int .u64 (l2 (unc C) : Int), .int .u64 (l3 (unc C) : Int)], .int .i64 ((a : Int) + (n : Int)), .int .i64 0]) := fun h => if_pos h
  have HR2 : Hid (¬ C / 2 < 115792089237316195423570985008687907853269984665640564039457584007913129639936 → rvR C a n = .tuple #[.agg #[.bool false, .int .u64 0, .int .u64 0, .int .u64 0, .int .u64 0], .int .i64 0, .int .i64 5]) := fun h => if_neg h
  obtain ⟨RR, hRR⟩ : ∃ v, rvR C a n = v := ⟨_, rfl⟩
  rw [hRR] at HR1 HR2 ⊢
  have HC := hide hC
  have hgb := hide hgb0
  have E0 := ext_alloc W (.cells #[.bool false, .int .u64 0, .int .u64 0, .int .u64 0, .int .u64 0] 32)
  have P0 := Blk.new W 32 #[.bool false, .int .u64 0, .int .u64 0, .int .u64 0, .int .u64 0]
  obtain ⟨w1, hw1⟩ : ∃ w, W.alloc (.cells #[.bool false, .int .u64 0, .int .u64 0, .int .u64 0, .int .u64 0] 32) = w := ⟨_, rfl⟩
  rw [hw1] at E0 P0
  obtain ⟨q, hq⟩ : ∃ q, W.heap.size = q := ⟨_, rfl⟩
  rw [hq] at P0
  have Hw1 := hide hw1
  have Hq := hide hq
  have hqW : W.heap.size ≤ q := by rw [hq]; exact Nat.le_refl _
  have P0 := hide P0
  have E0 := hide E0
  clear hw1 hq
  obtain ⟨b, off, rfl, hbw, hcl⟩ := hb.2.2 (by omega)
  have D0 := hcl (n - 1) (by omega)
  rw [hx] at D0
  have ix0 := fun w => idxV b off n c2 (n - 1) (by omega) w
  rw [show ((n - 1 : Nat) : Int) = (n : Int) - 1 by omega] at ix0
  have Hbw := hide hbw
  have Hcl := hide hcl
  have hK := hide hK
  have Hn := hide hn
  have d0 : w1.cell? ⟨b, off + (n - 1), none⟩ = some (.int .u8 (x : Int)) := (E0.out.cell (p := ⟨b, off + (n - 1), none⟩) hbw).trans D0
  have f1 : ((x : Int) == 0) = true := by rw [beq_iff_eq]; omega
  have f2 : decide (1 < n) = false := decide_eq_false (by omega)
  have f2i : decide ((1 : Int) < (n : Int)) = false := decide_eq_false (by omega)
  have f3 : ((n : Int) == 1) = true := by rw [beq_iff_eq]; omega
  have f4 : ((x : Int) == 1) = false := by rw [beq_eq_false_iff_ne]; omega
  clear hx hb hn hcl D0 h1 hC hgb0 hRR
  have N1 := Blk.new w1 32 #[.bool false, .int .u64 0, .int .u64 0, .int .u64 0, .int .u64 0]
  have P1 := N1.setRow #[.bool false, .int .u64 0, .int .u64 0, .int .u64 0, .int .u64 0]
  have P0' := rowoff' (g' := w1.heap.size) (P0.out.alloc (.cells #[.bool false, .int .u64 0, .int .u64 0, .int .u64 0, .int .u64 0] 32)) (by have := P0.out.lt; omega) #[.bool false, .int .u64 0, .int .u64 0, .int .u64 0, .int .u64 0]
  have E1 := below_setRow (g := w1.heap.size) (Ext.trans E0.out (ext_alloc w1 (.cells #[.bool false, .int .u64 0, .int .u64 0, .int .u64 0, .int .u64 0] 32))) E0.out.size #[.bool false, .int .u64 0, .int .u64 0, .int .u64 0, .int .u64 0]
  obtain ⟨w2, hw2⟩ : ∃ w, (w1.alloc (.cells #[.bool false, .int .u64 0, .int .u64 0, .int .u64 0, .int .u64 0] 32)).setRow w1.heap.size #[.bool false, .int .u64 0, .int .u64 0, .int .u64 0, .int .u64 0] = w := ⟨_, rfl⟩
  rw [hw2] at P1 P0' E1
  have hq12 := P0.out.lt
  have hq02 := E0.out.size
  obtain ⟨q2, hq2⟩ : ∃ g, w1.heap.size = g := ⟨_, rfl⟩
  rw [hq2] at P1 hq12 hq02
  have Hw2 := hide hw2
  have Hq2 := hide hq2
  have N1 := hide N1
  have P1 : Hid (Box w2 q2 (sg ((0 : Nat) : Int)) (l0 ((0 : Nat) : Int)) (l1 ((0 : Nat) : Int)) (l2 ((0 : Nat) : Int)) (l3 ((0 : Nat) : Int))) := P1
  have P0' := hide P0'
  have E1 : Hid (Ext W w2) := E1
  have hbq : b < W.heap.size := hbw
  clear hw2 hq2
  go_enter Try.func46, Try.ntmps46
  go_upto_region 1 with fail
  rw [Hw1.out, Hq.out]
  go_upto_region 7 with (go_at_call 71; (with_reducible refine (hK.out _ E0.out).mono ?_); rintro en w3 ⟨rfl, rfl⟩)
  go_upto_region 8 with (refine wpList_store_row rfl 32 (.tmp 10) (.tmp 46) rfl w1.heap.size #[.bool false, .int .u64 0, .int .u64 0, .int .u64 0, .int .u64 0] rfl rfl 32 #[.bool false, .int .u64 0, .int .u64 0, .int .u64 0, .int .u64 0] N1.out (by rw [infoW']; rfl) rfl (wide_one' _ _ _ _ _) ?_)
  rw [Hw2.out, Hq2.out]
  have P0 := P0'
  clear P0' d0 ix0 N1 Hw1 Hw2 E0
  go_wp2_with fail
  go_loopw [11, 12] (fun ov i wr => ∃ (k m : Nat) (ok : Bool), k + 1 ≤ n ∧ i = .int .i64 (k : Int) ∧ ov = .bool ok ∧ Hid (Box wr q2 (sg (m : Int)) (l0 (m : Int)) (l1 (m : Int)) (l2 (m : Int)) (l3 (m : Int))) ∧ Hid (F256 (m : Int)) ∧ Hid (ok = true → m = decB (g.drop (k + 1))) ∧ Hid (ok = false → ¬ C / 2 < 115792089237316195423570985008687907853269984665640564039457584007913129639936) ∧ Hid (Blk wr q 32 #[.bool false, .int .u64 0, .int .u64 0, .int .u64 0, .int .u64 0]) ∧ Hid (Ext W wr)) (fun _ i _ => (intOf i).toNat)
  case atStart => exact ⟨n - 1, 0, true, by omega, by rw [show ((n - 1 : Nat) : Int) = (n : Int) - 1 by omega], rfl, P1, hide (by unfold F256; omega), hide (fun _ => by rw [List.drop_of_length_le (by rw [Hn.out]; omega)]; rfl), hide (fun h => by cases h), P0, E1⟩
  case round =>
    clear P1 P0 E1
    obtain ⟨k, m, ok, hk, rfl, rfl, P10, HF, HT, HN, P0, E⟩ := hrel
    cases ok with
    | false =>
      by_cases hk1 : 1 ≤ k
      · have g1 : decide ((1 : Int) ≤ (k : Int)) = true := decide_eq_true (by omega)
        have g1p : (1 : Int) ≤ (k : Int) := by omega
        go_upto_region 16 with fail
        go_wp2_with (refine wpList_store_row rfl 32 (.tmp 4) (.tmp 82) rfl q #[.bool false, .int .u64 0, .int .u64 0, .int .u64 0, .int .u64 0] rfl rfl 32 #[.bool false, .int .u64 0, .int .u64 0, .int .u64 0, .int .u64 0] P0.out (by rw [infoW']; rfl) rfl (wide_one' _ _ _ _ _) ?_)
        have hr := P0.out.setRow #[.bool false, .int .u64 0, .int .u64 0, .int .u64 0, .int .u64 0]
        exact bodyPost_ret (res_rw3 (p := 4) (u := 5) (v := 6) (ty := 32) rfl _ _ q 32 _ _ rfl hr Try.underlying32 rfl (by rw [infoW']; rfl)) rfl ⟨(HR2.out (HN.out (by simp))).symm ▸ rfl, below_setRow E.out hqW _⟩
      · have g1 : decide ((1 : Int) ≤ (k : Int)) = false := decide_eq_false (by omega)
        have g1p : ¬ (1 : Int) ≤ (k : Int) := by omega
        go_upto_region 16 with fail
        go_wp2_with (refine wpList_store_row rfl 32 (.tmp 4) (.tmp 82) rfl q #[.bool false, .int .u64 0, .int .u64 0, .int .u64 0, .int .u64 0] rfl rfl 32 #[.bool false, .int .u64 0, .int .u64 0, .int .u64 0, .int .u64 0] P0.out (by rw [infoW']; rfl) rfl (wide_one' _ _ _ _ _) ?_)
        have hr := P0.out.setRow #[.bool false, .int .u64 0, .int .u64 0, .int .u64 0, .int .u64 0]
        exact bodyPost_ret (res_rw3 (p := 4) (u := 5) (v := 6) (ty := 32) rfl _ _ q 32 _ _ rfl hr Try.underlying32 rfl (by rw [infoW']; rfl)) rfl ⟨(HR2.out (HN.out (by simp))).symm ▸ rfl, below_setRow E.out hqW _⟩
    | true =>
      have hm := HT.out rfl
      have hkg : k < g.length := by rw [Hn.out]; omega
      have hyb : g.getD k 0 < 256 := hgb.out.get k
      have hdd := decB_drop hkg
      have hbw2 : b < wr.heap.size := Nat.lt_of_lt_of_le hbq E.out.size
      have hb2 : b ≠ q2 := by omega
      have dk0 := hide ((E.out.cell (p := ⟨b, off + k, none⟩) hbq).trans (Hcl.out k hkg))
      obtain ⟨y, hy⟩ : ∃ v, g.getD k 0 = v := ⟨_, rfl⟩
      rw [hy] at dk0 hyb hdd
      rw [← hm] at hdd
      have ew := w8 y hyb
      have hy7 : y % 128 < 128 := Nat.mod_lt _ (by omega)
      have ed := w8d (y % 128) hy7
      have e64 := w64 (y % 128) hy7
      have e64b := w64 (y % 128 / 2) (by omega)
      have KS0 := hide (fun w => v_shifted m 128 (y % 128) w HF.out (by omega) hy7)
      have KS1 := hide (fun w => v_shifted m 64 (y % 128 / 2) w HF.out (by omega) (by omega))
      obtain ⟨y7, hy7e⟩ : ∃ v, y % 128 = v := ⟨_, rfl⟩
      rw [hy7e] at ew ed e64 e64b KS0 KS1 hdd
      have et : (y : Int).tmod 128 = (y7 : Int) := by rw [Int.tmod_eq_emod_of_nonneg (by omega)]; omega
      obtain ⟨y6, hy6e⟩ : ∃ v, y7 / 2 = v := ⟨_, rfl⟩
      rw [hy6e] at ed e64b KS1
      have ed2 : IntKind.u8.wrap ((y7 : Int) / 2) = (y6 : Int) := by rw [← ed, Int.tdiv_eq_ediv_of_nonneg (by omega)]
      by_cases hk1 : 1 ≤ k
      · have g1 : decide ((1 : Int) ≤ (k : Int)) = true := decide_eq_true (by omega)
        have g1p : (1 : Int) ≤ (k : Int) := by omega
        have hnew : Hid (∀ v : Bool, decide (m * 128 + y7 < 115792089237316195423570985008687907853269984665640564039457584007913129639936) = v → (v = true → cutN (m * 128 + y7) = decB (g.drop (k - 1 + 1))) ∧ (v = false → ¬ C / 2 < 115792089237316195423570985008687907853269984665640564039457584007913129639936)) := fun v hv => by
          rw [show k - 1 + 1 = k by omega]
          constructor
          · intro h
            subst h
            have := of_decide_eq_true hv
            unfold cutN
            rw [if_pos this, hdd]; omega
          · intro h
            subst h
            have := of_decide_eq_false hv
            rw [← HC.out]
            exact big_of hk1 (by rw [Hn.out]; omega) (by rw [hdd]; omega)
        have hF2 := hide (cutN_f (m * 128 + y7))
        obtain ⟨m2, hm2⟩ : ∃ v, cutN (m * 128 + y7) = v := ⟨_, rfl⟩
        obtain ⟨o2, ho2⟩ : ∃ v, decide (m * 128 + y7 < 115792089237316195423570985008687907853269984665640564039457584007913129639936) = v := ⟨_, rfl⟩
        rw [hm2] at hnew hF2
        have KSh : Hid (∀ w, Calls Try.prog 74 #[.agg #[.bool (sg (m : Int)), .int .u64 (l0 (m : Int) : Int), .int .u64 (l1 (m : Int) : Int), .int .u64 (l2 (m : Int) : Int), .int .u64 (l3 (m : Int) : Int)], .int .i64 128, .int .u64 (y7 : Int)] w (Ret (.tuple #[.agg #[.bool (sg (m2 : Int)), .int .u64 (l0 (m2 : Int) : Int), .int .u64 (l1 (m2 : Int) : Int), .int .u64 (l2 (m2 : Int) : Int), .int .u64 (l3 (m2 : Int) : Int)], .bool o2]) w)) := by rw [← hm2, ← ho2]; exact KS0
        have hnew2 := hide (hnew.out o2 ho2)
        have ixk := fun w => idxV b off n c2 k (by omega) w
        have dk := dk0
        clear KS0 KS1 hdd hm hy hy7e hy6e hm2 ho2 hnew HT HN ed e64b hyb hkg
        go_upto_region 12 with fail
        have ltt : ∀ c, Tag.so c ∈ [Tag.q, Tag.q, Tag.q, Tag.q, Tag.q, Tag.q, Tag.q, Tag.q, Tag.q, Tag.q, Tag.q, Tag.so 0, Tag.q] → (fun _ => q2) c < wr.heap.size := by intro c hc; exact P10.out.lt
        refine wp_decl [.q, .q, .q, .q, .q, .q, .q, .q, .q, .q, .q, .so 0, .q] [.agg #[.bool (sg (m : Int)), .int .u64 (l0 (m : Int) : Int), .int .u64 (l1 (m : Int) : Int), .int .u64 (l2 (m : Int) : Int), .int .u64 (l3 (m : Int) : Int)], .slice (some ⟨b, off, none⟩) n c2, .int .i64 (k : Int), .pointer (some ⟨b, off + k, none⟩), .int .u8 (y : Int), .int .u8 (y7 : Int), .int .u64 (y7 : Int), .tuple #[.agg #[.bool (sg (m2 : Int)), .int .u64 (l0 (m2 : Int) : Int), .int .u64 (l1 (m2 : Int) : Int), .int .u64 (l2 (m2 : Int) : Int), .int .u64 (l3 (m2 : Int) : Int)], .bool o2], .tuple #[.agg #[.bool (sg (m2 : Int)), .int .u64 (l0 (m2 : Int) : Int), .int .u64 (l1 (m2 : Int) : Int), .int .u64 (l2 (m2 : Int) : Int), .int .u64 (l3 (m2 : Int) : Int)], .bool o2], .agg #[.bool (sg (m2 : Int)), .int .u64 (l0 (m2 : Int) : Int), .int .u64 (l1 (m2 : Int) : Int), .int .u64 (l2 (m2 : Int) : Int), .int .u64 (l3 (m2 : Int) : Int)], .bool o2, undef, .bool o2] (fun _ => (.cells #[.bool false, .int .u64 0, .int .u64 0, .int .u64 0, .int .u64 0] 32 (0, 0))) (fun _ => (.cells #[.bool (sg (m2 : Int)), .int .u64 (l0 (m2 : Int) : Int), .int .u64 (l1 (m2 : Int) : Int), .int .u64 (l2 (m2 : Int) : Int), .int .u64 (l3 (m2 : Int) : Int)] 32 (0, 0))) (fun _ => q2) (by kernel_rfl) (by kernel_rfl) (by kernel_rfl) rfl rfl ltt (by intro c c' h1 h2 h3; simp at h1 h2; omega) ?_ ?_
        · refine ⟨?_, ?_, ?_, ?_, ?_, ?_, ?_, ?_, ?_, ?_, ?_, ?_, ?_, trivial⟩
          · refine op_qa ?uvt0 ?h1t0 ?h2t0 ?h3t0
            case h1t0 => exact rfl
            case uvt0 => exact (.agg #[.bool (sg (m : Int)), .int .u64 (l0 (m : Int) : Int), .int .u64 (l1 (m : Int) : Int), .int .u64 (l2 (m : Int) : Int), .int .u64 (l3 (m : Int) : Int)])
            case h2t0 => exact rfl
            intro w' hw' hwa
            have P6 : Box w' q2 (sg (m : Int)) (l0 (m : Int)) (l1 (m : Int)) (l2 (m : Int)) (l3 (m : Int)) := (hwa 11 0 rfl (by kernel_rfl)).trans P10.out
            have xP6 := five_cells P6
            go_simp
          · refine op_q ?uvt1 ?h1t1 ?h2t1 ?h3t1
            case h1t1 => exact rfl
            case uvt1 => exact (.slice (some ⟨b, off, none⟩) n c2)
            case h2t1 => exact rfl
            intro w' hw'
            go_simp
          · refine op_q ?uvt2 ?h1t2 ?h2t2 ?h3t2
            case h1t2 => exact rfl
            case uvt2 => exact (.int .i64 (k : Int))
            case h2t2 => exact rfl
            intro w' hw'
            go_simp
          · refine op_q ?uvt3 ?h1t3 ?h2t3 ?h3t3
            case h1t3 => exact rfl
            case uvt3 => exact (.pointer (some ⟨b, off + k, none⟩))
            case h2t3 => exact rfl
            intro w' hw'
            go_simp
          · refine op_q ?uvt4 ?h1t4 ?h2t4 ?h3t4
            case h1t4 => exact rfl
            case uvt4 => exact (.int .u8 (y : Int))
            case h2t4 => exact rfl
            intro w' hw'
            have D5 : w'.cell? ⟨b, off + k, none⟩ = some (.int .u8 (y : Int)) := (World.cell?_of_block (a := ⟨b, off + k, none⟩) (hw'.2.2.2.2 b hbw2 (by intro c hc; simp at hc; (try subst hc); (try simp only); omega))).trans dk.out
            go_simp
          · refine op_q ?uvt5 ?h1t5 ?h2t5 ?h3t5
            case h1t5 => exact rfl
            case uvt5 => exact (.int .u8 (y7 : Int))
            case h2t5 => exact rfl
            intro w' hw'
            go_simp
          · refine op_q ?uvt6 ?h1t6 ?h2t6 ?h3t6
            case h1t6 => exact rfl
            case uvt6 => exact (.int .u64 (y7 : Int))
            case h2t6 => exact rfl
            intro w' hw'
            go_simp
          · refine op_q ?uvt7 ?h1t7 ?h2t7 ?h3t7
            case h1t7 => exact rfl
            case uvt7 => exact (.tuple #[.agg #[.bool (sg (m2 : Int)), .int .u64 (l0 (m2 : Int) : Int), .int .u64 (l1 (m2 : Int) : Int), .int .u64 (l2 (m2 : Int) : Int), .int .u64 (l3 (m2 : Int) : Int)], .bool o2])
            case h2t7 => exact rfl
            intro w' hw'
            go_simp
            exact KSh.out w'
          · refine op_q ?uvt8 ?h1t8 ?h2t8 ?h3t8
            case h1t8 => exact rfl
            case uvt8 => exact (.tuple #[.agg #[.bool (sg (m2 : Int)), .int .u64 (l0 (m2 : Int) : Int), .int .u64 (l1 (m2 : Int) : Int), .int .u64 (l2 (m2 : Int) : Int), .int .u64 (l3 (m2 : Int) : Int)], .bool o2])
            case h2t8 => exact rfl
            intro w' hw'
            go_simp
          · refine op_q ?uvt9 ?h1t9 ?h2t9 ?h3t9
            case h1t9 => exact rfl
            case uvt9 => exact (.agg #[.bool (sg (m2 : Int)), .int .u64 (l0 (m2 : Int) : Int), .int .u64 (l1 (m2 : Int) : Int), .int .u64 (l2 (m2 : Int) : Int), .int .u64 (l3 (m2 : Int) : Int)])
            case h2t9 => exact rfl
            intro w' hw'
            go_simp
          · refine op_q ?uvt10 ?h1t10 ?h2t10 ?h3t10
            case h1t10 => exact rfl
            case uvt10 => exact (.bool o2)
            case h2t10 => exact rfl
            intro w' hw'
            go_simp
          · refine op_so (c := 0) (T := ?uTt11) (p := ?upt11) (x := ?uxt11) ?ugt11 ?uft11 ?uvt11 ?h1t11 ?h2t11 ?h3t11 ?h4t11 ?h5t11 ?h6t11 ?h7t11
            case h1t11 => exact rfl
            case h2t11 => exact rfl
            case uft11 => exact (.cells #[.bool (sg (m2 : Int)), .int .u64 (l0 (m2 : Int) : Int), .int .u64 (l1 (m2 : Int) : Int), .int .u64 (l2 (m2 : Int) : Int), .int .u64 (l3 (m2 : Int) : Int)] 32 (0, 0))
            case ugt11 => exact q2
            case uvt11 => exact (.agg #[.bool (sg (m2 : Int)), .int .u64 (l0 (m2 : Int) : Int), .int .u64 (l1 (m2 : Int) : Int), .int .u64 (l2 (m2 : Int) : Int), .int .u64 (l3 (m2 : Int) : Int)])
            case h3t11 => exact rfl
            case h4t11 => exact rfl
            case h5t11 => go_simp; rfl
            case h6t11 => go_simp
            intro ρ w' hp hx hz
            exact store_wide rfl hp hx (hz.trans P10.out)
          · refine op_q ?uvt12 ?h1t12 ?h2t12 ?h3t12
            case h1t12 => exact rfl
            case uvt12 => exact (.bool o2)
            case h2t12 => exact rfl
            intro w' hw'
            go_simp
        · intro G w7 hI
          have hS := hI.same
          have E := hide (hS.ext' E.out (by intro c hc; simp at hc; (try subst hc); (try simp only); omega))
          have P0 : Hid (Blk w7 q 32 #[.bool false, .int .u64 0, .int .u64 0, .int .u64 0, .int .u64 0]) := hide (hS.block P0.out (by intro c hc; simp at hc; (try subst hc); (try simp only); omega))
          have P10 : Hid (Box w7 q2 (sg (m2 : Int)) (l0 (m2 : Int)) (l1 (m2 : Int)) (l2 (m2 : Int)) (l3 (m2 : Int))) := hide (hI.olds' 11 (List.mem_range.2 (show 11 < 13 by decide)) 0 rfl)
          have dk := hide ((World.cell?_of_block (a := ⟨b, off + k, none⟩) (hS.2.2.2.2 b hbw2 (by intro c hc; simp at hc; (try subst hc); (try simp only); omega))).trans dk.out)
          clear hI hS ltt KSh
          simp only [putAll, slotV, ptrTo, Nat.zero_add, Nat.reduceAdd]
          go_wp2_with fail
          go_roundw
          case rel => exact ⟨k - 1, m2, o2, by omega, by rw [show ((k - 1 : Nat) : Int) = (k : Int) - 1 by omega], rfl, P10, hF2, hide hnew2.out.1, hide hnew2.out.2, P0, E⟩
          case measure => simp [intOf]; omega
      · obtain rfl : k = 0 := by omega
        have hC2 : m * 64 + y6 = C / 2 := by
          rw [List.drop_zero] at hdd
          rw [← HC.out, hdd, ← hy6e]; omega
        have hpar : C % 2 = y % 2 := by
          rw [List.drop_zero] at hdd
          rw [← HC.out, hdd, ← hy7e]; omega
        rw [hC2] at KS1
        obtain ⟨m2, hm2⟩ : ∃ v, cutN (C / 2) = v := ⟨_, rfl⟩
        obtain ⟨o2, ho2⟩ : ∃ v, decide (C / 2 < 115792089237316195423570985008687907853269984665640564039457584007913129639936) = v := ⟨_, rfl⟩
        have KSh : Hid (∀ w, Calls Try.prog 74 #[.agg #[.bool (sg (m : Int)), .int .u64 (l0 (m : Int) : Int), .int .u64 (l1 (m : Int) : Int), .int .u64 (l2 (m : Int) : Int), .int .u64 (l3 (m : Int) : Int)], .int .i64 64, .int .u64 (y6 : Int)] w (Ret (.tuple #[.agg #[.bool (sg (m2 : Int)), .int .u64 (l0 (m2 : Int) : Int), .int .u64 (l1 (m2 : Int) : Int), .int .u64 (l2 (m2 : Int) : Int), .int .u64 (l3 (m2 : Int) : Int)], .bool o2]) w)) := by rw [← hm2, ← ho2]; exact KS1
        have ixk : ∀ w, (Instr.indexAt 22 (.slice (some ⟨b, off, none⟩) n c2) (.int .i64 0)).run Try.prog w = .ok (.pointer (some ⟨b, off, none⟩)) w := fun w => by have := idxV b off n c2 0 (by omega) w; simpa using this
        have dk : Hid (wr.cell? ⟨b, off, none⟩ = some (.int .u8 (y : Int))) := dk0
        have Hm2 := hide hm2
        have Hpar := hide hpar
        have Ho2 := hide ho2
        clear KS0 KS1 hdd hm hy hy7e hy6e hm2 ho2 HT HN hkg hC2 hpar e64 dk0
        go_upto_region 14 with fail
        have lts : ∀ c, Tag.so c ∈ [Tag.q, Tag.q, Tag.q, Tag.q, Tag.q, Tag.q, Tag.q, Tag.q, Tag.q, Tag.q, Tag.q, Tag.so 0, Tag.q] → (fun _ => q2) c < wr.heap.size := by intro c hc; exact P10.out.lt
        refine wp_decl [.q, .q, .q, .q, .q, .q, .q, .q, .q, .q, .q, .so 0, .q] [.agg #[.bool (sg (m : Int)), .int .u64 (l0 (m : Int) : Int), .int .u64 (l1 (m : Int) : Int), .int .u64 (l2 (m : Int) : Int), .int .u64 (l3 (m : Int) : Int)], .slice (some ⟨b, off, none⟩) n c2, .pointer (some ⟨b, off, none⟩), .int .u8 (y : Int), .int .u8 (y7 : Int), .int .u8 (y6 : Int), .int .u64 (y6 : Int), .tuple #[.agg #[.bool (sg (m2 : Int)), .int .u64 (l0 (m2 : Int) : Int), .int .u64 (l1 (m2 : Int) : Int), .int .u64 (l2 (m2 : Int) : Int), .int .u64 (l3 (m2 : Int) : Int)], .bool o2], .tuple #[.agg #[.bool (sg (m2 : Int)), .int .u64 (l0 (m2 : Int) : Int), .int .u64 (l1 (m2 : Int) : Int), .int .u64 (l2 (m2 : Int) : Int), .int .u64 (l3 (m2 : Int) : Int)], .bool o2], .agg #[.bool (sg (m2 : Int)), .int .u64 (l0 (m2 : Int) : Int), .int .u64 (l1 (m2 : Int) : Int), .int .u64 (l2 (m2 : Int) : Int), .int .u64 (l3 (m2 : Int) : Int)], .bool o2, undef, .bool o2] (fun _ => (.cells #[.bool false, .int .u64 0, .int .u64 0, .int .u64 0, .int .u64 0] 32 (0, 0))) (fun _ => (.cells #[.bool (sg (m2 : Int)), .int .u64 (l0 (m2 : Int) : Int), .int .u64 (l1 (m2 : Int) : Int), .int .u64 (l2 (m2 : Int) : Int), .int .u64 (l3 (m2 : Int) : Int)] 32 (0, 0))) (fun _ => q2) (by kernel_rfl) (by kernel_rfl) (by kernel_rfl) rfl rfl lts (by intro c c' h1 h2 h3; simp at h1 h2; omega) ?_ ?_
        · refine ⟨?_, ?_, ?_, ?_, ?_, ?_, ?_, ?_, ?_, ?_, ?_, ?_, ?_, trivial⟩
          · refine op_qa ?uvs0 ?h1s0 ?h2s0 ?h3s0
            case h1s0 => exact rfl
            case uvs0 => exact (.agg #[.bool (sg (m : Int)), .int .u64 (l0 (m : Int) : Int), .int .u64 (l1 (m : Int) : Int), .int .u64 (l2 (m : Int) : Int), .int .u64 (l3 (m : Int) : Int)])
            case h2s0 => exact rfl
            intro w' hw' hwa
            have P6 : Box w' q2 (sg (m : Int)) (l0 (m : Int)) (l1 (m : Int)) (l2 (m : Int)) (l3 (m : Int)) := (hwa 11 0 rfl (by kernel_rfl)).trans P10.out
            have xP6 := five_cells P6
            go_simp
          · refine op_q ?uvs1 ?h1s1 ?h2s1 ?h3s1
            case h1s1 => exact rfl
            case uvs1 => exact (.slice (some ⟨b, off, none⟩) n c2)
            case h2s1 => exact rfl
            intro w' hw'
            go_simp
          · refine op_q ?uvs2 ?h1s2 ?h2s2 ?h3s2
            case h1s2 => exact rfl
            case uvs2 => exact (.pointer (some ⟨b, off, none⟩))
            case h2s2 => exact rfl
            intro w' hw'
            go_simp
          · refine op_q ?uvs3 ?h1s3 ?h2s3 ?h3s3
            case h1s3 => exact rfl
            case uvs3 => exact (.int .u8 (y : Int))
            case h2s3 => exact rfl
            intro w' hw'
            have D5 : w'.cell? ⟨b, off, none⟩ = some (.int .u8 (y : Int)) := (World.cell?_of_block (a := ⟨b, off, none⟩) (hw'.2.2.2.2 b hbw2 (by intro c hc; simp at hc; (try subst hc); (try simp only); omega))).trans dk.out
            go_simp
          · refine op_q ?uvs4 ?h1s4 ?h2s4 ?h3s4
            case h1s4 => exact rfl
            case uvs4 => exact (.int .u8 (y7 : Int))
            case h2s4 => exact rfl
            intro w' hw'
            go_simp
          · refine op_q ?uvs5 ?h1s5 ?h2s5 ?h3s5
            case h1s5 => exact rfl
            case uvs5 => exact (.int .u8 (y6 : Int))
            case h2s5 => exact rfl
            intro w' hw'
            go_simp
          · refine op_q ?uvs6 ?h1s6 ?h2s6 ?h3s6
            case h1s6 => exact rfl
            case uvs6 => exact (.int .u64 (y6 : Int))
            case h2s6 => exact rfl
            intro w' hw'
            go_simp
          · refine op_q ?uvs7 ?h1s7 ?h2s7 ?h3s7
            case h1s7 => exact rfl
            case uvs7 => exact (.tuple #[.agg #[.bool (sg (m2 : Int)), .int .u64 (l0 (m2 : Int) : Int), .int .u64 (l1 (m2 : Int) : Int), .int .u64 (l2 (m2 : Int) : Int), .int .u64 (l3 (m2 : Int) : Int)], .bool o2])
            case h2s7 => exact rfl
            intro w' hw'
            go_simp
            exact KSh.out w'
          · refine op_q ?uvs8 ?h1s8 ?h2s8 ?h3s8
            case h1s8 => exact rfl
            case uvs8 => exact (.tuple #[.agg #[.bool (sg (m2 : Int)), .int .u64 (l0 (m2 : Int) : Int), .int .u64 (l1 (m2 : Int) : Int), .int .u64 (l2 (m2 : Int) : Int), .int .u64 (l3 (m2 : Int) : Int)], .bool o2])
            case h2s8 => exact rfl
            intro w' hw'
            go_simp
          · refine op_q ?uvs9 ?h1s9 ?h2s9 ?h3s9
            case h1s9 => exact rfl
            case uvs9 => exact (.agg #[.bool (sg (m2 : Int)), .int .u64 (l0 (m2 : Int) : Int), .int .u64 (l1 (m2 : Int) : Int), .int .u64 (l2 (m2 : Int) : Int), .int .u64 (l3 (m2 : Int) : Int)])
            case h2s9 => exact rfl
            intro w' hw'
            go_simp
          · refine op_q ?uvs10 ?h1s10 ?h2s10 ?h3s10
            case h1s10 => exact rfl
            case uvs10 => exact (.bool o2)
            case h2s10 => exact rfl
            intro w' hw'
            go_simp
          · refine op_so (c := 0) (T := ?uTs11) (p := ?ups11) (x := ?uxs11) ?ugs11 ?ufs11 ?uvs11 ?h1s11 ?h2s11 ?h3s11 ?h4s11 ?h5s11 ?h6s11 ?h7s11
            case h1s11 => exact rfl
            case h2s11 => exact rfl
            case ufs11 => exact (.cells #[.bool (sg (m2 : Int)), .int .u64 (l0 (m2 : Int) : Int), .int .u64 (l1 (m2 : Int) : Int), .int .u64 (l2 (m2 : Int) : Int), .int .u64 (l3 (m2 : Int) : Int)] 32 (0, 0))
            case ugs11 => exact q2
            case uvs11 => exact (.agg #[.bool (sg (m2 : Int)), .int .u64 (l0 (m2 : Int) : Int), .int .u64 (l1 (m2 : Int) : Int), .int .u64 (l2 (m2 : Int) : Int), .int .u64 (l3 (m2 : Int) : Int)])
            case h3s11 => exact rfl
            case h4s11 => exact rfl
            case h5s11 => go_simp; rfl
            case h6s11 => go_simp
            intro ρ w' hp hx hz
            exact store_wide rfl hp hx (hz.trans P10.out)
          · refine op_q ?uvs12 ?h1s12 ?h2s12 ?h3s12
            case h1s12 => exact rfl
            case uvs12 => exact (.bool o2)
            case h2s12 => exact rfl
            intro w' hw'
            go_simp
        · intro G w7 hI
          have hS := hI.same
          have E := hide (hS.ext' E.out (by intro c hc; simp at hc; (try subst hc); (try simp only); omega))
          have P0 : Hid (Blk w7 q 32 #[.bool false, .int .u64 0, .int .u64 0, .int .u64 0, .int .u64 0]) := hide (hS.block P0.out (by intro c hc; simp at hc; (try subst hc); (try simp only); omega))
          have P10 : Hid (Box w7 q2 (sg (m2 : Int)) (l0 (m2 : Int)) (l1 (m2 : Int)) (l2 (m2 : Int)) (l3 (m2 : Int))) := hide (hI.olds' 11 (List.mem_range.2 (show 11 < 13 by decide)) 0 rfl)
          have dk := hide ((World.cell?_of_block (a := ⟨b, off, none⟩) (hS.2.2.2.2 b hbw2 (by intro c hc; simp at hc; (try subst hc); (try simp only); omega))).trans dk.out)
          clear hI hS lts KSh
          simp only [putAll, slotV, ptrTo, Nat.zero_add, Nat.reduceAdd]
          cases o2 with
          | false =>
            have hno : ¬ C / 2 < 115792089237316195423570985008687907853269984665640564039457584007913129639936 := of_decide_eq_false Ho2.out
            go_upto_region 16 with fail
            go_wp2_with (refine wpList_store_row rfl 32 (.tmp 4) (.tmp 82) rfl q #[.bool false, .int .u64 0, .int .u64 0, .int .u64 0, .int .u64 0] rfl rfl 32 #[.bool false, .int .u64 0, .int .u64 0, .int .u64 0, .int .u64 0] P0.out (by rw [infoW']; rfl) rfl (wide_one' _ _ _ _ _) ?_)
            have hr := P0.out.setRow #[.bool false, .int .u64 0, .int .u64 0, .int .u64 0, .int .u64 0]
            exact bodyPost_ret (res_rw3 (p := 4) (u := 5) (v := 6) (ty := 32) rfl _ _ q 32 _ _ rfl hr Try.underlying32 rfl (by rw [infoW']; rfl)) rfl ⟨(HR2.out hno).symm ▸ rfl, below_setRow E.out hqW _⟩
          | true =>
            have hyes : C / 2 < 115792089237316195423570985008687907853269984665640564039457584007913129639936 := of_decide_eq_true Ho2.out
            have hmc : m2 = C / 2 := by rw [← Hm2.out]; unfold cutN; rw [if_pos hyes]
            have hF2 : F256 (m2 : Int) := by rw [← Hm2.out]; exact cutN_f _
            have HR1 := hide (HR1.out hyes)
            have dk1 := dk.out
            by_cases hp : y % 2 = 1
            · have p1 : ((y : Int) % 2 == 1) = true := by rw [beq_iff_eq]; omega
              have hu : -(m2 : Int) = unc C := by unfold unc; rw [if_pos (by rw [Hpar.out]; exact hp)]; omega
              obtain ⟨u, hue⟩ : ∃ v, unc C = v := ⟨_, rfl⟩
              rw [hue] at hu HR1
              have KNg : Hid (∀ w, Calls Try.prog 40 #[.agg #[.bool (sg (m2 : Int)), .int .u64 (l0 (m2 : Int) : Int), .int .u64 (l1 (m2 : Int) : Int), .int .u64 (l2 (m2 : Int) : Int), .int .u64 (l3 (m2 : Int) : Int)]] w (Ret (.agg #[.bool (sg u), .int .u64 (l0 u : Int), .int .u64 (l1 u : Int), .int .u64 (l2 u : Int), .int .u64 (l3 u : Int)]) w)) := fun w => d_neg hF2 hu w
              clear hue hu hyes hmc hF2 Hm2 Hpar Ho2 hp
              obtain ⟨k0, k1, k2, k3, k4, _⟩ := five_cells P10.out
              go_upto_region 19 with (go_at_call 40; (with_reducible refine (KNg.out _).mono ?_); rintro en w9 ⟨rfl, hE⟩; have P0 := hide (P0.out.ext hE); have P10b := hide (Box.ext P10.out hE); have E := hide (Ext.trans E.out hE); obtain ⟨k0, k1, k2, k3, k4, r0, r1, r2, r3, r4⟩ := five_cells P10b.out; clear hE)
              have P10c := Box.put (t := sg u) (a' := l0 u) (b' := l1 u) (c' := l2 u) (d' := l3 u) P10b.out
              have P0c := ((((P0.out.far (p := ⟨q2, 0, none⟩) (Nat.ne_of_lt hq12) (.bool (sg u))).far (p := ⟨q2, 1, none⟩) (Nat.ne_of_lt hq12) (.int .u64 (l0 u : Int))).far (p := ⟨q2, 2, none⟩) (Nat.ne_of_lt hq12) (.int .u64 (l1 u : Int))).far (p := ⟨q2, 3, none⟩) (Nat.ne_of_lt hq12) (.int .u64 (l2 u : Int))).far (p := ⟨q2, 4, none⟩) (Nat.ne_of_lt hq12) (.int .u64 (l3 u : Int))
              have Ec := Below.setCell (Below.setCell (Below.setCell (Below.setCell (Below.setCell E.out (p := ⟨q2, 0, none⟩) hq02 (.bool (sg u))) (p := ⟨q2, 1, none⟩) hq02 (.int .u64 (l0 u : Int))) (p := ⟨q2, 2, none⟩) hq02 (.int .u64 (l1 u : Int))) (p := ⟨q2, 3, none⟩) hq02 (.int .u64 (l2 u : Int))) (p := ⟨q2, 4, none⟩) hq02 (.int .u64 (l3 u : Int))
              obtain ⟨w10, hw10⟩ : ∃ w, (((((w9.setCell ⟨q2, 0, none⟩ (.bool (sg u))).setCell ⟨q2, 1, none⟩ (.int .u64 (l0 u : Int))).setCell ⟨q2, 2, none⟩ (.int .u64 (l1 u : Int))).setCell ⟨q2, 3, none⟩ (.int .u64 (l2 u : Int))).setCell ⟨q2, 4, none⟩ (.int .u64 (l3 u : Int))) = w := ⟨_, rfl⟩
              rw [hw10] at P10c P0c Ec ⊢
              have P10c := hide P10c
              have P0c := hide P0c
              have E : Hid (Ext W w10) := Ec
              clear hw10 k0 k1 k2 k3 k4 r0 r1 r2 r3 r4 P10b P10 P0 KNg
              go_wp2_with (first
                | (refine wpList_load_row rfl 32 (.tmp 10) rfl q2 rfl 32 #[.bool (sg u), .int .u64 (l0 u : Int), .int .u64 (l1 u : Int), .int .u64 (l2 u : Int), .int .u64 (l3 u : Int)] (0, 0) _ P10c.out Try.underlying32 rfl (by rw [infoW']; rfl) ?_)
                | (refine wpList_store_row rfl 32 (.tmp 4) (.tmp 90) rfl q #[.bool (sg u), .int .u64 (l0 u : Int), .int .u64 (l1 u : Int), .int .u64 (l2 u : Int), .int .u64 (l3 u : Int)] rfl rfl 32 #[.bool false, .int .u64 0, .int .u64 0, .int .u64 0, .int .u64 0] P0c.out (by rw [infoW']; rfl) rfl (wide_one' _ _ _ _ _) ?_))
              have hr := P0c.out.setRow #[.bool (sg u), .int .u64 (l0 u : Int), .int .u64 (l1 u : Int), .int .u64 (l2 u : Int), .int .u64 (l3 u : Int)]
              exact bodyPost_ret (res_rw3 (p := 4) (u := 5) (v := 6) (ty := 32) rfl _ _ q 32 _ _ rfl hr Try.underlying32 rfl (by rw [infoW']; rfl)) rfl ⟨HR1.out.symm ▸ rfl, below_setRow E.out hqW _⟩
            · have p1 : ((y : Int) % 2 == 1) = false := by rw [beq_eq_false_iff_ne]; omega
              have hu : (m2 : Int) = unc C := by unfold unc; rw [if_neg (by rw [Hpar.out]; exact hp)]; omega
              rw [← hu] at HR1
              clear hu hyes hmc hF2 Hm2 Hpar Ho2 hp
              go_wp2_with (first
                | (refine wpList_load_row rfl 32 (.tmp 10) rfl q2 rfl 32 #[.bool (sg (m2 : Int)), .int .u64 (l0 (m2 : Int) : Int), .int .u64 (l1 (m2 : Int) : Int), .int .u64 (l2 (m2 : Int) : Int), .int .u64 (l3 (m2 : Int) : Int)] (0, 0) _ P10.out Try.underlying32 rfl (by rw [infoW']; rfl) ?_)
                | (refine wpList_store_row rfl 32 (.tmp 4) (.tmp 90) rfl q #[.bool (sg (m2 : Int)), .int .u64 (l0 (m2 : Int) : Int), .int .u64 (l1 (m2 : Int) : Int), .int .u64 (l2 (m2 : Int) : Int), .int .u64 (l3 (m2 : Int) : Int)] rfl rfl 32 #[.bool false, .int .u64 0, .int .u64 0, .int .u64 0, .int .u64 0] P0.out (by rw [infoW']; rfl) rfl (wide_one' _ _ _ _ _) ?_))
              have hr := P0.out.setRow #[.bool (sg (m2 : Int)), .int .u64 (l0 (m2 : Int) : Int), .int .u64 (l1 (m2 : Int) : Int), .int .u64 (l2 (m2 : Int) : Int), .int .u64 (l3 (m2 : Int) : Int)]
              exact bodyPost_ret (res_rw3 (p := 4) (u := 5) (v := 6) (ty := 32) rfl _ _ q 32 _ _ rfl hr Try.underlying32 rfl (by rw [infoW']; rfl)) rfl ⟨HR1.out.symm ▸ rfl, below_setRow E.out hqW _⟩
set_option maxRecDepth 100000 in
set_option maxHeartbeats 16000000 in
theorem v_rwide_m1 (A : Option Addr) (c cap a : Nat) (W : World) (A2 : Option Addr) (c2 n x : Nat) (g : List Nat) (hK : ∀ w, Ext W w → Calls Try.prog 71 #[.slice A c cap, .int .i64 (a : Int), .int .i64 37] w (RetSame (.tuple #[.slice A2 n c2, .int .i64 0]) w)) (hb : BytesAt W A2 g) (hn : g.length = n) (hn1 : 1 ≤ n) (hn2 : n ≤ 37) (hx : g.getD (n - 1) 0 = x) (hgb0 : IsB g) (hac : a + n ≤ 4611686018427387904) (C : Nat) (hC : decB g = C) (h1 : x ≠ 0 ∧ x ≠ 1 ∧ n = 1) :
    Calls Try.prog 46 #[.slice A c cap, .int .i64 (a : Int)] W (Ret (rvR C a n) W) := by
  have HR1 : Hid (C / 2 < 115792089237316195423570985008687907853269984665640564039457584007913129639936 → rvR C a n = .tuple #[.agg #[.bool (sg (unc C)), .int .u64 (l0 (unc C) : Int), .int .u64 (l1 (unc C) : Int), .int .u64 (l2 (unc C) : Int), .int .u64 (l3 (unc C) : Int)], .int .i64 ((a : Int) + (n : Int)), .int .i64 0]) := fun h => if_pos h
  have HR2 : Hid (¬ C / 2 < 115792089237316195423570985008687907853269984665640564039457584007913129639936 → rvR C a n = .tuple #[.agg #[.bool false, .int .u64 0, .int .u64 0, .int .u64 0, .int .u64 0], .int .i64 0, .int .i64 5]) := fun h => if_neg h
  obtain ⟨RR, hRR⟩ : ∃ v, rvR C a n = v := ⟨_, rfl⟩
  rw [hRR] at HR1 HR2 ⊢
  have HC := hide hC
  have hgb := hide hgb0
  have E0 := ext_alloc W (.cells #[.bool false, .int .u64 0, .int .u64 0, .int .u64 0, .int .u64 0] 32)
  have P0 := Blk.new W 32 #[.bool false, .int .u64 0, .int .u64 0, .int .u64 0, .int .u64 0]
  obtain ⟨w1, hw1⟩ : ∃ w, W.alloc (.cells #[.bool false, .int .u64 0, .int .u64 0, .int .u64 0, .int .u64 0] 32) = w := ⟨_, rfl⟩
  rw [hw1] at E0 P0
  obtain ⟨q, hq⟩ : ∃ q, W.heap.size = q := ⟨_, rfl⟩
  rw [hq] at P0
  have Hw1 := hide hw1
  have Hq := hide hq
  have hqW : W.heap.size ≤ q := by rw [hq]; exact Nat.le_refl _
  have P0 := hide P0
  have E0 := hide E0
  clear hw1 hq
  obtain ⟨b, off, rfl, hbw, hcl⟩ := hb.2.2 (by omega)
  have D0 := hcl (n - 1) (by omega)
  rw [hx] at D0
  have ix0 := fun w => idxV b off n c2 (n - 1) (by omega) w
  rw [show ((n - 1 : Nat) : Int) = (n : Int) - 1 by omega] at ix0
  have Hbw := hide hbw
  have Hcl := hide hcl
  have hK := hide hK
  have Hn := hide hn
  have d0 : w1.cell? ⟨b, off + (n - 1), none⟩ = some (.int .u8 (x : Int)) := (E0.out.cell (p := ⟨b, off + (n - 1), none⟩) hbw).trans D0
  have f1 : ((x : Int) == 0) = false := by rw [beq_eq_false_iff_ne]; omega
  have f3 : ((n : Int) == 1) = true := by rw [beq_iff_eq]; omega
  have f4 : ((x : Int) == 1) = false := by rw [beq_eq_false_iff_ne]; omega
  clear hx hb hn hcl D0 h1 hC hgb0 hRR
  have N1 := Blk.new w1 32 #[.bool false, .int .u64 0, .int .u64 0, .int .u64 0, .int .u64 0]
  have P1 := N1.setRow #[.bool false, .int .u64 0, .int .u64 0, .int .u64 0, .int .u64 0]
  have P0' := rowoff' (g' := w1.heap.size) (P0.out.alloc (.cells #[.bool false, .int .u64 0, .int .u64 0, .int .u64 0, .int .u64 0] 32)) (by have := P0.out.lt; omega) #[.bool false, .int .u64 0, .int .u64 0, .int .u64 0, .int .u64 0]
  have E1 := below_setRow (g := w1.heap.size) (Ext.trans E0.out (ext_alloc w1 (.cells #[.bool false, .int .u64 0, .int .u64 0, .int .u64 0, .int .u64 0] 32))) E0.out.size #[.bool false, .int .u64 0, .int .u64 0, .int .u64 0, .int .u64 0]
  obtain ⟨w2, hw2⟩ : ∃ w, (w1.alloc (.cells #[.bool false, .int .u64 0, .int .u64 0, .int .u64 0, .int .u64 0] 32)).setRow w1.heap.size #[.bool false, .int .u64 0, .int .u64 0, .int .u64 0, .int .u64 0] = w := ⟨_, rfl⟩
  rw [hw2] at P1 P0' E1
  have hq12 := P0.out.lt
  have hq02 := E0.out.size
  obtain ⟨q2, hq2⟩ : ∃ g, w1.heap.size = g := ⟨_, rfl⟩
  rw [hq2] at P1 hq12 hq02
  have Hw2 := hide hw2
  have Hq2 := hide hq2
  have N1 := hide N1
  have P1 : Hid (Box w2 q2 (sg ((0 : Nat) : Int)) (l0 ((0 : Nat) : Int)) (l1 ((0 : Nat) : Int)) (l2 ((0 : Nat) : Int)) (l3 ((0 : Nat) : Int))) := P1
  have P0' := hide P0'
  have E1 : Hid (Ext W w2) := E1
  have hbq : b < W.heap.size := hbw
  clear hw2 hq2
  go_enter Try.func46, Try.ntmps46
  go_upto_region 1 with fail
  rw [Hw1.out, Hq.out]
  go_upto_region 7 with (go_at_call 71; (with_reducible refine (hK.out _ E0.out).mono ?_); rintro en w3 ⟨rfl, rfl⟩)
  go_upto_region 8 with (refine wpList_store_row rfl 32 (.tmp 10) (.tmp 46) rfl w1.heap.size #[.bool false, .int .u64 0, .int .u64 0, .int .u64 0, .int .u64 0] rfl rfl 32 #[.bool false, .int .u64 0, .int .u64 0, .int .u64 0, .int .u64 0] N1.out (by rw [infoW']; rfl) rfl (wide_one' _ _ _ _ _) ?_)
  rw [Hw2.out, Hq2.out]
  have P0 := P0'
  clear P0' d0 ix0 N1 Hw1 Hw2 E0
  go_wp2_with fail
  go_loopw [11, 12] (fun ov i wr => ∃ (k m : Nat) (ok : Bool), k + 1 ≤ n ∧ i = .int .i64 (k : Int) ∧ ov = .bool ok ∧ Hid (Box wr q2 (sg (m : Int)) (l0 (m : Int)) (l1 (m : Int)) (l2 (m : Int)) (l3 (m : Int))) ∧ Hid (F256 (m : Int)) ∧ Hid (ok = true → m = decB (g.drop (k + 1))) ∧ Hid (ok = false → ¬ C / 2 < 115792089237316195423570985008687907853269984665640564039457584007913129639936) ∧ Hid (Blk wr q 32 #[.bool false, .int .u64 0, .int .u64 0, .int .u64 0, .int .u64 0]) ∧ Hid (Ext W wr)) (fun _ i _ => (intOf i).toNat)
  case atStart => exact ⟨n - 1, 0, true, by omega, by rw [show ((n - 1 : Nat) : Int) = (n : Int) - 1 by omega], rfl, P1, hide (by unfold F256; omega), hide (fun _ => by rw [List.drop_of_length_le (by rw [Hn.out]; omega)]; rfl), hide (fun h => by cases h), P0, E1⟩
  case round =>
    clear P1 P0 E1
    obtain ⟨k, m, ok, hk, rfl, rfl, P10, HF, HT, HN, P0, E⟩ := hrel
    cases ok with
    | false =>
      by_cases hk1 : 1 ≤ k
      · have g1 : decide ((1 : Int) ≤ (k : Int)) = true := decide_eq_true (by omega)
        have g1p : (1 : Int) ≤ (k : Int) := by omega
        go_upto_region 16 with fail
        go_wp2_with (refine wpList_store_row rfl 32 (.tmp 4) (.tmp 82) rfl q #[.bool false, .int .u64 0, .int .u64 0, .int .u64 0, .int .u64 0] rfl rfl 32 #[.bool false, .int .u64 0, .int .u64 0, .int .u64 0, .int .u64 0] P0.out (by rw [infoW']; rfl) rfl (wide_one' _ _ _ _ _) ?_)
        have hr := P0.out.setRow #[.bool false, .int .u64 0, .int .u64 0, .int .u64 0, .int .u64 0]
        exact bodyPost_ret (res_rw3 (p := 4) (u := 5) (v := 6) (ty := 32) rfl _ _ q 32 _ _ rfl hr Try.underlying32 rfl (by rw [infoW']; rfl)) rfl ⟨(HR2.out (HN.out (by simp))).symm ▸ rfl, below_setRow E.out hqW _⟩
      · have g1 : decide ((1 : Int) ≤ (k : Int)) = false := decide_eq_false (by omega)
        have g1p : ¬ (1 : Int) ≤ (k : Int) := by omega
        go_upto_region 16 with fail
        go_wp2_with (refine wpList_store_row rfl 32 (.tmp 4) (.tmp 82) rfl q #[.bool false, .int .u64 0, .int .u64 0, .int .u64 0, .int .u64 0] rfl rfl 32 #[.bool false, .int .u64 0, .int .u64 0, .int .u64 0, .int .u64 0] P0.out (by rw [infoW']; rfl) rfl (wide_one' _ _ _ _ _) ?_)
        have hr := P0.out.setRow #[.bool false, .int .u64 0, .int .u64 0, .int .u64 0, .int .u64 0]
        exact bodyPost_ret (res_rw3 (p := 4) (u := 5) (v := 6) (ty := 32) rfl _ _ q 32 _ _ rfl hr Try.underlying32 rfl (by rw [infoW']; rfl)) rfl ⟨(HR2.out (HN.out (by simp))).symm ▸ rfl, below_setRow E.out hqW _⟩
    | true =>
      have hm := HT.out rfl
      have hkg : k < g.length := by rw [Hn.out]; omega
      have hyb : g.getD k 0 < 256 := hgb.out.get k
      have hdd := decB_drop hkg
      have hbw2 : b < wr.heap.size := Nat.lt_of_lt_of_le hbq E.out.size
      have hb2 : b ≠ q2 := by omega
      have dk0 := hide ((E.out.cell (p := ⟨b, off + k, none⟩) hbq).trans (Hcl.out k hkg))
      obtain ⟨y, hy⟩ : ∃ v, g.getD k 0 = v := ⟨_, rfl⟩
      rw [hy] at dk0 hyb hdd
      rw [← hm] at hdd
      have ew := w8 y hyb
      have hy7 : y % 128 < 128 := Nat.mod_lt _ (by omega)
      have ed := w8d (y % 128) hy7
      have e64 := w64 (y % 128) hy7
      have e64b := w64 (y % 128 / 2) (by omega)
      have KS0 := hide (fun w => v_shifted m 128 (y % 128) w HF.out (by omega) hy7)
      have KS1 := hide (fun w => v_shifted m 64 (y % 128 / 2) w HF.out (by omega) (by omega))
      obtain ⟨y7, hy7e⟩ : ∃ v, y % 128 = v := ⟨_, rfl⟩
      rw [hy7e] at ew ed e64 e64b KS0 KS1 hdd
      have et : (y : Int).tmod 128 = (y7 : Int) := by rw [Int.tmod_eq_emod_of_nonneg (by omega)]; omega
      obtain ⟨y6, hy6e⟩ : ∃ v, y7 / 2 = v := ⟨_, rfl⟩
      rw [hy6e] at ed e64b KS1
      have ed2 : IntKind.u8.wrap ((y7 : Int) / 2) = (y6 : Int) := by rw [← ed, Int.tdiv_eq_ediv_of_nonneg (by omega)]
      by_cases hk1 : 1 ≤ k
      · have g1 : decide ((1 : Int) ≤ (k : Int)) = true := decide_eq_true (by omega)
        have g1p : (1 : Int) ≤ (k : Int) := by omega
        have hnew : Hid (∀ v : Bool, decide (m * 128 + y7 < 115792089237316195423570985008687907853269984665640564039457584007913129639936) = v → (v = true → cutN (m * 128 + y7) = decB (g.drop (k - 1 + 1))) ∧ (v = false → ¬ C / 2 < 115792089237316195423570985008687907853269984665640564039457584007913129639936)) := fun v hv => by
          rw [show k - 1 + 1 = k by omega]
          constructor
          · intro h
            subst h
            have := of_decide_eq_true hv
            unfold cutN
            rw [if_pos this, hdd]; omega
          · intro h
            subst h
            have := of_decide_eq_false hv
            rw [← HC.out]
            exact big_of hk1 (by rw [Hn.out]; omega) (by rw [hdd]; omega)
        have hF2 := hide (cutN_f (m * 128 + y7))
        obtain ⟨m2, hm2⟩ : ∃ v, cutN (m * 128 + y7) = v := ⟨_, rfl⟩
        obtain ⟨o2, ho2⟩ : ∃ v, decide (m * 128 + y7 < 115792089237316195423570985008687907853269984665640564039457584007913129639936) = v := ⟨_, rfl⟩
        rw [hm2] at hnew hF2
        have KSh : Hid (∀ w, Calls Try.prog 74 #[.agg #[.bool (sg (m : Int)), .int .u64 (l0 (m : Int) : Int), .int .u64 (l1 (m : Int) : Int), .int .u64 (l2 (m : Int) : Int), .int .u64 (l3 (m : Int) : Int)], .int .i64 128, .int .u64 (y7 : Int)] w (Ret (.tuple #[.agg #[.bool (sg (m2 : Int)), .int .u64 (l0 (m2 : Int) : Int), .int .u64 (l1 (m2 : Int) : Int), .int .u64 (l2 (m2 : Int) : Int), .int .u64 (l3 (m2 : Int) : Int)], .bool o2]) w)) := by rw [← hm2, ← ho2]; exact KS0
        have hnew2 := hide (hnew.out o2 ho2)
        have ixk := fun w => idxV b off n c2 k (by omega) w
        have dk := dk0
        clear KS0 KS1 hdd hm hy hy7e hy6e hm2 ho2 hnew HT HN ed e64b hyb hkg
        go_upto_region 12 with fail
        have ltt : ∀ c, Tag.so c ∈ [Tag.q, Tag.q, Tag.q, Tag.q, Tag.q, Tag.q, Tag.q, Tag.q, Tag.q, Tag.q, Tag.q, Tag.so 0, Tag.q] → (fun _ => q2) c < wr.heap.size := by intro c hc; exact P10.out.lt
        refine wp_decl [.q, .q, .q, .q, .q, .q, .q, .q, .q, .q, .q, .so 0, .q] [.agg #[.bool (sg (m : Int)), .int .u64 (l0 (m : Int) : Int), .int .u64 (l1 (m : Int) : Int), .int .u64 (l2 (m : Int) : Int), .int .u64 (l3 (m : Int) : Int)], .slice (some ⟨b, off, none⟩) n c2, .int .i64 (k : Int), .pointer (some ⟨b, off + k, none⟩), .int .u8 (y : Int), .int .u8 (y7 : Int), .int .u64 (y7 : Int), .tuple #[.agg #[.bool (sg (m2 : Int)), .int .u64 (l0 (m2 : Int) : Int), .int .u64 (l1 (m2 : Int) : Int), .int .u64 (l2 (m2 : Int) : Int), .int .u64 (l3 (m2 : Int) : Int)], .bool o2], .tuple #[.agg #[.bool (sg (m2 : Int)), .int .u64 (l0 (m2 : Int) : Int), .int .u64 (l1 (m2 : Int) : Int), .int .u64 (l2 (m2 : Int) : Int), .int .u64 (l3 (m2 : Int) : Int)], .bool o2], .agg #[.bool (sg (m2 : Int)), .int .u64 (l0 (m2 : Int) : Int), .int .u64 (l1 (m2 : Int) : Int), .int .u64 (l2 (m2 : Int) : Int), .int .u64 (l3 (m2 : Int) : Int)], .bool o2, undef, .bool o2] (fun _ => (.cells #[.bool false, .int .u64 0, .int .u64 0, .int .u64 0, .int .u64 0] 32 (0, 0))) (fun _ => (.cells #[.bool (sg (m2 : Int)), .int .u64 (l0 (m2 : Int) : Int), .int .u64 (l1 (m2 : Int) : Int), .int .u64 (l2 (m2 : Int) : Int), .int .u64 (l3 (m2 : Int) : Int)] 32 (0, 0))) (fun _ => q2) (by kernel_rfl) (by kernel_rfl) (by kernel_rfl) rfl rfl ltt (by intro c c' h1 h2 h3; simp at h1 h2; omega) ?_ ?_
        · refine ⟨?_, ?_, ?_, ?_, ?_, ?_, ?_, ?_, ?_, ?_, ?_, ?_, ?_, trivial⟩
          · refine op_qa ?uvt0 ?h1t0 ?h2t0 ?h3t0
            case h1t0 => exact rfl
            case uvt0 => exact (.agg #[.bool (sg (m : Int)), .int .u64 (l0 (m : Int) : Int), .int .u64 (l1 (m : Int) : Int), .int .u64 (l2 (m : Int) : Int), .int .u64 (l3 (m : Int) : Int)])
            case h2t0 => exact rfl
            intro w' hw' hwa
            have P6 : Box w' q2 (sg (m : Int)) (l0 (m : Int)) (l1 (m : Int)) (l2 (m : Int)) (l3 (m : Int)) := (hwa 11 0 rfl (by kernel_rfl)).trans P10.out
            have xP6 := five_cells P6
            go_simp
          · refine op_q ?uvt1 ?h1t1 ?h2t1 ?h3t1
            case h1t1 => exact rfl
            case uvt1 => exact (.slice (some ⟨b, off, none⟩) n c2)
            case h2t1 => exact rfl
            intro w' hw'
            go_simp
          · refine op_q ?uvt2 ?h1t2 ?h2t2 ?h3t2
            case h1t2 => exact rfl
            case uvt2 => exact (.int .i64 (k : Int))
            case h2t2 => exact rfl
            intro w' hw'
            go_simp
          · refine op_q ?uvt3 ?h1t3 ?h2t3 ?h3t3
            case h1t3 => exact rfl
            case uvt3 => exact (.pointer (some ⟨b, off + k, none⟩))
            case h2t3 => exact rfl
            intro w' hw'
            go_simp
          · refine op_q ?uvt4 ?h1t4 ?h2t4 ?h3t4
            case h1t4 => exact rfl
            case uvt4 => exact (.int .u8 (y : Int))
            case h2t4 => exact rfl
            intro w' hw'
            have D5 : w'.cell? ⟨b, off + k, none⟩ = some (.int .u8 (y : Int)) := (World.cell?_of_block (a := ⟨b, off + k, none⟩) (hw'.2.2.2.2 b hbw2 (by intro c hc; simp at hc; (try subst hc); (try simp only); omega))).trans dk.out
            go_simp
          · refine op_q ?uvt5 ?h1t5 ?h2t5 ?h3t5
            case h1t5 => exact rfl
            case uvt5 => exact (.int .u8 (y7 : Int))
            case h2t5 => exact rfl
            intro w' hw'
            go_simp
          · refine op_q ?uvt6 ?h1t6 ?h2t6 ?h3t6
            case h1t6 => exact rfl
            case uvt6 => exact (.int .u64 (y7 : Int))
            case h2t6 => exact rfl
            intro w' hw'
            go_simp
          · refine op_q ?uvt7 ?h1t7 ?h2t7 ?h3t7
            case h1t7 => exact rfl
            case uvt7 => exact (.tuple #[.agg #[.bool (sg (m2 : Int)), .int .u64 (l0 (m2 : Int) : Int), .int .u64 (l1 (m2 : Int) : Int), .int .u64 (l2 (m2 : Int) : Int), .int .u64 (l3 (m2 : Int) : Int)], .bool o2])
            case h2t7 => exact rfl
            intro w' hw'
            go_simp
            exact KSh.out w'
          · refine op_q ?uvt8 ?h1t8 ?h2t8 ?h3t8
            case h1t8 => exact rfl
            case uvt8 => exact (.tuple #[.agg #[.bool (sg (m2 : Int)), .int .u64 (l0 (m2 : Int) : Int), .int .u64 (l1 (m2 : Int) : Int), .int .u64 (l2 (m2 : Int) : Int), .int .u64 (l3 (m2 : Int) : Int)], .bool o2])
            case h2t8 => exact rfl
            intro w' hw'
            go_simp
          · refine op_q ?uvt9 ?h1t9 ?h2t9 ?h3t9
            case h1t9 => exact rfl
            case uvt9 => exact (.agg #[.bool (sg (m2 : Int)), .int .u64 (l0 (m2 : Int) : Int), .int .u64 (l1 (m2 : Int) : Int), .int .u64 (l2 (m2 : Int) : Int), .int .u64 (l3 (m2 : Int) : Int)])
            case h2t9 => exact rfl
            intro w' hw'
            go_simp
          · refine op_q ?uvt10 ?h1t10 ?h2t10 ?h3t10
            case h1t10 => exact rfl
            case uvt10 => exact (.bool o2)
            case h2t10 => exact rfl
            intro w' hw'
            go_simp
          · refine op_so (c := 0) (T := ?uTt11) (p := ?upt11) (x := ?uxt11) ?ugt11 ?uft11 ?uvt11 ?h1t11 ?h2t11 ?h3t11 ?h4t11 ?h5t11 ?h6t11 ?h7t11
            case h1t11 => exact rfl
            case h2t11 => exact rfl
            case uft11 => exact (.cells #[.bool (sg (m2 : Int)), .int .u64 (l0 (m2 : Int) : Int), .int .u64 (l1 (m2 : Int) : Int), .int .u64 (l2 (m2 : Int) : Int), .int .u64 (l3 (m2 : Int) : Int)] 32 (0, 0))
            case ugt11 => exact q2
            case uvt11 => exact (.agg #[.bool (sg (m2 : Int)), .int .u64 (l0 (m2 : Int) : Int), .int .u64 (l1 (m2 : Int) : Int), .int .u64 (l2 (m2 : Int) : Int), .int .u64 (l3 (m2 : Int) : Int)])
            case h3t11 => exact rfl
            case h4t11 => exact rfl
            case h5t11 => go_simp; rfl
            case h6t11 => go_simp
            intro ρ w' hp hx hz
            exact store_wide rfl hp hx (hz.trans P10.out)
          · refine op_q ?uvt12 ?h1t12 ?h2t12 ?h3t12
            case h1t12 => exact rfl
            case uvt12 => exact (.bool o2)
            case h2t12 => exact rfl
            intro w' hw'
            go_simp
        · intro G w7 hI
          have hS := hI.same
          have E := hide (hS.ext' E.out (by intro c hc; simp at hc; (try subst hc); (try simp only); omega))
          have P0 : Hid (Blk w7 q 32 #[.bool false, .int .u64 0, .int .u64 0, .int .u64 0, .int .u64 0]) := hide (hS.block P0.out (by intro c hc; simp at hc; (try subst hc); (try simp only); omega))
          have P10 : Hid (Box w7 q2 (sg (m2 : Int)) (l0 (m2 : Int)) (l1 (m2 : Int)) (l2 (m2 : Int)) (l3 (m2 : Int))) := hide (hI.olds' 11 (List.mem_range.2 (show 11 < 13 by decide)) 0 rfl)
          have dk := hide ((World.cell?_of_block (a := ⟨b, off + k, none⟩) (hS.2.2.2.2 b hbw2 (by intro c hc; simp at hc; (try subst hc); (try simp only); omega))).trans dk.out)
          clear hI hS ltt KSh
          simp only [putAll, slotV, ptrTo, Nat.zero_add, Nat.reduceAdd]
          go_wp2_with fail
          go_roundw
          case rel => exact ⟨k - 1, m2, o2, by omega, by rw [show ((k - 1 : Nat) : Int) = (k : Int) - 1 by omega], rfl, P10, hF2, hide hnew2.out.1, hide hnew2.out.2, P0, E⟩
          case measure => simp [intOf]; omega
      · obtain rfl : k = 0 := by omega
        have hC2 : m * 64 + y6 = C / 2 := by
          rw [List.drop_zero] at hdd
          rw [← HC.out, hdd, ← hy6e]; omega
        have hpar : C % 2 = y % 2 := by
          rw [List.drop_zero] at hdd
          rw [← HC.out, hdd, ← hy7e]; omega
        rw [hC2] at KS1
        obtain ⟨m2, hm2⟩ : ∃ v, cutN (C / 2) = v := ⟨_, rfl⟩
        obtain ⟨o2, ho2⟩ : ∃ v, decide (C / 2 < 115792089237316195423570985008687907853269984665640564039457584007913129639936) = v := ⟨_, rfl⟩
        have KSh : Hid (∀ w, Calls Try.prog 74 #[.agg #[.bool (sg (m : Int)), .int .u64 (l0 (m : Int) : Int), .int .u64 (l1 (m : Int) : Int), .int .u64 (l2 (m : Int) : Int), .int .u64 (l3 (m : Int) : Int)], .int .i64 64, .int .u64 (y6 : Int)] w (Ret (.tuple #[.agg #[.bool (sg (m2 : Int)), .int .u64 (l0 (m2 : Int) : Int), .int .u64 (l1 (m2 : Int) : Int), .int .u64 (l2 (m2 : Int) : Int), .int .u64 (l3 (m2 : Int) : Int)], .bool o2]) w)) := by rw [← hm2, ← ho2]; exact KS1
        have ixk : ∀ w, (Instr.indexAt 22 (.slice (some ⟨b, off, none⟩) n c2) (.int .i64 0)).run Try.prog w = .ok (.pointer (some ⟨b, off, none⟩)) w := fun w => by have := idxV b off n c2 0 (by omega) w; simpa using this
        have dk : Hid (wr.cell? ⟨b, off, none⟩ = some (.int .u8 (y : Int))) := dk0
        have Hm2 := hide hm2
        have Hpar := hide hpar
        have Ho2 := hide ho2
        clear KS0 KS1 hdd hm hy hy7e hy6e hm2 ho2 HT HN hkg hC2 hpar e64 dk0
        go_upto_region 14 with fail
        have lts : ∀ c, Tag.so c ∈ [Tag.q, Tag.q, Tag.q, Tag.q, Tag.q, Tag.q, Tag.q, Tag.q, Tag.q, Tag.q, Tag.q, Tag.so 0, Tag.q] → (fun _ => q2) c < wr.heap.size := by intro c hc; exact P10.out.lt
        refine wp_decl [.q, .q, .q, .q, .q, .q, .q, .q, .q, .q, .q, .so 0, .q] [.agg #[.bool (sg (m : Int)), .int .u64 (l0 (m : Int) : Int), .int .u64 (l1 (m : Int) : Int), .int .u64 (l2 (m : Int) : Int), .int .u64 (l3 (m : Int) : Int)], .slice (some ⟨b, off, none⟩) n c2, .pointer (some ⟨b, off, none⟩), .int .u8 (y : Int), .int .u8 (y7 : Int), .int .u8 (y6 : Int), .int .u64 (y6 : Int), .tuple #[.agg #[.bool (sg (m2 : Int)), .int .u64 (l0 (m2 : Int) : Int), .int .u64 (l1 (m2 : Int) : Int), .int .u64 (l2 (m2 : Int) : Int), .int .u64 (l3 (m2 : Int) : Int)], .bool o2], .tuple #[.agg #[.bool (sg (m2 : Int)), .int .u64 (l0 (m2 : Int) : Int), .int .u64 (l1 (m2 : Int) : Int), .int .u64 (l2 (m2 : Int) : Int), .int .u64 (l3 (m2 : Int) : Int)], .bool o2], .agg #[.bool (sg (m2 : Int)), .int .u64 (l0 (m2 : Int) : Int), .int .u64 (l1 (m2 : Int) : Int), .int .u64 (l2 (m2 : Int) : Int), .int .u64 (l3 (m2 : Int) : Int)], .bool o2, undef, .bool o2] (fun _ => (.cells #[.bool false, .int .u64 0, .int .u64 0, .int .u64 0, .int .u64 0] 32 (0, 0))) (fun _ => (.cells #[.bool (sg (m2 : Int)), .int .u64 (l0 (m2 : Int) : Int), .int .u64 (l1 (m2 : Int) : Int), .int .u64 (l2 (m2 : Int) : Int), .int .u64 (l3 (m2 : Int) : Int)] 32 (0, 0))) (fun _ => q2) (by kernel_rfl) (by kernel_rfl) (by kernel_rfl) rfl rfl lts (by intro c c' h1 h2 h3; simp at h1 h2; omega) ?_ ?_
        · refine ⟨?_, ?_, ?_, ?_, ?_, ?_, ?_, ?_, ?_, ?_, ?_, ?_, ?_, trivial⟩
          · refine op_qa ?uvs0 ?h1s0 ?h2s0 ?h3s0
            case h1s0 => exact rfl
            case uvs0 => exact (.agg #[.bool (sg (m : Int)), .int .u64 (l0 (m : Int) : Int), .int .u64 (l1 (m : Int) : Int), .int .u64 (l2 (m : Int) : Int), .int .u64 (l3 (m : Int) : Int)])
            case h2s0 => exact rfl
            intro w' hw' hwa
            have P6 : Box w' q2 (sg (m : Int)) (l0 (m : Int)) (l1 (m : Int)) (l2 (m : Int)) (l3 (m : Int)) := (hwa 11 0 rfl (by kernel_rfl)).trans P10.out
            have xP6 := five_cells P6
            go_simp
          · refine op_q ?uvs1 ?h1s1 ?h2s1 ?h3s1
            case h1s1 => exact rfl
            case uvs1 => exact (.slice (some ⟨b, off, none⟩) n c2)
            case h2s1 => exact rfl
            intro w' hw'
            go_simp
          · refine op_q ?uvs2 ?h1s2 ?h2s2 ?h3s2
            case h1s2 => exact rfl
            case uvs2 => exact (.pointer (some ⟨b, off, none⟩))
            case h2s2 => exact rfl
            intro w' hw'
            go_simp
          · refine op_q ?uvs3 ?h1s3 ?h2s3 ?h3s3
            case h1s3 => exact rfl
            case uvs3 => exact (.int .u8 (y : Int))
            case h2s3 => exact rfl
            intro w' hw'
            have D5 : w'.cell? ⟨b, off, none⟩ = some (.int .u8 (y : Int)) := (World.cell?_of_block (a := ⟨b, off, none⟩) (hw'.2.2.2.2 b hbw2 (by intro c hc; simp at hc; (try subst hc); (try simp only); omega))).trans dk.out
            go_simp
          · refine op_q ?uvs4 ?h1s4 ?h2s4 ?h3s4
            case h1s4 => exact rfl
            case uvs4 => exact (.int .u8 (y7 : Int))
            case h2s4 => exact rfl
            intro w' hw'
            go_simp
          · refine op_q ?uvs5 ?h1s5 ?h2s5 ?h3s5
            case h1s5 => exact rfl
            case uvs5 => exact (.int .u8 (y6 : Int))
            case h2s5 => exact rfl
            intro w' hw'
            go_simp
          · refine op_q ?uvs6 ?h1s6 ?h2s6 ?h3s6
            case h1s6 => exact rfl
            case uvs6 => exact (.int .u64 (y6 : Int))
            case h2s6 => exact rfl
            intro w' hw'
            go_simp
          · refine op_q ?uvs7 ?h1s7 ?h2s7 ?h3s7
            case h1s7 => exact rfl
            case uvs7 => exact (.tuple #[.agg #[.bool (sg (m2 : Int)), .int .u64 (l0 (m2 : Int) : Int), .int .u64 (l1 (m2 : Int) : Int), .int .u64 (l2 (m2 : Int) : Int), .int .u64 (l3 (m2 : Int) : Int)], .bool o2])
            case h2s7 => exact rfl
            intro w' hw'
            go_simp
            exact KSh.out w'
          · refine op_q ?uvs8 ?h1s8 ?h2s8 ?h3s8
            case h1s8 => exact rfl
            case uvs8 => exact (.tuple #[.agg #[.bool (sg (m2 : Int)), .int .u64 (l0 (m2 : Int) : Int), .int .u64 (l1 (m2 : Int) : Int), .int .u64 (l2 (m2 : Int) : Int), .int .u64 (l3 (m2 : Int) : Int)], .bool o2])
            case h2s8 => exact rfl
            intro w' hw'
            go_simp
          · refine op_q ?uvs9 ?h1s9 ?h2s9 ?h3s9
            case h1s9 => exact rfl
            case uvs9 => exact (.agg #[.bool (sg (m2 : Int)), .int .u64 (l0 (m2 : Int) : Int), .int .u64 (l1 (m2 : Int) : Int), .int .u64 (l2 (m2 : Int) : Int), .int .u64 (l3 (m2 : Int) : Int)])
            case h2s9 => exact rfl
            intro w' hw'
            go_simp
          · refine op_q ?uvs10 ?h1s10 ?h2s10 ?h3s10
            case h1s10 => exact rfl
            case uvs10 => exact (.bool o2)
            case h2s10 => exact rfl
            intro w' hw'
            go_simp
          · refine op_so (c := 0) (T := ?uTs11) (p := ?ups11) (x := ?uxs11) ?ugs11 ?ufs11 ?uvs11 ?h1s11 ?h2s11 ?h3s11 ?h4s11 ?h5s11 ?h6s11 ?h7s11
            case h1s11 => exact rfl
            case h2s11 => exact rfl
            case ufs11 => exact (.cells #[.bool (sg (m2 : Int)), .int .u64 (l0 (m2 : Int) : Int), .int .u64 (l1 (m2 : Int) : Int), .int .u64 (l2 (m2 : Int) : Int), .int .u64 (l3 (m2 : Int) : Int)] 32 (0, 0))
            case ugs11 => exact q2
            case uvs11 => exact (.agg #[.bool (sg (m2 : Int)), .int .u64 (l0 (m2 : Int) : Int), .int .u64 (l1 (m2 : Int) : Int), .int .u64 (l2 (m2 : Int) : Int), .int .u64 (l3 (m2 : Int) : Int)])
            case h3s11 => exact rfl
            case h4s11 => exact rfl
            case h5s11 => go_simp; rfl
            case h6s11 => go_simp
            intro ρ w' hp hx hz
            exact store_wide rfl hp hx (hz.trans P10.out)
          · refine op_q ?uvs12 ?h1s12 ?h2s12 ?h3s12
            case h1s12 => exact rfl
            case uvs12 => exact (.bool o2)
            case h2s12 => exact rfl
            intro w' hw'
            go_simp
        · intro G w7 hI
          have hS := hI.same
          have E := hide (hS.ext' E.out (by intro c hc; simp at hc; (try subst hc); (try simp only); omega))
          have P0 : Hid (Blk w7 q 32 #[.bool false, .int .u64 0, .int .u64 0, .int .u64 0, .int .u64 0]) := hide (hS.block P0.out (by intro c hc; simp at hc; (try subst hc); (try simp only); omega))
          have P10 : Hid (Box w7 q2 (sg (m2 : Int)) (l0 (m2 : Int)) (l1 (m2 : Int)) (l2 (m2 : Int)) (l3 (m2 : Int))) := hide (hI.olds' 11 (List.mem_range.2 (show 11 < 13 by decide)) 0 rfl)
          have dk := hide ((World.cell?_of_block (a := ⟨b, off, none⟩) (hS.2.2.2.2 b hbw2 (by intro c hc; simp at hc; (try subst hc); (try simp only); omega))).trans dk.out)
          clear hI hS lts KSh
          simp only [putAll, slotV, ptrTo, Nat.zero_add, Nat.reduceAdd]
          cases o2 with
          | false =>
            have hno : ¬ C / 2 < 115792089237316195423570985008687907853269984665640564039457584007913129639936 := of_decide_eq_false Ho2.out
            go_upto_region 16 with fail
            go_wp2_with (refine wpList_store_row rfl 32 (.tmp 4) (.tmp 82) rfl q #[.bool false, .int .u64 0, .int .u64 0, .int .u64 0, .int .u64 0] rfl rfl 32 #[.bool false, .int .u64 0, .int .u64 0, .int .u64 0, .int .u64 0] P0.out (by rw [infoW']; rfl) rfl (wide_one' _ _ _ _ _) ?_)
            have hr := P0.out.setRow #[.bool false, .int .u64 0, .int .u64 0, .int .u64 0, .int .u64 0]
            exact bodyPost_ret (res_rw3 (p := 4) (u := 5) (v := 6) (ty := 32) rfl _ _ q 32 _ _ rfl hr Try.underlying32 rfl (by rw [infoW']; rfl)) rfl ⟨(HR2.out hno).symm ▸ rfl, below_setRow E.out hqW _⟩
          | true =>
            have hyes : C / 2 < 115792089237316195423570985008687907853269984665640564039457584007913129639936 := of_decide_eq_true Ho2.out
            have hmc : m2 = C / 2 := by rw [← Hm2.out]; unfold cutN; rw [if_pos hyes]
            have hF2 : F256 (m2 : Int) := by rw [← Hm2.out]; exact cutN_f _
            have HR1 := hide (HR1.out hyes)
            have dk1 := dk.out
            by_cases hp : y % 2 = 1
            · have p1 : ((y : Int) % 2 == 1) = true := by rw [beq_iff_eq]; omega
              have hu : -(m2 : Int) = unc C := by unfold unc; rw [if_pos (by rw [Hpar.out]; exact hp)]; omega
              obtain ⟨u, hue⟩ : ∃ v, unc C = v := ⟨_, rfl⟩
              rw [hue] at hu HR1
              have KNg : Hid (∀ w, Calls Try.prog 40 #[.agg #[.bool (sg (m2 : Int)), .int .u64 (l0 (m2 : Int) : Int), .int .u64 (l1 (m2 : Int) : Int), .int .u64 (l2 (m2 : Int) : Int), .int .u64 (l3 (m2 : Int) : Int)]] w (Ret (.agg #[.bool (sg u), .int .u64 (l0 u : Int), .int .u64 (l1 u : Int), .int .u64 (l2 u : Int), .int .u64 (l3 u : Int)]) w)) := fun w => d_neg hF2 hu w
              clear hue hu hyes hmc hF2 Hm2 Hpar Ho2 hp
              obtain ⟨k0, k1, k2, k3, k4, _⟩ := five_cells P10.out
              go_upto_region 19 with (go_at_call 40; (with_reducible refine (KNg.out _).mono ?_); rintro en w9 ⟨rfl, hE⟩; have P0 := hide (P0.out.ext hE); have P10b := hide (Box.ext P10.out hE); have E := hide (Ext.trans E.out hE); obtain ⟨k0, k1, k2, k3, k4, r0, r1, r2, r3, r4⟩ := five_cells P10b.out; clear hE)
              have P10c := Box.put (t := sg u) (a' := l0 u) (b' := l1 u) (c' := l2 u) (d' := l3 u) P10b.out
              have P0c := ((((P0.out.far (p := ⟨q2, 0, none⟩) (Nat.ne_of_lt hq12) (.bool (sg u))).far (p := ⟨q2, 1, none⟩) (Nat.ne_of_lt hq12) (.int .u64 (l0 u : Int))).far (p := ⟨q2, 2, none⟩) (Nat.ne_of_lt hq12) (.int .u64 (l1 u : Int))).far (p := ⟨q2, 3, none⟩) (Nat.ne_of_lt hq12) (.int .u64 (l2 u : Int))).far (p := ⟨q2, 4, none⟩) (Nat.ne_of_lt hq12) (.int .u64 (l3 u : Int))
              have Ec := Below.setCell (Below.setCell (Below.setCell (Below.setCell (Below.setCell E.out (p := ⟨q2, 0, none⟩) hq02 (.bool (sg u))) (p := ⟨q2, 1, none⟩) hq02 (.int .u64 (l0 u : Int))) (p := ⟨q2, 2, none⟩) hq02 (.int .u64 (l1 u : Int))) (p := ⟨q2, 3, none⟩) hq02 (.int .u64 (l2 u : Int))) (p := ⟨q2, 4, none⟩) hq02 (.int .u64 (l3 u : Int))
              obtain ⟨w10, hw10⟩ : ∃ w, (((((w9.setCell ⟨q2, 0, none⟩ (.bool (sg u))).setCell ⟨q2, 1, none⟩ (.int .u64 (l0 u : Int))).setCell ⟨q2, 2, none⟩ (.int .u64 (l1 u : Int))).setCell ⟨q2, 3, none⟩ (.int .u64 (l2 u : Int))).setCell ⟨q2, 4, none⟩ (.int .u64 (l3 u : Int))) = w := ⟨_, rfl⟩
              rw [hw10] at P10c P0c Ec ⊢
              have P10c := hide P10c
              have P0c := hide P0c
              have E : Hid (Ext W w10) := Ec
              clear hw10 k0 k1 k2 k3 k4 r0 r1 r2 r3 r4 P10b P10 P0 KNg
              go_wp2_with (first
                | (refine wpList_load_row rfl 32 (.tmp 10) rfl q2 rfl 32 #[.bool (sg u), .int .u64 (l0 u : Int), .int .u64 (l1 u : Int), .int .u64 (l2 u : Int), .int .u64 (l3 u : Int)] (0, 0) _ P10c.out Try.underlying32 rfl (by rw [infoW']; rfl) ?_)
                | (refine wpList_store_row rfl 32 (.tmp 4) (.tmp 90) rfl q #[.bool (sg u), .int .u64 (l0 u : Int), .int .u64 (l1 u : Int), .int .u64 (l2 u : Int), .int .u64 (l3 u : Int)] rfl rfl 32 #[.bool false, .int .u64 0, .int .u64 0, .int .u64 0, .int .u64 0] P0c.out (by rw [infoW']; rfl) rfl (wide_one' _ _ _ _ _) ?_))
              have hr := P0c.out.setRow #[.bool (sg u), .int .u64 (l0 u : Int), .int .u64 (l1 u : Int), .int .u64 (l2 u : Int), .int .u64 (l3 u : Int)]
              exact bodyPost_ret (res_rw3 (p := 4) (u := 5) (v := 6) (ty := 32) rfl _ _ q 32 _ _ rfl hr Try.underlying32 rfl (by rw [infoW']; rfl)) rfl ⟨HR1.out.symm ▸ rfl, below_setRow E.out hqW _⟩
            · have p1 : ((y : Int) % 2 == 1) = false := by rw [beq_eq_false_iff_ne]; omega
              have hu : (m2 : Int) = unc C := by unfold unc; rw [if_neg (by rw [Hpar.out]; exact hp)]; omega
              rw [← hu] at HR1
              clear hu hyes hmc hF2 Hm2 Hpar Ho2 hp
              go_wp2_with (first
                | (refine wpList_load_row rfl 32 (.tmp 10) rfl q2 rfl 32 #[.bool (sg (m2 : Int)), .int .u64 (l0 (m2 : Int) : Int), .int .u64 (l1 (m2 : Int) : Int), .int .u64 (l2 (m2 : Int) : Int), .int .u64 (l3 (m2 : Int) : Int)] (0, 0) _ P10.out Try.underlying32 rfl (by rw [infoW']; rfl) ?_)
                | (refine wpList_store_row rfl 32 (.tmp 4) (.tmp 90) rfl q #[.bool (sg (m2 : Int)), .int .u64 (l0 (m2 : Int) : Int), .int .u64 (l1 (m2 : Int) : Int), .int .u64 (l2 (m2 : Int) : Int), .int .u64 (l3 (m2 : Int) : Int)] rfl rfl 32 #[.bool false, .int .u64 0, .int .u64 0, .int .u64 0, .int .u64 0] P0.out (by rw [infoW']; rfl) rfl (wide_one' _ _ _ _ _) ?_))
              have hr := P0.out.setRow #[.bool (sg (m2 : Int)), .int .u64 (l0 (m2 : Int) : Int), .int .u64 (l1 (m2 : Int) : Int), .int .u64 (l2 (m2 : Int) : Int), .int .u64 (l3 (m2 : Int) : Int)]
              exact bodyPost_ret (res_rw3 (p := 4) (u := 5) (v := 6) (ty := 32) rfl _ _ q 32 _ _ rfl hr Try.underlying32 rfl (by rw [infoW']; rfl)) rfl ⟨HR1.out.symm ▸ rfl, below_setRow E.out hqW _⟩
set_option maxRecDepth 100000 in
set_option maxHeartbeats 16000000 in
theorem v_rwide_m2 (A : Option Addr) (c cap a : Nat) (W : World) (A2 : Option Addr) (c2 n x : Nat) (g : List Nat) (hK : ∀ w, Ext W w → Calls Try.prog 71 #[.slice A c cap, .int .i64 (a : Int), .int .i64 37] w (RetSame (.tuple #[.slice A2 n c2, .int .i64 0]) w)) (hb : BytesAt W A2 g) (hn : g.length = n) (hn1 : 1 ≤ n) (hn2 : n ≤ 37) (hx : g.getD (n - 1) 0 = x) (hgb0 : IsB g) (hac : a + n ≤ 4611686018427387904) (C : Nat) (hC : decB g = C) (h1 : x ≠ 0 ∧ n ≠ 1) :
    Calls Try.prog 46 #[.slice A c cap, .int .i64 (a : Int)] W (Ret (rvR C a n) W) := by
  have HR1 : Hid (C / 2 < 115792089237316195423570985008687907853269984665640564039457584007913129639936 → rvR C a n = .tuple #[.agg #[.bool (sg (unc C)), .int .u64 (l0 (unc C) : Int), .int .u64 (l1 (unc C) : Int), .int .u64 (l2 (unc C) : Int), .int .u64 (l3 (unc C) : Int)], .int .i64 ((a : Int) + (n : Int)), .int .i64 0]) := fun h => if_pos h
  have HR2 : Hid (¬ C / 2 < 115792089237316195423570985008687907853269984665640564039457584007913129639936 → rvR C a n = .tuple #[.agg #[.bool false, .int .u64 0, .int .u64 0, .int .u64 0, .int .u64 0], .int .i64 0, .int .i64 5]) := fun h => if_neg h
  obtain ⟨RR, hRR⟩ : ∃ v, rvR C a n = v := ⟨_, rfl⟩
  rw [hRR] at HR1 HR2 ⊢
  have HC := hide hC
  have hgb := hide hgb0
  have E0 := ext_alloc W (.cells #[.bool false, .int .u64 0, .int .u64 0, .int .u64 0, .int .u64 0] 32)
  have P0 := Blk.new W 32 #[.bool false, .int .u64 0, .int .u64 0, .int .u64 0, .int .u64 0]
  obtain ⟨w1, hw1⟩ : ∃ w, W.alloc (.cells #[.bool false, .int .u64 0, .int .u64 0, .int .u64 0, .int .u64 0] 32) = w := ⟨_, rfl⟩
  rw [hw1] at E0 P0
  obtain ⟨q, hq⟩ : ∃ q, W.heap.size = q := ⟨_, rfl⟩
  rw [hq] at P0
  have Hw1 := hide hw1
  have Hq := hide hq
  have hqW : W.heap.size ≤ q := by rw [hq]; exact Nat.le_refl _
  have P0 := hide P0
  have E0 := hide E0
  clear hw1 hq
  obtain ⟨b, off, rfl, hbw, hcl⟩ := hb.2.2 (by omega)
  have D0 := hcl (n - 1) (by omega)
  rw [hx] at D0
  have ix0 := fun w => idxV b off n c2 (n - 1) (by omega) w
  rw [show ((n - 1 : Nat) : Int) = (n : Int) - 1 by omega] at ix0
  have Hbw := hide hbw
  have Hcl := hide hcl
  have hK := hide hK
  have Hn := hide hn
  have d0 : w1.cell? ⟨b, off + (n - 1), none⟩ = some (.int .u8 (x : Int)) := (E0.out.cell (p := ⟨b, off + (n - 1), none⟩) hbw).trans D0
  have f1 : ((x : Int) == 0) = false := by rw [beq_eq_false_iff_ne]; omega
  have f3 : ((n : Int) == 1) = false := by rw [beq_eq_false_iff_ne]; omega
  clear hx hb hn hcl D0 h1 hC hgb0 hRR
  have N1 := Blk.new w1 32 #[.bool false, .int .u64 0, .int .u64 0, .int .u64 0, .int .u64 0]
  have P1 := N1.setRow #[.bool false, .int .u64 0, .int .u64 0, .int .u64 0, .int .u64 0]
  have P0' := rowoff' (g' := w1.heap.size) (P0.out.alloc (.cells #[.bool false, .int .u64 0, .int .u64 0, .int .u64 0, .int .u64 0] 32)) (by have := P0.out.lt; omega) #[.bool false, .int .u64 0, .int .u64 0, .int .u64 0, .int .u64 0]
  have E1 := below_setRow (g := w1.heap.size) (Ext.trans E0.out (ext_alloc w1 (.cells #[.bool false, .int .u64 0, .int .u64 0, .int .u64 0, .int .u64 0] 32))) E0.out.size #[.bool false, .int .u64 0, .int .u64 0, .int .u64 0, .int .u64 0]
  obtain ⟨w2, hw2⟩ : ∃ w, (w1.alloc (.cells #[.bool false, .int .u64 0, .int .u64 0, .int .u64 0, .int .u64 0] 32)).setRow w1.heap.size #[.bool false, .int .u64 0, .int .u64 0, .int .u64 0, .int .u64 0] = w := ⟨_, rfl⟩
  rw [hw2] at P1 P0' E1
  have hq12 := P0.out.lt
  have hq02 := E0.out.size
  obtain ⟨q2, hq2⟩ : ∃ g, w1.heap.size = g := ⟨_, rfl⟩
  rw [hq2] at P1 hq12 hq02
  have Hw2 := hide hw2
  have Hq2 := hide hq2
  have N1 := hide N1
  have P1 : Hid (Box w2 q2 (sg ((0 : Nat) : Int)) (l0 ((0 : Nat) : Int)) (l1 ((0 : Nat) : Int)) (l2 ((0 : Nat) : Int)) (l3 ((0 : Nat) : Int))) := P1
  have P0' := hide P0'
  have E1 : Hid (Ext W w2) := E1
  have hbq : b < W.heap.size := hbw
  clear hw2 hq2
  go_enter Try.func46, Try.ntmps46
  go_upto_region 1 with fail
  rw [Hw1.out, Hq.out]
  go_upto_region 7 with (go_at_call 71; (with_reducible refine (hK.out _ E0.out).mono ?_); rintro en w3 ⟨rfl, rfl⟩)
  go_upto_region 8 with (refine wpList_store_row rfl 32 (.tmp 10) (.tmp 46) rfl w1.heap.size #[.bool false, .int .u64 0, .int .u64 0, .int .u64 0, .int .u64 0] rfl rfl 32 #[.bool false, .int .u64 0, .int .u64 0, .int .u64 0, .int .u64 0] N1.out (by rw [infoW']; rfl) rfl (wide_one' _ _ _ _ _) ?_)
  rw [Hw2.out, Hq2.out]
  have P0 := P0'
  clear P0' d0 ix0 N1 Hw1 Hw2 E0
  go_wp2_with fail
  go_loopw [11, 12] (fun ov i wr => ∃ (k m : Nat) (ok : Bool), k + 1 ≤ n ∧ i = .int .i64 (k : Int) ∧ ov = .bool ok ∧ Hid (Box wr q2 (sg (m : Int)) (l0 (m : Int)) (l1 (m : Int)) (l2 (m : Int)) (l3 (m : Int))) ∧ Hid (F256 (m : Int)) ∧ Hid (ok = true → m = decB (g.drop (k + 1))) ∧ Hid (ok = false → ¬ C / 2 < 115792089237316195423570985008687907853269984665640564039457584007913129639936) ∧ Hid (Blk wr q 32 #[.bool false, .int .u64 0, .int .u64 0, .int .u64 0, .int .u64 0]) ∧ Hid (Ext W wr)) (fun _ i _ => (intOf i).toNat)
  case atStart => exact ⟨n - 1, 0, true, by omega, by rw [show ((n - 1 : Nat) : Int) = (n : Int) - 1 by omega], rfl, P1, hide (by unfold F256; omega), hide (fun _ => by rw [List.drop_of_length_le (by rw [Hn.out]; omega)]; rfl), hide (fun h => by cases h), P0, E1⟩
  case round =>
    clear P1 P0 E1
    obtain ⟨k, m, ok, hk, rfl, rfl, P10, HF, HT, HN, P0, E⟩ := hrel
    cases ok with
    | false =>
      by_cases hk1 : 1 ≤ k
      · have g1 : decide ((1 : Int) ≤ (k : Int)) = true := decide_eq_true (by omega)
        have g1p : (1 : Int) ≤ (k : Int) := by omega
        go_upto_region 16 with fail
        go_wp2_with (refine wpList_store_row rfl 32 (.tmp 4) (.tmp 82) rfl q #[.bool false, .int .u64 0, .int .u64 0, .int .u64 0, .int .u64 0] rfl rfl 32 #[.bool false, .int .u64 0, .int .u64 0, .int .u64 0, .int .u64 0] P0.out (by rw [infoW']; rfl) rfl (wide_one' _ _ _ _ _) ?_)
        have hr := P0.out.setRow #[.bool false, .int .u64 0, .int .u64 0, .int .u64 0, .int .u64 0]
        exact bodyPost_ret (res_rw3 (p := 4) (u := 5) (v := 6) (ty := 32) rfl _ _ q 32 _ _ rfl hr Try.underlying32 rfl (by rw [infoW']; rfl)) rfl ⟨(HR2.out (HN.out (by simp))).symm ▸ rfl, below_setRow E.out hqW _⟩
      · have g1 : decide ((1 : Int) ≤ (k : Int)) = false := decide_eq_false (by omega)
        have g1p : ¬ (1 : Int) ≤ (k : Int) := by omega
        go_upto_region 16 with fail
        go_wp2_with (refine wpList_store_row rfl 32 (.tmp 4) (.tmp 82) rfl q #[.bool false, .int .u64 0, .int .u64 0, .int .u64 0, .int .u64 0] rfl rfl 32 #[.bool false, .int .u64 0, .int .u64 0, .int .u64 0, .int .u64 0] P0.out (by rw [infoW']; rfl) rfl (wide_one' _ _ _ _ _) ?_)
        have hr := P0.out.setRow #[.bool false, .int .u64 0, .int .u64 0, .int .u64 0, .int .u64 0]
        exact bodyPost_ret (res_rw3 (p := 4) (u := 5) (v := 6) (ty := 32) rfl _ _ q 32 _ _ rfl hr Try.underlying32 rfl (by rw [infoW']; rfl)) rfl ⟨(HR2.out (HN.out (by simp))).symm ▸ rfl, below_setRow E.out hqW _⟩
    | true =>
      have hm := HT.out rfl
      have hkg : k < g.length := by rw [Hn.out]; omega
      have hyb : g.getD k 0 < 256 := hgb.out.get k
      have hdd := decB_drop hkg
      have hbw2 : b < wr.heap.size := Nat.lt_of_lt_of_le hbq E.out.size
      have hb2 : b ≠ q2 := by omega
      have dk0 := hide ((E.out.cell (p := ⟨b, off + k, none⟩) hbq).trans (Hcl.out k hkg))
      obtain ⟨y, hy⟩ : ∃ v, g.getD k 0 = v := ⟨_, rfl⟩
      rw [hy] at dk0 hyb hdd
      rw [← hm] at hdd
      have ew := w8 y hyb
      have hy7 : y % 128 < 128 := Nat.mod_lt _ (by omega)
      have ed := w8d (y % 128) hy7
      have e64 := w64 (y % 128) hy7
      have e64b := w64 (y % 128 / 2) (by omega)
      have KS0 := hide (fun w => v_shifted m 128 (y % 128) w HF.out (by omega) hy7)
      have KS1 := hide (fun w => v_shifted m 64 (y % 128 / 2) w HF.out (by omega) (by omega))
      obtain ⟨y7, hy7e⟩ : ∃ v, y % 128 = v := ⟨_, rfl⟩
      rw [hy7e] at ew ed e64 e64b KS0 KS1 hdd
      have et : (y : Int).tmod 128 = (y7 : Int) := by rw [Int.tmod_eq_emod_of_nonneg (by omega)]; omega
      obtain ⟨y6, hy6e⟩ : ∃ v, y7 / 2 = v := ⟨_, rfl⟩
      rw [hy6e] at ed e64b KS1
      have ed2 : IntKind.u8.wrap ((y7 : Int) / 2) = (y6 : Int) := by rw [← ed, Int.tdiv_eq_ediv_of_nonneg (by omega)]
      by_cases hk1 : 1 ≤ k
      · have g1 : decide ((1 : Int) ≤ (k : Int)) = true := decide_eq_true (by omega)
        have g1p : (1 : Int) ≤ (k : Int) := by omega
        have hnew : Hid (∀ v : Bool, decide (m * 128 + y7 < 115792089237316195423570985008687907853269984665640564039457584007913129639936) = v → (v = true → cutN (m * 128 + y7) = decB (g.drop (k - 1 + 1))) ∧ (v = false → ¬ C / 2 < 115792089237316195423570985008687907853269984665640564039457584007913129639936)) := fun v hv => by
          rw [show k - 1 + 1 = k by omega]
          constructor
          · intro h
            subst h
            have := of_decide_eq_true hv
            unfold cutN
            rw [if_pos this, hdd]; omega
          · intro h
            subst h
            have := of_decide_eq_false hv
            rw [← HC.out]
            exact big_of hk1 (by rw [Hn.out]; omega) (by rw [hdd]; omega)
        have hF2 := hide (cutN_f (m * 128 + y7))
        obtain ⟨m2, hm2⟩ : ∃ v, cutN (m * 128 + y7) = v := ⟨_, rfl⟩
        obtain ⟨o2, ho2⟩ : ∃ v, decide (m * 128 + y7 < 115792089237316195423570985008687907853269984665640564039457584007913129639936) = v := ⟨_, rfl⟩
        rw [hm2] at hnew hF2
        have KSh : Hid (∀ w, Calls Try.prog 74 #[.agg #[.bool (sg (m : Int)), .int .u64 (l0 (m : Int) : Int), .int .u64 (l1 (m : Int) : Int), .int .u64 (l2 (m : Int) : Int), .int .u64 (l3 (m : Int) : Int)], .int .i64 128, .int .u64 (y7 : Int)] w (Ret (.tuple #[.agg #[.bool (sg (m2 : Int)), .int .u64 (l0 (m2 : Int) : Int), .int .u64 (l1 (m2 : Int) : Int), .int .u64 (l2 (m2 : Int) : Int), .int .u64 (l3 (m2 : Int) : Int)], .bool o2]) w)) := by rw [← hm2, ← ho2]; exact KS0
        have hnew2 := hide (hnew.out o2 ho2)
        have ixk := fun w => idxV b off n c2 k (by omega) w
        have dk := dk0
        clear KS0 KS1 hdd hm hy hy7e hy6e hm2 ho2 hnew HT HN ed e64b hyb hkg
        go_upto_region 12 with fail
        have ltt : ∀ c, Tag.so c ∈ [Tag.q, Tag.q, Tag.q, Tag.q, Tag.q, Tag.q, Tag.q, Tag.q, Tag.q, Tag.q, Tag.q, Tag.so 0, Tag.q] → (fun _ => q2) c < wr.heap.size := by intro c hc; exact P10.out.lt
        refine wp_decl [.q, .q, .q, .q, .q, .q, .q, .q, .q, .q, .q, .so 0, .q] [.agg #[.bool (sg (m : Int)), .int .u64 (l0 (m : Int) : Int), .int .u64 (l1 (m : Int) : Int), .int .u64 (l2 (m : Int) : Int), .int .u64 (l3 (m : Int) : Int)], .slice (some ⟨b, off, none⟩) n c2, .int .i64 (k : Int), .pointer (some ⟨b, off + k, none⟩), .int .u8 (y : Int), .int .u8 (y7 : Int), .int .u64 (y7 : Int), .tuple #[.agg #[.bool (sg (m2 : Int)), .int .u64 (l0 (m2 : Int) : Int), .int .u64 (l1 (m2 : Int) : Int), .int .u64 (l2 (m2 : Int) : Int), .int .u64 (l3 (m2 : Int) : Int)], .bool o2], .tuple #[.agg #[.bool (sg (m2 : Int)), .int .u64 (l0 (m2 : Int) : Int), .int .u64 (l1 (m2 : Int) : Int), .int .u64 (l2 (m2 : Int) : Int), .int .u64 (l3 (m2 : Int) : Int)], .bool o2], .agg #[.bool (sg (m2 : Int)), .int .u64 (l0 (m2 : Int) : Int), .int .u64 (l1 (m2 : Int) : Int), .int .u64 (l2 (m2 : Int) : Int), .int .u64 (l3 (m2 : Int) : Int)], .bool o2, undef, .bool o2] (fun _ => (.cells #[.bool false, .int .u64 0, .int .u64 0, .int .u64 0, .int .u64 0] 32 (0, 0))) (fun _ => (.cells #[.bool (sg (m2 : Int)), .int .u64 (l0 (m2 : Int) : Int), .int .u64 (l1 (m2 : Int) : Int), .int .u64 (l2 (m2 : Int) : Int), .int .u64 (l3 (m2 : Int) : Int)] 32 (0, 0))) (fun _ => q2) (by kernel_rfl) (by kernel_rfl) (by kernel_rfl) rfl rfl ltt (by intro c c' h1 h2 h3; simp at h1 h2; omega) ?_ ?_
        · refine ⟨?_, ?_, ?_, ?_, ?_, ?_, ?_, ?_, ?_, ?_, ?_, ?_, ?_, trivial⟩
          · refine op_qa ?uvt0 ?h1t0 ?h2t0 ?h3t0
            case h1t0 => exact rfl
            case uvt0 => exact (.agg #[.bool (sg (m : Int)), .int .u64 (l0 (m : Int) : Int), .int .u64 (l1 (m : Int) : Int), .int .u64 (l2 (m : Int) : Int), .int .u64 (l3 (m : Int) : Int)])
            case h2t0 => exact rfl
            intro w' hw' hwa
            have P6 : Box w' q2 (sg (m : Int)) (l0 (m : Int)) (l1 (m : Int)) (l2 (m : Int)) (l3 (m : Int)) := (hwa 11 0 rfl (by kernel_rfl)).trans P10.out
            have xP6 := five_cells P6
            go_simp
          · refine op_q ?uvt1 ?h1t1 ?h2t1 ?h3t1
            case h1t1 => exact rfl
            case uvt1 => exact (.slice (some ⟨b, off, none⟩) n c2)
            case h2t1 => exact rfl
            intro w' hw'
            go_simp
          · refine op_q ?uvt2 ?h1t2 ?h2t2 ?h3t2
            case h1t2 => exact rfl
            case uvt2 => exact (.int .i64 (k : Int))
            case h2t2 => exact rfl
            intro w' hw'
            go_simp
          · refine op_q ?uvt3 ?h1t3 ?h2t3 ?h3t3
            case h1t3 => exact rfl
            case uvt3 => exact (.pointer (some ⟨b, off + k, none⟩))
            case h2t3 => exact rfl
            intro w' hw'
            go_simp
          · refine op_q ?uvt4 ?h1t4 ?h2t4 ?h3t4
            case h1t4 => exact rfl
            case uvt4 => exact (.int .u8 (y : Int))
            case h2t4 => exact rfl
            intro w' hw'
            have D5 : w'.cell? ⟨b, off + k, none⟩ = some (.int .u8 (y : Int)) := (World.cell?_of_block (a := ⟨b, off + k, none⟩) (hw'.2.2.2.2 b hbw2 (by intro c hc; simp at hc; (try subst hc); (try simp only); omega))).trans dk.out
            go_simp
          · refine op_q ?uvt5 ?h1t5 ?h2t5 ?h3t5
            case h1t5 => exact rfl
            case uvt5 => exact (.int .u8 (y7 : Int))
            case h2t5 => exact rfl
            intro w' hw'
            go_simp
          · refine op_q ?uvt6 ?h1t6 ?h2t6 ?h3t6
            case h1t6 => exact rfl
            case uvt6 => exact (.int .u64 (y7 : Int))
            case h2t6 => exact rfl
            intro w' hw'
            go_simp
          · refine op_q ?uvt7 ?h1t7 ?h2t7 ?h3t7
            case h1t7 => exact rfl
            case uvt7 => exact (.tuple #[.agg #[.bool (sg (m2 : Int)), .int .u64 (l0 (m2 : Int) : Int), .int .u64 (l1 (m2 : Int) : Int), .int .u64 (l2 (m2 : Int) : Int), .int .u64 (l3 (m2 : Int) : Int)], .bool o2])
            case h2t7 => exact rfl
            intro w' hw'
            go_simp
            exact KSh.out w'
          · refine op_q ?uvt8 ?h1t8 ?h2t8 ?h3t8
            case h1t8 => exact rfl
            case uvt8 => exact (.tuple #[.agg #[.bool (sg (m2 : Int)), .int .u64 (l0 (m2 : Int) : Int), .int .u64 (l1 (m2 : Int) : Int), .int .u64 (l2 (m2 : Int) : Int), .int .u64 (l3 (m2 : Int) : Int)], .bool o2])
            case h2t8 => exact rfl
            intro w' hw'
            go_simp
          · refine op_q ?uvt9 ?h1t9 ?h2t9 ?h3t9
            case h1t9 => exact rfl
            case uvt9 => exact (.agg #[.bool (sg (m2 : Int)), .int .u64 (l0 (m2 : Int) : Int), .int .u64 (l1 (m2 : Int) : Int), .int .u64 (l2 (m2 : Int) : Int), .int .u64 (l3 (m2 : Int) : Int)])
            case h2t9 => exact rfl
            intro w' hw'
            go_simp
          · refine op_q ?uvt10 ?h1t10 ?h2t10 ?h3t10
            case h1t10 => exact rfl
            case uvt10 => exact (.bool o2)
            case h2t10 => exact rfl
            intro w' hw'
            go_simp
          · refine op_so (c := 0) (T := ?uTt11) (p := ?upt11) (x := ?uxt11) ?ugt11 ?uft11 ?uvt11 ?h1t11 ?h2t11 ?h3t11 ?h4t11 ?h5t11 ?h6t11 ?h7t11
            case h1t11 => exact rfl
            case h2t11 => exact rfl
            case uft11 => exact (.cells #[.bool (sg (m2 : Int)), .int .u64 (l0 (m2 : Int) : Int), .int .u64 (l1 (m2 : Int) : Int), .int .u64 (l2 (m2 : Int) : Int), .int .u64 (l3 (m2 : Int) : Int)] 32 (0, 0))
            case ugt11 => exact q2
            case uvt11 => exact (.agg #[.bool (sg (m2 : Int)), .int .u64 (l0 (m2 : Int) : Int), .int .u64 (l1 (m2 : Int) : Int), .int .u64 (l2 (m2 : Int) : Int), .int .u64 (l3 (m2 : Int) : Int)])
            case h3t11 => exact rfl
            case h4t11 => exact rfl
            case h5t11 => go_simp; rfl
            case h6t11 => go_simp
            intro ρ w' hp hx hz
            exact store_wide rfl hp hx (hz.trans P10.out)
          · refine op_q ?uvt12 ?h1t12 ?h2t12 ?h3t12
            case h1t12 => exact rfl
            case uvt12 => exact (.bool o2)
            case h2t12 => exact rfl
            intro w' hw'
            go_simp
        · intro G w7 hI
          have hS := hI.same
          have E := hide (hS.ext' E.out (by intro c hc; simp at hc; (try subst hc); (try simp only); omega))
          have P0 : Hid (Blk w7 q 32 #[.bool false, .int .u64 0, .int .u64 0, .int .u64 0, .int .u64 0]) := hide (hS.block P0.out (by intro c hc; simp at hc; (try subst hc); (try simp only); omega))
          have P10 : Hid (Box w7 q2 (sg (m2 : Int)) (l0 (m2 : Int)) (l1 (m2 : Int)) (l2 (m2 : Int)) (l3 (m2 : Int))) := hide (hI.olds' 11 (List.mem_range.2 (show 11 < 13 by decide)) 0 rfl)
          have dk := hide ((World.cell?_of_block (a := ⟨b, off + k, none⟩) (hS.2.2.2.2 b hbw2 (by intro c hc; simp at hc; (try subst hc); (try simp only); omega))).trans dk.out)
          clear hI hS ltt KSh
          simp only [putAll, slotV, ptrTo, Nat.zero_add, Nat.reduceAdd]
          go_wp2_with fail
          go_roundw
          case rel => exact ⟨k - 1, m2, o2, by omega, by rw [show ((k - 1 : Nat) : Int) = (k : Int) - 1 by omega], rfl, P10, hF2, hide hnew2.out.1, hide hnew2.out.2, P0, E⟩
          case measure => simp [intOf]; omega
      · obtain rfl : k = 0 := by omega
        have hC2 : m * 64 + y6 = C / 2 := by
          rw [List.drop_zero] at hdd
          rw [← HC.out, hdd, ← hy6e]; omega
        have hpar : C % 2 = y % 2 := by
          rw [List.drop_zero] at hdd
          rw [← HC.out, hdd, ← hy7e]; omega
        rw [hC2] at KS1
        obtain ⟨m2, hm2⟩ : ∃ v, cutN (C / 2) = v := ⟨_, rfl⟩
        obtain ⟨o2, ho2⟩ : ∃ v, decide (C / 2 < 115792089237316195423570985008687907853269984665640564039457584007913129639936) = v := ⟨_, rfl⟩
        have KSh : Hid (∀ w, Calls Try.prog 74 #[.agg #[.bool (sg (m : Int)), .int .u64 (l0 (m : Int) : Int), .int .u64 (l1 (m : Int) : Int), .int .u64 (l2 (m : Int) : Int), .int .u64 (l3 (m : Int) : Int)], .int .i64 64, .int .u64 (y6 : Int)] w (Ret (.tuple #[.agg #[.bool (sg (m2 : Int)), .int .u64 (l0 (m2 : Int) : Int), .int .u64 (l1 (m2 : Int) : Int), .int .u64 (l2 (m2 : Int) : Int), .int .u64 (l3 (m2 : Int) : Int)], .bool o2]) w)) := by rw [← hm2, ← ho2]; exact KS1
        have ixk : ∀ w, (Instr.indexAt 22 (.slice (some ⟨b, off, none⟩) n c2) (.int .i64 0)).run Try.prog w = .ok (.pointer (some ⟨b, off, none⟩)) w := fun w => by have := idxV b off n c2 0 (by omega) w; simpa using this
        have dk : Hid (wr.cell? ⟨b, off, none⟩ = some (.int .u8 (y : Int))) := dk0
        have Hm2 := hide hm2
        have Hpar := hide hpar
        have Ho2 := hide ho2
        clear KS0 KS1 hdd hm hy hy7e hy6e hm2 ho2 HT HN hkg hC2 hpar e64 dk0
        go_upto_region 14 with fail
        have lts : ∀ c, Tag.so c ∈ [Tag.q, Tag.q, Tag.q, Tag.q, Tag.q, Tag.q, Tag.q, Tag.q, Tag.q, Tag.q, Tag.q, Tag.so 0, Tag.q] → (fun _ => q2) c < wr.heap.size := by intro c hc; exact P10.out.lt
        refine wp_decl [.q, .q, .q, .q, .q, .q, .q, .q, .q, .q, .q, .so 0, .q] [.agg #[.bool (sg (m : Int)), .int .u64 (l0 (m : Int) : Int), .int .u64 (l1 (m : Int) : Int), .int .u64 (l2 (m : Int) : Int), .int .u64 (l3 (m : Int) : Int)], .slice (some ⟨b, off, none⟩) n c2, .pointer (some ⟨b, off, none⟩), .int .u8 (y : Int), .int .u8 (y7 : Int), .int .u8 (y6 : Int), .int .u64 (y6 : Int), .tuple #[.agg #[.bool (sg (m2 : Int)), .int .u64 (l0 (m2 : Int) : Int), .int .u64 (l1 (m2 : Int) : Int), .int .u64 (l2 (m2 : Int) : Int), .int .u64 (l3 (m2 : Int) : Int)], .bool o2], .tuple #[.agg #[.bool (sg (m2 : Int)), .int .u64 (l0 (m2 : Int) : Int), .int .u64 (l1 (m2 : Int) : Int), .int .u64 (l2 (m2 : Int) : Int), .int .u64 (l3 (m2 : Int) : Int)], .bool o2], .agg #[.bool (sg (m2 : Int)), .int .u64 (l0 (m2 : Int) : Int), .int .u64 (l1 (m2 : Int) : Int), .int .u64 (l2 (m2 : Int) : Int), .int .u64 (l3 (m2 : Int) : Int)], .bool o2, undef, .bool o2] (fun _ => (.cells #[.bool false, .int .u64 0, .int .u64 0, .int .u64 0, .int .u64 0] 32 (0, 0))) (fun _ => (.cells #[.bool (sg (m2 : Int)), .int .u64 (l0 (m2 : Int) : Int), .int .u64 (l1 (m2 : Int) : Int), .int .u64 (l2 (m2 : Int) : Int), .int .u64 (l3 (m2 : Int) : Int)] 32 (0, 0))) (fun _ => q2) (by kernel_rfl) (by kernel_rfl) (by kernel_rfl) rfl rfl lts (by intro c c' h1 h2 h3; simp at h1 h2; omega) ?_ ?_
        · refine ⟨?_, ?_, ?_, ?_, ?_, ?_, ?_, ?_, ?_, ?_, ?_, ?_, ?_, trivial⟩
          · refine op_qa ?uvs0 ?h1s0 ?h2s0 ?h3s0
            case h1s0 => exact rfl
            case uvs0 => exact (.agg #[.bool (sg (m : Int)), .int .u64 (l0 (m : Int) : Int), .int .u64 (l1 (m : Int) : Int), .int .u64 (l2 (m : Int) : Int), .int .u64 (l3 (m : Int) : Int)])
            case h2s0 => exact rfl
            intro w' hw' hwa
            have P6 : Box w' q2 (sg (m : Int)) (l0 (m : Int)) (l1 (m : Int)) (l2 (m : Int)) (l3 (m : Int)) := (hwa 11 0 rfl (by kernel_rfl)).trans P10.out
            have xP6 := five_cells P6
            go_simp
          · refine op_q ?uvs1 ?h1s1 ?h2s1 ?h3s1
            case h1s1 => exact rfl
            case uvs1 => exact (.slice (some ⟨b, off, none⟩) n c2)
            case h2s1 => exact rfl
            intro w' hw'
            go_simp
          · refine op_q ?uvs2 ?h1s2 ?h2s2 ?h3s2
            case h1s2 => exact rfl
            case uvs2 => exact (.pointer (some ⟨b, off, none⟩))
            case h2s2 => exact rfl
            intro w' hw'
            go_simp
          · refine op_q ?uvs3 ?h1s3 ?h2s3 ?h3s3
            case h1s3 => exact rfl
            case uvs3 => exact (.int .u8 (y : Int))
            case h2s3 => exact rfl
            intro w' hw'
            have D5 : w'.cell? ⟨b, off, none⟩ = some (.int .u8 (y : Int)) := (World.cell?_of_block (a := ⟨b, off, none⟩) (hw'.2.2.2.2 b hbw2 (by intro c hc; simp at hc; (try subst hc); (try simp only); omega))).trans dk.out
            go_simp
          · refine op_q ?uvs4 ?h1s4 ?h2s4 ?h3s4
            case h1s4 => exact rfl
            case uvs4 => exact (.int .u8 (y7 : Int))
            case h2s4 => exact rfl
            intro w' hw'
            go_simp
          · refine op_q ?uvs5 ?h1s5 ?h2s5 ?h3s5
            case h1s5 => exact rfl
            case uvs5 => exact (.int .u8 (y6 : Int))
            case h2s5 => exact rfl
            intro w' hw'
            go_simp
          · refine op_q ?uvs6 ?h1s6 ?h2s6 ?h3s6
            case h1s6 => exact rfl
            case uvs6 => exact (.int .u64 (y6 : Int))
            case h2s6 => exact rfl
            intro w' hw'
            go_simp
          · refine op_q ?uvs7 ?h1s7 ?h2s7 ?h3s7
            case h1s7 => exact rfl
            case uvs7 => exact (.tuple #[.agg #[.bool (sg (m2 : Int)), .int .u64 (l0 (m2 : Int) : Int), .int .u64 (l1 (m2 : Int) : Int), .int .u64 (l2 (m2 : Int) : Int), .int .u64 (l3 (m2 : Int) : Int)], .bool o2])
            case h2s7 => exact rfl
            intro w' hw'
            go_simp
            exact KSh.out w'
          · refine op_q ?uvs8 ?h1s8 ?h2s8 ?h3s8
            case h1s8 => exact rfl
            case uvs8 => exact (.tuple #[.agg #[.bool (sg (m2 : Int)), .int .u64 (l0 (m2 : Int) : Int), .int .u64 (l1 (m2 : Int) : Int), .int .u64 (l2 (m2 : Int) : Int), .int .u64 (l3 (m2 : Int) : Int)], .bool o2])
            case h2s8 => exact rfl
            intro w' hw'
            go_simp
          · refine op_q ?uvs9 ?h1s9 ?h2s9 ?h3s9
            case h1s9 => exact rfl
            case uvs9 => exact (.agg #[.bool (sg (m2 : Int)), .int .u64 (l0 (m2 : Int) : Int), .int .u64 (l1 (m2 : Int) : Int), .int .u64 (l2 (m2 : Int) : Int), .int .u64 (l3 (m2 : Int) : Int)])
            case h2s9 => exact rfl
            intro w' hw'
            go_simp
          · refine op_q ?uvs10 ?h1s10 ?h2s10 ?h3s10
            case h1s10 => exact rfl
            case uvs10 => exact (.bool o2)
            case h2s10 => exact rfl
            intro w' hw'
            go_simp
          · refine op_so (c := 0) (T := ?uTs11) (p := ?ups11) (x := ?uxs11) ?ugs11 ?ufs11 ?uvs11 ?h1s11 ?h2s11 ?h3s11 ?h4s11 ?h5s11 ?h6s11 ?h7s11
            case h1s11 => exact rfl
            case h2s11 => exact rfl
            case ufs11 => exact (.cells #[.bool (sg (m2 : Int)), .int .u64 (l0 (m2 : Int) : Int), .int .u64 (l1 (m2 : Int) : Int), .int .u64 (l2 (m2 : Int) : Int), .int .u64 (l3 (m2 : Int) : Int)] 32 (0, 0))
            case ugs11 => exact q2
            case uvs11 => exact (.agg #[.bool (sg (m2 : Int)), .int .u64 (l0 (m2 : Int) : Int), .int .u64 (l1 (m2 : Int) : Int), .int .u64 (l2 (m2 : Int) : Int), .int .u64 (l3 (m2 : Int) : Int)])
            case h3s11 => exact rfl
            case h4s11 => exact rfl
            case h5s11 => go_simp; rfl
            case h6s11 => go_simp
            intro ρ w' hp hx hz
            exact store_wide rfl hp hx (hz.trans P10.out)
          · refine op_q ?uvs12 ?h1s12 ?h2s12 ?h3s12
            case h1s12 => exact rfl
            case uvs12 => exact (.bool o2)
            case h2s12 => exact rfl
            intro w' hw'
            go_simp
        · intro G w7 hI
          have hS := hI.same
          have E := hide (hS.ext' E.out (by intro c hc; simp at hc; (try subst hc); (try simp only); omega))
          have P0 : Hid (Blk w7 q 32 #[.bool false, .int .u64 0, .int .u64 0, .int .u64 0, .int .u64 0]) := hide (hS.block P0.out (by intro c hc; simp at hc; (try subst hc); (try simp only); omega))
          have P10 : Hid (Box w7 q2 (sg (m2 : Int)) (l0 (m2 : Int)) (l1 (m2 : Int)) (l2 (m2 : Int)) (l3 (m2 : Int))) := hide (hI.olds' 11 (List.mem_range.2 (show 11 < 13 by decide)) 0 rfl)
          have dk := hide ((World.cell?_of_block (a := ⟨b, off, none⟩) (hS.2.2.2.2 b hbw2 (by intro c hc; simp at hc; (try subst hc); (try simp only); omega))).trans dk.out)
          clear hI hS lts KSh
          simp only [putAll, slotV, ptrTo, Nat.zero_add, Nat.reduceAdd]
          cases o2 with
          | false =>
            have hno : ¬ C / 2 < 115792089237316195423570985008687907853269984665640564039457584007913129639936 := of_decide_eq_false Ho2.out
            go_upto_region 16 with fail
            go_wp2_with (refine wpList_store_row rfl 32 (.tmp 4) (.tmp 82) rfl q #[.bool false, .int .u64 0, .int .u64 0, .int .u64 0, .int .u64 0] rfl rfl 32 #[.bool false, .int .u64 0, .int .u64 0, .int .u64 0, .int .u64 0] P0.out (by rw [infoW']; rfl) rfl (wide_one' _ _ _ _ _) ?_)
            have hr := P0.out.setRow #[.bool false, .int .u64 0, .int .u64 0, .int .u64 0, .int .u64 0]
            exact bodyPost_ret (res_rw3 (p := 4) (u := 5) (v := 6) (ty := 32) rfl _ _ q 32 _ _ rfl hr Try.underlying32 rfl (by rw [infoW']; rfl)) rfl ⟨(HR2.out hno).symm ▸ rfl, below_setRow E.out hqW _⟩
          | true =>
            have hyes : C / 2 < 115792089237316195423570985008687907853269984665640564039457584007913129639936 := of_decide_eq_true Ho2.out
            have hmc : m2 = C / 2 := by rw [← Hm2.out]; unfold cutN; rw [if_pos hyes]
            have hF2 : F256 (m2 : Int) := by rw [← Hm2.out]; exact cutN_f _
            have HR1 := hide (HR1.out hyes)
            have dk1 := dk.out
            by_cases hp : y % 2 = 1
            · have p1 : ((y : Int) % 2 == 1) = true := by rw [beq_iff_eq]; omega
              have hu : -(m2 : Int) = unc C := by unfold unc; rw [if_pos (by rw [Hpar.out]; exact hp)]; omega
              obtain ⟨u, hue⟩ : ∃ v, unc C = v := ⟨_, rfl⟩
              rw [hue] at hu HR1
              have KNg : Hid (∀ w, Calls Try.prog 40 #[.agg #[.bool (sg (m2 : Int)), .int .u64 (l0 (m2 : Int) : Int), .int .u64 (l1 (m2 : Int) : Int), .int .u64 (l2 (m2 : Int) : Int), .int .u64 (l3 (m2 : Int) : Int)]] w (Ret (.agg #[.bool (sg u), .int .u64 (l0 u : Int), .int .u64 (l1 u : Int), .int .u64 (l2 u : Int), .int .u64 (l3 u : Int)]) w)) := fun w => d_neg hF2 hu w
              clear hue hu hyes hmc hF2 Hm2 Hpar Ho2 hp
              obtain ⟨k0, k1, k2, k3, k4, _⟩ := five_cells P10.out
              go_upto_region 19 with (go_at_call 40; (with_reducible refine (KNg.out _).mono ?_); rintro en w9 ⟨rfl, hE⟩; have P0 := hide (P0.out.ext hE); have P10b := hide (Box.ext P10.out hE); have E := hide (Ext.trans E.out hE); obtain ⟨k0, k1, k2, k3, k4, r0, r1, r2, r3, r4⟩ := five_cells P10b.out; clear hE)
              have P10c := Box.put (t := sg u) (a' := l0 u) (b' := l1 u) (c' := l2 u) (d' := l3 u) P10b.out
              have P0c := ((((P0.out.far (p := ⟨q2, 0, none⟩) (Nat.ne_of_lt hq12) (.bool (sg u))).far (p := ⟨q2, 1, none⟩) (Nat.ne_of_lt hq12) (.int .u64 (l0 u : Int))).far (p := ⟨q2, 2, none⟩) (Nat.ne_of_lt hq12) (.int .u64 (l1 u : Int))).far (p := ⟨q2, 3, none⟩) (Nat.ne_of_lt hq12) (.int .u64 (l2 u : Int))).far (p := ⟨q2, 4, none⟩) (Nat.ne_of_lt hq12) (.int .u64 (l3 u : Int))
              have Ec := Below.setCell (Below.setCell (Below.setCell (Below.setCell (Below.setCell E.out (p := ⟨q2, 0, none⟩) hq02 (.bool (sg u))) (p := ⟨q2, 1, none⟩) hq02 (.int .u64 (l0 u : Int))) (p := ⟨q2, 2, none⟩) hq02 (.int .u64 (l1 u : Int))) (p := ⟨q2, 3, none⟩) hq02 (.int .u64 (l2 u : Int))) (p := ⟨q2, 4, none⟩) hq02 (.int .u64 (l3 u : Int))
              obtain ⟨w10, hw10⟩ : ∃ w, (((((w9.setCell ⟨q2, 0, none⟩ (.bool (sg u))).setCell ⟨q2, 1, none⟩ (.int .u64 (l0 u : Int))).setCell ⟨q2, 2, none⟩ (.int .u64 (l1 u : Int))).setCell ⟨q2, 3, none⟩ (.int .u64 (l2 u : Int))).setCell ⟨q2, 4, none⟩ (.int .u64 (l3 u : Int))) = w := ⟨_, rfl⟩
              rw [hw10] at P10c P0c Ec ⊢
              have P10c := hide P10c
              have P0c := hide P0c
              have E : Hid (Ext W w10) := Ec
              clear hw10 k0 k1 k2 k3 k4 r0 r1 r2 r3 r4 P10b P10 P0 KNg
              go_wp2_with (first
                | (refine wpList_load_row rfl 32 (.tmp 10) rfl q2 rfl 32 #[.bool (sg u), .int .u64 (l0 u : Int), .int .u64 (l1 u : Int), .int .u64 (l2 u : Int), .int .u64 (l3 u : Int)] (0, 0) _ P10c.out Try.underlying32 rfl (by rw [infoW']; rfl) ?_)
                | (refine wpList_store_row rfl 32 (.tmp 4) (.tmp 90) rfl q #[.bool (sg u), .int .u64 (l0 u : Int), .int .u64 (l1 u : Int), .int .u64 (l2 u : Int), .int .u64 (l3 u : Int)] rfl rfl 32 #[.bool false, .int .u64 0, .int .u64 0, .int .u64 0, .int .u64 0] P0c.out (by rw [infoW']; rfl) rfl (wide_one' _ _ _ _ _) ?_))
              have hr := P0c.out.setRow #[.bool (sg u), .int .u64 (l0 u : Int), .int .u64 (l1 u : Int), .int .u64 (l2 u : Int), .int .u64 (l3 u : Int)]
              exact bodyPost_ret (res_rw3 (p := 4) (u := 5) (v := 6) (ty := 32) rfl _ _ q 32 _ _ rfl hr Try.underlying32 rfl (by rw [infoW']; rfl)) rfl ⟨HR1.out.symm ▸ rfl, below_setRow E.out hqW _⟩
            · have p1 : ((y : Int) % 2 == 1) = false := by rw [beq_eq_false_iff_ne]; omega
              have hu : (m2 : Int) = unc C := by unfold unc; rw [if_neg (by rw [Hpar.out]; exact hp)]; omega
              rw [← hu] at HR1
              clear hu hyes hmc hF2 Hm2 Hpar Ho2 hp
              go_wp2_with (first
                | (refine wpList_load_row rfl 32 (.tmp 10) rfl q2 rfl 32 #[.bool (sg (m2 : Int)), .int .u64 (l0 (m2 : Int) : Int), .int .u64 (l1 (m2 : Int) : Int), .int .u64 (l2 (m2 : Int) : Int), .int .u64 (l3 (m2 : Int) : Int)] (0, 0) _ P10.out Try.underlying32 rfl (by rw [infoW']; rfl) ?_)
                | (refine wpList_store_row rfl 32 (.tmp 4) (.tmp 90) rfl q #[.bool (sg (m2 : Int)), .int .u64 (l0 (m2 : Int) : Int), .int .u64 (l1 (m2 : Int) : Int), .int .u64 (l2 (m2 : Int) : Int), .int .u64 (l3 (m2 : Int) : Int)] rfl rfl 32 #[.bool false, .int .u64 0, .int .u64 0, .int .u64 0, .int .u64 0] P0.out (by rw [infoW']; rfl) rfl (wide_one' _ _ _ _ _) ?_))
              have hr := P0.out.setRow #[.bool (sg (m2 : Int)), .int .u64 (l0 (m2 : Int) : Int), .int .u64 (l1 (m2 : Int) : Int), .int .u64 (l2 (m2 : Int) : Int), .int .u64 (l3 (m2 : Int) : Int)]
              exact bodyPost_ret (res_rw3 (p := 4) (u := 5) (v := 6) (ty := 32) rfl _ _ q 32 _ _ rfl hr Try.underlying32 rfl (by rw [infoW']; rfl)) rfl ⟨HR1.out.symm ▸ rfl, below_setRow E.out hqW _⟩
theorem decB_low : ∀ (r : List Nat) (x : Nat), x < 128 → 128 ^ r.length * x ≤ decB (r ++ [x])
  | [], x, h => by simp [decB]; omega
  | y :: r, x, h => by
    have ih := decB_low r x h
    simp only [List.cons_append, decB, List.length_cons, Nat.pow_succ]
    have e : 128 ^ r.length * 128 * x = 128 * (128 ^ r.length * x) := by rw [Nat.mul_right_comm, Nat.mul_comm]
    rw [e]; omega
theorem last_getD (r : List Nat) (x : Nat) : (r ++ [x]).getD ((r ++ [x]).length - 1) 0 = x := by simp [List.getD_eq_getElem?_getD]
theorem okG_last (width : Nat) (r : List Nat) (x : Nat) : okG width (r ++ [x]) = (!(decide (x = 0) && decide (0 < r.length)) && decide (7 * r.length + Lib.bitLen x ≤ width)) := okG_form (j := r.length) (x := x) (by simp) (by simp)
theorem p257 : (2 : Nat) ^ 257 = 2 * 115792089237316195423570985008687907853269984665640564039457584007913129639936 := by decide +kernel
theorem half_fit {C : Nat} (h : C < 2 ^ 257) : C / 2 < 115792089237316195423570985008687907853269984665640564039457584007913129639936 := by
  rw [p257] at h; omega
theorem rv_rw (C a n : Nat) (h : C / 2 < 115792089237316195423570985008687907853269984665640564039457584007913129639936) (h1 : C ≠ 1) : rvR C a n = rwW C a n := by
  have hF : F256 (unc C) := by unfold F256 unc; split <;> omega
  have := rw_cod (isC_of hF) a n
  rw [cod_unc h1] at this
  rw [this]
  exact if_pos h
theorem rv_big (C a n : Nat) (h : ¬ C / 2 < 115792089237316195423570985008687907853269984665640564039457584007913129639936) : rvR C a n = .tuple #[.agg #[.bool false, .int .u64 0, .int .u64 0, .int .u64 0, .int .u64 0], .int .i64 0, .int .i64 5] := if_neg h
theorem over_big (r : List Nat) (x : Nat) (hx : x < 128) (h0 : x ≠ 0) (h : ¬ 7 * r.length + Lib.bitLen x ≤ 257) : ¬ decB (r ++ [x]) / 2 < 115792089237316195423570985008687907853269984665640564039457584007913129639936 := by
  obtain ⟨b1, u⟩ := (bitLen_spec x (by omega)).2.2 h0
  have h1 := decB_low r x hx
  have h2 : ∀ k, k ≤ 7 * r.length + (Lib.bitLen x - 1) → (2 : Nat) ^ k ≤ 128 ^ r.length * x := fun k hk => by
    have e : (128 : Nat) ^ r.length = 2 ^ (7 * r.length) := by rw [Nat.pow_mul]
    rw [e]
    refine Nat.le_trans ?_ (Nat.mul_le_mul_left _ u)
    rw [← Nat.pow_add]
    exact Nat.pow_le_pow_right (by omega) hk
  have h3 := h2 257 (by omega)
  rw [p257] at h3
  omega
theorem one_form (r : List Nat) (x : Nat) (hx : x < 128) (h : r = [] ∨ x ≠ 0) (hC : decB (r ++ [x]) = 1) : r = [] ∧ x = 1 := by
  have h1 := decB_low r x hx
  cases r with
  | nil => simp [decB] at hC; exact ⟨rfl, by omega⟩
  | cons y r =>
    rcases h with h | h
    · cases h
    · have : 128 * 1 ≤ 128 ^ (y :: r).length * x := by
        rw [List.length_cons, Nat.pow_succ]
        have : 0 < 128 ^ r.length := Nat.pow_pos (by omega)
        exact Nat.mul_le_mul (Nat.le_mul_of_pos_left _ this) (by omega)
      omega
set_option maxRecDepth 100000 in
theorem v_rwide_all (A : Option Addr) (c cap a : Nat) (l g : List Nat) (W : World) (hb : BytesAt W A l) (hc : l.length = c) (hcap : c ≤ cap) (hcap2 : c ≤ 140737488355328) (ha : a ≤ c) (hs : scanG 37 (l.drop a) = some g) :
    Calls Try.prog 46 #[.slice A c cap, .int .i64 (a : Int)] W (Ret (if okG 257 g then rwW (decB g) a g.length else .tuple #[.agg #[.bool false, .int .u64 0, .int .u64 0, .int .u64 0, .int .u64 0], .int .i64 0, .int .i64 5]) W) := by
  obtain ⟨r, x, hgr, hx, hr, ⟨t, ht⟩, hmost⟩ := scanG_some 37 _ g hs
  have hgl : g.length ≤ (l.drop a).length := by rw [← ht, List.length_append]; omega
  rw [List.length_drop] at hgl
  have hgb : IsB g := by
    have h := (hb.1.drop a).take g.length
    rw [← ht, List.take_left' rfl] at h
    exact h
  have hbg : BytesAt W (if cap = a then A else A.map (·.add (a * 1))) g := by
    have h := (hb.drop a cap (by omega)).take g.length
    rw [← ht, List.take_left' rfl] at h
    exact h
  have hK : ∀ w, Ext W w → Calls Try.prog 71 #[.slice A c cap, .int .i64 (a : Int), .int .i64 37] w (RetSame (.tuple #[.slice (if cap = a then A else A.map (·.add (a * 1))) g.length (cap - a), .int .i64 0]) w) := fun w h => by
    have := v_groups A c cap a 37 l w (hb.ext h) hc hcap (by omega) ha (by omega)
    have e : gpV A cap l a 37 = .tuple #[.slice (if cap = a then A else A.map (·.add (a * 1))) g.length (cap - a), .int .i64 0] := by unfold gpV; rw [hs]
    rw [e] at this
    exact this
  have hxg : g.getD (g.length - 1) 0 = x := by rw [hgr]; exact last_getD r x
  have hn1 : 1 ≤ g.length := by rw [hgr]; simp
  have hgn : g.length = r.length + 1 := by rw [hgr]; simp
  have hok := okG_last 257 r x
  rw [← hgr] at hok
  rw [hok]
  have hac : a + g.length ≤ 4611686018427387904 := by omega
  by_cases h0 : x = 0 ∧ 0 < r.length
  · rw [decide_eq_true h0.1, decide_eq_true h0.2]
    exact v_rwide_f0 A c cap a W _ _ g.length x g hK hbg rfl hn1 hmost hxg h0.1 (by omega)
  · have e0 : (!(decide (x = 0) && decide (0 < r.length))) = true := by
      by_cases q1 : x = 0
      · rw [decide_eq_false (show ¬ 0 < r.length from fun h => h0 ⟨q1, h⟩)]; simp
      · rw [decide_eq_false q1]; rfl
    rw [e0, Bool.true_and]
    by_cases h1 : x = 1 ∧ r.length = 0
    · have hr0 : r = [] := List.length_eq_zero_iff.1 h1.2
      subst hr0
      obtain ⟨rfl, _⟩ := h1
      have hC : decB g = 1 := by rw [hgr]; simp [decB]
      have hb1 : decide (7 * ([] : List Nat).length + Lib.bitLen 1 ≤ 257) = true := by decide +kernel
      rw [hb1, hC]
      have e : rwW 1 a g.length = .tuple #[.agg #[.bool false, .int .u64 0, .int .u64 0, .int .u64 0, .int .u64 0], .int .i64 0, .int .i64 5] := if_pos rfl
      rw [if_pos rfl, e]
      exact v_rwide_f1 A c cap a W _ _ g.length 1 g hK hbg rfl hn1 hmost hxg rfl (by omega)
    · have hne : decB g ≠ 1 := fun h => by
        rw [hgr] at h
        obtain ⟨q1, q2⟩ := one_form r x hx (by
          by_cases q : x = 0
          · left
            exact List.length_eq_zero_iff.1 (by have : ¬ 0 < r.length := fun h => h0 ⟨q, h⟩; omega)
          · exact Or.inr q) h
        exact h1 ⟨q2, by rw [q1]; rfl⟩
      have hm : Calls Try.prog 46 #[.slice A c cap, .int .i64 (a : Int)] W (Ret (rvR (decB g) a g.length) W) := by
        by_cases q0 : x = 0
        · have : ¬ 0 < r.length := fun h => h0 ⟨q0, h⟩
          exact v_rwide_m0 A c cap a W _ _ g.length x g hK hbg rfl hn1 hmost hxg hgb hac _ rfl ⟨q0, by omega⟩
        · by_cases q1 : g.length = 1
          · exact v_rwide_m1 A c cap a W _ _ g.length x g hK hbg rfl hn1 hmost hxg hgb hac _ rfl ⟨q0, fun h => h1 ⟨h, by omega⟩, q1⟩
          · exact v_rwide_m2 A c cap a W _ _ g.length x g hK hbg rfl hn1 hmost hxg hgb hac _ rfl ⟨q0, q1⟩
      by_cases hfit : 7 * r.length + Lib.bitLen x ≤ 257
      · rw [decide_eq_true hfit, if_pos rfl]
        have hlt := decB_ok (width := 257) hs (by rw [hok, e0, decide_eq_true hfit]; rfl)
        rw [← rv_rw _ _ _ (half_fit hlt) hne]
        exact hm
      · rw [decide_eq_false hfit, if_neg (by simp)]
        have hx0 : x ≠ 0 := fun q => by
          have h3 : ¬ 0 < r.length := fun h => h0 ⟨q, h⟩
          subst q
          have h4 : Lib.bitLen 0 ≤ 7 := (bl8 0 (by omega)).1
          omega
        have hbig := over_big r x hx hx0 hfit
        rw [← hgr] at hbig
        rw [rv_big _ _ _ hbig] at hm
        exact hm
/-- As the program's: where there are groups. -/
theorem v_rwide (A : Option Addr) (c cap a : Nat) (l g : List Nat) (W : World) (hb : BytesAt W A l) (hc : l.length = c) (hcap : c ≤ cap) (hcap2 : c ≤ 140737488355328) (hg : rdG l a 257 37 = some g) :
    Calls Try.prog 46 #[.slice A c cap, .int .i64 (a : Int)] W (Ret (rwW (decB g) a g.length) W) := by
  obtain ⟨a', haa, hal, hbd, hsc, hok⟩ := bhd_some hg
  obtain rfl : a = a' := by omega
  have := v_rwide_all A c cap a l g W hb hc hcap hcap2 (by omega) hsc
  rw [hok, if_pos rfl] at this
  exact this
/-- As the program's: where there are none. -/
theorem v_rwide_err (A : Option Addr) (c cap : Nat) (l : List Nat) (at_ e : Int) (W : World) (hb : BytesAt W A l) (hc : l.length = c) (hcap : c ≤ cap) (hcap2 : c ≤ 140737488355328) (hg : rdG l at_ 257 37 = none) (hbd : bhd l at_ 257 37 = (0, e)) (he : e = 2 ∨ e = 4 ∨ e = 5) :
    Calls Try.prog 46 #[.slice A c cap, .int .i64 at_] W (Ret (.tuple #[.agg #[.bool false, .int .u64 0, .int .u64 0, .int .u64 0, .int .u64 0], .int .i64 0, .int .i64 e]) W) := by
  unfold rdG at hg
  unfold bhd at hbd
  by_cases h : at_ < 0 ∨ (l.length : Int) < at_
  · rw [if_pos h] at hbd
    obtain rfl : 2 = e := (Prod.mk.inj hbd).2
    exact v_rwide_e A c cap at_ 2 W (by omega) (v_groups_out A c cap at_ 37 _ (by rw [hc] at h; exact h))
  · rw [if_neg h] at hbd hg
    obtain ⟨a, rfl⟩ := Int.eq_ofNat_of_zero_le (show 0 ≤ at_ by omega)
    rw [Int.toNat_natCast] at hbd hg
    cases hs : scanG 37 (l.drop a) with
    | none =>
      rw [hs] at hbd
      have h2 := (Prod.mk.inj hbd).2
      have hk := v_groups A c cap a 37 l (W.alloc (.cells #[.bool false, .int .u64 0, .int .u64 0, .int .u64 0, .int .u64 0] 32)) (hb.ext (ext_alloc _ _)) hc hcap (by omega) (by omega) (by omega)
      have eg : gpV A cap l a 37 = .tuple #[.slice none 0 0, .int .i64 (if l.length - a < 37 then 4 else 5)] := by unfold gpV; rw [hs]
      rw [eg, h2] at hk
      exact v_rwide_e A c cap a e W (by omega) hk
    | some g =>
      rw [hs] at hbd hg
      simp only at hbd hg
      cases hok : okG 257 g with
      | true => rw [hok] at hg; cases hg
      | false =>
        rw [hok] at hbd
        obtain rfl : 5 = e := (Prod.mk.inj hbd).2
        have := v_rwide_all A c cap a l g W hb hc hcap hcap2 (by omega) hs
        rw [hok, if_neg (by simp)] at this
        exact this
end Go.Proofs.Ytdboaogdanahkaa
