/- The law SwingAlls returns true for every input. No condition. -/
import Derived.Test.YtojbopibfflnoaaGreatRows
import Derived.Test.YtojbopibfflnoaaGreatPrW56
import Derived.Test.YtojbopibfflnoaaGreatPrW55
import Derived.ShutString
import Derived.ChangeOld
import Derived.Below
namespace Go.Proofs.YtojbopibfflnoaaGreat.swingAlls
set_option linter.unusedVariables false
set_option linter.unusedSimpArgs false
open Go Go.ChangeShapes Go.WideShapes Go.ChangeAt Go.RowKit
theorem own : ownKnob Tryz.prog.godebug = none := by kernel_rfl
set_option maxRecDepth 100000 in
theorem lifted (os : Os) (started : os.Started) (H : Type) (enc : TypeId × Value → H) :
    ReturnsInHanded {} Tryz.checked os 4 .any (Rows.swingAllsSpec.pre6 enc Tryz.prog Tryz.f4 Rows.swingAllsRow.domain false) (Rows.swingAllsSpec.post enc Tryz.prog Tryz.f4 false true false false) := by
  refine returnsInHanded_of_change_sized (C := Tryz.checked) own started (by kernel_rfl) Tryz.func4
    (ChangeSpec.witness6 (enc := enc) (C := Tryz.checked) false ⟨#[], #[.slice none 0 0, .int .i64 0, .slice none 0 0], []⟩ 8 (by kernel_rfl) (by kernel_rfl) (by kernel_rfl) (by kernel_rfl)) ?_
  intro W base args ds gs before Tg aK hcnd Ta _
  have e5 : (DataW.weightsEach Tryz.prog (Tryz.f4.params.toList ++ Rows.swingAllsSpec.plain.varTypes Tryz.prog) (ds ++ gs)).all (· ≤ reachBytes) = true := Ta
  clear Ta
  have hval : ∀ (j : Nat) t v, Tryz.f4.params[j]? = some t → args[j]? = some v → Value.okWide Tryz.prog W .any base t v := Tg
  have adM := aK
  obtain ⟨p, q, hA0, ry, rfl, apv, p5⟩ := aK
  have hA : DataW.TrodAll enc Tryz.prog W 0 (fun _ => true) true Tryz.f4.params.toList args.toList ds p := hA0
  rw [Tryz.params4] at hA hval e5
  obtain ⟨v0, as2, d0, ao0, p0, k7, apn, rfl, rfl, h0, iB⟩ := trodAll_cons hA
  obtain ⟨v1, as3, d1, ao1, p1, q1, rfl, rfl, rfl, h1, i'⟩ := trodAll_cons iB
  obtain ⟨v2, as4, d2, ao2, p2, k8, rfl, rfl, rfl, h2, dX⟩ := trodAll_cons i'
  obtain ⟨rfl, rfl, rfl⟩ := trodAll_nil dX
  obtain rfl : args = #[v0, v1, v2] := by cases args; simp_all
  obtain ⟨rfl, rfl⟩ := trodVars_none ry
  have iA := h0
  have agw : ∀ x ∈ p0, x.block < W.heap.size := by obtain ⟨m, hm⟩ := iA; exact DataW.trod_lt m _ _ _ hm
  obtain ⟨x0, TX, RD, rfl⟩ := okWide_slice Tryz.underlying46 (hval 0 46 v0 rfl rfl)
  obtain ⟨Xo, kM⟩ : ∃ l, IX W x0 TX RD l := akH h0 e5 (j := 0) rfl rfl
  obtain ⟨a1, rfl, rfl, rfl, aT⟩ := open_int Tryz.underlying2 (hval 1 2 v1 rfl rfl) h1
  have bA := bounds_i64 aT
  have bY := h2
  have T8 : ∀ x ∈ p2, x.block < W.heap.size := by obtain ⟨m, hm⟩ := bY; exact DataW.trod_lt m _ _ _ hm
  obtain ⟨x2, TY, RE, rfl⟩ := okWide_slice Tryz.underlying34 (hval 2 34 v2 rfl rfl)
  have bX : yq W x2 TY RE := af2 h2 T8
  clear hA0 Tg
  refine (afV x0 TX RD Xo a1 x2 TY RE W kM bX (hide (fun w => afU w))).mono fun e aoM ⟨he, JA⟩ => ?_
  subst he
  exact ⟨_, rfl, _, _, _, [], _, [], adM, trodAll_mk1 (shut_bool Tryz.underlying4 _), (trodAll_cons_mk (Below.trod laidOut (by kernel_rfl) (of_decide_eq_true (by kernel_rfl)) iA JA agw) (trodAll_cons_mk (shut_int Tryz.underlying2 aT) (trodAll_cons_mk (Below.trod laidOut (by kernel_rfl) (of_decide_eq_true (by kernel_rfl)) bY JA T8) trodAll_mk0))), rfl, JA.frame _, fun h => by cases h⟩
theorem over : Rows.swingAllsRow.holds Tryz.pinned (OpenSpec.ofChange Rows.swingAllsSpec) :=
  OpenClaim.holds_of_wide 4 Tryz.f4 rfl rfl rfl rfl rfl rfl rfl ⟨rfl, rfl, rfl, rfl, rfl⟩ rfl rfl rfl rfl rfl (by kernel_rfl) Tryz.func4 (by kernel_rfl)
    (of_decide_eq_true (by kernel_rfl)) (by unfold Func.isWrapper; first | (rw [if_pos (by decide +kernel)]; kernel_rfl) | (rw [if_neg (by decide +kernel)]; exact ⟨rfl, rfl⟩))
    (fun os started H enc _ => lifted os started H enc)
theorem proved : Rows.SwingAllsSaid := over
#print axioms proved
end Go.Proofs.YtojbopibfflnoaaGreat.swingAlls
