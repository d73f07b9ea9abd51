/- The law SwingWithin returns true for every input. No condition. -/
import Derived.Test.YtojbopibfflnoaaGreatRows
import Derived.Test.YtojbopibfflnoaaGreatPrW58
import Derived.Test.YtojbopibfflnoaaGreatPrW56
import Derived.Test.YtojbopibfflnoaaGreatPrW36
import Derived.ShutString
import Derived.ChangeOld
import Derived.Below
namespace Go.Proofs.YtojbopibfflnoaaGreat.swingWithin
set_option linter.unusedVariables false
set_option linter.unusedSimpArgs false
open Go Go.ChangeShapes Go.WideShapes Go.ChangeAt Go.RowKit
theorem own : ownKnob Tryz.prog.godebug = none := by kernel_rfl
set_option maxRecDepth 100000 in
theorem lifted (os : Os) (started : os.Started) (H : Type) (enc : TypeId × Value → H) :
    ReturnsInHanded {} Tryz.checked os 5 .any (Rows.swingWithinSpec.pre6 enc Tryz.prog Tryz.f5 Rows.swingWithinRow.domain false) (Rows.swingWithinSpec.post enc Tryz.prog Tryz.f5 false true false false) := by
  refine returnsInHanded_of_change (C := Tryz.checked) own started (by kernel_rfl) Tryz.func5
    (ChangeSpec.witness6 (enc := enc) (C := Tryz.checked) false ⟨#[], #[.slice none 0 0], []⟩ 8 (by kernel_rfl) (by kernel_rfl) (by kernel_rfl) (by kernel_rfl)) ?_
  intro W base args ds gs before Tg aK hcnd _
  have hval : ∀ (j : Nat) t v, Tryz.f5.params[j]? = some t → args[j]? = some v → Value.okWide Tryz.prog W .any base t v := Tg
  have adM := aK
  obtain ⟨p, q, hA0, ry, rfl, apv, p5⟩ := aK
  have hA : DataW.TrodAll enc Tryz.prog W 0 (fun _ => true) true Tryz.f5.params.toList args.toList ds p := hA0
  rw [Tryz.params5] at hA hval
  obtain ⟨v0, as2, d0, ao0, p0, k7, apn, rfl, rfl, h0, iB⟩ := trodAll_cons hA
  obtain ⟨rfl, rfl, rfl⟩ := trodAll_nil iB
  obtain rfl : args = #[v0] := by cases args; simp_all
  obtain ⟨rfl, rfl⟩ := trodVars_none ry
  have iA := h0
  have agw : ∀ x ∈ p0, x.block < W.heap.size := by obtain ⟨m, hm⟩ := iA; exact DataW.trod_lt m _ _ _ hm
  obtain ⟨x0, TX, RD, rfl⟩ := okWide_slice Tryz.underlying34 (hval 0 34 v0 rfl rfl)
  have kM : yq W x0 TX RD := af2 h0 agw
  clear hA0 Tg
  refine (axf x0 TX RD W kM (hide (fun w => afU w))).mono fun e aoM ⟨he, JA⟩ => ?_
  subst he
  exact ⟨_, rfl, _, _, _, [], _, [], adM, trodAll_mk1 (shut_bool Tryz.underlying4 _), (trodAll_cons_mk (Below.trod laidOut (by kernel_rfl) (of_decide_eq_true (by kernel_rfl)) iA JA agw) trodAll_mk0), rfl, JA.frame _, fun h => by cases h⟩
theorem over : Rows.swingWithinRow.holds Tryz.pinned (OpenSpec.ofChange Rows.swingWithinSpec) :=
  OpenClaim.holds_of_wide 5 Tryz.f5 rfl rfl rfl rfl rfl rfl rfl ⟨rfl, rfl, rfl, rfl, rfl⟩ rfl rfl rfl rfl rfl (by kernel_rfl) Tryz.func5 (by kernel_rfl)
    (of_decide_eq_true (by kernel_rfl)) (by unfold Func.isWrapper; first | (rw [if_pos (by decide +kernel)]; kernel_rfl) | (rw [if_neg (by decide +kernel)]; exact ⟨rfl, rfl⟩))
    (fun os started H enc _ => lifted os started H enc)
theorem proved : Rows.SwingWithinSaid := over
#print axioms proved
end Go.Proofs.YtojbopibfflnoaaGreat.swingWithin
