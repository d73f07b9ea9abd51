/- The law SwingForms returns true for every input. No condition. -/
import Derived.Test.YtojbopibfflnoaaGreatRows
import Derived.Test.YtojbopibfflnoaaGreatPrY42
import Derived.Test.YtojbopibfflnoaaGreatPrY41
import Derived.ShutString
import Derived.ChangeOld
import Derived.Below
namespace Go.Proofs.YtojbopibfflnoaaGreat.swingForms
set_option linter.unusedVariables false
set_option linter.unusedSimpArgs false
open Go Go.ChangeShapes Go.WideShapes Go.ChangeAt Go.RowKit
theorem own : ownKnob Tryz.prog.godebug = none := by kernel_rfl
set_option maxRecDepth 100000 in
theorem lifted (os : Os) (started : os.Started) (H : Type) (enc : TypeId × Value → H) :
    ReturnsInHanded {} Tryz.checked os 3 .any (Rows.swingFormsSpec.pre6 enc Tryz.prog Tryz.f3 Rows.swingFormsRow.domain false) (Rows.swingFormsSpec.post enc Tryz.prog Tryz.f3 false true false false) := by
  refine returnsInHanded_of_change (C := Tryz.checked) own started (by kernel_rfl) Tryz.func3
    (ChangeSpec.witness6 (enc := enc) (C := Tryz.checked) false ⟨#[], #[.agg #[.int .i64 0, .int .i64 0, .int .i64 0, .int .i64 0, .int .i64 0, .bool false, .bool false, .int .u64 0, .int .u64 0, .int .u64 0, .int .u64 0, .bool false, .int .u64 0, .int .u64 0, .int .u64 0, .int .u64 0, .bool false, .int .u64 0, .int .u64 0, .int .u64 0, .int .u64 0, .bool false, .int .u64 0, .int .u64 0, .int .u64 0, .int .u64 0], .agg #[.int .i64 0, .int .i64 0], .int .i64 0, .slice none 0 0], []⟩ 8 (by kernel_rfl) (by kernel_rfl) (by kernel_rfl) (by kernel_rfl)) ?_
  intro W base args ds gs before Tg aK hcnd _
  have hval : ∀ (j : Nat) t v, Tryz.f3.params[j]? = some t → args[j]? = some v → Value.okWide Tryz.prog W .any base t v := Tg
  have adM := aK
  obtain ⟨p, q, hA0, ry, rfl, apv, p5⟩ := aK
  have hA : DataW.TrodAll enc Tryz.prog W 0 (fun _ => true) true Tryz.f3.params.toList args.toList ds p := hA0
  rw [Tryz.params3] at hA hval
  obtain ⟨v0, as2, d0, ao0, p0, k7, apn, rfl, rfl, h0, iB⟩ := trodAll_cons hA
  obtain ⟨v1, as3, d1, ao1, p1, q1, rfl, rfl, rfl, h1, i'⟩ := trodAll_cons iB
  obtain ⟨v2, as4, d2, ao2, p2, k8, rfl, rfl, rfl, h2, dX⟩ := trodAll_cons i'
  obtain ⟨v3, awX, d3, awF, zN, HB, rfl, rfl, rfl, h3, s7⟩ := trodAll_cons dX
  obtain ⟨rfl, rfl, rfl⟩ := trodAll_nil s7
  obtain rfl : args = #[v0, v1, v2, v3] := by cases args; simp_all
  obtain ⟨rfl, rfl⟩ := trodVars_none ry
  have iA := h0
  have agw : ∀ x ∈ p0, x.block < W.heap.size := by obtain ⟨m, hm⟩ := iA; exact DataW.trod_lt m _ _ _ hm
  obtain ⟨Ri, rfl, kM⟩ := awf (hval 0 33 v0 rfl rfl) h0
  have bQ := h1
  have avI : ∀ x ∈ p1, x.block < W.heap.size := by obtain ⟨m, hm⟩ := bQ; exact DataW.trod_lt m _ _ _ hm
  obtain ⟨X1, rfl, bA⟩ := av' (hval 1 23 v1 rfl rfl) h1
  obtain ⟨a2, rfl, rfl, rfl, bp⟩ := open_int Tryz.underlying2 (hval 2 2 v2 rfl rfl) h2
  have bX := bounds_i64 bp
  have cX := h3
  have QI : ∀ x ∈ zN, x.block < W.heap.size := by obtain ⟨m, hm⟩ := cX; exact DataW.trod_lt m _ _ _ hm
  obtain ⟨x3, at9, atY, rfl⟩ := okWide_slice Tryz.underlying34 (hval 3 34 v3 rfl rfl)
  have en : yq W x3 at9 atY := af2 h3 QI
  clear hA0 Tg
  refine (avE Ri kM X1 bA a2 x3 at9 atY W en (hide (fun w => afU w))).mono fun e aoM ⟨he, JA⟩ => ?_
  subst he
  exact ⟨_, rfl, _, _, _, [], _, [], adM, trodAll_mk1 (shut_bool Tryz.underlying4 _), (trodAll_cons_mk (Below.trod laidOut (by kernel_rfl) (of_decide_eq_true (by kernel_rfl)) iA JA agw) (trodAll_cons_mk (Below.trod laidOut (by kernel_rfl) (of_decide_eq_true (by kernel_rfl)) bQ JA avI) (trodAll_cons_mk (shut_int Tryz.underlying2 bp) (trodAll_cons_mk (Below.trod laidOut (by kernel_rfl) (of_decide_eq_true (by kernel_rfl)) cX JA QI) trodAll_mk0)))), rfl, JA.frame _, fun h => by cases h⟩
theorem over : Rows.swingFormsRow.holds Tryz.pinned (OpenSpec.ofChange Rows.swingFormsSpec) :=
  OpenClaim.holds_of_wide 3 Tryz.f3 rfl rfl rfl rfl rfl rfl rfl ⟨rfl, rfl, rfl, rfl, rfl⟩ rfl rfl rfl rfl rfl (by kernel_rfl) Tryz.func3 (by kernel_rfl)
    (of_decide_eq_true (by kernel_rfl)) (by unfold Func.isWrapper; first | (rw [if_pos (by decide +kernel)]; kernel_rfl) | (rw [if_neg (by decide +kernel)]; exact ⟨rfl, rfl⟩))
    (fun os started H enc _ => lifted os started H enc)
theorem proved : Rows.SwingFormsSaid := over
#print axioms proved
end Go.Proofs.YtojbopibfflnoaaGreat.swingForms
