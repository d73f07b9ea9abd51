/- Make of both packages of fractions, its values fixed. Conditions: the numbers fit. -/
import Derived.Test.YtbnbkondbdakeaaFixR
import Derived.Test.YtbnbkondbdakeaaRefH
namespace Go.Proofs.Ytbnbkondbdakeaa
set_option linter.unusedVariables false
set_option linter.unusedSimpArgs false
open Go Go.RowKit Go.Sort
theorem h_make {x y n d : Int} {o : Bool} (hx : F256 x) (hy : F256 y) (h0 : y ≠ 0) (ho : mkB x y = o) (hn : (if o then numR x y else 0) = n) (hd : (if o then denR x y else 0) = d) (w : World) : Calls Try.prog 21 #[.agg #[.bool (sg x), .int .u64 (l0 x : Int), .int .u64 (l1 x : Int), .int .u64 (l2 x : Int), .int .u64 (l3 x : Int)], .agg #[.bool (sg y), .int .u64 (l0 y : Int), .int .u64 (l1 y : Int), .int .u64 (l2 y : Int), .int .u64 (l3 y : Int)]] w (Ret (.tuple #[.agg #[.bool (sg n), .int .u64 (l0 n : Int), .int .u64 (l1 n : Int), .int .u64 (l2 n : Int), .int .u64 (l3 n : Int), .bool (sg d), .int .u64 (l0 d : Int), .int .u64 (l1 d : Int), .int .u64 (l2 d : Int), .int .u64 (l3 d : Int)], .bool o]) w) :=
  (rf_make_yes _ _ _ _ _ _ _ _ _ _ x y w (isC_of hx) (isC_of hy) h0 o ho).mono fun _ _ k => ret_make (by subst hn hd; exact k)
/-- The cells of a raw fraction's arguments: what Make says of them. -/
theorem makes_raw (s t : Bool) (a b c d e f g h : Nat) (x y : Int) (hx : IsW s a b c d x) (hy : IsW t e f g h y) : ∃ (o : Bool) (n m : Int), (o = true → Frac n m) ∧ (F256 n ∧ F256 m) ∧
    (∀ w, Calls Try.prog 20 #[.agg #[.bool s, .int .u64 (a : Int), .int .u64 (b : Int), .int .u64 (c : Int), .int .u64 (d : Int)], .agg #[.bool t, .int .u64 (e : Int), .int .u64 (f : Int), .int .u64 (g : Int), .int .u64 (h : Int)]] w (Ret (.tuple #[.agg #[.bool (sg n), .int .u64 (l0 n : Int), .int .u64 (l1 n : Int), .int .u64 (l2 n : Int), .int .u64 (l3 n : Int), .bool (sg m), .int .u64 (l0 m : Int), .int .u64 (l1 m : Int), .int .u64 (l2 m : Int), .int .u64 (l3 m : Int)], .bool o]) w)) ∧
    (∀ w, Calls Try.prog 21 #[.agg #[.bool s, .int .u64 (a : Int), .int .u64 (b : Int), .int .u64 (c : Int), .int .u64 (d : Int)], .agg #[.bool t, .int .u64 (e : Int), .int .u64 (f : Int), .int .u64 (g : Int), .int .u64 (h : Int)]] w (Ret (.tuple #[.agg #[.bool (sg n), .int .u64 (l0 n : Int), .int .u64 (l1 n : Int), .int .u64 (l2 n : Int), .int .u64 (l3 n : Int), .bool (sg m), .int .u64 (l0 m : Int), .int .u64 (l1 m : Int), .int .u64 (l2 m : Int), .int .u64 (l3 m : Int)], .bool o]) w)) := by
  have z0 : F256 0 := by unfold F256; simp
  by_cases hg : Good s x ∧ Good t y ∧ y ≠ 0
  · obtain ⟨o, ho⟩ : ∃ o, mkB x y = o := ⟨_, rfl⟩
    refine ⟨o, if o then numR x y else 0, if o then denR x y else 0, ?_, ?_, fun w => (r_make_yes _ _ _ _ _ _ _ _ _ _ x y w ⟨hx, hg.1⟩ ⟨hy, hg.2.1⟩ hg.2.2 o ho).mono fun _ _ k => ret_make k, fun w => (rf_make_yes _ _ _ _ _ _ _ _ _ _ x y w ⟨hx, hg.1⟩ ⟨hy, hg.2.1⟩ hg.2.2 o ho).mono fun _ _ k => ret_make k⟩
    · rintro rfl; exact mkB_frac hg.2.2 ho
    · cases o
      · exact ⟨z0, z0⟩
      · have := mkB_frac hg.2.2 ho
        exact ⟨this.fn, this.fd⟩
  · exact ⟨false, 0, 0, by simp, ⟨z0, z0⟩, fun w => (r_make_no _ _ _ _ _ _ _ _ _ _ x y w hx hy hg).mono fun _ _ k => ret_make k, fun w => (rf_make_no _ _ _ _ _ _ _ _ _ _ x y w hx hy hg).mono fun _ _ k => ret_make k⟩
end Go.Proofs.Ytbnbkondbdakeaa
