/- The contracts of both packages of fractions, their values fixed. Conditions: the numbers fit. -/
import Derived.Test.YtbnbkondbdakeaaFixA
import Derived.Test.YtbnbkondbdakeaaRat3
import Derived.Test.YtbnbkondbdakeaaRef2
import Derived.Test.YtbnbkondbdakeaaRefD
import Derived.Lib.QuietBelow
namespace Go.Proofs.Ytbnbkondbdakeaa
set_option linter.unusedVariables false
set_option linter.unusedSimpArgs false
open Go Go.RowKit Go.Sort
theorem quiet_ret {f : FuncId} {args : Array Value} {W : World} {d : Nat} {os : Array Obj} {v : Value} (h : Calls Try.prog f args (grow (redrawn W d) os) (Ret v (grow (redrawn W d) os))) :
    Calls Try.prog f args (grow (redrawn W d) os) fun e w'' => e = .returned v ∧ ∃ p : Regrown, w'' = grow (redrawn W p.d) p.os := Calls.regrown_of h
theorem ext_regrown (W : World) (d : Nat) (os : Array Obj) : Ext W (grow (redrawn W d) os) := below_regrown W d os
theorem F256.mk {z : Int} (h : z.natAbs < 170141183460469231731687303715884105728) : F256 z := by unfold F256; omega
theorem Frac.fn {n d : Int} (h : Frac n d) : F256 n := F256.mk h.2.1
theorem Frac.fd {n d : Int} (h : Frac n d) : F256 d := F256.mk h.2.2.1
theorem Frac.ok {n d : Int} (h : Frac n d) : decide (RatOk (sg n) n (sg d) d) = true := decide_eq_true ⟨(isC_of h.fn).2, (isC_of h.fd).2, h⟩
theorem ret_make {o : Bool} {n d : Int} {w w' : World} {e : Ending} (h : MakeRet o n d w e w') : Ret (.tuple #[.agg #[.bool (sg n), .int .u64 (l0 n : Int), .int .u64 (l1 n : Int), .int .u64 (l2 n : Int), .int .u64 (l3 n : Int), .bool (sg d), .int .u64 (l0 d : Int), .int .u64 (l1 d : Int), .int .u64 (l2 d : Int), .int .u64 (l3 d : Int)], .bool o]) w e w' := by
  obtain ⟨s, a, b, c, d', t, e', f, g, h', rfl, k1, k2, hE⟩ := h
  obtain ⟨rfl, rfl, rfl, rfl, rfl⟩ := isC_fix k1
  obtain ⟨rfl, rfl, rfl, rfl, rfl⟩ := isC_fix k2
  exact ⟨rfl, hE⟩
theorem ret_rat {n d : Int} {w w' : World} {e : Ending} (h : RatRet n d w e w') : Ret (.agg #[.bool (sg n), .int .u64 (l0 n : Int), .int .u64 (l1 n : Int), .int .u64 (l2 n : Int), .int .u64 (l3 n : Int), .bool (sg d), .int .u64 (l0 d : Int), .int .u64 (l1 d : Int), .int .u64 (l2 d : Int), .int .u64 (l3 d : Int)]) w e w' := by
  obtain ⟨s, a, b, c, d', t, e', f, g, h', rfl, k1, k2, hE⟩ := h
  obtain ⟨rfl, rfl, rfl, rfl, rfl⟩ := isC_fix k1
  obtain ⟨rfl, rfl, rfl, rfl, rfl⟩ := isC_fix k2
  exact ⟨rfl, hE⟩
/-- Make has a fraction. -/
def mkB (x y : Int) : Bool := decide ((numR x y).natAbs < 170141183460469231731687303715884105728 ∧ (denR x y).natAbs < 170141183460469231731687303715884105728)
theorem mkB_frac {x y : Int} (h0 : y ≠ 0) (h : mkB x y = true) : Frac (numR x y) (denR x y) := makes_frac ⟨h0, of_decide_eq_true h⟩
theorem frac_mkB {x y : Int} (h : Frac x y) : mkB x y = true := decide_eq_true (frac_makes h).2
theorem eqWs (z : Int) (w : World) : (binOp .eql 25 (.agg #[.bool (sg z), .int .u64 (l0 z : Int), .int .u64 (l1 z : Int), .int .u64 (l2 z : Int), .int .u64 (l3 z : Int)]) (.agg #[.bool (sg z), .int .u64 (l0 z : Int), .int .u64 (l1 z : Int), .int .u64 (l2 z : Int), .int .u64 (l3 z : Int)])).run Try.prog w = .ok (.bool true) w := eq_same' _ _ _ _ _ w
theorem neWs (z : Int) (w : World) : (binOp .neq 25 (.agg #[.bool (sg z), .int .u64 (l0 z : Int), .int .u64 (l1 z : Int), .int .u64 (l2 z : Int), .int .u64 (l3 z : Int)]) (.agg #[.bool (sg z), .int .u64 (l0 z : Int), .int .u64 (l1 z : Int), .int .u64 (l2 z : Int), .int .u64 (l3 z : Int)])).run Try.prog w = .ok (.bool false) w := neq_same _ _ _ _ _ w
theorem eqWW {x y : Int} (hx : F256 x) (hy : F256 y) (w : World) : (binOp .eql 25 (.agg #[.bool (sg x), .int .u64 (l0 x : Int), .int .u64 (l1 x : Int), .int .u64 (l2 x : Int), .int .u64 (l3 x : Int)]) (.agg #[.bool (sg y), .int .u64 (l0 y : Int), .int .u64 (l1 y : Int), .int .u64 (l2 y : Int), .int .u64 (l3 y : Int)])).run Try.prog w = .ok (.bool (decide (x = y))) w := eqW (isC_of hx) (isC_of hy) w
theorem eqRs (n d : Int) (w : World) : (binOp .eql 35 (.agg #[.bool (sg n), .int .u64 (l0 n : Int), .int .u64 (l1 n : Int), .int .u64 (l2 n : Int), .int .u64 (l3 n : Int), .bool (sg d), .int .u64 (l0 d : Int), .int .u64 (l1 d : Int), .int .u64 (l2 d : Int), .int .u64 (l3 d : Int)]) (.agg #[.bool (sg n), .int .u64 (l0 n : Int), .int .u64 (l1 n : Int), .int .u64 (l2 n : Int), .int .u64 (l3 n : Int), .bool (sg d), .int .u64 (l0 d : Int), .int .u64 (l1 d : Int), .int .u64 (l2 d : Int), .int .u64 (l3 d : Int)])).run Try.prog w = .ok (.bool true) w := by
  rw [eq10]; simp [same5]
theorem eqRR {n1 d1 n2 d2 : Int} (a : F256 n1) (b : F256 d1) (c : F256 n2) (d : F256 d2) (w : World) : (binOp .eql 35 (.agg #[.bool (sg n1), .int .u64 (l0 n1 : Int), .int .u64 (l1 n1 : Int), .int .u64 (l2 n1 : Int), .int .u64 (l3 n1 : Int), .bool (sg d1), .int .u64 (l0 d1 : Int), .int .u64 (l1 d1 : Int), .int .u64 (l2 d1 : Int), .int .u64 (l3 d1 : Int)]) (.agg #[.bool (sg n2), .int .u64 (l0 n2 : Int), .int .u64 (l1 n2 : Int), .int .u64 (l2 n2 : Int), .int .u64 (l3 n2 : Int), .bool (sg d2), .int .u64 (l0 d2 : Int), .int .u64 (l1 d2 : Int), .int .u64 (l2 d2 : Int), .int .u64 (l3 d2 : Int)])).run Try.prog w = .ok (.bool (decide (n1 = n2) && decide (d1 = d2))) w := by
  rw [eq10, same_isC (isC_of a) (isC_of c), same_isC (isC_of b) (isC_of d)]
theorem g_valid {n d : Int} (h : Frac n d) (w : World) : Calls Try.prog 22 #[.agg #[.bool (sg n), .int .u64 (l0 n : Int), .int .u64 (l1 n : Int), .int .u64 (l2 n : Int), .int .u64 (l3 n : Int), .bool (sg d), .int .u64 (l0 d : Int), .int .u64 (l1 d : Int), .int .u64 (l2 d : Int), .int .u64 (l3 d : Int)]] w (Ret (.bool true) w) :=
  r_valid _ _ _ _ _ _ _ _ _ _ n d w (isC_of h.fn).1 (isC_of h.fd).1 true h.ok
theorem g_cmp {n1 d1 n2 d2 r : Int} (h : Frac n1 d1) (k : Frac n2 d2) (e : cmpI (n1 * d2) (n2 * d1) = r) (w : World) : Calls Try.prog 75 #[.agg #[.bool (sg n1), .int .u64 (l0 n1 : Int), .int .u64 (l1 n1 : Int), .int .u64 (l2 n1 : Int), .int .u64 (l3 n1 : Int), .bool (sg d1), .int .u64 (l0 d1 : Int), .int .u64 (l1 d1 : Int), .int .u64 (l2 d1 : Int), .int .u64 (l3 d1 : Int)], .agg #[.bool (sg n2), .int .u64 (l0 n2 : Int), .int .u64 (l1 n2 : Int), .int .u64 (l2 n2 : Int), .int .u64 (l3 n2 : Int), .bool (sg d2), .int .u64 (l0 d2 : Int), .int .u64 (l1 d2 : Int), .int .u64 (l2 d2 : Int), .int .u64 (l3 d2 : Int)]] w (Ret (.int .i64 r) w) :=
  (r_compare _ _ _ _ _ _ _ _ _ _ _ _ _ _ _ _ _ _ _ _ n1 d1 n2 d2 w (isC_of h.fn).1 (isC_of h.fd).1 (isC_of k.fn).1 (isC_of k.fd).1 true true h.ok k.ok).mono fun _ _ q => by subst e; exact q
theorem g_floor {n d q : Int} (h : Frac n d) (e : n / d = q) (w : World) : Calls Try.prog 70 #[.agg #[.bool (sg n), .int .u64 (l0 n : Int), .int .u64 (l1 n : Int), .int .u64 (l2 n : Int), .int .u64 (l3 n : Int), .bool (sg d), .int .u64 (l0 d : Int), .int .u64 (l1 d : Int), .int .u64 (l2 d : Int), .int .u64 (l3 d : Int)]] w (Ret (.agg #[.bool (sg q), .int .u64 (l0 q : Int), .int .u64 (l1 q : Int), .int .u64 (l2 q : Int), .int .u64 (l3 q : Int)]) w) :=
  (r_floor _ _ _ _ _ _ _ _ _ _ n d w (isC_of h.fn).1 (isC_of h.fd).1 true h.ok).mono fun _ _ k => ret_wide (by subst e; exact k)
theorem g_at {n d q : Int} {k : Nat} (h : Frac n d) (hk : k < 18446744073709551616) (e : ((n + n) * k + d) / (d + d) = q) (w : World) : Calls Try.prog 71 #[.agg #[.bool (sg n), .int .u64 (l0 n : Int), .int .u64 (l1 n : Int), .int .u64 (l2 n : Int), .int .u64 (l3 n : Int), .bool (sg d), .int .u64 (l0 d : Int), .int .u64 (l1 d : Int), .int .u64 (l2 d : Int), .int .u64 (l3 d : Int)], .int .u64 (k : Int)] w (Ret (.agg #[.bool (sg q), .int .u64 (l0 q : Int), .int .u64 (l1 q : Int), .int .u64 (l2 q : Int), .int .u64 (l3 q : Int)]) w) :=
  (r_at _ _ _ _ _ _ _ _ _ _ n d w (isC_of h.fn).1 (isC_of h.fd).1 k hk true h.ok).mono fun _ _ k => ret_wide (by subst e; exact k)
theorem g_of {x : Int} (h1 : -9223372036854775808 ≤ x) (h2 : x ≤ 9223372036854775807) (w : World) : Calls Try.prog 78 #[.int .i64 x] w (Ret (.agg #[.bool (sg x), .int .u64 (l0 x : Int), .int .u64 (l1 x : Int), .int .u64 (l2 x : Int), .int .u64 (l3 x : Int), .bool (sg 1), .int .u64 (l0 1 : Int), .int .u64 (l1 1 : Int), .int .u64 (l2 1 : Int), .int .u64 (l3 1 : Int)]) w) :=
  (r_of x w h1 h2).mono fun _ _ k => ret_rat k
theorem g_make {x y n d : Int} {o : Bool} (hx : F256 x) (hy : F256 y) (h0 : y ≠ 0) (ho : mkB x y = o) (hn : (if o then numR x y else 0) = n) (hd : (if o then denR x y else 0) = d) (w : World) : Calls Try.prog 20 #[.agg #[.bool (sg x), .int .u64 (l0 x : Int), .int .u64 (l1 x : Int), .int .u64 (l2 x : Int), .int .u64 (l3 x : Int)], .agg #[.bool (sg y), .int .u64 (l0 y : Int), .int .u64 (l1 y : Int), .int .u64 (l2 y : Int), .int .u64 (l3 y : Int)]] w (Ret (.tuple #[.agg #[.bool (sg n), .int .u64 (l0 n : Int), .int .u64 (l1 n : Int), .int .u64 (l2 n : Int), .int .u64 (l3 n : Int), .bool (sg d), .int .u64 (l0 d : Int), .int .u64 (l1 d : Int), .int .u64 (l2 d : Int), .int .u64 (l3 d : Int)], .bool o]) w) :=
  (r_make_yes _ _ _ _ _ _ _ _ _ _ x y w (isC_of hx) (isC_of hy) h0 o ho).mono fun _ _ k => ret_make (by subst hn hd; exact k)
theorem h_valid {n d : Int} (h : Frac n d) (w : World) : Calls Try.prog 28 #[.agg #[.bool (sg n), .int .u64 (l0 n : Int), .int .u64 (l1 n : Int), .int .u64 (l2 n : Int), .int .u64 (l3 n : Int), .bool (sg d), .int .u64 (l0 d : Int), .int .u64 (l1 d : Int), .int .u64 (l2 d : Int), .int .u64 (l3 d : Int)]] w (Ret (.bool true) w) :=
  rf_valid _ _ _ _ _ _ _ _ _ _ n d w (isC_of h.fn).1 (isC_of h.fd).1 true h.ok
theorem h_cmp {n1 d1 n2 d2 r : Int} (h : Frac n1 d1) (k : Frac n2 d2) (e : cmpI (n1 * d2) (n2 * d1) = r) (w : World) : Calls Try.prog 29 #[.agg #[.bool (sg n1), .int .u64 (l0 n1 : Int), .int .u64 (l1 n1 : Int), .int .u64 (l2 n1 : Int), .int .u64 (l3 n1 : Int), .bool (sg d1), .int .u64 (l0 d1 : Int), .int .u64 (l1 d1 : Int), .int .u64 (l2 d1 : Int), .int .u64 (l3 d1 : Int)], .agg #[.bool (sg n2), .int .u64 (l0 n2 : Int), .int .u64 (l1 n2 : Int), .int .u64 (l2 n2 : Int), .int .u64 (l3 n2 : Int), .bool (sg d2), .int .u64 (l0 d2 : Int), .int .u64 (l1 d2 : Int), .int .u64 (l2 d2 : Int), .int .u64 (l3 d2 : Int)]] w (Ret (.int .i64 r) w) :=
  (rf_compare _ _ _ _ _ _ _ _ _ _ _ _ _ _ _ _ _ _ _ _ n1 d1 n2 d2 w (isC_of h.fn).1 (isC_of h.fd).1 (isC_of k.fn).1 (isC_of k.fd).1 true true h.ok k.ok).mono fun _ _ q => by subst e; exact q
theorem h_of {x : Int} (h1 : -9223372036854775808 ≤ x) (h2 : x ≤ 9223372036854775807) (w : World) : Calls Try.prog 92 #[.int .i64 x] w (Ret (.agg #[.bool (sg x), .int .u64 (l0 x : Int), .int .u64 (l1 x : Int), .int .u64 (l2 x : Int), .int .u64 (l3 x : Int), .bool (sg 1), .int .u64 (l0 1 : Int), .int .u64 (l1 1 : Int), .int .u64 (l2 1 : Int), .int .u64 (l3 1 : Int)]) w) :=
  (rf_of x w h1 h2).mono fun _ _ k => ret_rat k
end Go.Proofs.Ytbnbkondbdakeaa
