/- The program's ReadWide, where the groups are none. Conditions: the slice reads as bytes. -/
import Derived.Test.YtdboaogdanahkaaVarF
import Derived.Test.YtdboaogdanahkaaVarJ
namespace Go.Proofs.Ytdboaogdanahkaa
set_option linter.unusedVariables false
set_option linter.unusedSimpArgs false
open Go Go.RowKit
/-- The results where the first lies in a row of cells. -/
theorem res_row3 {fn : Func} {p u v : Tmp} {ty : TypeId} (h : fn.results = #[.cell p ty, .tmp u, .tmp v]) (tmps : Array Value) (w : World) (g : Nat) (t : TypeId) (cs : Array Value) (d : TypeDesc)
    (hp : tmps.getD p undef = .pointer (some ⟨g, 0, none⟩)) (hg : Blk w g t cs)
    (hu : Try.prog.underlying ty = some d) (hd : (match (generalizing := false) d with | .struct _ | .array _ _ => true | _ => false) = true) (hi : (Try.prog.info? ty).map (·.size) = some cs.size) :
    (results fn tmps).run Try.prog w = .ok (.tuple #[.agg cs, tmps.getD u undef, tmps.getD v undef]) w := by
  have hp' : tmps[p]?.getD undef = .pointer (some ⟨g, 0, none⟩) := by simpa using hp
  simp [results, h, hp', asAddr, run_loadVar_row w g t ty cs (0, 0) d hg hu (by cases d <;> first | rfl | exact hd) hi, Sem.run_bind, Result.andThen]
set_option maxRecDepth 100000 in
set_option maxHeartbeats 1600000 in
theorem p_rwide_err (A : Option Addr) (c cap : Nat) (l : List Nat) (at_ e : Int) (W : World) (hb : BytesAt W A l) (hc : l.length = c) (hcap : c ≤ cap) (hcap2 : c ≤ 4611686018427387904) (hat : I64 at_) (hbd : bhd l at_ 257 37 = (0, e)) (he : e = 2 ∨ e = 4 ∨ e = 5) :
    Calls Try.prog 23 #[.slice A c cap, .int .i64 at_] W (Ret (.tuple #[.agg #[.bool false, .int .u64 0, .int .u64 0, .int .u64 0, .int .u64 0], .int .i64 0, .int .i64 e]) W) := by
  have q1 : (e != 0) = true := by rw [bne_iff_ne]; omega
  have E0 := hide (ext_alloc W (.cells #[.bool false, .int .u64 0, .int .u64 0, .int .u64 0, .int .u64 0] 32))
  have KB : Hid (∀ w, Ext W w → Calls Try.prog 47 #[.slice A c cap, .int .i64 at_, .int .i64 257] w (RetSame (.tuple #[.int .i64 0, .int .i64 e]) w)) := fun w h => p_behind A c cap l at_ 257 37 w (hb.ext h) hc hcap hcap2 hat (by omega) (by omega) (by omega) 0 e hbd
  clear hb hc hcap hcap2 hbd he hat
  go_enter Try.func23, Try.ntmps23
  go_wp2_with (first
    | (go_at_call 47; (with_reducible refine (KB.out _ E0.out).mono ?_); rintro e w2 ⟨rfl, rfl⟩))
  exact bodyPost_ret (res_row3 (p := 4) (u := 5) (v := 6) (ty := 32) rfl _ _ W.heap.size 32 _ _ rfl (Blk.new W _ _) Try.underlying32 rfl (by rw [infoW]; rfl)) rfl ⟨rfl, E0.out⟩
end Go.Proofs.Ytdboaogdanahkaa
