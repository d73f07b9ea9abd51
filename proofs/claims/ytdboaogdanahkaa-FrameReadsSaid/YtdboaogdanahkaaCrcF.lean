/- CRC-32C: the reference's Value, Number, Append; the library's Grow, Concat; the program's Append. Conditions: the slice reads as at most 2^47 - 4 bytes. -/
import Derived.Test.YtdboaogdanahkaaCrcD
import Derived.Test.YtdboaogdanahkaaByB
import Derived.Test.YtdboaogdanahkaaCrcE
import Derived.Lib.AppendZerosOnto
import Derived.Test.YtdboaogdanahkaaBase
namespace Go.Proofs.Ytdboaogdanahkaa
set_option linter.unusedVariables false
set_option linter.unusedSimpArgs false
open Go Go.RowKit Go.Sort
/-- A number with its least significant byte first. -/
def valLE : List Nat → Nat
  | [] => 0
  | b :: l => b + 256 * valLE l
theorem valLE_lt : ∀ (l : List Nat), IsB l → valLE l < 256 ^ l.length
  | [], _ => by simp [valLE]
  | b :: l, h => by
    have h1 := valLE_lt l (fun x hx => h x (List.mem_cons_of_mem _ hx))
    have h2 := h b List.mem_cons_self
    simp only [valLE, List.length_cons, Nat.pow_succ]
    omega
theorem valLE_drop {l : List Nat} {k : Nat} (h : k < l.length) : valLE (l.drop k) = l.getD k 0 + 256 * valLE (l.drop (k + 1)) := by
  rw [List.drop_eq_getElem_cons h, getD_lt h]; rfl
theorem valLE_tail (x : BitVec 32) : valLE (tailL x) = x.toNat := by
  have := x.isLt
  simp [tailL, valLE]; omega
theorem valLE_inj : ∀ (l m : List Nat), IsB l → IsB m → l.length = m.length → valLE l = valLE m → l = m
  | [], [], _, _, _, _ => rfl
  | b :: l, c :: m, h, k, e, v => by
    have h1 := h b List.mem_cons_self
    have h2 := k c List.mem_cons_self
    simp only [valLE] at v
    have e1 : b = c := by omega
    have e2 : valLE l = valLE m := by omega
    rw [e1, valLE_inj l m (fun x hx => h x (List.mem_cons_of_mem _ hx)) (fun x hx => k x (List.mem_cons_of_mem _ hx)) (by simpa using e) e2]
theorem pow256 {n k : Nat} (h1 : n ≤ 7) (h : k < 256 ^ n) : k ≤ 72057594037927935 := by
  have : 256 ^ n ≤ 256 ^ 7 := Nat.pow_le_pow_right (by omega) h1
  omega
set_option maxHeartbeats 800000 in
set_option maxRecDepth 100000 in
/-- l: what lies from 'at' on, n bytes of it. -/
theorem r_value (A : Option Addr) (c p k n : Nat) (l : List Nat) (W : World) (h : BytesAt W A l) (hk : p + n ≤ l.length) (hn : n ≤ 8) (hc : l.length = c) (cap : Nat) :
    Calls Try.prog 82 #[.slice A c cap, .int .i64 (p : Int), .int .i64 (n : Int)] W (RetSame (.int .u64 (valLE ((l.drop p).take n) : Int)) W) := by
  have hlen := h.2.1
  have h := hide h
  obtain ⟨q, hq⟩ : ∃ q, (l.drop p).take n = q := ⟨_, rfl⟩
  have hqb : IsB q := by rw [← hq]; exact (h.out.1.drop p).take n
  have hql : q.length = n := by rw [← hq, List.length_take, List.length_drop]; omega
  have hqg : Hid (∀ i, i < n → q.getD i 0 = l.getD (p + i) 0) := fun i hi => by
    rw [← hq]
    simp [List.getD_eq_getElem?_getD, List.getElem?_take, hi, List.getElem?_drop]
  rw [hq]
  clear hq
  have Hql := hide hql
  have hqb := hide hqb
  rw [hc] at hk hlen
  have Hc := hide hc
  clear hc hql
  go_enter Try.func82, Try.ntmps82
  go_wp2_with fail
  go_loop [7, 8] (fun v i => ∃ j : Nat, j ≤ n ∧ i = .int .i64 ((j : Int) - 1) ∧ v = .int .u64 (valLE (q.drop j) : Int)) (fun _ i => (intOf i + 1).toNat)
  case atStart => exact ⟨n, Nat.le_refl _, rfl, by rw [List.drop_of_length_le (by have := Hql.out; omega)]; rfl⟩
  case round =>
    obtain ⟨j, hj, rfl, rfl⟩ := hrel
    obtain ⟨x, hx⟩ : ∃ x, valLE (q.drop j) = x := ⟨_, rfl⟩
    rw [hx]
    cases j with
    | zero =>
      have d1 : decide ((0 : Int) ≤ ((0 : Nat) : Int) - 1) = false := by decide
      have Hx := hide hx
      clear hx
      go_wp2_with fail
      go_ret
      exact ⟨by rw [← Hx.out]; rfl, rfl⟩
    | succ j =>
      have e1 : (((j + 1 : Nat) : Int) - 1) = (j : Int) := by omega
      rw [e1]
      clear e1
      have hjq : j < q.length := by have := Hql.out; omega
      have hxb : x ≤ 72057594037927935 := by
        rw [← hx]
        exact pow256 (n := (q.drop (j + 1)).length) (by rw [List.length_drop]; have := Hql.out; omega) (valLE_lt _ (hqb.out.drop _))
      have hst := hide (valLE_drop hjq)
      rw [hx] at hst
      obtain ⟨b, off, rfl, hb, hcl⟩ := h.out.2.2 (by have := Hc.out; omega)
      have d2 := hcl (p + j) (by have := Hc.out; omega)
      have hg := hqg.out j (by omega)
      have hlt := hqb.out.get j
      rw [← hg] at d2
      obtain ⟨y, hy⟩ : ∃ y, q.getD j 0 = y := ⟨_, rfl⟩
      rw [hy] at d2 hst hlt
      clear hcl hg hy hx hjq hb
      go_wp2_with fail
      go_round
      case rel => exact ⟨j, by omega, rfl, by rw [hst.out]; exact congrArg (Value.int .u64) (by omega)⟩
      case measure => simp [intOf]
set_option maxRecDepth 100000 in
theorem r_check_short (A : Option Addr) (cap n : Nat) (W : World) (h : n < 4) : Calls Try.prog 81 #[.slice A n cap] W (Ret (.bool false) W) := by
  have h1 : ¬ (4 : Int) ≤ (n : Int) := by omega
  have h2 : decide ((4 : Int) ≤ (n : Int)) = false := decide_eq_false h1
  have h3 : decide ((0 : Int) ≤ (n : Int) - 4) = false := decide_eq_false (by omega)
  go_enter Try.func81, Try.ntmps81
  go_wp2_with fail
  go_quiet (fail)
  go_wp2_with fail
  go_ret
  exact ⟨rfl, ext_drewN _ _⟩
set_option maxRecDepth 100000 in
set_option maxHeartbeats 8000000 in
theorem r_check_long (A : Option Addr) (cap k : Nat) (l : List Nat) (W : World) (h : BytesAt W A l) (hk : l.length = k + 4) (hcap : l.length ≤ cap) (v : Bool) (hv : decide (l.drop k = tailL (crcB 0#32 (l.take k))) = v) : Calls Try.prog 81 #[.slice A (k + 4) cap] W (Ret (.bool v) W) := by
  have hlen := h.2.1
  have h2 : decide ((0 : Int) ≤ (k : Int)) = true := decide_eq_true (by omega)
  have hs1 := run_upto A (k + 4) k cap (by omega)
  have ht := hide (h.take k)
  have KS : Hid (∀ w, Ext W w → Calls Try.prog 60 #[.slice A k cap] w (Ret (.int .u32 ((crcB 0#32 (l.take k)).toNat : Int)) w)) := fun w e => by
    have := r_sum A cap (l.take k) w (ht.out.ext e)
    rw [List.length_take, Nat.min_eq_left (by omega)] at this
    exact this
  have KV : Hid (∀ w, Ext W w → Calls Try.prog 82 #[.slice A (k + 4) cap, .int .i64 (k : Int), .int .i64 4] w (Ret (.int .u64 ((valLE (l.drop k) : Nat) : Int)) w)) := fun w e => by
    have := r_value A (k + 4) k 0 4 l w (h.ext e) (by omega) (by omega) hk cap
    rw [List.take_of_length_le (by rw [List.length_drop]; omega)] at this
    exact this.mono fun _ _ q => ⟨q.1, by rw [← q.2]; exact Ext.refl _⟩
  obtain ⟨x, hx⟩ : ∃ x, crcB 0#32 (l.take k) = x := ⟨_, rfl⟩
  rw [hx] at KS hv
  have ew : IntKind.u64.wrap (x.toNat : Int) = (x.toNat : Int) := by
    have := x.isLt
    rw [wrap_u64']; omega
  have hq : (((valLE (l.drop k) : Nat) : Int) == IntKind.u64.wrap (x.toNat : Int)) = v := by
    rw [← hv, ew]
    by_cases e : l.drop k = tailL x
    · rw [decide_eq_true e, e, valLE_tail]; simp
    · rw [decide_eq_false e, beq_eq_false_iff_ne]
      intro e2
      apply e
      refine valLE_inj _ _ (h.1.drop k) (tailL_b x) (by rw [List.length_drop, hk]; simp [tailL]) ?_
      rw [valLE_tail]; omega
  obtain ⟨V, hV⟩ : ∃ V, valLE (l.drop k) = V := ⟨_, rfl⟩
  rw [hV] at hq KV
  rw [hk] at hlen
  clear hV hx hv ht h hk hcap ew
  go_enter Try.func81, Try.ntmps81
  go_wp2_with fail
  refine wp_region_quiet_below (by kernel_rfl) (by kernel_rfl) ?_
  repeat (quiet_step (first | with_reducible exact quiet_ret (KS.out _ (ext_regrown _ _ _)) | with_reducible exact quiet_ret (KV.out _ (ext_regrown _ _ _))))
  refine wpQuiet_nil ?_
  intro _ hw'
  obtain ⟨⟨dq, osq⟩, hw''⟩ := hw'
  subst hw''
  go_wp2_with fail
  go_ret
  exact ⟨by rw [← hq]; rfl, ext_regrown _ _ _⟩
end Go.Proofs.Ytdboaogdanahkaa
