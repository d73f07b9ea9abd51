/- Part 2 of what these claims stand on: contracts of the program's and the reference's functions, and plain facts. Conditions: each states its own. -/
import Derived.Test.YtijfojbonceffaaPru1
import Derived.KernelRfl
import Derived.Test.YtijfojbonceffaaProg
import Derived.WalkSmall
import Derived.Deep.QuietTactic
import Derived.BigQuiet
import Derived.Deep.DeepCutAuto
import Derived.Shelf.Bytes.SlEqualAll
import Derived.Lib.AppendZerosOnto
import Derived.Deep.MidRow
namespace Go.Proofs.Ytijfojbonceffaa
set_option linter.unusedVariables false
set_option linter.unusedSimpArgs false
section
open Go Go.RowKit
theorem or_64 (a b : Nat) (ha : a < 18446744073709551616) (hb : b < 18446744073709551616) : bits .or .u64 (a : Int) (b : Int) = ((a ||| b : Nat) : Int) := by
  have hlt : (a ||| b) < 18446744073709551616 := Nat.or_lt_two_pow (n := 64) ha hb
  show IntKind.u64.wrap ((BitVec.ofInt 64 (a : Int) ||| BitVec.ofInt 64 (b : Int)).toNat : Int) = _
  have e : (BitVec.ofInt 64 (a : Int) ||| BitVec.ofInt 64 (b : Int)).toNat = (a ||| b) := by
    rw [BitVec.toNat_or, BitVec.toNat_ofInt, BitVec.toNat_ofInt]
    have e1 : ((a : Int) % ((2 ^ 64 : Nat) : Int)).toNat = a := by omega
    have e2 : ((b : Int) % ((2 ^ 64 : Nat) : Int)).toNat = b := by omega
    rw [e1, e2]
  rw [e, wrap_u64']
  omega
theorem or_8 (a b : Nat) (ha : a < 256) (hb : b < 256) : bits .or .u8 (a : Int) (b : Int) = ((a ||| b : Nat) : Int) := by
  have hlt : (a ||| b) < 256 := Nat.or_lt_two_pow (n := 8) ha hb
  show IntKind.u8.wrap ((BitVec.ofInt 8 (a : Int) ||| BitVec.ofInt 8 (b : Int)).toNat : Int) = _
  have e : (BitVec.ofInt 8 (a : Int) ||| BitVec.ofInt 8 (b : Int)).toNat = (a ||| b) := by
    rw [BitVec.toNat_or, BitVec.toNat_ofInt, BitVec.toNat_ofInt]
    have e1 : ((a : Int) % ((2 ^ 8 : Nat) : Int)).toNat = a := by omega
    have e2 : ((b : Int) % ((2 ^ 8 : Nat) : Int)).toNat = b := by omega
    rw [e1, e2]
  rw [e]
  simp [IntKind.wrap, IntKind.bits, IntKind.signed]
  omega
set_option maxRecDepth 100000 in
set_option maxHeartbeats 1600000 in
theorem p_wd (A : Option Addr) (n c : Nat) (l : List Nat) (W : World) (hl : WordsAt W A l) (hn : l.length = n) : Calls Try.prog 55 #[.slice A n c] W (Ret (.int .i64 (wdt l : Int)) W) := by
  have hq := hl.1
  have KL : Hid (∀ (x : Nat) (w : World), x < 18446744073709551616 → Calls Try.prog 67 #[.int .u64 (x : Int)] w (RetSame (.int .i64 (Lib.bitLen x : Int)) w)) := fun x w h => p_len64 x w h
  have HL := hide hl
  have Hn := hide hn
  have Hq := hide hq
  have hn63 : n ≤ 9223372036854775807 := by have := hl.2.1; omega
  clear hl hn hq
  go_enter Try.func55, Try.ntmps55
  go_wp2_with fail
  go_loop [3, 8] (fun t i => ∃ k V : Nat, k ≤ n ∧ i = .int .i64 k ∧ t = .int .u64 V ∧ Hid (orl (l.take k) = V)) (fun _ i => n - (intOf i).toNat)
  case atStart => exact ⟨0, 0, by omega, rfl, rfl, hide (by simp [orl])⟩
  case round =>
    obtain ⟨k, V, hk, rfl, rfl, HV⟩ := hrel
    by_cases hlt : k < n
    · have hkl : k < l.length := by rw [Hn.out]; exact hlt
      obtain ⟨b, off, rfl, hb1, hc1⟩ := HL.out.2.2 (by omega)
      have d1 := hc1 k hkl
      have hst := hide (orl_snoc (l.take k) (l.getD k 0))
      have hts := hide (take_succ hkl)
      have hx : l.getD k 0 < 18446744073709551616 := Hq.out.get k
      have hV : V < 18446744073709551616 := by
        rw [← HV.out]
        exact (orl_lt (l.take k) 64).2 (Hq.out.take k)
      obtain ⟨x, hxx⟩ : ∃ x, l.getD k 0 = x := ⟨_, rfl⟩
      rw [hxx] at d1 hst hts hx
      have ho := or_64 V x hV hx
      have HV1 : Hid (orl (l.take (k + 1)) = (V ||| x)) := hide (by rw [hts.out, hst.out, HV.out])
      clear hc1 hxx hkl hb1 hst hts
      go_wp2_with fail
      go_round
      case rel => exact ⟨k + 1, _, by omega, by go_num, rfl, HV1⟩
      case measure => simp [intOf]; omega
    · obtain rfl : k = n := by omega
      have hV : V < 18446744073709551616 := by
        rw [← HV.out]
        exact (orl_lt (l.take k) 64).2 (Hq.out.take k)
      have KL := hide (KL.out V W hV)
      go_wp2_with (go_at_call 67; (with_reducible refine (KL.out).mono ?_); rintro e w1 ⟨rfl, rfl⟩)
      go_ret
      refine ⟨?_, Ext.refl _⟩
      rw [wdt, ← HV.out, List.take_of_length_le (by have := Hn.out; omega)]
      rfl
set_option maxRecDepth 100000 in
theorem p_siz (n w : Int) (W : World) (hn : I64 n) (hw : I64 w) : Calls Try.prog 68 #[.int .i64 n, .int .i64 w] W (RetSame (.int .i64 (siz n w)) W) := by
  obtain ⟨n1, n2⟩ := hn
  obtain ⟨w1, w2⟩ := hw
  by_cases h1 : n < 0
  · have e : siz n w = -1 := if_pos (Or.inl h1)
    rw [e]
    go_enter Try.func68, Try.ntmps68
    go_wp2_with fail
    go_ret
    exact ⟨rfl, rfl⟩
  · by_cases h2 : 65536 < n
    · have e : siz n w = -1 := if_pos (Or.inr (Or.inl h2))
      rw [e]
      go_enter Try.func68, Try.ntmps68
      go_wp2_with fail
      go_ret
      exact ⟨rfl, rfl⟩
    · by_cases h3 : w < 0
      · have e : siz n w = -1 := if_pos (Or.inr (Or.inr (Or.inl h3)))
        rw [e]
        go_enter Try.func68, Try.ntmps68
        go_wp2_with fail
        go_ret
        exact ⟨rfl, rfl⟩
      · by_cases h4 : 64 < w
        · have e : siz n w = -1 := if_pos (Or.inr (Or.inr (Or.inr h4)))
          rw [e]
          go_enter Try.func68, Try.ntmps68
          go_wp2_with fail
          go_ret
          exact ⟨rfl, rfl⟩
        · have e : siz n w = (n * w + 7) / 8 := if_neg (by omega)
          rw [e]
          have hm0 : 0 ≤ n * w := Int.mul_nonneg (by omega) (by omega)
          have hm1 : n * w ≤ 65536 * 64 := Int.mul_le_mul (by omega) (by omega) (by omega) (by omega)
          obtain ⟨p, hp⟩ : ∃ p, n * w = p := ⟨_, rfl⟩
          rw [hp] at hm0 hm1 ⊢
          have ep : IntKind.i64.wrap (n * w) = p := by rw [hp]; simp [IntKind.wrap, IntKind.bits, IntKind.signed]; omega
          have ed : (p + 7).tdiv 8 = (p + 7) / 8 := Int.tdiv_eq_ediv_of_nonneg (by omega)
          go_enter Try.func68, Try.ntmps68
          go_wp2_with fail
          go_ret
          exact ⟨rfl, rfl⟩
theorem put_step (u t : Nat) : ((u <<< (t % 8)) % 256) <<< (t / 8 * 8) ||| (u >>> (8 - t % 8)) <<< (t + (8 - t % 8)) = u <<< t := by
  apply Nat.eq_of_testBit_eq
  intro b
  rw [show (256 : Nat) = 2 ^ 8 from rfl]
  simp only [Nat.testBit_or, Nat.testBit_shiftLeft, Nat.testBit_mod_two_pow, Nat.testBit_shiftRight, ge_iff_le]
  by_cases h1 : b < t / 8 * 8 + 8
  · rw [decide_eq_false (show ¬ (t + (8 - t % 8) ≤ b) by omega), Bool.false_and, Bool.or_false]
    by_cases h2 : t ≤ b
    · rw [decide_eq_true (show t / 8 * 8 ≤ b by omega), decide_eq_true (show b - t / 8 * 8 < 8 by omega), decide_eq_true (show t % 8 ≤ b - t / 8 * 8 by omega), decide_eq_true h2, show b - t / 8 * 8 - t % 8 = b - t by omega]; simp
    · by_cases h3 : t / 8 * 8 ≤ b
      · rw [decide_eq_false (show ¬ (t % 8 ≤ b - t / 8 * 8) by omega), decide_eq_false h2]; simp
      · rw [decide_eq_false h3, decide_eq_false h2]; simp
  · rw [decide_eq_false (show ¬ (b - t / 8 * 8 < 8) by omega), decide_eq_true (show t + (8 - t % 8) ≤ b by omega), decide_eq_true (show t ≤ b by omega)]
    simp only [Bool.false_and, Bool.and_false, Bool.false_or, Bool.true_and]
    rw [show 8 - t % 8 + (b - (t + (8 - t % 8))) = b - t by omega]
theorem shr_lt {u m : Nat} (k : Nat) (h : u < 2 ^ m) : u >>> k < 2 ^ (m - k) := by
  rw [Nat.shiftRight_eq_div_pow, Nat.div_lt_iff_lt_mul (Nat.two_pow_pos k), ← Nat.pow_add]
  exact Nat.lt_of_lt_of_le h (Nat.pow_le_pow_right (by omega) (by omega))
theorem upd_here {g k : Nat} {W w : World} (h : Upd g W w) (u : Value) : Upd g W (w.setCell ⟨g, k, none⟩ u) :=
  ⟨h.1, h.2.1, h.2.2.1, by simpa [World.setCell] using h.2.2.2.1, fun i hi hn => (heap_setCell_other w ⟨g, k, none⟩ i u (by simp; omega)).trans (h.2.2.2.2 i hi hn)⟩
def PutPost (g s M : Nat) (W : World) (e : Ending) (w' : World) : Prop := e = .returned (.tuple #[]) ∧ Blk w' g 5 (u8s (upN M s 8)).toArray ∧ Upd g W w'
theorem up_cell {w : World} {g s M j : Nat} (h : Blk w g 5 (u8s (upN M s 8)).toArray) (hj : j < s) : w.cell? ⟨g, j, none⟩ = some (.int .u8 (((upN M s 8).getD j 0 : Nat) : Int)) := by
  rw [h.cell j, getD_lt (by rw [upN_len]; exact hj)]
  simp [u8s, upN_len, hj]
theorem up_store {w : World} {g s M j x : Nat} (h : Blk w g 5 (u8s (upN M s 8)).toArray) (hj : j < s) (hx : x < 256) : Blk (w.setCell ⟨g, j, none⟩ (.int .u8 (((upN M s 8).getD j 0 ||| x : Nat) : Int))) g 5 (u8s (upN (M ||| x <<< (j * 8)) s 8)).toArray := by
  have := h.set_ j (.int .u8 (((upN M s 8).getD j 0 ||| x : Nat) : Int))
  have e : (u8s (upN M s 8)).toArray.setIfInBounds j (.int .u8 (((upN M s 8).getD j 0 ||| x : Nat) : Int)) = (u8s (upN (M ||| x <<< (j * 8)) s 8)).toArray := by
    rw [← up_or hj (w := 8) (x := x) hx, List.setIfInBounds_toArray]
    simp [u8s, List.map_set]
  rw [e] at this
  exact this
theorem idx8B (g N cap j : Nat) (x : Int) (hx : x = (j : Int)) (h : j < N) (w : World) : (Instr.indexAt 28 (.slice (some ⟨g, 0, none⟩) N cap) (.int .i64 x)).run Try.prog w = .ok (.pointer (some ⟨g, j, none⟩)) w := by
  subst hx
  have hz := Try.sizeOf5
  have he : Try.prog.elem 28 = 5 := by kernel_rfl
  have hr := run_indexAt_slice (P := Try.prog) (w := w) 28 ⟨g, 0, none⟩ N cap .i64 (j : Int) (by kernel_rfl)
  rw [hr, if_pos ⟨by omega, by omega⟩, he, hz]
  simp [Result.andThen, Addr.add]
  try (intro hh; omega)
theorem wrap_8 (n : Int) : IntKind.u8.wrap n = n % 256 := by simp [IntKind.wrap, IntKind.bits, IntKind.signed]
theorem shl_put (u r : Nat) (hr : r < 8) : IntKind.u8.wrap (IntKind.u64.wrap ((u : Int) * 2 ^ r)) = ((u <<< r % 256 : Nat) : Int) := by
  have e : (u : Int) * 2 ^ r = ((u <<< r : Nat) : Int) := by rw [Nat.shiftLeft_eq]; simp
  rw [e, wrap_u64', wrap_8]
  omega
theorem or_put (y u r : Nat) (hy : y < 256) (hr : r < 8) : bits .or .u8 (y : Int) (IntKind.u8.wrap (IntKind.u64.wrap ((u : Int) * 2 ^ r))) = ((y ||| u <<< r % 256 : Nat) : Int) := by
  rw [shl_put u r hr, or_8 _ _ hy (Nat.mod_lt _ (by omega))]
theorem shr_cast (u m : Nat) : (u : Int) / 2 ^ m = ((u >>> m : Nat) : Int) := by rw [Nat.shiftRight_eq_div_pow]; simp
attribute [local go_sem] qUpon putAll slotV
set_option maxRecDepth 100000 in
set_option maxHeartbeats 1600000 in
theorem p_put (g s N a v wd : Nat) (W : World) (hg : Blk W g 5 (u8s (upN N s 8)).toArray) (hfit : a + wd ≤ 8 * s) (hv : v < 2 ^ wd) (hwd : wd ≤ 64) (hs : s ≤ 1048576) (M : Nat) (hM : (N ||| v <<< a) = M) :
    Calls Try.prog 77 #[.slice (some ⟨g, 0, none⟩) s s, .int .i64 (a : Int), .int .u64 (v : Int), .int .i64 (wd : Int)] W (PutPost g s M W) := by
  have Hg := hide hg
  have Hv := hide hv
  have HM := hide hM
  obtain ⟨E, hE⟩ : ∃ E, a + wd = E := ⟨_, rfl⟩
  have he2 : (a : Int) + (wd : Int) = (E : Int) := by omega
  have HE := hide hE
  have hEs : E ≤ 8 * s := by omega
  have HU : Hid (Upd g W W) := Upd.refl g W
  clear hg hv hM hE hfit
  go_enter Try.func77, Try.ntmps77
  go_wp2_with fail
  go_loopw [1, 2] (fun ta tv wr => ∃ (t u K : Nat), ta = .int .i64 (t : Int) ∧ tv = .int .u64 (u : Int) ∧ t ≤ E + 8 ∧ Hid (u < 2 ^ (E - t)) ∧ u < 18446744073709551616 ∧ Hid ((K ||| u <<< t) = M) ∧ Hid (Blk wr g 5 (u8s (upN K s 8)).toArray) ∧ Hid (Upd g W wr)) (fun ta _ _ => E - (intOf ta).toNat)
  case atStart => exact ⟨a, v, N, rfl, rfl, by have := HE.out; omega, hide (by rw [← HE.out, Nat.add_sub_cancel_left]; exact Hv.out), Nat.lt_of_lt_of_le Hv.out (Nat.pow_le_pow_right (n := 2) (by omega) hwd), HM, Hg, HU⟩
  case round =>
    obtain ⟨t, u, K, rfl, rfl, ht, Hu, hu, HK, HB, HU⟩ := hrel
    by_cases hlt : t < E
    · obtain ⟨j, hjt⟩ : ∃ j, t / 8 = j := ⟨_, rfl⟩
      obtain ⟨r, hrt⟩ : ∃ r, t % 8 = r := ⟨_, rfl⟩
      have hj : j < s := by omega
      have hr : r < 8 := by omega
      have c1 := up_cell HB.out hj
      have f1 := HB.out.frozen j
      have hy : (upN K s 8).getD j 0 < 256 := IsB.get (l := upN K s 8) (upN_fit K s 8) _
      obtain ⟨y, hyy⟩ : ∃ y, (upN K s 8).getD j 0 = y := ⟨_, rfl⟩
      rw [hyy] at c1 hy
      have Hyy := hide hyy
      have d1 : decide ((t : Int) < (E : Int)) = true := decide_eq_true (by omega)
      have o := or_put y u r hy hr
      have B1 := up_store HB.out hj (x := u <<< r % 256) (Nat.mod_lt _ (by omega))
      rw [hyy] at B1
      have U1 := upd_here (k := j) HU.out (.int .u8 ((y ||| u <<< r % 256 : Nat) : Int))
      have HK1 : Hid (((K ||| (u <<< r % 256) <<< (j * 8)) ||| (u >>> (8 - r)) <<< (t + (8 - r))) = M) := by
        show _ = _
        rw [← HK.out, Nat.or_assoc]
        congr 1
        have := put_step u t
        rw [hrt, hjt] at this
        exact this
      have Hu1 : Hid (u >>> (8 - r) < 2 ^ (E - (t + (8 - r)))) := by
        have := shr_lt (8 - r) Hu.out
        rw [Nat.sub_sub] at this
        exact this
      obtain ⟨x, hx⟩ : ∃ x, (y ||| u <<< r % 256) = x := ⟨_, rfl⟩
      rw [hx] at o B1 U1
      obtain ⟨K1, hK1⟩ : ∃ K1, (K ||| (u <<< r % 256) <<< (j * 8)) = K1 := ⟨_, rfl⟩
      rw [hK1] at B1 HK1
      obtain ⟨m, hm⟩ : ∃ m, 8 - r = m := ⟨_, rfl⟩
      rw [hm] at HK1 Hu1
      have hu1 : u >>> m < 18446744073709551616 := Nat.lt_of_le_of_lt (by rw [Nat.shiftRight_eq_div_pow]; exact Nat.div_le_self _ _) hu
      have em : (8 : Int) - (r : Int) = (m : Int) := by omega
      have es := shr_cast u m
      obtain ⟨u1, hu1'⟩ : ∃ u1, u >>> m = u1 := ⟨_, rfl⟩
      rw [hu1'] at HK1 Hu1 hu1 es
      have m0 : (0 : Int) ≤ (m : Int) := by omega
      have m2 : ((m : Int)).toNat = m := by omega
      have hm8 : m ≤ 8 := by omega
      have hm1 : 1 ≤ m := by omega
      have B1 := hide B1
      have U1 := hide U1
      clear hx hK1 hm hu1'
      have er : (t : Int) % 8 = (r : Int) := by omega
      have er2 : (t : Int).tmod 8 = (r : Int) := by rw [Int.tmod_eq_emod_of_nonneg (by omega)]; exact er
      have ej : IntKind.i64.wrap ((t : Int) / 8) = (j : Int) := by
        have : (t : Int) / 8 = (j : Int) := by omega
        rw [this]; simp [IntKind.wrap, IntKind.bits, IntKind.signed]; omega
      have i0 : (0 : Int) ≤ (j : Int) := by omega
      have i1 : (j : Int) < (s : Int) := by omega
      have i2 : ((j : Int)).toNat = j := by omega
      have r0 : (0 : Int) ≤ (r : Int) := by omega
      have r2 : ((r : Int)).toNat = r := by omega
      have Hjt := hide hjt
      have Hrt := hide hrt
      clear hyy hjt hrt
      go_upto_region 3 with fail
      go_region_law (fail)
      have X1 : Hid (Blk (wr.setCell ⟨g, j, none⟩ (.int .u8 (x : Int))).drew g 5 (u8s (upN K1 s 8)).toArray) := B1
      have Y1 : Hid (Upd g W (wr.setCell ⟨g, j, none⟩ (.int .u8 (x : Int))).drew) := U1
      go_wp2_with fail
      go_roundw
      case rel => exact ⟨t + m, u1, K1, by go_num, rfl, by omega, Hu1, hu1, HK1, X1, Y1⟩
      case measure => simp [intOf]; omega
    · have d1 : decide ((t : Int) < (E : Int)) = false := decide_eq_false (by omega)
      go_wp2_with fail
      refine bodyPost_ret (v := .tuple #[]) (by simp [results, Try.results77, go_sem]) rfl ?_
      have h0 : u = 0 := by
        have := Hu.out
        rw [show E - t = 0 by omega] at this
        omega
      have hK := HK.out
      rw [h0] at hK
      simp only [Nat.zero_shiftLeft, Nat.or_zero] at hK
      rw [← hK]
      exact ⟨rfl, HB.out, HU.out⟩
theorem run_mk8b (n m : Nat) (hnm : n ≤ m) (hm : m ≤ 281474976710656) (w : World) : (Instr.makeSlice 28 (.int .i64 (n : Int)) (.int .i64 (m : Int))).run Try.prog w = .ok (.slice (some ⟨w.heap.size, 0, none⟩) n m) (w.alloc (.cells (u8s (List.replicate m 0)).toArray 5)) := by
  obtain ⟨i0, hi0, hz0, hz1, hz2⟩ := info_parts info_u8
  have := run_make (P := Try.prog) w 28 5 i0 (.int .u8 0) Try.underlying28 hi0 hz0 .i64 .i64 (n : Int) (m : Int) (by omega) (by omega) (by rw [hz2]; omega) (by omega)
  rw [this, hz1, Int.toNat_natCast, Int.toNat_natCast]
  have e : madeCells (Value.int .u8 0).cells (m * 1) = (u8s (List.replicate m 0)).toArray := by
    rw [← made8 m]
  rw [e]
theorem up_zero (S w : Nat) : upN 0 S w = List.replicate S 0 := by
  apply List.ext_getElem
  · simp [upN]
  · intro i h1 h2
    simp [upN]
theorem own_up {B g s M : Nat} {w : World} (hB : B ≤ g) (h : Blk w g 5 (u8s (upN M s 8)).toArray) (hs : s ≤ 1048576) : OwnB B w (.slice (some ⟨g, 0, none⟩) s s) (upN M s 8) :=
  own_of (m := []) hB (by rw [List.append_nil]; exact h) (upN_len _ _ _) (by simp) (by omega) (upN_fit M s 8)
/-- Bytes and whether there are such. -/
def PkPost (o : Option (List Nat)) (W : World) (e : Ending) (w' : World) : Prop := ∃ v, e = .returned (.tuple #[v, .bool o.isSome]) ∧ OwnB W.heap.size w' v (o.getD []) ∧ Ext W w'
theorem siz_out {n : Nat} {w : Int} (h : w < 0 ∨ 64 < w ∨ 65536 < n) : siz (n : Int) w = -1 := if_pos (by omega)
theorem siz_in {n v : Nat} (h1 : n ≤ 65536) (h2 : v ≤ 64) : siz (n : Int) (v : Int) = (((n * v + 7) / 8 : Nat) : Int) := by
  rw [siz, if_neg (by omega)]; omega
theorem nv_le {n v : Nat} (h1 : n ≤ 65536) (h2 : v ≤ 64) : n * v ≤ 4194304 := Nat.mul_le_mul h1 h2
set_option maxRecDepth 100000 in
set_option maxHeartbeats 1600000 in
theorem p_pack (A : Option Addr) (n c : Nat) (l : List Nat) (wd : Int) (W : World) (hl : WordsAt W A l) (hn : l.length = n) (hwd : I64 wd) :
    Calls Try.prog 70 #[.slice A n c, .int .i64 wd] W (PkPost (pkR l wd) W) := by
  have hn63 : n ≤ 9223372036854775807 := by have := hl.2.1; omega
  by_cases hc : wd < 0 ∨ 64 < wd ∨ 65536 < n
  · have e : pkR l wd = none := if_pos (by omega)
    rw [e]
    have KS : Hid (∀ w, Calls Try.prog 68 #[.int .i64 (n : Int), .int .i64 wd] w (RetSame (.int .i64 (-1)) w)) := hide (fun w => by
      have := p_siz (n : Int) wd w ⟨by omega, by omega⟩ hwd
      rw [siz_out hc] at this
      exact this)
    clear hl hn hc
    go_enter Try.func70, Try.ntmps70
    go_wp2_with (go_at_call 68; (with_reducible refine (KS.out _).mono ?_); rintro e w1 ⟨rfl, rfl⟩)
    go_ret2
    exact ⟨_, rfl, OwnB.nil_ _ _, Ext.refl _⟩
  · obtain ⟨v, rfl⟩ := Int.eq_ofNat_of_zero_le (show 0 ≤ wd by omega)
    have hv : v ≤ 64 := by omega
    have hn2 : n ≤ 65536 := by omega
    have hnv := nv_le hn2 hv
    obtain ⟨S, hS⟩ : ∃ S, (n * v + 7) / 8 = S := ⟨_, rfl⟩
    have hS8 : n * v ≤ 8 * S := by omega
    have hS2 : S ≤ 1048576 := by omega
    have KS : Hid (∀ w, Calls Try.prog 68 #[.int .i64 (n : Int), .int .i64 (v : Int)] w (RetSame (.int .i64 (S : Int)) w)) := hide (fun w => by
      have := p_siz (n : Int) (v : Int) w ⟨by omega, by omega⟩ hwd
      rw [siz_in hn2 hv, hS] at this
      exact this)
    have KW : Hid (Calls Try.prog 55 #[.slice A n c] W (Ret (.int .i64 (wdt l : Int)) W)) := hide (p_wd A n c l W hl hn)
    have hw64 := wdt_le hl.1
    by_cases hw : v < wdt l
    · have e : pkR l (v : Int) = none := if_pos (by omega)
      rw [e]
      obtain ⟨u, hu⟩ : ∃ u, wdt l = u := ⟨_, rfl⟩
      rw [hu] at hw hw64 KW
      have d1 : decide ((v : Int) < (u : Int)) = true := decide_eq_true (by omega)
      clear hl hn hc hnv hS hS8 hu
      go_enter Try.func70, Try.ntmps70
      go_wp2_with (first
        | (go_at_call 68; (with_reducible refine (KS.out _).mono ?_); rintro e w1 ⟨rfl, rfl⟩)
        | (go_at_call 55; (with_reducible refine (KW.out).mono ?_); rintro e w1 ⟨rfl, hE⟩))
      go_ret2
      exact ⟨_, rfl, OwnB.nil_ _ _, hE⟩
    · have e : pkR l (v : Int) = some (upN (pkN l v) S 8) := by
        unfold pkR
        rw [if_neg (by omega), Int.toNat_natCast, hn, hS]
      rw [e]
      have hf := hide ((wdt_iff hl.1 v).2 (by omega))
      obtain ⟨u, hu⟩ : ∃ u, wdt l = u := ⟨_, rfl⟩
      rw [hu] at hw hw64 KW
      have d1 : decide ((v : Int) < (u : Int)) = false := decide_eq_false (by omega)
      have hm := run_mk8b S S (Nat.le_refl _) (by omega)
      have HL := hide hl
      have Hn := hide hn
      have Hnv := hide (show ∀ k, k < n → k * v + v ≤ n * v from fun k hk => by
        have := Nat.mul_le_mul_right v (show k + 1 ≤ n from hk)
        rw [Nat.succ_mul] at this
        exact this)
      have HS8 := hide hS8
      have Hnv2 := hide hnv
      clear hl hn hc hnv hS hS8 hu e
      go_enter Try.func70, Try.ntmps70
      go_upto_region 4 with (first
        | (go_at_call 68; (with_reducible refine (KS.out _).mono ?_); rintro e w1 ⟨rfl, rfl⟩)
        | (go_at_call 55; (with_reducible refine (KW.out).mono ?_); rintro e w1 ⟨rfl, hE⟩))
      go_upto_region 5 with fail
      have B1 := Blk.new w1 5 (u8s (List.replicate S 0)).toArray
      have E1 := Ext.trans hE (ext_alloc w1 (.cells (u8s (List.replicate S 0)).toArray 5))
      rw [← up_zero S 8] at B1 E1 ⊢
      obtain ⟨w2, hw2⟩ : ∃ w2, w1.alloc (.cells (u8s (upN 0 S 8)).toArray 5) = w2 := ⟨_, rfl⟩
      rw [hw2] at B1 E1 ⊢
      have hgW : W.heap.size ≤ w1.heap.size := hE.size
      obtain ⟨g, hg⟩ : ∃ g, w1.heap.size = g := ⟨_, rfl⟩
      rw [hg] at B1 hgW ⊢
      have HL2 := hide (HL.out.ext E1)
      have B1 := hide B1
      have E1 := hide E1
      have HgW := hide hgW
      have hWg : g < w2.heap.size := B1.out.lt
      clear hE hw2 hg KS KW hgW
      go_wp2_with fail
      go_loopw [26] (fun i wr => ∃ k : Nat, k ≤ n ∧ i = .int .i64 (k : Int) ∧ Hid (Blk wr g 5 (u8s (upN (pkN (l.take k) v) S 8)).toArray) ∧ Hid (Upd g w2 wr)) (fun i _ => n - (intOf i).toNat)
      case atStart => exact ⟨0, by omega, rfl, B1, hide (Upd.refl _ _)⟩
      case round =>
        clear B1
        obtain ⟨k, hk, rfl, HB, HU⟩ := hrel
        by_cases hlt : k < n
        · have hkl : k < l.length := by rw [Hn.out]; exact hlt
          obtain ⟨b, off, rfl, hb1, hc1⟩ := HL2.out.2.2 (by omega)
          have hbg : b ≠ g := by
            obtain ⟨b', off', e', hb', _⟩ := HL.out.2.2 (by omega)
            have := HgW.out
            injection e' with e'
            injection e' with e' _
            omega
          have hx : l.getD k 0 < 2 ^ v := by
            rw [getD_lt hkl]
            exact hf.out _ (List.getElem_mem _)
          have d1 : wr.cell? ⟨b, off + k, none⟩ = some (.int .u64 ((l.getD k 0 : Nat) : Int)) := (World.cell?_of_block (a := ⟨b, off + k, none⟩) (HU.out.2.2.2.2 b hb1 hbg)).trans (hc1 k hkl)
          have hM : (pkN (l.take k) v ||| (l.getD k 0) <<< (k * v)) = pkN (l.take (k + 1)) v := by
            rw [take_succ hkl, pk_or (fun y hy => hf.out y (List.mem_of_mem_take hy)), List.length_take, Nat.min_eq_left (by omega)]
          have hkv := Hnv.out k hlt
          have hkv2 : k * v + v ≤ 8 * S := Nat.le_trans hkv HS8.out
          obtain ⟨x, hxx⟩ : ∃ x, l.getD k 0 = x := ⟨_, rfl⟩
          obtain ⟨p, hp⟩ : ∃ p, k * v = p := ⟨_, rfl⟩
          rw [hxx] at hx d1 hM
          rw [hp] at hM hkv2
          have KP := hide (p_put g S (pkN (l.take k) v) p x v wr HB.out hkv2 hx hv hS2 _ hM)
          have hpi : (k : Int) * (v : Int) = (p : Int) := by rw [← hp]; simp
          have ep : IntKind.i64.wrap ((k : Int) * (v : Int)) = (p : Int) := by rw [hpi]; simp [IntKind.wrap, IntKind.bits, IntKind.signed]; omega
          clear hb1 hc1 hbg hx hM hkv hxx hp hkl
          go_wp2_with (go_at_call 77; (with_reducible refine (KP.out).mono ?_); rintro e w3 ⟨rfl, hB, hU⟩)
          have X1 := hide hB
          have Y1 := hide (HU.out.trans hU)
          clear hB hU
          go_roundw
          case rel => exact ⟨k + 1, by omega, by go_num, X1, Y1⟩
          case measure => simp [intOf]; omega
        · obtain rfl : k = n := by omega
          go_wp2_with fail
          go_ret2
          have hB := HB.out
          rw [List.take_of_length_le (by have := Hn.out; omega)] at hB
          exact ⟨_, rfl, own_up HgW.out hB hS2, Upd.ext HU.out E1.out HgW.out⟩
/-- A byte of a list, out of the list's number. -/
theorem byte_of {b : List Nat} (hb : IsB b) {j : Nat} (hj : j < b.length) : b.getD j 0 = (pkN b 8 >>> (j * 8)) % 256 := by
  have h := up_pk (l := b) (w := 8) hb
  have := upN_get (N := pkN b 8) (w := 8) hj
  rw [h] at this
  exact this
theorem get_step {N a h j r m y : Nat} (hj : (a + h) / 8 = j) (hr : (a + h) % 8 = r) (hm : 8 - r = m) (hy : y = (N >>> (j * 8)) % 256) :
    ((N >>> a) % 2 ^ h % 18446744073709551616 ||| (y >>> r) <<< h % 18446744073709551616) = (N >>> a) % 2 ^ (h + m) % 18446744073709551616 := by
  rw [show (18446744073709551616 : Nat) = 2 ^ 64 from rfl, ← Nat.or_mod_two_pow]
  congr 1
  rw [hy, show (256 : Nat) = 2 ^ 8 from rfl]
  apply Nat.eq_of_testBit_eq
  intro i
  simp only [Nat.testBit_or, Nat.testBit_shiftLeft, Nat.testBit_mod_two_pow, Nat.testBit_shiftRight, ge_iff_le]
  by_cases h1 : i < h
  · rw [decide_eq_true h1, decide_eq_false (show ¬ h ≤ i by omega), decide_eq_true (show i < h + m by omega)]; simp
  · rw [decide_eq_false h1, decide_eq_true (show h ≤ i by omega)]
    by_cases h2 : i < h + m
    · rw [decide_eq_true h2, decide_eq_true (show r + (i - h) < 8 by omega), show j * 8 + (r + (i - h)) = a + i by omega]; simp
    · rw [decide_eq_false h2, decide_eq_false (show ¬ r + (i - h) < 8 by omega)]; simp
theorem get_fin {G h wd : Nat} (h1 : wd ≤ h) (h2 : wd ≤ 64) : G % 2 ^ h % 18446744073709551616 % 2 ^ wd = G % 2 ^ wd := by
  have e : (18446744073709551616 : Nat) = 2 ^ 64 := rfl
  rw [e, Nat.mod_mod_of_dvd _ (Nat.pow_dvd_pow 2 h2), Nat.mod_mod_of_dvd _ (Nat.pow_dvd_pow 2 h1)]
theorem idx8o (b off N cap j : Nat) (h : j < N) (w : World) : (Instr.indexAt 28 (.slice (some ⟨b, off, none⟩) N cap) (.int .i64 (j : Int))).run Try.prog w = .ok (.pointer (some ⟨b, off + j, none⟩)) w := by
  have hz := Try.sizeOf5
  have he : Try.prog.elem 28 = 5 := by kernel_rfl
  have hr := run_indexAt_slice (P := Try.prog) (w := w) 28 ⟨b, off, none⟩ N cap .i64 (j : Int) (by kernel_rfl)
  rw [hr, if_pos ⟨by omega, by omega⟩, he, hz]
  simp [Result.andThen, add_at]
theorem shl_64 (q h : Nat) : IntKind.u64.wrap ((q : Int) * 2 ^ h) = ((q <<< h % 18446744073709551616 : Nat) : Int) := by
  have e : (q : Int) * 2 ^ h = ((q <<< h : Nat) : Int) := by rw [Nat.shiftLeft_eq]; simp
  rw [e, wrap_u64']
  omega
theorem mask_64 {wd : Nat} (h : wd ≤ 64) : IntKind.u64.wrap (IntKind.u64.wrap (2 ^ wd) - 1) = ((2 ^ wd - 1 : Nat) : Int) := by
  have e : (2 : Int) ^ wd = ((2 ^ wd : Nat) : Int) := by simp
  have hp : 0 < 2 ^ wd := Nat.two_pow_pos wd
  rw [wrap_u64', wrap_u64', e]
  rcases Nat.lt_or_ge wd 64 with h1 | h1
  · have h2 : 2 ^ wd < 2 ^ 64 := Nat.pow_lt_pow_right (by omega) h1
    generalize 2 ^ wd = p at *
    omega
  · obtain rfl : wd = 64 := by omega
    rfl
theorem and_mask {v wd : Nat} (hv : v < 18446744073709551616) (h : wd ≤ 64) : bits .and .u64 (v : Int) (IntKind.u64.wrap (IntKind.u64.wrap (2 ^ wd) - 1)) = ((v % 2 ^ wd : Nat) : Int) := by
  rw [mask_64 h]
  have hp : 0 < 2 ^ wd := Nat.two_pow_pos wd
  have h2 : 2 ^ wd ≤ 18446744073709551616 := Nat.pow_le_pow_right (n := 2) (by omega) h
  show IntKind.u64.wrap ((BitVec.ofInt 64 (v : Int) &&& BitVec.ofInt 64 ((2 ^ wd - 1 : Nat) : Int)).toNat : Int) = _
  have e : (BitVec.ofInt 64 (v : Int) &&& BitVec.ofInt 64 ((2 ^ wd - 1 : Nat) : Int)).toNat = v % 2 ^ wd := by
    rw [BitVec.toNat_and, BitVec.toNat_ofInt, BitVec.toNat_ofInt]
    have e1 : ((v : Int) % ((2 ^ 64 : Nat) : Int)).toNat = v := by omega
    have e2 : (((2 ^ wd - 1 : Nat) : Int) % ((2 ^ 64 : Nat) : Int)).toNat = 2 ^ wd - 1 := by
      generalize 2 ^ wd = p at *
      omega
    rw [e1, e2, Nat.and_two_pow_sub_one_eq_mod]
  rw [e, wrap_u64']
  have := Nat.mod_le v (2 ^ wd)
  generalize v % 2 ^ wd = q at *
  omega
set_option maxRecDepth 100000 in
set_option maxHeartbeats 1600000 in
theorem p_get (A : Option Addr) (c cap : Nat) (b : List Nat) (a wd : Nat) (W : World) (hb : BytesAt W A b) (hc : b.length = c) (hwd : wd ≤ 64) (hfit : a + wd ≤ 8 * c) (hc2 : c ≤ 1048576) (R : Nat) (hR : (pkN b 8 >>> a) % 2 ^ wd = R) :
    Calls Try.prog 83 #[.slice A c cap, .int .i64 (a : Int), .int .i64 (wd : Int)] W (Ret (.int .u64 (R : Int)) W) := by
  have HB := hide hb
  have Hc := hide hc
  have HR := hide hR
  obtain ⟨N, hN⟩ : ∃ N, pkN b 8 = N := ⟨_, rfl⟩
  have HN := hide hN
  clear hb hc hR hN
  go_enter Try.func83, Try.ntmps83
  go_wp2_with fail
  go_loop [1, 7, 8] (fun ta tv th => ∃ (h t v : Nat), ta = .int .i64 (t : Int) ∧ tv = .int .u64 (v : Int) ∧ th = .int .i64 (h : Int) ∧ t = a + h ∧ h ≤ wd + 8 ∧ Hid ((N >>> a) % 2 ^ h % 18446744073709551616 = v)) (fun _ _ th => wd - (intOf th).toNat)
  case atStart => exact ⟨0, a, 0, rfl, rfl, rfl, rfl, by omega, hide (by simp [Nat.mod_one])⟩
  case round =>
    obtain ⟨h, t, v, rfl, rfl, rfl, ht, hh, HV⟩ := hrel
    by_cases hlt : h < wd
    · obtain ⟨j, hjt⟩ : ∃ j, t / 8 = j := ⟨_, rfl⟩
      obtain ⟨r, hrt⟩ : ∃ r, t % 8 = r := ⟨_, rfl⟩
      obtain ⟨m, hm⟩ : ∃ m, 8 - r = m := ⟨_, rfl⟩
      have hj : j < c := by omega
      have hjb : j < b.length := by rw [Hc.out]; exact hj
      obtain ⟨g, off, rfl, hb1, hc1⟩ := HB.out.2.2 (by omega)
      have d1 := hc1 j hjb
      have hyb := byte_of HB.out.1 hjb
      have hy : b.getD j 0 < 256 := HB.out.1.get _
      obtain ⟨y, hyy⟩ : ∃ y, b.getD j 0 = y := ⟨_, rfl⟩
      rw [hyy] at d1 hyb hy
      rw [HN.out] at hyb
      have hst := get_step (N := N) (a := a) (h := h) (by rw [← ht]; exact hjt) (by rw [← ht]; exact hrt) hm hyb
      rw [HV.out] at hst
      have e1 := shr_cast y r
      have hq : y >>> r < 256 := Nat.lt_of_le_of_lt (by rw [Nat.shiftRight_eq_div_pow]; exact Nat.div_le_self _ _) hy
      obtain ⟨q, hqq⟩ : ∃ q, y >>> r = q := ⟨_, rfl⟩
      rw [hqq] at hst e1 hq
      have e2 := shl_64 q h
      have hz : q <<< h % 18446744073709551616 < 18446744073709551616 := Nat.mod_lt _ (by omega)
      obtain ⟨z, hzz⟩ : ∃ z, q <<< h % 18446744073709551616 = z := ⟨_, rfl⟩
      rw [hzz] at hst e2 hz
      have hv : v < 18446744073709551616 := by rw [← HV.out]; exact Nat.mod_lt _ (by omega)
      have o := or_64 v z hv hz
      have hix := idx8o g off c cap j hj
      obtain ⟨x, hx⟩ : ∃ x, (v ||| z) = x := ⟨_, rfl⟩
      rw [hx] at o hst
      have Hst := hide hst.symm
      have er : (t : Int) % 8 = (r : Int) := by omega
      have ej : (t : Int) / 8 = (j : Int) := by omega
      have em : (8 : Int) - (r : Int) = (m : Int) := by omega
      have d2 : decide ((h : Int) < (wd : Int)) = true := decide_eq_true (by omega)
      have hm8 : 1 ≤ m ∧ m ≤ 8 := by omega
      have Ht := hide ht
      clear hb1 hc1 hyy hyb hst hqq hzz hx hjb hm ht
      go_upto_region 4 with fail
      go_wp2_with fail
      exact ⟨⟨h + m, t + m, x, by go_num, rfl, by go_num, by have := Ht.out; omega, by omega, Hst⟩, by simp [intOf]; omega⟩
    · have d2 : decide ((h : Int) < (wd : Int)) = false := decide_eq_false (by omega)
      have hv : v < 18446744073709551616 := by rw [← HV.out]; exact Nat.mod_lt _ (by omega)
      have o := and_mask hv hwd
      have hR : v % 2 ^ wd = R := by
        have h2 := get_fin (G := N >>> a) (h := h) (wd := wd) (by omega) hwd
        rw [HV.out] at h2
        rw [h2, ← HR.out, HN.out]
      rw [hR] at o
      clear hR
      go_wp2_with fail
      go_ret
      exact ⟨rfl, Ext.refl _⟩
theorem clr_iff {b : List Nat} (hb : IsB b) {E : Nat} (hl : b.length = (E + 7) / 8) : pkN b 8 < 2 ^ E ↔ (E % 8 = 0 ∨ b.getD (b.length - 1) 0 >>> (E % 8) = 0) := by
  have h1 := pk_lt (l := b) (w := 8) hb
  by_cases h0 : E % 8 = 0
  · rw [hl, show (E + 7) / 8 * 8 = E by omega] at h1
    exact ⟨fun _ => Or.inl h0, fun _ => h1⟩
  · have hj : b.length - 1 < b.length := by omega
    have he : (pkN b 8 >>> ((b.length - 1) * 8)) % 256 = pkN b 8 >>> ((b.length - 1) * 8) := by
      apply Nat.mod_eq_of_lt
      rw [Nat.shiftRight_eq_div_pow, Nat.div_lt_iff_lt_mul (Nat.two_pow_pos _), show (256 : Nat) = 2 ^ 8 from rfl, ← Nat.pow_add, show 8 + (b.length - 1) * 8 = b.length * 8 by omega]
      exact h1
    rw [byte_of hb hj, he, ← Nat.shiftRight_add, show (b.length - 1) * 8 + E % 8 = E by omega, Nat.shiftRight_eq_div_pow, Nat.div_eq_zero_iff]
    have := Nat.two_pow_pos E
    constructor
    · intro h; exact Or.inr (Or.inr h)
    · rintro (h | h | h)
      · omega
      · omega
      · exact h
set_option maxRecDepth 100000 in
set_option maxHeartbeats 1600000 in
theorem p_clear (A : Option Addr) (c cap : Nat) (b : List Nat) (E : Nat) (W : World) (hb : BytesAt W A b) (hc : b.length = c) (hE : c = (E + 7) / 8) (hE2 : E ≤ 4194304) (v : Bool) (hv : decide (pkN b 8 < 2 ^ E) = v) :
    Calls Try.prog 82 #[.slice A c cap, .int .i64 (E : Int)] W (Ret (.bool v) W) := by
  have hiff := clr_iff hb.1 (hc.trans hE)
  by_cases h0 : E % 8 = 0
  · have e : v = true := by rw [← hv, decide_eq_true (hiff.2 (Or.inl h0))]
    subst e
    have er : (E : Int) % 8 = 0 := by omega
    have eb : ((E : Int) % 8 == 0) = true := by rw [er]; rfl
    clear hv hiff h0 hE hb hc
    go_enter Try.func82, Try.ntmps82
    go_wp2_with fail
    go_ret
    exact ⟨rfl, Ext.refl _⟩
  · obtain ⟨r, hr⟩ : ∃ r, E % 8 = r := ⟨_, rfl⟩
    obtain ⟨j, hj⟩ : ∃ j, c - 1 = j := ⟨_, rfl⟩
    have hjc : j < c := by omega
    have hjb : j < b.length := by omega
    obtain ⟨g, off, rfl, hb1, hc1⟩ := hb.2.2 (by omega)
    have d1 := hc1 j hjb
    have hy := hb.1.get j
    have ev : v = decide (b.getD j 0 >>> r = 0) := by
      rw [hc, hj, hr] at hiff
      rw [← hv]
      by_cases hz : b.getD j 0 >>> r = 0
      · rw [decide_eq_true hz, decide_eq_true (hiff.2 (Or.inr hz))]
      · rw [decide_eq_false hz, decide_eq_false (fun hp => by rcases hiff.1 hp with h | h <;> omega)]
    obtain ⟨y, hyy⟩ : ∃ y, b.getD j 0 = y := ⟨_, rfl⟩
    rw [hyy] at d1 ev hy
    have e1 := shr_cast y r
    obtain ⟨q, hq⟩ : ∃ q, y >>> r = q := ⟨_, rfl⟩
    rw [hq] at ev e1
    have eq : ((q : Int) == 0) = v := by
      rw [ev]
      by_cases h : q = 0
      · subst h; rfl
      · rw [decide_eq_false h]; rw [beq_eq_false_iff_ne]; omega
    have er : (E : Int) % 8 = (r : Int) := by omega
    have eb : ((r : Int) == 0) = false := by rw [beq_eq_false_iff_ne]; omega
    have ej : (c : Int) - 1 = (j : Int) := by omega
    have hix := idx8o g off c cap j hjc
    have hr8 : r < 8 := by omega
    have hj2 : j ≤ 1048576 := by omega
    clear hv hiff h0 hE hb hc hr hj hc1 hb1 hyy hq ev hjb
    go_enter Try.func82, Try.ntmps82
    go_wp2_with fail
    go_ret
    exact ⟨rfl, Ext.refl _⟩
/-- Numbers and whether there are such. -/
def UpPost (o : Option (List Nat)) (W : World) (e : Ending) (w' : World) : Prop := ∃ v, e = .returned (.tuple #[v, .bool o.isSome]) ∧ OwnQ W.heap.size w' v (o.getD []) ∧ Ext W w'
/-- The first k numbers of a list, and zeros. -/
def part (L : List Nat) (m k : Nat) : List Nat := L.take k ++ List.replicate (m - k) 0
theorem part_len {L : List Nat} {m k : Nat} (hL : L.length = m) (hk : k ≤ m) : (part L m k).length = m := by
  simp [part, hL]; omega
theorem part_set {L : List Nat} {m k : Nat} (hL : L.length = m) (hk : k < m) : (part L m k).set k (L.getD k 0) = part L m (k + 1) := by
  unfold part
  have e : m - k = (m - (k + 1)) + 1 := by omega
  have e2 : (L.take k).length = k := by rw [List.length_take]; omega
  rw [e, List.replicate_succ, List.set_append_right _ _ (by omega), e2, Nat.sub_self, List.set_cons_zero, take_succ (by omega), List.append_assoc]
  rfl
theorem part_end {L : List Nat} {m : Nat} (hL : L.length = m) : part L m m = L := by
  unfold part
  rw [Nat.sub_self, List.take_of_length_le (by omega)]
  simp
theorem part_zero (L : List Nat) (m : Nat) : part L m 0 = List.replicate m 0 := by simp [part]
theorem part_store {w : World} {g m k x : Nat} {L : List Nat} (h : Blk w g 62 (q8s (part L m k)).toArray) (hL : L.length = m) (hk : k < m) (hx : L.getD k 0 = x) : Blk (w.setCell ⟨g, k, none⟩ (.int .u64 (x : Int))) g 62 (q8s (part L m (k + 1))).toArray := by
  have := h.set_ k (.int .u64 (x : Int))
  have e : (q8s (part L m k)).toArray.setIfInBounds k (.int .u64 (x : Int)) = (q8s (part L m (k + 1))).toArray := by
    rw [← part_set hL hk, hx, List.setIfInBounds_toArray]
    simp [q8s, List.map_set]
  rw [e] at this
  exact this
theorem idx64B (g N cap j : Nat) (h : j < N) (w : World) : (Instr.indexAt 33 (.slice (some ⟨g, 0, none⟩) N cap) (.int .i64 (j : Int))).run Try.prog w = .ok (.pointer (some ⟨g, j, none⟩)) w := by
  have := idx64 g 0 N cap j h w
  rw [Nat.zero_add] at this
  exact this
theorem own_q {B g m : Nat} {w : World} {L : List Nat} (hB : B ≤ g) (h : Blk w g 62 (q8s L).toArray) (hL : L.length = m) (hm : m ≤ 1048576) (hq : IsQ L) : OwnQ B w (.slice (some ⟨g, 0, none⟩) m m) L :=
  own_ofQ (m := []) hB (by rw [List.append_nil]; exact h) hL (by simp) (by omega) hq
set_option maxRecDepth 100000 in
set_option maxHeartbeats 1600000 in
theorem p_unpack (A : Option Addr) (c cap : Nat) (b : List Nat) (n wd : Int) (W : World) (hb : BytesAt W A b) (hc : b.length = c) (hn : I64 n) (hwd : I64 wd) :
    Calls Try.prog 75 #[.slice A c cap, .int .i64 n, .int .i64 wd] W (UpPost (upR b n wd) W) := by
  have hc63 : c ≤ 9223372036854775807 := by have := hb.2.1; omega
  by_cases hq : n < 0 ∨ 65536 < n ∨ wd < 0 ∨ 64 < wd
  · have e : upR b n wd = none := if_pos (by omega)
    rw [e]
    have KS : Hid (∀ w, Calls Try.prog 68 #[.int .i64 n, .int .i64 wd] w (RetSame (.int .i64 (-1)) w)) := hide (fun w => by
      have := p_siz n wd w hn hwd
      rw [siz, if_pos hq] at this
      exact this)
    have d1 : ((c : Int) != -1) = true := by rw [bne_iff_ne]; omega
    clear hb hc hq e
    go_enter Try.func75, Try.ntmps75
    go_wp2_with (go_at_call 68; (with_reducible refine (KS.out _).mono ?_); rintro e w1 ⟨rfl, rfl⟩)
    go_ret2
    exact ⟨_, rfl, OwnQ.nil_ _ _, Ext.refl _⟩
  · obtain ⟨v, rfl⟩ := Int.eq_ofNat_of_zero_le (show 0 ≤ wd by omega)
    obtain ⟨m, rfl⟩ := Int.eq_ofNat_of_zero_le (show 0 ≤ n by omega)
    have hv : v ≤ 64 := by omega
    have hm2 : m ≤ 65536 := by omega
    have hnv := nv_le hm2 hv
    obtain ⟨S, hS⟩ : ∃ S, (m * v + 7) / 8 = S := ⟨_, rfl⟩
    have KS : Hid (∀ w, Calls Try.prog 68 #[.int .i64 (m : Int), .int .i64 (v : Int)] w (RetSame (.int .i64 (S : Int)) w)) := hide (fun w => by
      have := p_siz (m : Int) (v : Int) w hn hwd
      rw [siz_in hm2 hv, hS] at this
      exact this)
    by_cases hcS : c = S
    · obtain ⟨E, hE⟩ : ∃ E, m * v = E := ⟨_, rfl⟩
      rw [hE] at hS hnv
      have hmv : (m : Int) * (v : Int) = (E : Int) := by rw [← hE]; simp
      have ep : IntKind.i64.wrap ((m : Int) * (v : Int)) = (E : Int) := by rw [hmv]; simp [IntKind.wrap, IntKind.bits, IntKind.signed]; omega
      have hS2 : c ≤ 1048576 := by omega
      subst hcS
      have d1 : ((c : Int) != (c : Int)) = false := by simp
      by_cases hk : pkN b 8 < 2 ^ E
      · have e : upR b (m : Int) (v : Int) = some (upN (pkN b 8) m v) := by
          unfold upR
          rw [Int.toNat_natCast, Int.toNat_natCast, hE, if_neg (by omega)]
        rw [e]
        have KC := hide (p_clear A c cap b E W hb hc hS.symm hnv true (decide_eq_true hk))
        obtain ⟨N, hN⟩ : ∃ N, pkN b 8 = N := ⟨_, rfl⟩
        have KG : Hid (∀ w, Ext W w → ∀ k, k < m → ∀ R, (upN N m v).getD k 0 = R → Calls Try.prog 83 #[.slice A c cap, .int .i64 ((k * v : Nat) : Int), .int .i64 (v : Int)] w (Ret (.int .u64 (R : Int)) w)) := hide (fun w hw k hk R hR => by
          have := Nat.mul_le_mul_right v (show k + 1 ≤ m from hk)
          rw [Nat.succ_mul, hE] at this
          exact p_get A c cap b (k * v) v w (hb.ext hw) hc hv (by omega) hS2 R (by rw [hN, ← hR, upN_get hk]))
        have Hkv : Hid (∀ k, k < m → k * v ≤ E) := hide (fun k hk => by
          have := Nat.mul_le_mul_right v (show k ≤ m by omega)
          omega)
        have hmk := run_mk64 m m (Nat.le_refl _) (by omega)
        rw [hN]
        obtain ⟨L, hL⟩ : ∃ L, upN N m v = L := ⟨_, rfl⟩
        have hLl : L.length = m := by rw [← hL, upN_len]
        have hLq : IsQ L := by rw [← hL]; exact (upN_fit N m v).isq hv
        rw [hL] at KG ⊢
        rw [← part_zero L m] at hmk
        have HLl := hide hLl
        have HLq := hide hLq
        clear hb hc hq hE hS e hk hN hL hLl hLq
        go_enter Try.func75, Try.ntmps75
        go_upto_region 4 with (first
          | (go_at_call 68; (with_reducible refine (KS.out _).mono ?_); rintro e w1 ⟨rfl, rfl⟩)
          | (go_at_call 82; (with_reducible refine (KC.out).mono ?_); rintro e w1 ⟨rfl, hE⟩))
        have B1 := Blk.new w1 62 (q8s (part L m 0)).toArray
        have E1 := Ext.trans hE (ext_alloc w1 (.cells (q8s (part L m 0)).toArray 62))
        obtain ⟨w2, hw2⟩ : ∃ w2, w1.alloc (.cells (q8s (part L m 0)).toArray 62) = w2 := ⟨_, rfl⟩
        rw [hw2] at B1 E1 ⊢
        have hgW : W.heap.size ≤ w1.heap.size := hE.size
        obtain ⟨g, hg⟩ : ∃ g, w1.heap.size = g := ⟨_, rfl⟩
        rw [hg] at B1 hgW ⊢
        have B1 := hide B1
        have E1 := hide E1
        have HgW := hide hgW
        clear hE hw2 hg KS KC hgW
        go_wp2_with fail
        go_loopw [28] (fun i wr => ∃ k : Nat, k ≤ m ∧ i = .int .i64 (k : Int) ∧ Hid (Blk wr g 62 (q8s (part L m k)).toArray) ∧ Hid (Ext W wr)) (fun i _ => m - (intOf i).toNat)
        case atStart => exact ⟨0, by omega, rfl, B1, E1⟩
        case round =>
          clear B1 E1
          obtain ⟨k, hk, rfl, HB, HE⟩ := hrel
          by_cases hlt : k < m
          · obtain ⟨x, hx⟩ : ∃ x, L.getD k 0 = x := ⟨_, rfl⟩
            have KG1 := hide (KG.out wr HE.out k hlt x hx)
            have hkE := Hkv.out k hlt
            obtain ⟨p, hp⟩ : ∃ p, k * v = p := ⟨_, rfl⟩
            rw [hp] at KG1 hkE
            have hpi : (k : Int) * (v : Int) = (p : Int) := by rw [← hp]; simp
            have ep2 : IntKind.i64.wrap ((k : Int) * (v : Int)) = (p : Int) := by rw [hpi]; simp [IntKind.wrap, IntKind.bits, IntKind.signed]; omega
            have hix := idx64B g m m k hlt
            have Hx := hide hx
            clear hx hp
            go_wp2_with (go_at_call 83; (with_reducible refine (KG1.out).mono ?_); rintro e w3 ⟨rfl, hE⟩; have B3 := HB.out.ext hE; have hcx := B3.cell k; have f3 := B3.frozen k; have Z3 := hide (part_store B3 HLl.out hlt Hx.out); have E3 := hide (Below.setCell (Ext.trans HE.out hE) (p := ⟨g, k, none⟩) HgW.out (.int .u64 (x : Int))); rw [List.getElem?_toArray, List.getElem?_eq_getElem (by rw [q8s_len, part_len HLl.out hk]; exact hlt)] at hcx; clear hE B3)
            go_roundw
            case rel => exact ⟨k + 1, by omega, by go_num, Z3, E3⟩
            case measure => simp [intOf]; omega
          · obtain rfl : k = m := by omega
            go_wp2_with fail
            go_ret2
            have hB := HB.out
            rw [part_end HLl.out] at hB
            exact ⟨_, rfl, own_q HgW.out hB HLl.out (by omega) HLq.out, HE.out⟩
      · have e : upR b (m : Int) (v : Int) = none := by
          unfold upR
          rw [Int.toNat_natCast, Int.toNat_natCast, hE, if_pos (by omega)]
        rw [e]
        have KC := hide (p_clear A c cap b E W hb hc hS.symm hnv false (decide_eq_false hk))
        clear hb hc hq hE hS e hk
        go_enter Try.func75, Try.ntmps75
        go_wp2_with (first
          | (go_at_call 68; (with_reducible refine (KS.out _).mono ?_); rintro e w1 ⟨rfl, rfl⟩)
          | (go_at_call 82; (with_reducible refine (KC.out).mono ?_); rintro e w1 ⟨rfl, hE⟩))
        go_ret2
        exact ⟨_, rfl, OwnQ.nil_ _ _, hE⟩
    · have e : upR b (m : Int) (v : Int) = none := by
        unfold upR
        rw [Int.toNat_natCast, Int.toNat_natCast, hS, if_pos (by omega)]
      rw [e]
      have d1 : ((c : Int) != (S : Int)) = true := by rw [bne_iff_ne]; omega
      clear hb hc hq hS e hcS
      go_enter Try.func75, Try.ntmps75
      go_wp2_with (go_at_call 68; (with_reducible refine (KS.out _).mono ?_); rintro e w1 ⟨rfl, rfl⟩)
      go_ret2
      exact ⟨_, rfl, OwnQ.nil_ _ _, Ext.refl _⟩
set_option maxRecDepth 100000 in
theorem r_siz (n w : Int) (W : World) (hn : I64 n) (hw : I64 w) : Calls Try.prog 47 #[.int .i64 n, .int .i64 w] W (RetSame (.int .i64 (siz n w)) W) := by
  obtain ⟨n1, n2⟩ := hn
  obtain ⟨w1, w2⟩ := hw
  by_cases h1 : n < 0
  · have e : siz n w = -1 := if_pos (Or.inl h1)
    rw [e]
    go_enter Try.func47, Try.ntmps47
    go_wp2_with fail
    go_ret
    exact ⟨rfl, rfl⟩
  · by_cases h2 : 65536 < n
    · have e : siz n w = -1 := if_pos (Or.inr (Or.inl h2))
      rw [e]
      go_enter Try.func47, Try.ntmps47
      go_wp2_with fail
      go_ret
      exact ⟨rfl, rfl⟩
    · by_cases h3 : w < 0
      · have e : siz n w = -1 := if_pos (Or.inr (Or.inr (Or.inl h3)))
        rw [e]
        go_enter Try.func47, Try.ntmps47
        go_wp2_with fail
        go_ret
        exact ⟨rfl, rfl⟩
      · by_cases h4 : 64 < w
        · have e : siz n w = -1 := if_pos (Or.inr (Or.inr (Or.inr h4)))
          rw [e]
          go_enter Try.func47, Try.ntmps47
          go_wp2_with fail
          go_ret
          exact ⟨rfl, rfl⟩
        · have e : siz n w = (n * w + 7) / 8 := if_neg (by omega)
          rw [e]
          have hm0 : 0 ≤ n * w := Int.mul_nonneg (by omega) (by omega)
          have hm1 : n * w ≤ 65536 * 64 := Int.mul_le_mul (by omega) (by omega) (by omega) (by omega)
          obtain ⟨p, hp⟩ : ∃ p, n * w = p := ⟨_, rfl⟩
          rw [hp] at hm0 hm1 ⊢
          have ep : IntKind.i64.wrap (n * w) = p := by rw [hp]; simp [IntKind.wrap, IntKind.bits, IntKind.signed]; omega
          have ed : (p + 7).tdiv 8 = (p + 7) / 8 := Int.tdiv_eq_ediv_of_nonneg (by omega)
          go_enter Try.func47, Try.ntmps47
          go_wp2_with fail
          go_ret
          exact ⟨rfl, rfl⟩
/-- The width goes on while the number does not fit. -/
theorem wd_step {l : List Nat} (hl : IsQ l) {k u : Nat} (hk : k < l.length) (h1 : wdt (l.take k) ≤ u) :
    (l.getD k 0 >>> u = 0 ↔ wdt (l.take (k + 1)) ≤ u) := by
  have h2 : l.getD k 0 >>> u = 0 ↔ l.getD k 0 < 2 ^ u := by
    rw [Nat.shiftRight_eq_div_pow, Nat.div_eq_zero_iff]
    have := Nat.two_pow_pos u
    omega
  have hq1 : IsQ (l.take k) := hl.take k
  have hq2 : IsQ (l.take (k + 1)) := hl.take (k + 1)
  rw [h2, ← wdt_iff hq2, take_succ hk]
  have h3 := (wdt_iff hq1 u).2 h1
  constructor
  · intro h y hy
    rcases List.mem_append.1 hy with hy | hy
    · exact h3 y hy
    · simp at hy; subst hy; simpa using h
  · intro h
    exact h _ (by simp)
theorem wd_mono {l : List Nat} (hl : IsQ l) (k : Nat) : wdt (l.take k) ≤ wdt (l.take (k + 1)) := by
  have hq1 : IsQ (l.take k) := hl.take k
  have hq2 : IsQ (l.take (k + 1)) := hl.take (k + 1)
  rw [← wdt_iff hq1]
  have := (wdt_iff hq2 (wdt (l.take (k + 1)))).2 (Nat.le_refl _)
  intro y hy
  refine this y ?_
  have e : l.take k = (l.take (k + 1)).take k := by rw [List.take_take]; congr 1; omega
  rw [e] at hy
  exact List.mem_of_mem_take hy
set_option maxRecDepth 100000 in
set_option maxHeartbeats 1600000 in
theorem r_wd (A : Option Addr) (n c : Nat) (l : List Nat) (W : World) (hl : WordsAt W A l) (hn : l.length = n) : Calls Try.prog 32 #[.slice A n c] W (Ret (.int .i64 (wdt l : Int)) W) := by
  have HL := hide hl
  have Hn := hide hn
  have Hq := hide hl.1
  have hn63 : n ≤ 9223372036854775807 := by have := hl.2.1; omega
  clear hl hn
  go_enter Try.func32, Try.ntmps32
  go_wp2_with fail
  go_loop [3, 4] (fun t i => ∃ k u : Nat, k ≤ n ∧ i = .int .i64 (k : Int) ∧ t = .int .i64 (u : Int) ∧ Hid (wdt (l.take k) = u)) (fun _ i => n - (intOf i).toNat)
  case atStart => exact ⟨0, 0, by omega, rfl, rfl, hide (by simp [wdt, orl]; rfl)⟩
  case round =>
    obtain ⟨k, u, hk, rfl, rfl, HV⟩ := hrel
    by_cases hlt : k < n
    · have hkl : k < l.length := by rw [Hn.out]; exact hlt
      obtain ⟨b, off, rfl, hb1, hc1⟩ := HL.out.2.2 (by omega)
      have d1 := hc1 k hkl
      have hx : l.getD k 0 < 18446744073709551616 := Hq.out.get k
      have hst : Hid (∀ u, wdt (l.take k) ≤ u → (l.getD k 0 >>> u = 0 ↔ wdt (l.take (k + 1)) ≤ u)) := hide (fun u h => wd_step Hq.out hkl h)
      have hle := wd_mono Hq.out k
      have h64 := wdt_le (Hq.out.take (k + 1))
      rw [HV.out] at hle hst
      obtain ⟨x, hxx⟩ : ∃ x, l.getD k 0 = x := ⟨_, rfl⟩
      obtain ⟨z, hz⟩ : ∃ z, wdt (l.take (k + 1)) = z := ⟨_, rfl⟩
      rw [hxx] at d1 hst hx
      rw [hz] at hle h64 hst
      have Hz := hide hz
      have hu := hide hle
      clear hc1 hxx hkl hb1 HV hz
      go_wp2_with fail
      go_loop [3] (fun t => ∃ y : Nat, t = .int .i64 (y : Int) ∧ u ≤ y ∧ y ≤ z) (fun t => z - (intOf t).toNat)
      case atStart => exact ⟨u, rfl, by omega, hle⟩
      case round =>
        clear hle
        obtain ⟨y, rfl, hy1, hy2⟩ := hrel
        have hs := hst.out y hy1
        have e1 := shr_cast x y
        have hq : x >>> y < 18446744073709551616 := Nat.lt_of_le_of_lt (by rw [Nat.shiftRight_eq_div_pow]; exact Nat.div_le_self _ _) hx
        obtain ⟨q, hqq⟩ : ∃ q, x >>> y = q := ⟨_, rfl⟩
        rw [hqq] at hs e1 hq
        clear hqq
        by_cases h6 : y < 64
        · have hd6 : decide ((y : Int) < 64) = true := decide_eq_true (by omega)
          by_cases h0 : q = 0
          · have hzy : z = y := by have := hs.1 h0; omega
            have hb : ((q : Int) != 0) = false := by rw [h0]; rfl
            have Hzy := hide hzy
            clear hs h0 hzy
            go_wp2_with fail
            go_round
            case rel => exact ⟨k + 1, y, by omega, by go_num, rfl, hide (Hz.out.trans Hzy.out)⟩
            case measure => simp [intOf]; omega
          · have hb : ((q : Int) != 0) = true := by rw [bne_iff_ne]; omega
            have hyz : y < z := by have : ¬ z ≤ y := fun h => h0 (hs.2 h); omega
            clear hs h0
            go_wp2_with fail
            go_round
            case rel => exact ⟨y + 1, by go_num, by omega, by omega⟩
            case measure => simp [intOf]; omega
        · have hzy : z = y := by omega
          have hd6 : decide ((y : Int) < 64) = false := decide_eq_false (by omega)
          have Hzy := hide hzy
          clear hs hzy
          go_wp2_with fail
          exact ⟨⟨k + 1, y, by omega, by go_num, rfl, hide (Hz.out.trans Hzy.out)⟩, by simp [intOf]; omega⟩
    · obtain rfl : k = n := by omega
      go_wp2_with fail
      go_ret
      refine ⟨?_, Ext.refl _⟩
      rw [← HV.out, List.take_of_length_le (by have := Hn.out; omega)]
      rfl
theorem bit_put (y x q r : Nat) (hy : y < 256) (hr : r < 8) : bits .or .u8 (y : Int) (IntKind.u8.wrap (((x >>> q % 2 : Nat) : Int) * 2 ^ r)) = ((y ||| (x >>> q % 2) <<< r : Nat) : Int) ∧ (x >>> q % 2) <<< r < 256 := by
  have h2 : x >>> q % 2 < 2 := Nat.mod_lt _ (by omega)
  generalize x >>> q % 2 = t at *
  have h3 : t <<< r < 256 := by
    rw [Nat.shiftLeft_eq]
    have : 2 ^ r ≤ 2 ^ 7 := Nat.pow_le_pow_right (by omega) (by omega)
    have h4 : t * 2 ^ r ≤ 1 * 2 ^ r := Nat.mul_le_mul_right _ (by omega)
    omega
  have e : (t : Int) * 2 ^ r = ((t <<< r : Nat) : Int) := by rw [Nat.shiftLeft_eq]; simp
  have e2 : IntKind.u8.wrap ((t : Int) * 2 ^ r) = ((t <<< r : Nat) : Int) := by
    rw [e, wrap_8]
    generalize t <<< r = z at h3
    omega
  rw [e2]
  exact ⟨or_8 _ _ hy h3, h3⟩
theorem and_bit64 (x : Nat) (hx : x < 18446744073709551616) : bits .and .u64 (x : Int) 1 = ((x % 2 : Nat) : Int) := by
  have h := and_mask (v := x) (wd := 1) hx (by omega)
  have e : IntKind.u64.wrap (IntKind.u64.wrap (2 ^ 1) - 1) = 1 := rfl
  rw [e] at h
  exact h
theorem bit_more (M x p q : Nat) : (M ||| (x % 2 ^ q) <<< p) ||| (x >>> q % 2) <<< (p + q) = M ||| (x % 2 ^ (q + 1)) <<< p := by
  rw [mod_or, Nat.shiftLeft_or_distrib, ← Nat.shiftLeft_add, Nat.add_comm q p, Nat.or_assoc]
set_option maxRecDepth 100000 in
set_option maxHeartbeats 1600000 in
theorem r_pack (A : Option Addr) (n c : Nat) (l : List Nat) (wd : Int) (W : World) (hl : WordsAt W A l) (hn : l.length = n) (hwd : I64 wd) :
    Calls Try.prog 33 #[.slice A n c, .int .i64 wd] W (PkPost (pkR l wd) W) := by
  have hn63 : n ≤ 9223372036854775807 := by have := hl.2.1; omega
  by_cases hc : wd < 0 ∨ 64 < wd ∨ 65536 < n
  · have e : pkR l wd = none := if_pos (by omega)
    rw [e]
    have KS : Hid (∀ w, Calls Try.prog 47 #[.int .i64 (n : Int), .int .i64 wd] w (RetSame (.int .i64 (-1)) w)) := hide (fun w => by
      have := r_siz (n : Int) wd w ⟨by omega, by omega⟩ hwd
      rw [siz_out hc] at this
      exact this)
    clear hl hn hc
    go_enter Try.func33, Try.ntmps33
    go_wp2_with (go_at_call 47; (with_reducible refine (KS.out _).mono ?_); rintro e w1 ⟨rfl, rfl⟩)
    go_ret2
    exact ⟨_, rfl, OwnB.nil_ _ _, Ext.refl _⟩
  · obtain ⟨v, rfl⟩ := Int.eq_ofNat_of_zero_le (show 0 ≤ wd by omega)
    have hv : v ≤ 64 := by omega
    have hn2 : n ≤ 65536 := by omega
    have hnv := nv_le hn2 hv
    obtain ⟨S, hS⟩ : ∃ S, (n * v + 7) / 8 = S := ⟨_, rfl⟩
    have hS8 : n * v ≤ 8 * S := by omega
    have hS2 : S ≤ 1048576 := by omega
    have KS : Hid (∀ w, Calls Try.prog 47 #[.int .i64 (n : Int), .int .i64 (v : Int)] w (RetSame (.int .i64 (S : Int)) w)) := hide (fun w => by
      have := r_siz (n : Int) (v : Int) w ⟨by omega, by omega⟩ hwd
      rw [siz_in hn2 hv, hS] at this
      exact this)
    have KW : Hid (Calls Try.prog 32 #[.slice A n c] W (Ret (.int .i64 (wdt l : Int)) W)) := hide (r_wd A n c l W hl hn)
    have hw64 := wdt_le hl.1
    by_cases hw : v < wdt l
    · have e : pkR l (v : Int) = none := if_pos (by omega)
      rw [e]
      obtain ⟨u, hu⟩ : ∃ u, wdt l = u := ⟨_, rfl⟩
      rw [hu] at hw hw64 KW
      have d1 : decide ((v : Int) < (u : Int)) = true := decide_eq_true (by omega)
      clear hl hn hc hnv hS hS8 hu
      go_enter Try.func33, Try.ntmps33
      go_wp2_with (first
        | (go_at_call 47; (with_reducible refine (KS.out _).mono ?_); rintro e w1 ⟨rfl, rfl⟩)
        | (go_at_call 32; (with_reducible refine (KW.out).mono ?_); rintro e w1 ⟨rfl, hE⟩))
      go_ret2
      exact ⟨_, rfl, OwnB.nil_ _ _, hE⟩
    · have e : pkR l (v : Int) = some (upN (pkN l v) S 8) := by
        unfold pkR
        rw [if_neg (by omega), Int.toNat_natCast, hn, hS]
      rw [e]
      have hf := hide ((wdt_iff hl.1 v).2 (by omega))
      obtain ⟨u, hu⟩ : ∃ u, wdt l = u := ⟨_, rfl⟩
      rw [hu] at hw hw64 KW
      have d1 : decide ((v : Int) < (u : Int)) = false := decide_eq_false (by omega)
      have hm := run_mk8b S S (Nat.le_refl _) (by omega)
      have HL := hide hl
      have Hn := hide hn
      have Hnv := hide (show ∀ k, k < n → k * v + v ≤ n * v from fun k hk => by
        have := Nat.mul_le_mul_right v (show k + 1 ≤ n from hk)
        rw [Nat.succ_mul] at this
        exact this)
      have HS8 := hide hS8
      have Hnv2 := hide hnv
      clear hl hn hc hnv hS hS8 hu e
      go_enter Try.func33, Try.ntmps33
      go_upto_region 4 with (first
        | (go_at_call 47; (with_reducible refine (KS.out _).mono ?_); rintro e w1 ⟨rfl, rfl⟩)
        | (go_at_call 32; (with_reducible refine (KW.out).mono ?_); rintro e w1 ⟨rfl, hE⟩))
      go_upto_region 5 with fail
      have B1 := Blk.new w1 5 (u8s (List.replicate S 0)).toArray
      have E1 := Ext.trans hE (ext_alloc w1 (.cells (u8s (List.replicate S 0)).toArray 5))
      rw [← up_zero S 8] at B1 E1 ⊢
      obtain ⟨w2, hw2⟩ : ∃ w2, w1.alloc (.cells (u8s (upN 0 S 8)).toArray 5) = w2 := ⟨_, rfl⟩
      rw [hw2] at B1 E1 ⊢
      have hgW : W.heap.size ≤ w1.heap.size := hE.size
      obtain ⟨g, hg⟩ : ∃ g, w1.heap.size = g := ⟨_, rfl⟩
      rw [hg] at B1 hgW ⊢
      have HL2 := hide (HL.out.ext E1)
      have B1 := hide B1
      have E1 := hide E1
      have HgW := hide hgW
      have hWg : g < w2.heap.size := B1.out.lt
      clear hE hw2 hg KS KW hgW
      go_wp2_with fail
      go_loopw [8] (fun i wr => ∃ k : Nat, k ≤ n ∧ i = .int .i64 (k : Int) ∧ Hid (Blk wr g 5 (u8s (upN (pkN (l.take k) v) S 8)).toArray) ∧ Hid (Upd g w2 wr)) (fun i _ => n - (intOf i).toNat)
      case atStart => exact ⟨0, by omega, rfl, B1, hide (Upd.refl _ _)⟩
      case round =>
        clear B1
        obtain ⟨k, hk, rfl, HB, HU⟩ := hrel
        by_cases hlt : k < n
        · have hkl : k < l.length := by rw [Hn.out]; exact hlt
          obtain ⟨b, off, rfl, hb1, hc1⟩ := HL2.out.2.2 (by omega)
          have hbg : b ≠ g := by
            obtain ⟨b', off', e', hb', _⟩ := HL.out.2.2 (by omega)
            have := HgW.out
            injection e' with e'
            injection e' with e' _
            omega
          have hx : l.getD k 0 < 2 ^ v := by
            rw [getD_lt hkl]
            exact hf.out _ (List.getElem_mem _)
          have d1 : Hid (∀ w3, Upd g w2 w3 → w3.cell? ⟨b, off + k, none⟩ = some (.int .u64 ((l.getD k 0 : Nat) : Int))) := hide (fun w3 U => (World.cell?_of_block (a := ⟨b, off + k, none⟩) (U.2.2.2.2 b hb1 hbg)).trans (hc1 k hkl))
          have hM : (pkN (l.take k) v ||| (l.getD k 0) <<< (k * v)) = pkN (l.take (k + 1)) v := by
            rw [take_succ hkl, pk_or (fun y hy => hf.out y (List.mem_of_mem_take hy)), List.length_take, Nat.min_eq_left (by omega)]
          have hkv := Hnv.out k hlt
          have hkv2 : k * v + v ≤ 8 * S := Nat.le_trans hkv HS8.out
          have hx64 : l.getD k 0 < 18446744073709551616 := Nat.lt_of_lt_of_le hx (Nat.pow_le_pow_right (n := 2) (by omega) hv)
          obtain ⟨x, hxx⟩ : ∃ x, l.getD k 0 = x := ⟨_, rfl⟩
          obtain ⟨p, hp⟩ : ∃ p, k * v = p := ⟨_, rfl⟩
          rw [hxx] at hx d1 hM hx64
          rw [hp] at hM hkv2
          have hpi : (k : Int) * (v : Int) = (p : Int) := by rw [← hp]; simp
          have ep : IntKind.i64.wrap ((k : Int) * (v : Int)) = (p : Int) := by rw [hpi]; simp [IntKind.wrap, IntKind.bits, IntKind.signed]; omega
          have HM := hide hM
          have Hx := hide hx
          obtain ⟨M, hMM⟩ : ∃ M, pkN (l.take k) v = M := ⟨_, rfl⟩
          rw [hMM] at HB HM
          have hS3 := hS2
          clear hb1 hc1 hbg hx hM hkv hxx hp hkl hMM
          go_wp2_with fail
          go_loopw [9] (fun t w3 => ∃ q : Nat, q ≤ v ∧ t = .int .i64 (q : Int) ∧ Hid (Blk w3 g 5 (u8s (upN (M ||| (x % 2 ^ q) <<< p) S 8)).toArray) ∧ Hid (Upd g w2 w3)) (fun t _ => v - (intOf t).toNat)
          case atStart => exact ⟨0, by omega, rfl, hide (by simp only [Nat.pow_zero, Nat.mod_one, Nat.zero_shiftLeft, Nat.or_zero]; exact HB.out), HU⟩
          case round =>
            clear HB HU
            obtain ⟨q, hq, rfl, HB, HU⟩ := hrel
            by_cases hqv : q < v
            · obtain ⟨t, ht⟩ : ∃ t, p + q = t := ⟨_, rfl⟩
              obtain ⟨j, hjt⟩ : ∃ j, t / 8 = j := ⟨_, rfl⟩
              obtain ⟨r, hrt⟩ : ∃ r, t % 8 = r := ⟨_, rfl⟩
              have hj : j < S := by omega
              have hr : r < 8 := by omega
              have d2 := d1.out _ HU.out
              have c1 := up_cell HB.out hj
              have f1 := HB.out.frozen j
              have hy : (upN (M ||| (x % 2 ^ q) <<< p) S 8).getD j 0 < 256 := IsB.get (l := upN (M ||| (x % 2 ^ q) <<< p) S 8) (upN_fit _ S 8) _
              obtain ⟨o, hbt⟩ := bit_put _ x q r hy hr
              have B1 := up_store HB.out hj (x := (x >>> q % 2) <<< r) hbt
              have U1 := upd_here (k := j) HU.out (.int .u8 (((upN (M ||| (x % 2 ^ q) <<< p) S 8).getD j 0 ||| (x >>> q % 2) <<< r : Nat) : Int))
              have eN : (M ||| (x % 2 ^ q) <<< p) ||| ((x >>> q % 2) <<< r) <<< (j * 8) = M ||| (x % 2 ^ (q + 1)) <<< p := by
                rw [← Nat.shiftLeft_add, show r + j * 8 = p + q by omega, bit_more]
              rw [eN] at B1
              obtain ⟨y, hyy⟩ : ∃ y, (upN (M ||| (x % 2 ^ q) <<< p) S 8).getD j 0 = y := ⟨_, rfl⟩
              rw [hyy] at c1 hy o B1 U1
              have e1 := shr_cast x q
              have hxq : x >>> q < 18446744073709551616 := Nat.lt_of_le_of_lt (by rw [Nat.shiftRight_eq_div_pow]; exact Nat.div_le_self _ _) hx64
              have e2 := and_bit64 (x >>> q) hxq
              obtain ⟨z, hz⟩ : ∃ z, x >>> q = z := ⟨_, rfl⟩
              rw [hz] at e1 e2 o B1 U1
              have hz2 : z % 2 < 2 := Nat.mod_lt _ (by omega)
              obtain ⟨d, hd⟩ : ∃ d, z % 2 = d := ⟨_, rfl⟩
              rw [hd] at e2 o B1 U1 hz2
              have e3 : IntKind.u8.wrap (d : Int) = (d : Int) := by rw [wrap_8]; omega
              obtain ⟨x1, hx1⟩ : ∃ x1, (y ||| d <<< r) = x1 := ⟨_, rfl⟩
              rw [hx1] at o B1 U1
              have ept : (p : Int) + (q : Int) = (t : Int) := by omega
              have er2 : (t : Int).tmod 8 = (r : Int) := by rw [Int.tmod_eq_emod_of_nonneg (by omega)]; omega
              have ej : IntKind.i64.wrap ((t : Int) / 8) = (j : Int) := by
                have : (t : Int) / 8 = (j : Int) := by omega
                rw [this]; simp [IntKind.wrap, IntKind.bits, IntKind.signed]; omega
              have i0 : (0 : Int) ≤ (j : Int) := by omega
              have i1 : (j : Int) < (S : Int) := by omega
              have i2 : ((j : Int)).toNat = j := by omega
              have r0 : (0 : Int) ≤ (r : Int) := by omega
              have r2 : ((r : Int)).toNat = r := by omega
              have k0 : (0 : Int) ≤ (k : Int) := by omega
              have k1 : (k : Int) < (n : Int) := by omega
              have k2 : ((k : Int)).toNat = k := by omega
              have q0 : (0 : Int) ≤ (q : Int) := by omega
              have q2 : ((q : Int)).toNat = q := by omega
              have wq : min (IntKind.u64.wrap (q : Int)).toNat 64 = q := by rw [wrap_u64']; omega
              have wr8 : min (IntKind.u64.wrap (r : Int)).toNat 8 = r := by rw [wrap_u64']; omega
              have B1 := hide B1
              have U1 := hide U1
              have Hjt := hide hjt
              have Hrt := hide hrt
              have Ht := hide ht
              have d1' := hide d1
              clear hyy hjt hrt ht hz hd hx1 eN d1
              go_upto_region 12 with fail
              go_region_law (fail)
              all_goals
                have X1 : Hid (Blk (wr.setCell ⟨g, j, none⟩ (.int .u8 (x1 : Int))).drew g 5 (u8s (upN (M ||| (x % 2 ^ (q + 1)) <<< p) S 8)).toArray) := B1
                have Y1 : Hid (Upd g w2 (wr.setCell ⟨g, j, none⟩ (.int .u8 (x1 : Int))).drew) := U1
                go_wp2_with fail
                go_roundw
                case rel => exact ⟨q + 1, by omega, by go_num, X1, Y1⟩
                case measure => simp [intOf]; omega
            · obtain rfl : q = v := by omega
              have X1 : Hid (Blk wr g 5 (u8s (upN (pkN (l.take (k + 1)) q) S 8)).toArray) := by
                have := HB.out
                rw [Nat.mod_eq_of_lt Hx.out, HM.out] at this
                exact this
              go_wp2_with fail
              exact ⟨⟨k + 1, by omega, by go_num, X1, HU⟩, by simp [intOf]; omega⟩
        · obtain rfl : k = n := by omega
          go_wp2_with fail
          go_ret2
          have hB := HB.out
          rw [List.take_of_length_le (by have := Hn.out; omega)] at hB
          exact ⟨_, rfl, own_up HgW.out hB hS2, Upd.ext HU.out E1.out HgW.out⟩
theorem up_cellQ {w : World} {g m v M j : Nat} (h : Blk w g 62 (q8s (upN M m v)).toArray) (hj : j < m) : w.cell? ⟨g, j, none⟩ = some (.int .u64 (((upN M m v).getD j 0 : Nat) : Int)) := by
  rw [h.cell j, getD_lt (by rw [upN_len]; exact hj)]
  simp [q8s, upN_len, hj]
theorem up_storeQ {w : World} {g m v M j x : Nat} (h : Blk w g 62 (q8s (upN M m v)).toArray) (hj : j < m) (hx : x < 2 ^ v) : Blk (w.setCell ⟨g, j, none⟩ (.int .u64 (((upN M m v).getD j 0 ||| x : Nat) : Int))) g 62 (q8s (upN (M ||| x <<< (j * v)) m v)).toArray := by
  have := h.set_ j (.int .u64 (((upN M m v).getD j 0 ||| x : Nat) : Int))
  have e : (q8s (upN M m v)).toArray.setIfInBounds j (.int .u64 (((upN M m v).getD j 0 ||| x : Nat) : Int)) = (q8s (upN (M ||| x <<< (j * v)) m v)).toArray := by
    rw [← up_or hj (w := v) (x := x) hx, List.setIfInBounds_toArray]
    simp [q8s, List.map_set]
  rw [e] at this
  exact this
theorem and_one8 (x : Nat) (hx : x < 256) : bits .and .u8 (x : Int) 1 = ((x % 2 : Nat) : Int) := by
  show IntKind.u8.wrap ((BitVec.ofInt 8 (x : Int) &&& BitVec.ofInt 8 (1 : Int)).toNat : Int) = _
  have e : (BitVec.ofInt 8 (x : Int) &&& BitVec.ofInt 8 (1 : Int)).toNat = x % 2 := by
    rw [BitVec.toNat_and, BitVec.toNat_ofInt, BitVec.toNat_ofInt]
    have e1 : ((x : Int) % ((2 ^ 8 : Nat) : Int)).toNat = x := by omega
    have e2 : ((1 : Int) % ((2 ^ 8 : Nat) : Int)).toNat = 2 ^ 1 - 1 := by decide
    rw [e1, e2, Nat.and_two_pow_sub_one_eq_mod]
  rw [e, wrap_8]
  omega
theorem bit_at8 {b : List Nat} (hb : IsB b) {a j r : Nat} (hj : a / 8 = j) (hr : a % 8 = r) (hl : j < b.length) : b.getD j 0 >>> r % 2 = pkN b 8 >>> a % 2 := by
  have h := up_bit (N := pkN b 8) (n := b.length) (w := 8) (k := j) (r := r) hl (by omega)
  rw [up_pk (l := b) (w := 8) hb, show j * 8 + r = a by omega] at h
  exact h
theorem bit_shl {d r v : Nat} (hd : d < 2) (hr : r < v) : d <<< r < 2 ^ v := by
  rw [Nat.shiftLeft_eq]
  have h1 : 2 ^ r < 2 ^ v := Nat.pow_lt_pow_right (by omega) hr
  have h2 : d * 2 ^ r ≤ 1 * 2 ^ r := Nat.mul_le_mul_right _ (by omega)
  omega
theorem pk_fit (N : Nat) {m v : Nat} (hm : m ≤ 65536) (hv : v ≤ 64) : ∃ q, pkR (upN N m v) (v : Int) = some q ∧ q.length = (m * v + 7) / 8 ∧ IsB q := by
  have hf := upN_fit N m v
  have hwd := (wdt_iff (hf.isq hv) v).1 hf
  refine ⟨upN (pkN (upN N m v) v) ((m * v + 7) / 8) 8, ?_, upN_len _ _ _, upN_fit _ _ 8⟩
  unfold pkR
  rw [upN_len, Int.toNat_natCast, if_neg (by omega)]
theorem own_words {w : World} {A : Option Addr} {c cap B : Nat} {l : List Nat} (h : OwnQ B w (.slice A c cap) l) : WordsAt w A l := by
  obtain ⟨A', cap', hv, _, _, hb⟩ := h.at_
  injection hv with h1 _ _
  rw [h1]; exact hb
set_option maxRecDepth 100000 in
set_option maxHeartbeats 1600000 in
theorem r_unpack (A : Option Addr) (c cap : Nat) (b : List Nat) (n wd : Int) (W : World) (hb : BytesAt W A b) (hc : b.length = c) (hn : I64 n) (hwd : I64 wd) :
    Calls Try.prog 73 #[.slice A c cap, .int .i64 n, .int .i64 wd] W (UpPost (upR b n wd) W) := by
  have hc63 : c ≤ 9223372036854775807 := by have := hb.2.1; omega
  by_cases hq : n < 0 ∨ 65536 < n ∨ wd < 0 ∨ 64 < wd
  · have e : upR b n wd = none := if_pos (by omega)
    rw [e]
    have KS : Hid (∀ w, Calls Try.prog 47 #[.int .i64 n, .int .i64 wd] w (RetSame (.int .i64 (-1)) w)) := hide (fun w => by
      have := r_siz n wd w hn hwd
      rw [siz, if_pos hq] at this
      exact this)
    clear hb hc hq e
    go_enter Try.func73, Try.ntmps73
    go_wp2_with (go_at_call 47; (with_reducible refine (KS.out _).mono ?_); rintro e w1 ⟨rfl, rfl⟩)
    go_ret2
    exact ⟨_, rfl, OwnQ.nil_ _ _, Ext.refl _⟩
  · obtain ⟨v, rfl⟩ := Int.eq_ofNat_of_zero_le (show 0 ≤ wd by omega)
    obtain ⟨m, rfl⟩ := Int.eq_ofNat_of_zero_le (show 0 ≤ n by omega)
    have hv : v ≤ 64 := by omega
    have hm2 : m ≤ 65536 := by omega
    have hnv := nv_le hm2 hv
    obtain ⟨S, hS⟩ : ∃ S, (m * v + 7) / 8 = S := ⟨_, rfl⟩
    have KS : Hid (∀ w, Calls Try.prog 47 #[.int .i64 (m : Int), .int .i64 (v : Int)] w (RetSame (.int .i64 (S : Int)) w)) := hide (fun w => by
      have := r_siz (m : Int) (v : Int) w hn hwd
      rw [siz_in hm2 hv, hS] at this
      exact this)
    by_cases hcS : c = S
    · obtain ⟨E, hE⟩ : ∃ E, m * v = E := ⟨_, rfl⟩
      have hof := upR_of (b := b) (n := m) (w := v) hb.1 hm2 hv (by rw [hc, hcS, hS])
      rw [hE] at hS hnv
      have hmv : (m : Int) * (v : Int) = (E : Int) := by rw [← hE]; simp
      have ep : IntKind.i64.wrap ((m : Int) * (v : Int)) = (E : Int) := by rw [hmv]; simp [IntKind.wrap, IntKind.bits, IntKind.signed]; omega
      have hS2 : c ≤ 1048576 := by omega
      subst hcS
      have d1 : ((c : Int) != (c : Int)) = false := by simp
      obtain ⟨N, hN⟩ : ∃ N, pkN b 8 = N := ⟨_, rfl⟩
      have hmk := run_mk64 m m (Nat.le_refl _) (by omega)
      rw [hN] at hof
      have Hof := hide hof
      have Hbit : Hid (∀ a j r, a / 8 = j → a % 8 = r → j < c → b.getD j 0 >>> r % 2 = N >>> a % 2) := hide (fun a j r h1 h2 h3 => by rw [← hN]; exact bit_at8 hb.1 h1 h2 (by rw [hc]; exact h3))
      have HE := hide hE
      have Hc := hide hc
      have HB := hide hb
      have e0 : List.replicate m 0 = upN (N % 2 ^ 0) m v := by rw [Nat.pow_zero, Nat.mod_one, up_zero]
      rw [e0] at hmk
      have HS := hide hS
      clear hb hc hq hE hS hof hN e0
      go_enter Try.func73, Try.ntmps73
      go_upto_region 5 with (go_at_call 47; (with_reducible refine (KS.out _).mono ?_); rintro e w1 ⟨rfl, rfl⟩)
      have B1 := Blk.new W 62 (q8s (upN (N % 2 ^ 0) m v)).toArray
      have E1 := ext_alloc W (.cells (q8s (upN (N % 2 ^ 0) m v)).toArray 62)
      obtain ⟨w2, hw2⟩ : ∃ w2, W.alloc (.cells (q8s (upN (N % 2 ^ 0) m v)).toArray 62) = w2 := ⟨_, rfl⟩
      rw [hw2] at B1 E1 ⊢
      obtain ⟨g, hg⟩ : ∃ g, W.heap.size = g := ⟨_, rfl⟩
      rw [hg] at B1 ⊢
      have B1 := hide B1
      have E1 := hide E1
      have HgW := hide (show W.heap.size ≤ g by omega)
      clear hw2 hg KS
      go_wp2_with fail
      go_loopw [10] (fun t wr => ∃ a : Nat, a ≤ E ∧ t = .int .i64 (a : Int) ∧ Hid (Blk wr g 62 (q8s (upN (N % 2 ^ a) m v)).toArray) ∧ Hid (Ext W wr)) (fun t _ => E - (intOf t).toNat)
      case atStart => exact ⟨0, by omega, rfl, B1, E1⟩
      case round =>
        clear B1 E1
        obtain ⟨a, ha, rfl, BB, EE⟩ := hrel
        by_cases hlt : a < E
        · have hv0 : 0 < v := by
            rcases Nat.eq_zero_or_pos v with h | h
            · have := HE.out; rw [h, Nat.mul_zero] at this; omega
            · exact h
          obtain ⟨i, hi⟩ : ∃ i, a / v = i := ⟨_, rfl⟩
          obtain ⟨s, hs⟩ : ∃ s, a % v = s := ⟨_, rfl⟩
          obtain ⟨j, hj⟩ : ∃ j, a / 8 = j := ⟨_, rfl⟩
          obtain ⟨r, hr⟩ : ∃ r, a % 8 = r := ⟨_, rfl⟩
          have hja : i * v + s = a := by rw [← hi, ← hs, Nat.mul_comm]; exact Nat.div_add_mod a v
          have him : i < m := by rw [← hi, Nat.div_lt_iff_lt_mul hv0, HE.out]; exact hlt
          have hsv : s < v := by rw [← hs]; exact Nat.mod_lt _ hv0
          have hjc : j < c := by have := HS.out; omega
          have hr8 : r < 8 := by omega
          have hjb : j < b.length := by rw [Hc.out]; exact hjc
          obtain ⟨gb, off, rfl, hb1, hc1⟩ := (HB.out.ext EE.out).2.2 (by omega)
          have d2 := hc1 j hjb
          have hy : b.getD j 0 < 256 := HB.out.1.get j
          have hbit := Hbit.out a j r hj hr hjc
          have c1 := up_cellQ BB.out him
          have f1 := BB.out.frozen i
          have hz : (upN (N % 2 ^ a) m v).getD i 0 < 18446744073709551616 := IsQ.get (l := upN (N % 2 ^ a) m v) ((upN_fit _ m v).isq hv) _
          obtain ⟨y, hyy⟩ : ∃ y, b.getD j 0 = y := ⟨_, rfl⟩
          rw [hyy] at d2 hy hbit
          have e1 := shr_cast y r
          have hyr : y >>> r < 256 := Nat.lt_of_le_of_lt (by rw [Nat.shiftRight_eq_div_pow]; exact Nat.div_le_self _ _) hy
          have e2 := and_one8 (y >>> r) hyr
          rw [hbit] at e2
          obtain ⟨z1, hz1⟩ : ∃ z1, y >>> r = z1 := ⟨_, rfl⟩
          rw [hz1] at e1 e2
          have hd2 : N >>> a % 2 < 2 := Nat.mod_lt _ (by omega)
          have hmo := mod_or N a
          obtain ⟨d, hd⟩ : ∃ d, N >>> a % 2 = d := ⟨_, rfl⟩
          rw [hd] at e2 hd2 hmo
          have e3 : IntKind.u64.wrap (d : Int) = (d : Int) := by rw [wrap_u64']; omega
          have e4 := shl_64 d s
          have hds : d <<< s < 2 ^ v := bit_shl hd2 hsv
          have hds64 : d <<< s < 18446744073709551616 := Nat.lt_of_lt_of_le hds (Nat.pow_le_pow_right (n := 2) (by omega) hv)
          rw [Nat.mod_eq_of_lt hds64] at e4
          have o := or_64 _ _ hz hds64
          have S1 := up_storeQ BB.out him hds
          rw [← Nat.shiftLeft_add, show s + i * v = a by omega, ← hmo] at S1
          have T1 := Below.setCell EE.out (p := ⟨g, i, none⟩) HgW.out (.int .u64 (((upN (N % 2 ^ a) m v).getD i 0 ||| d <<< s : Nat) : Int))
          obtain ⟨z, hzz⟩ : ∃ z, (upN (N % 2 ^ a) m v).getD i 0 = z := ⟨_, rfl⟩
          rw [hzz] at c1 hz o S1 T1
          obtain ⟨f, hf⟩ : ∃ f, d <<< s = f := ⟨_, rfl⟩
          rw [hf] at e4 o S1 T1
          obtain ⟨x, hx⟩ : ∃ x, (z ||| f) = x := ⟨_, rfl⟩
          rw [hx] at o S1 T1
          have S1 := hide S1
          have T1 := hide T1
          have ei : (a : Int).tdiv (v : Int) = (i : Int) := by rw [Int.tdiv_eq_ediv_of_nonneg (by omega), ← hi]; simp
          have es : (a : Int).tmod (v : Int) = (s : Int) := by rw [Int.tmod_eq_emod_of_nonneg (by omega), ← hs]; simp
          have er2 : (a : Int).tmod 8 = (r : Int) := by rw [Int.tmod_eq_emod_of_nonneg (by omega)]; omega
          have ej : IntKind.i64.wrap ((a : Int) / 8) = (j : Int) := by
            have : (a : Int) / 8 = (j : Int) := by omega
            rw [this]; simp [IntKind.wrap, IntKind.bits, IntKind.signed]; omega
          have ei2 : IntKind.i64.wrap (i : Int) = (i : Int) := by simp [IntKind.wrap, IntKind.bits, IntKind.signed]; omega
          have es2 : IntKind.i64.wrap (s : Int) = (s : Int) := by simp [IntKind.wrap, IntKind.bits, IntKind.signed]; omega
          have v0 : ¬ (v = 0) := by omega
          have vb : ((v : Int) == 0) = false := by rw [beq_eq_false_iff_ne]; omega
          have i0 : (0 : Int) ≤ (j : Int) := by omega
          have i1 : (j : Int) < (c : Int) := by omega
          have i2 : ((j : Int)).toNat = j := by omega
          have k0 : (0 : Int) ≤ (i : Int) := by omega
          have k1 : (i : Int) < (m : Int) := by omega
          have k2 : ((i : Int)).toNat = i := by omega
          have wq : min (IntKind.u64.wrap (s : Int)).toNat 64 = s := by rw [wrap_u64']; omega
          have wr8 : min (IntKind.u64.wrap (r : Int)).toNat 8 = r := by rw [wrap_u64']; omega
          clear hb1 hc1 hyy hz1 hd hzz hf hx hmo hbit hds hds64 hi hs hj hr hja hjb
          go_upto_region 8 with fail
          go_region_law (fail)
          all_goals
            have X1 : Hid (Blk (wr.setCell ⟨g, i, none⟩ (.int .u64 (x : Int))).drew g 62 (q8s (upN (N % 2 ^ (a + 1)) m v)).toArray) := S1
            have Y1 : Hid (Ext W (wr.setCell ⟨g, i, none⟩ (.int .u64 (x : Int))).drew) := Below.drew T1.out
            go_wp2_with fail
            go_roundw
            case rel => exact ⟨a + 1, by omega, by go_num, X1, Y1⟩
            case measure => simp [intOf]; omega
        · have haE : a = E := by omega
          have d5 : decide ((a : Int) < (E : Int)) = false := decide_eq_false (by omega)
          have hL : upN (N % 2 ^ a) m v = upN N m v := by
            rw [up_eq, HE.out, haE, Nat.mod_mod]
          have hB := BB.out
          rw [hL] at hB
          obtain ⟨q, hqe, hql, hqb⟩ := pk_fit N hm2 hv
          rw [HE.out, HS.out] at hql
          obtain ⟨L, hLL⟩ : ∃ L, upN N m v = L := ⟨_, rfl⟩
          have hLl : L.length = m := by rw [← hLL, upN_len]
          have hLq : IsQ L := by rw [← hLL]; exact (upN_fit N m v).isq hv
          rw [hLL] at hB hqe Hof
          have HO := hide (own_q HgW.out hB hLl (by omega) hLq)
          have KP := hide (r_pack (some ⟨g, 0, none⟩) m m L (v : Int) wr (own_words HO.out) hLl hwd)
          rw [hqe] at KP Hof
          have HBr := hide (HB.out.ext EE.out)
          have KS : Hid (∀ w A2 cap2 u, Ext wr w → BytesAt w A2 q → decide (b = q) = u → Calls Try.prog 12 #[.slice A c cap, .slice A2 c cap2] w (Ret (.bool u) w)) := hide (fun w A2 cap2 u hw hb2 hu => r_same A A2 c c cap cap2 b q w (HBr.out.ext hw) hb2 Hc.out hql u hu)
          have Hql := hide hql
          clear hL hB hLL hqe hql hqb haE BB HBr HB Hbit
          cases hu : decide (b = q) with
          | true =>
            have e : upR b (m : Int) (v : Int) = some L := by
              rw [Hof.out, if_pos (by rw [of_decide_eq_true hu])]
            have He := hide e
            have KS := hide (fun w A2 cap2 hw hb2 => KS.out w A2 cap2 true hw hb2 hu)
            clear e Hof hu
            go_wp2_with (first
              | (go_at_call 33; (with_reducible refine (KP.out).mono ?_); rintro e w3 ⟨v3, rfl, hO3, hE3⟩; obtain ⟨A3, cap3, rfl, hl3, hc3, hb3⟩ := hO3.at_; rw [show (some q).getD [] = q from rfl] at hb3; have hql := Hql.out; rw [show ((some q).getD []).length = c from hql]; have KS := hide (KS.out w3 A3 cap3 hE3 hb3); have HO := hide (HO.out.ext hE3); have EE := hide (Ext.trans EE.out hE3); clear hO3 hb3 hE3 hl3 hc3 hql)
              | (go_at_call 12; (with_reducible refine (KS.out).mono ?_); rintro e w4 ⟨rfl, hE4⟩; have HO := hide (HO.out.ext hE4); have EE := hide (Ext.trans EE.out hE4); clear hE4))
            go_ret2
            rw [He.out]
            exact ⟨_, rfl, HO.out, EE.out⟩
          | false =>
            have e : upR b (m : Int) (v : Int) = none := by
              rw [Hof.out, if_neg (by
                intro h
                have := of_decide_eq_false hu
                exact this (Option.some.inj h).symm)]
            have He := hide e
            have KS := hide (fun w A2 cap2 hw hb2 => KS.out w A2 cap2 false hw hb2 hu)
            clear e Hof hu
            go_wp2_with (first
              | (go_at_call 33; (with_reducible refine (KP.out).mono ?_); rintro e w3 ⟨v3, rfl, hO3, hE3⟩; obtain ⟨A3, cap3, rfl, hl3, hc3, hb3⟩ := hO3.at_; rw [show (some q).getD [] = q from rfl] at hb3; have hql := Hql.out; rw [show ((some q).getD []).length = c from hql]; have KS := hide (KS.out w3 A3 cap3 hE3 hb3); have EE := hide (Ext.trans EE.out hE3); clear hO3 hb3 hE3 hl3 hc3 hql)
              | (go_at_call 12; (with_reducible refine (KS.out).mono ?_); rintro e w4 ⟨rfl, hE4⟩; have EE := hide (Ext.trans EE.out hE4); clear hE4))
            go_ret2
            rw [He.out]
            exact ⟨_, rfl, OwnQ.nil_ _ _, EE.out⟩
    · have e : upR b (m : Int) (v : Int) = none := by
        unfold upR
        rw [Int.toNat_natCast, Int.toNat_natCast, hS, if_pos (by omega)]
      rw [e]
      have d1 : ((c : Int) != (S : Int)) = true := by rw [bne_iff_ne]; omega
      clear hb hc hq hS e hcS
      go_enter Try.func73, Try.ntmps73
      go_wp2_with (go_at_call 47; (with_reducible refine (KS.out _).mono ?_); rintro e w1 ⟨rfl, rfl⟩)
      go_ret2
      exact ⟨_, rfl, OwnQ.nil_ _ _, Ext.refl _⟩
end
section
open Go Go.RowKit
set_option maxHeartbeats 1600000 in
set_option maxRecDepth 100000 in
theorem v_append (A : Option Addr) (c cap v : Nat) (l : List Nat) (W : World) (h : BytesAt W A l) (hc : l.length = c) (hlen : c ≤ 140737488355264) (hv : v < 18446744073709551616) :
    Calls Try.prog 34 #[.slice A c cap, .int .u64 (v : Int)] W (OwnRet (l ++ encB v) W) := by
  have O0 : OwnB W.heap.size (W.alloc (.cells #[] 5)) (.slice (some ⟨W.heap.size, 0, none⟩) 0 0) [] := own_of (m := []) (Nat.le_refl _) (heap_alloc_new W _) rfl rfl (by omega) IsB.nil
  have E0 := ext_alloc W (.cells #[] 5)
  have H0 := h.ext E0
  have B0 : W.heap.size ≤ (W.alloc (.cells #[] 5)).heap.size := E0.size
  have L0 : ([] : List Nat).length + l.length ≤ 140737488355328 := by simp; omega
  have m1 : (encB v).length ≤ 10 := encB_length_le v 9 (by omega)
  go_enter Try.func34, Try.ntmps34
  go_wp2_with (at_builtin; refine wl_append8 rfl (.tmp 6) (.tmp 7) rfl W.heap.size _ [] l rfl O0 A c cap rfl H0 hc L0 B0 ?_; intro v1 w1 hO hG hA)
  rw [List.nil_append] at hO
  have E1 : Below W.heap.size W w1 := below_grown E0 (Nat.le_refl _) O0 hG
  have HO := hide hO
  have HE := hide E1
  have HC := hide hc
  clear O0 E0 H0 B0 L0 hO hG hA E1 h hc
  go_loopw [1, 5] (fun i u wr => ∃ (n : Nat) (p : List Nat), n < 18446744073709551616 ∧ i = .int .u64 n ∧ Hid (p ++ encB n = encB v) ∧ Hid (OwnB W.heap.size wr u (l ++ p)) ∧ Hid (Below W.heap.size W wr)) (fun i _ _ => (intOf i).toNat)
  case atStart => exact ⟨v, [], hv, rfl, hide rfl, hide (by rw [List.append_nil]; exact HO.out), HE⟩
  case round =>
    clear HO HE
    obtain ⟨n, p, hn, rfl, HP, HO, HE⟩ := hrel
    have hpl : p.length ≤ 10 := by
      have := congrArg List.length HP.out
      rw [List.length_append] at this; omega
    by_cases hge : 128 ≤ n
    · have hge' : (128 : Int) ≤ (n : Int) := by omega
      have hu : Value.int .u8 ((n : Int) % 128 + 128) = Value.int .u8 ((n % 128 + 128 : Nat) : Int) := rfl
      have hO := one_at wr (n % 128 + 128) (by omega) _ hu
      have hO1 := HO.out.alloc (.cells #[Value.int .u8 ((n : Int) % 128 + 128)] 5)
      have hlen1 : (l ++ p).length + [n % 128 + 128].length ≤ 140737488355328 := by
        rw [List.length_append]; have := HC.out; simp; omega
      have hB1 : W.heap.size ≤ (wr.alloc (.cells #[Value.int .u8 ((n : Int) % 128 + 128)] 5)).heap.size := by have := HE.out.size; simp; omega
      have hE1 := Below.alloc HE.out HE.out.size (.cells #[Value.int .u8 ((n : Int) % 128 + 128)] 5)
      have hO := hide hO
      have hO1 := hide hO1
      have hE1 := hide hE1
      have HP2 : Hid ((p ++ [n % 128 + 128]) ++ encB (n / 128) = encB v) := by
        show _ = _
        rw [← HP.out, encB_big hge]; simp
      clear hu HP
      go_wp2_with (at_builtin; refine wl_append8 rfl (.tmp 11) (.tmp 16) rfl W.heap.size _ _ _ rfl hO1.out _ 1 1 rfl hO.out rfl hlen1 hB1 ?_; intro v2 w2 hO2 hG2 hA2; have hE2 := hide (below_grown hE1.out (Nat.le_refl _) hO1.out hG2); have hO2 := hide hO2; clear hG2 hA2)
      go_roundw
      case rel => exact ⟨n / 128, p ++ [n % 128 + 128], by omega, rfl, HP2, hide (by rw [← List.append_assoc]; exact hO2.out), hE2⟩
      case measure => simp [intOf]; omega
    · have hge' : ¬ (128 : Int) ≤ (n : Int) := by omega
      have hO := one_at wr n (by omega) (.int .u8 (n : Int)) rfl
      have hO1 := HO.out.alloc (.cells #[Value.int .u8 (n : Int)] 5)
      have hlen1 : (l ++ p).length + [n].length ≤ 140737488355328 := by
        rw [List.length_append]; have := HC.out; simp; omega
      have hB1 : W.heap.size ≤ (wr.alloc (.cells #[Value.int .u8 (n : Int)] 5)).heap.size := by have := HE.out.size; simp; omega
      have hE1 := Below.alloc HE.out HE.out.size (.cells #[Value.int .u8 (n : Int)] 5)
      have hO := hide hO
      have hO1 := hide hO1
      have hE1 := hide hE1
      have HP2 : Hid (p ++ [n] = encB v) := by
        show _ = _
        rw [← HP.out, encB_small (by omega)]
      clear HP
      go_wp2_with (at_builtin; refine wl_append8 rfl (.tmp 20) (.tmp 23) rfl W.heap.size _ _ _ rfl hO1.out _ 1 1 rfl hO.out rfl hlen1 hB1 ?_; intro v2 w2 hO2 hG2 hA2; have hE2 := hide (below_grown hE1.out (Nat.le_refl _) hO1.out hG2); have hO2 := hide hO2; clear hG2 hA2)
      go_ret
      exact ⟨_, rfl, by rw [← HP2.out, ← List.append_assoc]; exact hO2.out, hE2.out⟩
theorem v_size (v : Nat) (W : World) (hv : v < 18446744073709551616) : Calls Try.prog 31 #[.int .u64 (v : Int)] W (Ret (.int .i64 ((encB v).length : Int)) W) := by
  have K : Hid (∀ w, Calls Try.prog 34 #[.slice none 0 0, .int .u64 (v : Int)] w (OwnRet (encB v) w)) := fun w => v_append none 0 0 v [] w (BytesAt.nil _ _) rfl (by omega) hv
  go_enter Try.func31, Try.ntmps31
  go_wp2_with fail
  (with_reducible refine (K.out _).mono ?_)
  rintro e w1 ⟨u, rfl, hO, hE⟩
  obtain ⟨A, cap, rfl, -, -, -⟩ := hO.at_
  go_wp2_with fail
  go_ret
  exact ⟨rfl, hE⟩
theorem v_zigzag (v : Int) (W : World) (h1 : -9223372036854775808 ≤ v) (h2 : v ≤ 9223372036854775807) : Calls Try.prog 30 #[.int .i64 v] W (RetSame (.int .u64 (zig v : Int)) W) := by
  by_cases h : 0 ≤ v
  · obtain ⟨n, rfl⟩ := Int.eq_ofNat_of_zero_le h
    have e : zig (n : Int) = 2 * n := by unfold zig; rw [if_pos h]; omega
    go_enter Try.func30, Try.ntmps30
    go_wp2_with fail
    go_ret
    exact ⟨congrArg (fun x => Ending.returned (Value.int .u64 x)) (by first | omega | (rw [e]; omega)), rfl⟩
  · obtain ⟨n, hn⟩ : ∃ n : Nat, v = -(n : Int) - 1 := ⟨(-v - 1).toNat, by omega⟩
    subst hn
    have e : zig (-(n : Int) - 1) = 2 * n + 1 := by unfold zig; rw [if_neg h]; omega
    have a : -(-(n : Int) - 1 + 1) = (n : Int) := by omega
    go_enter Try.func30, Try.ntmps30
    go_wp2_with fail
    go_ret
    exact ⟨congrArg (fun x => Ending.returned (Value.int .u64 x)) (by first | omega | (rw [e]; omega)), rfl⟩
theorem v_unzigzag (n : Nat) (W : World) (h : n < 18446744073709551616) : Calls Try.prog 49 #[.int .u64 (n : Int)] W (RetSame (.int .i64 (zag n)) W) := by
  by_cases k : n % 2 = 0
  · have e : zag n = (n : Int) / 2 := by unfold zag; rw [if_pos k]; omega
    have k' : (n : Int) % 2 = 0 := by omega
    rw [e]
    go_enter Try.func49, Try.ntmps49
    go_wp2_with fail
    go_ret
    exact ⟨rfl, rfl⟩
  · have e : zag n = -((n : Int) / 2) - 1 := by unfold zag; rw [if_neg k]; omega
    have k' : ¬ (n : Int) % 2 = 0 := by omega
    rw [e]
    go_enter Try.func49, Try.ntmps49
    go_wp2_with fail
    go_ret
    exact ⟨rfl, rfl⟩
/-- What the reference's groups returns. -/
def gpV (A : Option Addr) (cap : Nat) (l : List Nat) (a most : Nat) : Value :=
  match scanG most (l.drop a) with
  | none => .tuple #[.slice none 0 0, .int .i64 (if l.length - a < most then 4 else 5)]
  | some g => .tuple #[.slice (if cap = a then A else A.map (·.add (a * 1))) g.length (cap - a), .int .i64 0]
theorem v_groups_out (A : Option Addr) (c cap : Nat) (at_ most : Int) (W : World) (h : at_ < 0 ∨ (c : Int) < at_) : Calls Try.prog 80 #[.slice A c cap, .int .i64 at_, .int .i64 most] W (RetSame (.tuple #[.slice none 0 0, .int .i64 2]) W) := by
  by_cases h0 : at_ < 0
  · have d0 : decide (at_ < 0) = true := decide_eq_true h0
    clear h
    go_enter Try.func80, Try.ntmps80
    go_wp2_with fail
    go_ret2
    exact ⟨rfl, rfl⟩
  · have h1 : (c : Int) < at_ := by omega
    have d0 : decide (at_ < 0) = false := decide_eq_false h0
    have d1 : decide ((c : Int) < at_) = true := decide_eq_true h1
    clear h
    go_enter Try.func80, Try.ntmps80
    go_wp2_with fail
    go_ret2
    exact ⟨rfl, rfl⟩
set_option maxRecDepth 100000 in
set_option maxHeartbeats 1600000 in
theorem v_groups (A : Option Addr) (c cap a most : Nat) (l : List Nat) (W : World) (hb : BytesAt W A l) (hc : l.length = c) (hcap : c ≤ cap) (hcap2 : c ≤ 4611686018427387904) (ha : a ≤ c) (hm : most ≤ 50) :
    Calls Try.prog 80 #[.slice A c cap, .int .i64 (a : Int), .int .i64 (most : Int)] W (RetSame (gpV A cap l a most) W) := by
  have Hb := hide hb
  have Hc := hide hc
  have a0 : ¬ (a : Int) < 0 := by omega
  have a1 : ¬ (c : Int) < (a : Int) := by omega
  clear hb hc
  go_enter Try.func80, Try.ntmps80
  go_wp2_with fail
  go_loop [8] (fun i => ∃ j : Nat, j ≤ most ∧ a + j ≤ c ∧ i = .int .i64 (j : Int) ∧ Hid (∀ i, i < j → 128 ≤ l.getD (a + i) 0)) (fun i => most - (intOf i).toNat)
  case atStart => exact ⟨0, by omega, by omega, rfl, fun i hi => absurd hi (by omega)⟩
  case round =>
    clear a0 a1
    obtain ⟨j, hj, hjc, rfl, hall⟩ := hrel
    have hdrop : Hid (∀ i, (l.drop a).getD i 0 = l.getD (a + i) 0) := fun i => by simp [List.getD_eq_getElem?_getD, List.getElem?_drop]
    have hdl : Hid ((l.drop a).length = c - a) := by show _ = _; rw [List.length_drop, Hc.out]
    by_cases h1 : a + j < c
    · have h1' : (a : Int) + (j : Int) < (c : Int) := by omega
      by_cases h2 : j < most
      · have h2' : (j : Int) < (most : Int) := by omega
        obtain ⟨b, off, rfl, _, hcl⟩ := Hb.out.2.2 (by rw [Hc.out]; omega)
        have d2 := hcl (a + j) (by rw [Hc.out]; omega)
        have hyb := Hb.out.1.get (a + j)
        obtain ⟨y, hy⟩ : ∃ y, l.getD (a + j) 0 = y := ⟨_, rfl⟩
        rw [hy] at d2 hyb
        have e1 : (a : Int) + ((j : Int) + 1) - 1 = (a : Int) + (j : Int) := by omega
        have Hy := hide hy
        clear hcl hy
        by_cases h3 : y < 128
        · have h3' : (y : Int) < 128 := by omega
          have hs := run_mid (some ⟨b, off, none⟩) c a (a + (j + 1)) cap (by omega) (by omega)
          have e2 : (((a + (j + 1) : Nat)) : Int) = (a : Int) + ((j : Int) + 1) := by omega
          rw [e2] at hs
          have HR : Hid (gpV (some ⟨b, off, none⟩) cap l a most = .tuple #[.slice (some ⟨b, off + a, none⟩) (j + 1) (cap - a), .int .i64 0]) := by
            show _ = _
            unfold gpV
            rw [scanG_at most (l.drop a) j h2 (by rw [hdl.out]; omega) (by rw [hdrop.out, Hy.out]; exact h3) (fun i hi => by rw [hdrop.out]; exact hall.out i hi)]
            show Value.tuple #[.slice _ ((l.drop a).take (j + 1)).length _, _] = _
            rw [List.length_take, hdl.out, Nat.min_eq_left (by omega), if_neg (by omega), Nat.mul_one]
            show Value.tuple #[.slice (some ((⟨b, off, none⟩ : Addr).add a)) _ _, _] = _
            rw [add_at]
          clear hall hdrop hdl e2 Hy
          go_wp2_with fail
          go_ret2
          exact ⟨by rw [HR.out]; rfl, rfl⟩
        · have h3' : ¬ (y : Int) < 128 := by omega
          have hall2 : Hid (∀ i, i < j + 1 → 128 ≤ l.getD (a + i) 0) := fun i hi => by
            by_cases he : i = j
            · subst he; rw [Hy.out]; omega
            · exact hall.out i (by omega)
          clear hall hdrop hdl Hy
          go_wp2_with fail
          go_round
          case rel => exact ⟨j + 1, by omega, by omega, by go_num, hall2⟩
          case measure => simp [intOf]; omega
      · have h2' : ¬ (j : Int) < (most : Int) := by omega
        have h4 : (j : Int) = (most : Int) := by omega
        have HR : Hid (gpV A cap l a most = .tuple #[.slice none 0 0, .int .i64 5]) := by
          show _ = _
          unfold gpV
          rw [scanG_none most (l.drop a) (fun i hi _ => by rw [hdrop.out]; exact hall.out i (by omega))]
          show Value.tuple #[_, .int .i64 (if l.length - a < most then 4 else 5)] = _
          rw [Hc.out, if_neg (by omega)]
        clear hall hdrop hdl
        go_wp2_with fail
        go_ret2
        exact ⟨by rw [HR.out]; rfl, rfl⟩
    · have h1' : ¬ (a : Int) + (j : Int) < (c : Int) := by omega
      have hjc2 : j = c - a := by omega
      have hno : scanG most (l.drop a) = none := scanG_none most (l.drop a) (fun i hi hi2 => by rw [hdl.out] at hi2; rw [hdrop.out]; exact hall.out i (by omega))
      by_cases h2 : j < most
      · have h4 : ¬ (j : Int) = (most : Int) := by omega
        have HR : Hid (gpV A cap l a most = .tuple #[.slice none 0 0, .int .i64 4]) := by
          show _ = _
          unfold gpV
          rw [hno]
          show Value.tuple #[_, .int .i64 (if l.length - a < most then 4 else 5)] = _
          rw [Hc.out, if_pos (by omega)]
        clear hall hdrop hdl hno
        go_wp2_with fail
        go_ret2
        exact ⟨by rw [HR.out]; rfl, rfl⟩
      · have h4 : (j : Int) = (most : Int) := by omega
        have HR : Hid (gpV A cap l a most = .tuple #[.slice none 0 0, .int .i64 5]) := by
          show _ = _
          unfold gpV
          rw [hno]
          show Value.tuple #[_, .int .i64 (if l.length - a < most then 4 else 5)] = _
          rw [Hc.out, if_neg (by omega)]
        clear hall hdrop hdl hno
        go_wp2_with fail
        go_ret2
        exact ⟨by rw [HR.out]; rfl, rfl⟩
theorem okG64 {g : List Nat} {n x : Nat} (hn : g.length = n + 1) (hx : g.getLastD 0 = x) (h10 : n + 1 ≤ 10) (hx8 : x < 128) : okG 64 g = !((decide (x = 0) && decide (0 < n)) || (decide (n + 1 = 10) && decide (1 < x))) := by
  rw [okG_form hn hx]
  have hb := (bl8 x hx8).1
  have he : decide (7 * n + Lib.bitLen x ≤ 64) = !(decide (n + 1 = 10) && decide (1 < x)) := by
    by_cases h9 : n + 1 = 10
    · obtain rfl : n = 9 := by omega
      obtain ⟨_, u, c⟩ := bitLen_spec x (by omega)
      by_cases h1 : 1 < x
      · rw [decide_eq_true h1, decide_eq_true h9, decide_eq_false]; rfl
        intro h
        have : Lib.bitLen x ≤ 1 := by omega
        have h2 : 2 ^ Lib.bitLen x ≤ 2 ^ 1 := Nat.pow_le_pow_right (by omega) this
        omega
      · have hx1 : x = 0 ∨ x = 1 := by omega
        rcases hx1 with rfl | rfl <;> decide +kernel
    · rw [decide_eq_false h9, decide_eq_true (by omega)]; rfl
  rw [he]
  cases (decide (x = 0) && decide (0 < n)) <;> cases (decide (n + 1 = 10) && decide (1 < x)) <;> rfl
set_option maxRecDepth 100000 in
set_option maxHeartbeats 1600000 in
theorem v_read (A : Option Addr) (c cap : Nat) (l : List Nat) (at_ : Int) (W : World) (hb : BytesAt W A l) (hc : l.length = c) (hcap : c ≤ cap) (hcap2 : c ≤ 4611686018427387904) (hat : I64 at_) (r1 r2 r3 : Int) (hr : rdV l at_ = (r1, r2, r3)) :
    Calls Try.prog 72 #[.slice A c cap, .int .i64 at_] W (RetSame (.tuple #[.int .u64 r1, .int .i64 r2, .int .i64 r3]) W) := by
  by_cases hout : at_ < 0 ∨ (c : Int) < at_
  · have e : rdV l at_ = (0, 0, 2) := by
      unfold rdV rdG rdE bhd
      rw [hc, if_pos hout, if_pos hout]
    rw [e] at hr
    obtain ⟨rfl, h2⟩ := Prod.mk.inj hr
    obtain ⟨rfl, rfl⟩ := Prod.mk.inj h2
    have KG : Hid (∀ w, Calls Try.prog 80 #[.slice A c cap, .int .i64 at_, .int .i64 10] w (RetSame (.tuple #[.slice none 0 0, .int .i64 2]) w)) := fun w => v_groups_out A c cap at_ 10 w hout
    clear hb hc hr h2 e hout
    go_enter Try.func72, Try.ntmps72
    go_wp2_with (go_at_call 80; (with_reducible refine (KG.out _).mono ?_); rintro e w1 ⟨rfl, rfl⟩)
    go_ret3
    exact ⟨rfl, rfl⟩
  · obtain ⟨a, rfl⟩ := Int.eq_ofNat_of_zero_le (show 0 ≤ at_ by omega)
    have ha : a ≤ c := by omega
    have KG : Hid (∀ w, Ext W w → Calls Try.prog 80 #[.slice A c cap, .int .i64 (a : Int), .int .i64 10] w (RetSame (gpV A cap l a 10) w)) := fun w h => v_groups A c cap a 10 l w (hb.ext h) hc hcap hcap2 ha (by omega)
    cases hs : scanG 10 (l.drop a) with
    | none =>
      have eg : gpV A cap l a 10 = .tuple #[.slice none 0 0, .int .i64 (if l.length - a < 10 then 4 else 5)] := by unfold gpV; rw [hs]
      have e : rdV l (a : Int) = (0, 0, if l.length - a < 10 then 4 else 5) := by
        unfold rdV rdG rdE bhd
        rw [hc, if_neg hout, if_neg hout, Int.toNat_natCast, hs]
      rw [e] at hr
      obtain ⟨rfl, h2⟩ := Prod.mk.inj hr
      obtain ⟨rfl, h3⟩ := Prod.mk.inj h2
      rw [eg, h3] at KG
      have q1 : ¬ (r3 = 0) := by rw [← h3]; split <;> omega
      have q2 : (r3 != 0) = true := by rw [bne_iff_ne]; exact q1
      have kg := hide (KG.out W (Ext.refl _))
      clear hb hc hr h2 h3 e eg hout KG hs
      go_enter Try.func72, Try.ntmps72
      go_wp2_with (go_at_call 80; (with_reducible refine (kg.out).mono ?_); rintro e w1 ⟨rfl, rfl⟩)
      go_ret3
      exact ⟨rfl, rfl⟩
    | some g =>
      have eg : gpV A cap l a 10 = .tuple #[.slice (if cap = a then A else A.map (·.add (a * 1))) g.length (cap - a), .int .i64 0] := by unfold gpV; rw [hs]
      rw [eg] at KG
      obtain ⟨r, x, hgr, hx, hrr, ⟨t, ht⟩, hm10⟩ := scanG_some 10 _ g hs
      have hb2 : BytesAt W (if cap = a then A else A.map (·.add (a * 1))) g := by
        have h1 := (hb.drop a cap (by omega)).take g.length
        have h2 : (l.drop a).take g.length = g := by rw [← ht, List.take_left']; rfl
        rw [h2] at h1
        exact h1
      obtain ⟨n, hn⟩ : ∃ n, g.length = n + 1 := ⟨r.length, by rw [hgr]; simp⟩
      have hlast : g.getLastD 0 = x := by rw [hgr]; simp
      have hlx : g.getD n 0 = x := by
        have : n = r.length := by rw [hgr] at hn; simp at hn; omega
        rw [hgr, this]; simp
      have hok := okG64 hn hlast (by omega) hx
      obtain ⟨b, off, hA, hbw, hcl⟩ := hb2.2.2 (by omega)
      rw [hA, hn] at KG
      have d1 := hcl n (by omega)
      rw [hlx] at d1
      have HCL := hide hcl
      have Hn := hide hn
      have KB : Hid (Calls Try.prog 80 #[.slice A c cap, .int .i64 (a : Int), .int .i64 10] W (RetSame (.tuple #[.slice (some ⟨b, off, none⟩) (n + 1) (cap - a), .int .i64 0]) W)) := KG.out W (Ext.refl _)
      have hn9 : n ≤ 9 := by omega
      by_cases hbad : (x = 0 ∧ 0 < n) ∨ (n + 1 = 10 ∧ 1 < x)
      · have hk : okG 64 g = false := by
          rw [hok]
          rcases hbad with ⟨u1, u2⟩ | ⟨u1, u2⟩
          · rw [decide_eq_true u1, decide_eq_true u2]; rfl
          · rw [decide_eq_true u1, decide_eq_true u2]; simp
        have e : rdV l (a : Int) = (0, 0, 5) := by
          unfold rdV rdG rdE bhd
          rw [hc, if_neg hout, if_neg hout, Int.toNat_natCast, hs]
          simp [hk]
        rw [e] at hr
        obtain ⟨rfl, h2⟩ := Prod.mk.inj hr
        obtain ⟨rfl, rfl⟩ := Prod.mk.inj h2
        have x1 : (x : Int) < 128 := by omega
        clear hb hc hr h2 e hout KG hs eg hgr hrr ht hb2 hcl hok hk hlx hlast hA hn
        rcases hbad with ⟨u1, u2⟩ | ⟨u1, u2⟩
        · have q1 : ((x : Int) == 0) = true := beq_iff_eq.2 (by omega)
          have u3 : (1 : Int) < (n : Int) + 1 := by omega
          clear u1 u2
          go_enter Try.func72, Try.ntmps72
          go_wp2_with (go_at_call 80; (with_reducible refine (KB.out).mono ?_); rintro e w1 ⟨rfl, rfl⟩)
          go_ret3
          exact ⟨rfl, rfl⟩
        · obtain rfl : n = 9 := by omega
          have q1 : ((x : Int) == 0) = false := beq_eq_false_iff_ne.2 (by omega)
          have u4 : (1 : Int) < (x : Int) := by omega
          clear u1 u2
          go_enter Try.func72, Try.ntmps72
          go_wp2_with (go_at_call 80; (with_reducible refine (KB.out).mono ?_); rintro e w1 ⟨rfl, rfl⟩)
          go_ret3
          exact ⟨rfl, rfl⟩
      · have hk : okG 64 g = true := by
          rw [hok]
          by_cases u1 : x = 0
          · have u2 : ¬ 0 < n := fun u2 => hbad (Or.inl ⟨u1, u2⟩)
            rw [decide_eq_false u2, decide_eq_false (show ¬ 1 < x by omega)]; simp
          · rw [decide_eq_false u1]
            by_cases u3 : n + 1 = 10
            · rw [decide_eq_false (show ¬ 1 < x from fun u4 => hbad (Or.inr ⟨u3, u4⟩))]; simp
            · rw [decide_eq_false u3]; rfl
        have hdec := decB_ok (width := 64) hs hk
        have hdec : decB g < 18446744073709551616 := hdec
        have e : rdV l (a : Int) = ((decB g : Int), (a : Int) + (g.length : Int), 0) := by
          unfold rdV rdG
          rw [hc, if_neg hout, Int.toNat_natCast, hs]
          simp [hk]
        rw [e] at hr
        obtain ⟨rfl, h2⟩ := Prod.mk.inj hr
        obtain ⟨rfl, rfl⟩ := Prod.mk.inj h2
        have x1 : (x : Int) < 128 := by omega
        rw [hn]
        have hib := hb2.1
        clear hb hc hr h2 e hout KG hs eg hgr hrr ht hb2 hcl hok hk hlx hlast hA hn
        have h3 : (x = 0 ∧ n = 0) ∨ (x ≠ 0 ∧ n + 1 = 10 ∧ ¬ 1 < x) ∨ (x ≠ 0 ∧ n + 1 ≠ 10) := by omega
        go_enter Try.func72, Try.ntmps72
        go_upto_region 5 with (go_at_call 80; (with_reducible refine (KB.out).mono ?_); rintro e w1 ⟨rfl, rfl⟩)
        rcases h3 with ⟨u1, u2⟩ | ⟨u1, u2, u3⟩ | ⟨u1, u2⟩
        · have q1 : ((x : Int) == 0) = true := beq_iff_eq.2 (by omega)
          have q2 : ¬ (1 : Int) < (n : Int) + 1 := by omega
          have q3 : ¬ (n : Int) + 1 = 10 := by omega
          clear u1 u2
          go_upto_region 8 with fail
          go_wp2_with fail
          go_loop [10, 11] (fun v i => ∃ j : Nat, j ≤ n + 1 ∧ i = .int .i64 ((j : Int) - 1) ∧ v = .int .u64 (decB (g.drop j) : Int)) (fun _ i => (intOf i + 1).toNat)
          case atStart => exact ⟨n + 1, Nat.le_refl _, congrArg (Value.int .i64) (by omega), by rw [List.drop_of_length_le (by rw [Hn.out]; exact Nat.le_refl _)]; rfl⟩
          case round =>
            clear q1 q2 q3
            obtain ⟨j, hj, rfl, rfl⟩ := hrel
            have hle := decB_drop_le g j
            obtain ⟨v, hv⟩ : ∃ v, decB (g.drop j) = v := ⟨_, rfl⟩
            rw [hv] at hle ⊢
            cases j with
            | zero =>
              have Hv : Hid (v = decB g) := by show _ = _; rw [← hv]; simp
              have n1 : ¬ (0 : Int) ≤ ((0 : Nat) : Int) - 1 := by omega
              clear hv
              go_wp2_with fail
              go_ret3
              exact ⟨by rw [← Hv.out]; rfl, rfl⟩
            | succ j =>
              have e1 : ((((j + 1 : Nat) : Int)) - 1) = (j : Int) := by omega
              rw [e1]
              clear e1
              have hjg : j < g.length := by rw [Hn.out]; omega
              have hst := decB_drop hjg
              rw [hv] at hst
              have hle2 := decB_drop_le g j
              have d2 := HCL.out j (by rw [Hn.out]; omega)
              have hyb : g.getD j 0 < 256 := hib.get _
              obtain ⟨y, hy⟩ : ∃ y, g.getD j 0 = y := ⟨_, rfl⟩
              rw [hy] at d2 hst hyb
              have hv57 : v ≤ 144115188075855871 := by omega
              have Hst : Hid (decB (g.drop j) = v * 128 + y % 128) := by show _ = _; omega
              have ge : (0 : Int) ≤ (j : Int) := by omega
              have hsum : v * 128 + y % 128 < 18446744073709551616 := by omega
              clear hy hv hst hle2 hjg hle
              go_wp2_with fail
              go_round
              case rel => exact ⟨j, by omega, rfl, by rw [Hst.out]; exact congrArg (Value.int .u64) (by omega)⟩
              case measure => first | (simp [intOf]; done) | (simp [intOf]; omega)
        · have q1 : ((x : Int) == 0) = false := beq_eq_false_iff_ne.2 (by omega)
          have q2 : (n : Int) + 1 = 10 := by omega
          have q3 : ¬ (1 : Int) < (x : Int) := by omega
          clear u1 u2 u3
          go_upto_region 8 with fail
          go_wp2_with fail
          go_loop [10, 11] (fun v i => ∃ j : Nat, j ≤ n + 1 ∧ i = .int .i64 ((j : Int) - 1) ∧ v = .int .u64 (decB (g.drop j) : Int)) (fun _ i => (intOf i + 1).toNat)
          case atStart => exact ⟨n + 1, Nat.le_refl _, congrArg (Value.int .i64) (by omega), by rw [List.drop_of_length_le (by rw [Hn.out]; exact Nat.le_refl _)]; rfl⟩
          case round =>
            clear q1 q2 q3
            obtain ⟨j, hj, rfl, rfl⟩ := hrel
            have hle := decB_drop_le g j
            obtain ⟨v, hv⟩ : ∃ v, decB (g.drop j) = v := ⟨_, rfl⟩
            rw [hv] at hle ⊢
            cases j with
            | zero =>
              have Hv : Hid (v = decB g) := by show _ = _; rw [← hv]; simp
              have n1 : ¬ (0 : Int) ≤ ((0 : Nat) : Int) - 1 := by omega
              clear hv
              go_wp2_with fail
              go_ret3
              exact ⟨by rw [← Hv.out]; rfl, rfl⟩
            | succ j =>
              have e1 : ((((j + 1 : Nat) : Int)) - 1) = (j : Int) := by omega
              rw [e1]
              clear e1
              have hjg : j < g.length := by rw [Hn.out]; omega
              have hst := decB_drop hjg
              rw [hv] at hst
              have hle2 := decB_drop_le g j
              have d2 := HCL.out j (by rw [Hn.out]; omega)
              have hyb : g.getD j 0 < 256 := hib.get _
              obtain ⟨y, hy⟩ : ∃ y, g.getD j 0 = y := ⟨_, rfl⟩
              rw [hy] at d2 hst hyb
              have hv57 : v ≤ 144115188075855871 := by omega
              have Hst : Hid (decB (g.drop j) = v * 128 + y % 128) := by show _ = _; omega
              have ge : (0 : Int) ≤ (j : Int) := by omega
              have hsum : v * 128 + y % 128 < 18446744073709551616 := by omega
              clear hy hv hst hle2 hjg hle
              go_wp2_with fail
              go_round
              case rel => exact ⟨j, by omega, rfl, by rw [Hst.out]; exact congrArg (Value.int .u64) (by omega)⟩
              case measure => first | (simp [intOf]; done) | (simp [intOf]; omega)
        · have q1 : ((x : Int) == 0) = false := beq_eq_false_iff_ne.2 (by omega)
          have q2 : ¬ (n : Int) + 1 = 10 := by omega
          have q3 : True := trivial
          clear u1 u2
          go_upto_region 8 with fail
          go_wp2_with fail
          go_loop [10, 11] (fun v i => ∃ j : Nat, j ≤ n + 1 ∧ i = .int .i64 ((j : Int) - 1) ∧ v = .int .u64 (decB (g.drop j) : Int)) (fun _ i => (intOf i + 1).toNat)
          case atStart => exact ⟨n + 1, Nat.le_refl _, congrArg (Value.int .i64) (by omega), by rw [List.drop_of_length_le (by rw [Hn.out]; exact Nat.le_refl _)]; rfl⟩
          case round =>
            clear q1 q2 q3
            obtain ⟨j, hj, rfl, rfl⟩ := hrel
            have hle := decB_drop_le g j
            obtain ⟨v, hv⟩ : ∃ v, decB (g.drop j) = v := ⟨_, rfl⟩
            rw [hv] at hle ⊢
            cases j with
            | zero =>
              have Hv : Hid (v = decB g) := by show _ = _; rw [← hv]; simp
              have n1 : ¬ (0 : Int) ≤ ((0 : Nat) : Int) - 1 := by omega
              clear hv
              go_wp2_with fail
              go_ret3
              exact ⟨by rw [← Hv.out]; rfl, rfl⟩
            | succ j =>
              have e1 : ((((j + 1 : Nat) : Int)) - 1) = (j : Int) := by omega
              rw [e1]
              clear e1
              have hjg : j < g.length := by rw [Hn.out]; omega
              have hst := decB_drop hjg
              rw [hv] at hst
              have hle2 := decB_drop_le g j
              have d2 := HCL.out j (by rw [Hn.out]; omega)
              have hyb : g.getD j 0 < 256 := hib.get _
              obtain ⟨y, hy⟩ : ∃ y, g.getD j 0 = y := ⟨_, rfl⟩
              rw [hy] at d2 hst hyb
              have hv57 : v ≤ 144115188075855871 := by omega
              have Hst : Hid (decB (g.drop j) = v * 128 + y % 128) := by show _ = _; omega
              have ge : (0 : Int) ≤ (j : Int) := by omega
              have hsum : v * 128 + y % 128 < 18446744073709551616 := by omega
              clear hy hv hst hle2 hjg hle
              go_wp2_with fail
              go_round
              case rel => exact ⟨j, by omega, rfl, by rw [Hst.out]; exact congrArg (Value.int .u64) (by omega)⟩
              case measure => first | (simp [intOf]; done) | (simp [intOf]; omega)
end
section
open Go Go.RowKit Go.Sort
theorem strOf_inj {l m : List Nat} (hl : IsB l) (hm : IsB m) : ((strOfNums (l.map fun x : Nat => (x : Int))).toList == (strOfNums (m.map fun x : Nat => (x : Int))).toList) = decide (l = m) := by
  by_cases h : l = m
  · subst h; simp
  · rw [decide_eq_false h, beq_eq_false_iff_ne]
    intro e1
    apply h
    rw [ByteArray.toList_eq, ByteArray.toList_eq, strOfNums_data, strOfNums_data, List.map_map, List.map_map] at e1
    have back : ∀ (l : List Nat), IsB l → (l.map ((fun n : Int => UInt8.ofNat n.toNat) ∘ fun x : Nat => (x : Int))).map (·.toNat) = l := by
      intro l hl
      rw [List.map_map]
      conv => rhs; rw [← List.map_id l]
      apply List.map_congr_left
      intro x hx
      have := hl x hx
      simp; omega
    have e2 := congrArg (List.map (·.toNat)) e1
    rw [back l hl, back m hm] at e2
    exact e2
theorem conv_str {w : World} {A : Option Addr} {l : List Nat} (h : BytesAt w A l) (n cap : Nat) (hn : l.length = n) : (convert 28 9 (.slice A n cap)).run Try.prog w = .ok (.string (strOfNums (l.map fun x : Nat => (x : Int)))) w := by
  rcases Nat.eq_zero_or_pos l.length with h0 | h0
  · obtain rfl : l = [] := List.length_eq_zero_iff.1 h0
    subst hn
    exact Go.Proofs.run_convert_bytes_zero w 28 5 Try.underlying28 Try.underlying5 A cap 9 Try.underlying9
  · obtain ⟨b, off, rfl, hb, hc⟩ := h.2.2 h0
    refine run_convert_bytes_arg w 28 5 Try.underlying28 Try.underlying5 b off n cap _ (by simp [hn]) (fun i hi => ?_) 9 Try.underlying9
    rw [hc i (by omega)]
    simp [List.getD_eq_getElem?_getD, show i < l.length by omega]
theorem p_equal (A A' : Option Addr) (n n' cap cap' : Nat) (l m : List Nat) (w : World) (hl : BytesAt w A l) (hm : BytesAt w A' m) (hn : l.length = n) (hn' : m.length = n') (v : Bool) (hv : decide (l = m) = v) :
    Calls Try.prog 38 #[.slice A n cap, .slice A' n' cap'] w (RetSame (.bool v) w) := by
  have c1 := conv_str hl n cap hn
  have c2 := conv_str hm n' cap' hn'
  have e := strOf_inj hl.1 hm.1
  rw [hv] at e
  generalize strOfNums (l.map fun x : Nat => (x : Int)) = s1 at c1 e
  generalize strOfNums (m.map fun x : Nat => (x : Int)) = s2 at c2 e
  clear hv hn hn' hl hm
  go_enter Try.func38, Try.ntmps38
  go_wp2_with fail
  go_ret
  exact ⟨by rw [← e]; rfl, rfl⟩
end
section
def b1 (v : Nat) : BitVec 32 := BitVec.ofNat 32 (v % 2)
end
section
open Go Go.RowKit
theorem sz8 : (Try.prog.info? 5).map (·.size) = some 1 := by kernel_rfl
/-- What is owned, its length known. -/
def OwnL (l : List Nat) (n : Nat) (w : World) (e : Ending) (w' : World) : Prop := ∃ A cap, e = .returned (.slice A n cap) ∧ l.length = n ∧ n ≤ cap ∧ cap ≤ 9223372036854775807 ∧ OwnB w.heap.size w' (.slice A n cap) l ∧ BytesAt w' A l ∧ Ext w w'
theorem OwnRet.len {l : List Nat} {n : Nat} {w : World} {e : Ending} {w' : World} (hn : l.length = n) (h : OwnRet l w e w') : OwnL l n w e w' := by
  subst hn
  obtain ⟨v, rfl, hO, hE⟩ := h
  obtain ⟨A, cap, rfl, h1, h2, hb⟩ := hO.at_
  exact ⟨A, cap, rfl, rfl, h1, h2, hO, hb, hE⟩
attribute [local go_sem] qUpon putAll slotV
end
end Go.Proofs.Ytijfojbonceffaa
