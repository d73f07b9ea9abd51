/- The program's put and Pack. Conditions: the slice reads as numbers of 64 bits. -/
import Derived.Test.YtkebfepkepnlkaaBpA
import Derived.Test.YtkebfepkepnlkaaDeclQ
namespace Go.Proofs.Ytkebfepkepnlkaa
set_option linter.unusedVariables false
set_option linter.unusedSimpArgs false
open Go Go.RowKit
theorem put_step (u t : Nat) : ((u <<< (t % 8)) % 256) <<< (t / 8 * 8) ||| (u >>> (8 - t % 8)) <<< (t + (8 - t % 8)) = u <<< t := by
  apply Nat.eq_of_testBit_eq
  intro b
  rw [show (256 : Nat) = 2 ^ 8 from rfl]
  simp only [Nat.testBit_or, Nat.testBit_shiftLeft, Nat.testBit_mod_two_pow, Nat.testBit_shiftRight, ge_iff_le]
  by_cases h1 : b < t / 8 * 8 + 8
  · rw [decide_eq_false (show ¬ (t + (8 - t % 8) ≤ b) by omega), Bool.false_and, Bool.or_false]
    by_cases h2 : t ≤ b
    · rw [decide_eq_true (show t / 8 * 8 ≤ b by omega), decide_eq_true (show b - t / 8 * 8 < 8 by omega), decide_eq_true (show t % 8 ≤ b - t / 8 * 8 by omega), decide_eq_true h2, show b - t / 8 * 8 - t % 8 = b - t by omega]; simp
    · by_cases h3 : t / 8 * 8 ≤ b
      · rw [decide_eq_false (show ¬ (t % 8 ≤ b - t / 8 * 8) by omega), decide_eq_false h2]; simp
      · rw [decide_eq_false h3, decide_eq_false h2]; simp
  · rw [decide_eq_false (show ¬ (b - t / 8 * 8 < 8) by omega), decide_eq_true (show t + (8 - t % 8) ≤ b by omega), decide_eq_true (show t ≤ b by omega)]
    simp only [Bool.false_and, Bool.and_false, Bool.false_or, Bool.true_and]
    rw [show 8 - t % 8 + (b - (t + (8 - t % 8))) = b - t by omega]
theorem shr_lt {u m : Nat} (k : Nat) (h : u < 2 ^ m) : u >>> k < 2 ^ (m - k) := by
  rw [Nat.shiftRight_eq_div_pow, Nat.div_lt_iff_lt_mul (Nat.two_pow_pos k), ← Nat.pow_add]
  exact Nat.lt_of_lt_of_le h (Nat.pow_le_pow_right (by omega) (by omega))
theorem upd_here {g k : Nat} {W w : World} (h : Upd g W w) (u : Value) : Upd g W (w.setCell ⟨g, k, none⟩ u) :=
  ⟨h.1, h.2.1, h.2.2.1, by simpa [World.setCell] using h.2.2.2.1, fun i hi hn => (heap_setCell_other w ⟨g, k, none⟩ i u (by simp; omega)).trans (h.2.2.2.2 i hi hn)⟩
def PutPost (g s M : Nat) (W : World) (e : Ending) (w' : World) : Prop := e = .returned (.tuple #[]) ∧ Blk w' g 5 (u8s (upN M s 8)).toArray ∧ Upd g W w'
theorem up_cell {w : World} {g s M j : Nat} (h : Blk w g 5 (u8s (upN M s 8)).toArray) (hj : j < s) : w.cell? ⟨g, j, none⟩ = some (.int .u8 (((upN M s 8).getD j 0 : Nat) : Int)) := by
  rw [h.cell j, getD_lt (by rw [upN_len]; exact hj)]
  simp [u8s, upN_len, hj]
theorem up_store {w : World} {g s M j x : Nat} (h : Blk w g 5 (u8s (upN M s 8)).toArray) (hj : j < s) (hx : x < 256) : Blk (w.setCell ⟨g, j, none⟩ (.int .u8 (((upN M s 8).getD j 0 ||| x : Nat) : Int))) g 5 (u8s (upN (M ||| x <<< (j * 8)) s 8)).toArray := by
  have := h.set_ j (.int .u8 (((upN M s 8).getD j 0 ||| x : Nat) : Int))
  have e : (u8s (upN M s 8)).toArray.setIfInBounds j (.int .u8 (((upN M s 8).getD j 0 ||| x : Nat) : Int)) = (u8s (upN (M ||| x <<< (j * 8)) s 8)).toArray := by
    rw [← up_or hj (w := 8) (x := x) hx, List.setIfInBounds_toArray]
    simp [u8s, List.map_set]
  rw [e] at this
  exact this
theorem idx8B (g N cap j : Nat) (x : Int) (hx : x = (j : Int)) (h : j < N) (w : World) : (Instr.indexAt 33 (.slice (some ⟨g, 0, none⟩) N cap) (.int .i64 x)).run Try.prog w = .ok (.pointer (some ⟨g, j, none⟩)) w := by
  subst hx
  have hz := Try.sizeOf5
  have he : Try.prog.elem 33 = 5 := by kernel_rfl
  have hr := run_indexAt_slice (P := Try.prog) (w := w) 33 ⟨g, 0, none⟩ N cap .i64 (j : Int) (by kernel_rfl)
  rw [hr, if_pos ⟨by omega, by omega⟩, he, hz]
  simp [Result.andThen, Addr.add]
  try (intro hh; omega)
theorem wrap_8 (n : Int) : IntKind.u8.wrap n = n % 256 := by simp [IntKind.wrap, IntKind.bits, IntKind.signed]
theorem shl_put (u r : Nat) (hr : r < 8) : IntKind.u8.wrap (IntKind.u64.wrap ((u : Int) * 2 ^ r)) = ((u <<< r % 256 : Nat) : Int) := by
  have e : (u : Int) * 2 ^ r = ((u <<< r : Nat) : Int) := by rw [Nat.shiftLeft_eq]; simp
  rw [e, wrap_u64', wrap_8]
  omega
theorem or_put (y u r : Nat) (hy : y < 256) (hr : r < 8) : bits .or .u8 (y : Int) (IntKind.u8.wrap (IntKind.u64.wrap ((u : Int) * 2 ^ r))) = ((y ||| u <<< r % 256 : Nat) : Int) := by
  rw [shl_put u r hr, or_8 _ _ hy (Nat.mod_lt _ (by omega))]
theorem shr_cast (u m : Nat) : (u : Int) / 2 ^ m = ((u >>> m : Nat) : Int) := by rw [Nat.shiftRight_eq_div_pow]; simp
attribute [local go_sem] qUpon putAll slotV
set_option maxRecDepth 100000 in
set_option maxHeartbeats 1600000 in
theorem p_put (g s N a v wd : Nat) (W : World) (hg : Blk W g 5 (u8s (upN N s 8)).toArray) (hfit : a + wd ≤ 8 * s) (hv : v < 2 ^ wd) (hwd : wd ≤ 64) (hs : s ≤ 1048576) (M : Nat) (hM : (N ||| v <<< a) = M) :
    Calls Try.prog 27 #[.slice (some ⟨g, 0, none⟩) s s, .int .i64 (a : Int), .int .u64 (v : Int), .int .i64 (wd : Int)] W (PutPost g s M W) := by
  have Hg := hide hg
  have Hv := hide hv
  have HM := hide hM
  obtain ⟨E, hE⟩ : ∃ E, a + wd = E := ⟨_, rfl⟩
  have he2 : (a : Int) + (wd : Int) = (E : Int) := by omega
  have HE := hide hE
  have hEs : E ≤ 8 * s := by omega
  have HU : Hid (Upd g W W) := Upd.refl g W
  clear hg hv hM hE hfit
  go_enter Try.func27, Try.ntmps27
  go_wp2_with fail
  go_loopw [1, 2] (fun ta tv wr => ∃ (t u K : Nat), ta = .int .i64 (t : Int) ∧ tv = .int .u64 (u : Int) ∧ t ≤ E + 8 ∧ Hid (u < 2 ^ (E - t)) ∧ u < 18446744073709551616 ∧ Hid ((K ||| u <<< t) = M) ∧ Hid (Blk wr g 5 (u8s (upN K s 8)).toArray) ∧ Hid (Upd g W wr)) (fun ta _ _ => E - (intOf ta).toNat)
  case atStart => exact ⟨a, v, N, rfl, rfl, by have := HE.out; omega, hide (by rw [← HE.out, Nat.add_sub_cancel_left]; exact Hv.out), Nat.lt_of_lt_of_le Hv.out (Nat.pow_le_pow_right (n := 2) (by omega) hwd), HM, Hg, HU⟩
  case round =>
    obtain ⟨t, u, K, rfl, rfl, ht, Hu, hu, HK, HB, HU⟩ := hrel
    by_cases hlt : t < E
    · obtain ⟨j, hjt⟩ : ∃ j, t / 8 = j := ⟨_, rfl⟩
      obtain ⟨r, hrt⟩ : ∃ r, t % 8 = r := ⟨_, rfl⟩
      have hj : j < s := by omega
      have hr : r < 8 := by omega
      have c1 := up_cell HB.out hj
      have f1 := HB.out.frozen j
      have hy : (upN K s 8).getD j 0 < 256 := IsB.get (l := upN K s 8) (upN_fit K s 8) _
      obtain ⟨y, hyy⟩ : ∃ y, (upN K s 8).getD j 0 = y := ⟨_, rfl⟩
      rw [hyy] at c1 hy
      have Hyy := hide hyy
      have d1 : decide ((t : Int) < (E : Int)) = true := decide_eq_true (by omega)
      have o := or_put y u r hy hr
      have B1 := up_store HB.out hj (x := u <<< r % 256) (Nat.mod_lt _ (by omega))
      rw [hyy] at B1
      have U1 := upd_here (k := j) HU.out (.int .u8 ((y ||| u <<< r % 256 : Nat) : Int))
      have HK1 : Hid (((K ||| (u <<< r % 256) <<< (j * 8)) ||| (u >>> (8 - r)) <<< (t + (8 - r))) = M) := by
        show _ = _
        rw [← HK.out, Nat.or_assoc]
        congr 1
        have := put_step u t
        rw [hrt, hjt] at this
        exact this
      have Hu1 : Hid (u >>> (8 - r) < 2 ^ (E - (t + (8 - r)))) := by
        have := shr_lt (8 - r) Hu.out
        rw [Nat.sub_sub] at this
        exact this
      obtain ⟨x, hx⟩ : ∃ x, (y ||| u <<< r % 256) = x := ⟨_, rfl⟩
      rw [hx] at o B1 U1
      obtain ⟨K1, hK1⟩ : ∃ K1, (K ||| (u <<< r % 256) <<< (j * 8)) = K1 := ⟨_, rfl⟩
      rw [hK1] at B1 HK1
      obtain ⟨m, hm⟩ : ∃ m, 8 - r = m := ⟨_, rfl⟩
      rw [hm] at HK1 Hu1
      have hu1 : u >>> m < 18446744073709551616 := Nat.lt_of_le_of_lt (by rw [Nat.shiftRight_eq_div_pow]; exact Nat.div_le_self _ _) hu
      have em : (8 : Int) - (r : Int) = (m : Int) := by omega
      have es := shr_cast u m
      obtain ⟨u1, hu1'⟩ : ∃ u1, u >>> m = u1 := ⟨_, rfl⟩
      rw [hu1'] at HK1 Hu1 hu1 es
      have m0 : (0 : Int) ≤ (m : Int) := by omega
      have m2 : ((m : Int)).toNat = m := by omega
      have hm8 : m ≤ 8 := by omega
      have hm1 : 1 ≤ m := by omega
      have B1 := hide B1
      have U1 := hide U1
      clear hx hK1 hm hu1'
      have er : (t : Int) % 8 = (r : Int) := by omega
      have er2 : (t : Int).tmod 8 = (r : Int) := by rw [Int.tmod_eq_emod_of_nonneg (by omega)]; exact er
      have ej : IntKind.i64.wrap ((t : Int) / 8) = (j : Int) := by
        have : (t : Int) / 8 = (j : Int) := by omega
        rw [this]; simp [IntKind.wrap, IntKind.bits, IntKind.signed]; omega
      have i0 : (0 : Int) ≤ (j : Int) := by omega
      have i1 : (j : Int) < (s : Int) := by omega
      have i2 : ((j : Int)).toNat = j := by omega
      have r0 : (0 : Int) ≤ (r : Int) := by omega
      have r2 : ((r : Int)).toNat = r := by omega
      have Hjt := hide hjt
      have Hrt := hide hrt
      clear hyy hjt hrt
      go_upto_region 3 with fail
      go_region_law (fail)
      have X1 : Hid (Blk (wr.setCell ⟨g, j, none⟩ (.int .u8 (x : Int))).drew g 5 (u8s (upN K1 s 8)).toArray) := B1
      have Y1 : Hid (Upd g W (wr.setCell ⟨g, j, none⟩ (.int .u8 (x : Int))).drew) := U1
      go_wp2_with fail
      go_roundw
      case rel => exact ⟨t + m, u1, K1, by go_num, rfl, by omega, Hu1, hu1, HK1, X1, Y1⟩
      case measure => simp [intOf]; omega
    · have d1 : decide ((t : Int) < (E : Int)) = false := decide_eq_false (by omega)
      go_wp2_with fail
      refine bodyPost_ret (v := .tuple #[]) (by simp [results, Try.results27, go_sem]) rfl ?_
      have h0 : u = 0 := by
        have := Hu.out
        rw [show E - t = 0 by omega] at this
        omega
      have hK := HK.out
      rw [h0] at hK
      simp only [Nat.zero_shiftLeft, Nat.or_zero] at hK
      rw [← hK]
      exact ⟨rfl, HB.out, HU.out⟩
theorem run_mk8b (n m : Nat) (hnm : n ≤ m) (hm : m ≤ 281474976710656) (w : World) : (Instr.makeSlice 33 (.int .i64 (n : Int)) (.int .i64 (m : Int))).run Try.prog w = .ok (.slice (some ⟨w.heap.size, 0, none⟩) n m) (w.alloc (.cells (u8s (List.replicate m 0)).toArray 5)) := by
  obtain ⟨i0, hi0, hz0, hz1, hz2⟩ := info_parts info_u8
  have := run_make (P := Try.prog) w 33 5 i0 (.int .u8 0) Try.underlying33 hi0 hz0 .i64 .i64 (n : Int) (m : Int) (by omega) (by omega) (by rw [hz2]; omega) (by omega)
  rw [this, hz1, Int.toNat_natCast, Int.toNat_natCast]
  have e : madeCells (Value.int .u8 0).cells (m * 1) = (u8s (List.replicate m 0)).toArray := by
    rw [← made8 m]
  rw [e]
theorem up_zero (S w : Nat) : upN 0 S w = List.replicate S 0 := by
  apply List.ext_getElem
  · simp [upN]
  · intro i h1 h2
    simp [upN]
theorem own_up {B g s M : Nat} {w : World} (hB : B ≤ g) (h : Blk w g 5 (u8s (upN M s 8)).toArray) (hs : s ≤ 1048576) : OwnB B w (.slice (some ⟨g, 0, none⟩) s s) (upN M s 8) :=
  own_of (m := []) hB (by rw [List.append_nil]; exact h) (upN_len _ _ _) (by simp) (by omega) (upN_fit M s 8)
/-- Bytes and whether there are such. -/
def PkPost (o : Option (List Nat)) (W : World) (e : Ending) (w' : World) : Prop := ∃ v, e = .returned (.tuple #[v, .bool o.isSome]) ∧ OwnB W.heap.size w' v (o.getD []) ∧ Ext W w'
theorem siz_out {n : Nat} {w : Int} (h : w < 0 ∨ 64 < w ∨ 65536 < n) : siz (n : Int) w = -1 := if_pos (by omega)
theorem siz_in {n v : Nat} (h1 : n ≤ 65536) (h2 : v ≤ 64) : siz (n : Int) (v : Int) = (((n * v + 7) / 8 : Nat) : Int) := by
  rw [siz, if_neg (by omega)]; omega
theorem nv_le {n v : Nat} (h1 : n ≤ 65536) (h2 : v ≤ 64) : n * v ≤ 4194304 := Nat.mul_le_mul h1 h2
set_option maxRecDepth 100000 in
set_option maxHeartbeats 1600000 in
theorem p_pack (A : Option Addr) (n c : Nat) (l : List Nat) (wd : Int) (W : World) (hl : WordsAt W A l) (hn : l.length = n) (hwd : I64 wd) :
    Calls Try.prog 20 #[.slice A n c, .int .i64 wd] W (PkPost (pkR l wd) W) := by
  have hn63 : n ≤ 9223372036854775807 := by have := hl.2.1; omega
  by_cases hc : wd < 0 ∨ 64 < wd ∨ 65536 < n
  · have e : pkR l wd = none := if_pos (by omega)
    rw [e]
    have KS : Hid (∀ w, Calls Try.prog 14 #[.int .i64 (n : Int), .int .i64 wd] w (RetSame (.int .i64 (-1)) w)) := hide (fun w => by
      have := p_siz (n : Int) wd w ⟨by omega, by omega⟩ hwd
      rw [siz_out hc] at this
      exact this)
    clear hl hn hc
    go_enter Try.func20, Try.ntmps20
    go_wp2_with (go_at_call 14; (with_reducible refine (KS.out _).mono ?_); rintro e w1 ⟨rfl, rfl⟩)
    go_ret2
    exact ⟨_, rfl, OwnB.nil_ _ _, Ext.refl _⟩
  · obtain ⟨v, rfl⟩ := Int.eq_ofNat_of_zero_le (show 0 ≤ wd by omega)
    have hv : v ≤ 64 := by omega
    have hn2 : n ≤ 65536 := by omega
    have hnv := nv_le hn2 hv
    obtain ⟨S, hS⟩ : ∃ S, (n * v + 7) / 8 = S := ⟨_, rfl⟩
    have hS8 : n * v ≤ 8 * S := by omega
    have hS2 : S ≤ 1048576 := by omega
    have KS : Hid (∀ w, Calls Try.prog 14 #[.int .i64 (n : Int), .int .i64 (v : Int)] w (RetSame (.int .i64 (S : Int)) w)) := hide (fun w => by
      have := p_siz (n : Int) (v : Int) w ⟨by omega, by omega⟩ hwd
      rw [siz_in hn2 hv, hS] at this
      exact this)
    have KW : Hid (Calls Try.prog 19 #[.slice A n c] W (Ret (.int .i64 (wdt l : Int)) W)) := hide (p_wd A n c l W hl hn)
    have hw64 := wdt_le hl.1
    by_cases hw : v < wdt l
    · have e : pkR l (v : Int) = none := if_pos (by omega)
      rw [e]
      obtain ⟨u, hu⟩ : ∃ u, wdt l = u := ⟨_, rfl⟩
      rw [hu] at hw hw64 KW
      have d1 : decide ((v : Int) < (u : Int)) = true := decide_eq_true (by omega)
      clear hl hn hc hnv hS hS8 hu
      go_enter Try.func20, Try.ntmps20
      go_wp2_with (first
        | (go_at_call 14; (with_reducible refine (KS.out _).mono ?_); rintro e w1 ⟨rfl, rfl⟩)
        | (go_at_call 19; (with_reducible refine (KW.out).mono ?_); rintro e w1 ⟨rfl, hE⟩))
      go_ret2
      exact ⟨_, rfl, OwnB.nil_ _ _, hE⟩
    · have e : pkR l (v : Int) = some (upN (pkN l v) S 8) := by
        unfold pkR
        rw [if_neg (by omega), Int.toNat_natCast, hn, hS]
      rw [e]
      have hf := hide ((wdt_iff hl.1 v).2 (by omega))
      obtain ⟨u, hu⟩ : ∃ u, wdt l = u := ⟨_, rfl⟩
      rw [hu] at hw hw64 KW
      have d1 : decide ((v : Int) < (u : Int)) = false := decide_eq_false (by omega)
      have hm := run_mk8b S S (Nat.le_refl _) (by omega)
      have HL := hide hl
      have Hn := hide hn
      have Hnv := hide (show ∀ k, k < n → k * v + v ≤ n * v from fun k hk => by
        have := Nat.mul_le_mul_right v (show k + 1 ≤ n from hk)
        rw [Nat.succ_mul] at this
        exact this)
      have HS8 := hide hS8
      have Hnv2 := hide hnv
      clear hl hn hc hnv hS hS8 hu e
      go_enter Try.func20, Try.ntmps20
      go_upto_region 4 with (first
        | (go_at_call 14; (with_reducible refine (KS.out _).mono ?_); rintro e w1 ⟨rfl, rfl⟩)
        | (go_at_call 19; (with_reducible refine (KW.out).mono ?_); rintro e w1 ⟨rfl, hE⟩))
      go_upto_region 5 with fail
      have B1 := Blk.new w1 5 (u8s (List.replicate S 0)).toArray
      have E1 := Ext.trans hE (ext_alloc w1 (.cells (u8s (List.replicate S 0)).toArray 5))
      rw [← up_zero S 8] at B1 E1 ⊢
      obtain ⟨w2, hw2⟩ : ∃ w2, w1.alloc (.cells (u8s (upN 0 S 8)).toArray 5) = w2 := ⟨_, rfl⟩
      rw [hw2] at B1 E1 ⊢
      have hgW : W.heap.size ≤ w1.heap.size := hE.size
      obtain ⟨g, hg⟩ : ∃ g, w1.heap.size = g := ⟨_, rfl⟩
      rw [hg] at B1 hgW ⊢
      have HL2 := hide (HL.out.ext E1)
      have B1 := hide B1
      have E1 := hide E1
      have HgW := hide hgW
      have hWg : g < w2.heap.size := B1.out.lt
      clear hE hw2 hg KS KW hgW
      go_wp2_with fail
      go_loopw [26] (fun i wr => ∃ k : Nat, k ≤ n ∧ i = .int .i64 (k : Int) ∧ Hid (Blk wr g 5 (u8s (upN (pkN (l.take k) v) S 8)).toArray) ∧ Hid (Upd g w2 wr)) (fun i _ => n - (intOf i).toNat)
      case atStart => exact ⟨0, by omega, rfl, B1, hide (Upd.refl _ _)⟩
      case round =>
        clear B1
        obtain ⟨k, hk, rfl, HB, HU⟩ := hrel
        by_cases hlt : k < n
        · have hkl : k < l.length := by rw [Hn.out]; exact hlt
          obtain ⟨b, off, rfl, hb1, hc1⟩ := HL2.out.2.2 (by omega)
          have hbg : b ≠ g := by
            obtain ⟨b', off', e', hb', _⟩ := HL.out.2.2 (by omega)
            have := HgW.out
            injection e' with e'
            injection e' with e' _
            omega
          have hx : l.getD k 0 < 2 ^ v := by
            rw [getD_lt hkl]
            exact hf.out _ (List.getElem_mem _)
          have d1 : wr.cell? ⟨b, off + k, none⟩ = some (.int .u64 ((l.getD k 0 : Nat) : Int)) := (World.cell?_of_block (a := ⟨b, off + k, none⟩) (HU.out.2.2.2.2 b hb1 hbg)).trans (hc1 k hkl)
          have hM : (pkN (l.take k) v ||| (l.getD k 0) <<< (k * v)) = pkN (l.take (k + 1)) v := by
            rw [take_succ hkl, pk_or (fun y hy => hf.out y (List.mem_of_mem_take hy)), List.length_take, Nat.min_eq_left (by omega)]
          have hkv := Hnv.out k hlt
          have hkv2 : k * v + v ≤ 8 * S := Nat.le_trans hkv HS8.out
          obtain ⟨x, hxx⟩ : ∃ x, l.getD k 0 = x := ⟨_, rfl⟩
          obtain ⟨p, hp⟩ : ∃ p, k * v = p := ⟨_, rfl⟩
          rw [hxx] at hx d1 hM
          rw [hp] at hM hkv2
          have KP := hide (p_put g S (pkN (l.take k) v) p x v wr HB.out hkv2 hx hv hS2 _ hM)
          have hpi : (k : Int) * (v : Int) = (p : Int) := by rw [← hp]; simp
          have ep : IntKind.i64.wrap ((k : Int) * (v : Int)) = (p : Int) := by rw [hpi]; simp [IntKind.wrap, IntKind.bits, IntKind.signed]; omega
          clear hb1 hc1 hbg hx hM hkv hxx hp hkl
          go_wp2_with (go_at_call 27; (with_reducible refine (KP.out).mono ?_); rintro e w3 ⟨rfl, hB, hU⟩)
          have X1 := hide hB
          have Y1 := hide (HU.out.trans hU)
          clear hB hU
          go_roundw
          case rel => exact ⟨k + 1, by omega, by go_num, X1, Y1⟩
          case measure => simp [intOf]; omega
        · obtain rfl : k = n := by omega
          go_wp2_with fail
          go_ret2
          have hB := HB.out
          rw [List.take_of_length_le (by have := Hn.out; omega)] at hB
          exact ⟨_, rfl, own_up HgW.out hB hS2, Upd.ext HU.out E1.out HgW.out⟩
end Go.Proofs.Ytkebfepkepnlkaa
