/- The program's get, clearBehind and Unpack. Conditions: the slice reads as bytes. -/
import Derived.Test.YtkebfepkepnlkaaBpB
namespace Go.Proofs.Ytkebfepkepnlkaa
set_option linter.unusedVariables false
set_option linter.unusedSimpArgs false
open Go Go.RowKit
/-- A byte of a list, out of the list's number. -/
theorem byte_of {b : List Nat} (hb : IsB b) {j : Nat} (hj : j < b.length) : b.getD j 0 = (pkN b 8 >>> (j * 8)) % 256 := by
  have h := up_pk (l := b) (w := 8) hb
  have := upN_get (N := pkN b 8) (w := 8) hj
  rw [h] at this
  exact this
theorem get_step {N a h j r m y : Nat} (hj : (a + h) / 8 = j) (hr : (a + h) % 8 = r) (hm : 8 - r = m) (hy : y = (N >>> (j * 8)) % 256) :
    ((N >>> a) % 2 ^ h % 18446744073709551616 ||| (y >>> r) <<< h % 18446744073709551616) = (N >>> a) % 2 ^ (h + m) % 18446744073709551616 := by
  rw [show (18446744073709551616 : Nat) = 2 ^ 64 from rfl, ← Nat.or_mod_two_pow]
  congr 1
  rw [hy, show (256 : Nat) = 2 ^ 8 from rfl]
  apply Nat.eq_of_testBit_eq
  intro i
  simp only [Nat.testBit_or, Nat.testBit_shiftLeft, Nat.testBit_mod_two_pow, Nat.testBit_shiftRight, ge_iff_le]
  by_cases h1 : i < h
  · rw [decide_eq_true h1, decide_eq_false (show ¬ h ≤ i by omega), decide_eq_true (show i < h + m by omega)]; simp
  · rw [decide_eq_false h1, decide_eq_true (show h ≤ i by omega)]
    by_cases h2 : i < h + m
    · rw [decide_eq_true h2, decide_eq_true (show r + (i - h) < 8 by omega), show j * 8 + (r + (i - h)) = a + i by omega]; simp
    · rw [decide_eq_false h2, decide_eq_false (show ¬ r + (i - h) < 8 by omega)]; simp
theorem get_fin {G h wd : Nat} (h1 : wd ≤ h) (h2 : wd ≤ 64) : G % 2 ^ h % 18446744073709551616 % 2 ^ wd = G % 2 ^ wd := by
  have e : (18446744073709551616 : Nat) = 2 ^ 64 := rfl
  rw [e, Nat.mod_mod_of_dvd _ (Nat.pow_dvd_pow 2 h2), Nat.mod_mod_of_dvd _ (Nat.pow_dvd_pow 2 h1)]
theorem idx8o (b off N cap j : Nat) (h : j < N) (w : World) : (Instr.indexAt 33 (.slice (some ⟨b, off, none⟩) N cap) (.int .i64 (j : Int))).run Try.prog w = .ok (.pointer (some ⟨b, off + j, none⟩)) w := by
  have hz := Try.sizeOf5
  have he : Try.prog.elem 33 = 5 := by kernel_rfl
  have hr := run_indexAt_slice (P := Try.prog) (w := w) 33 ⟨b, off, none⟩ N cap .i64 (j : Int) (by kernel_rfl)
  rw [hr, if_pos ⟨by omega, by omega⟩, he, hz]
  simp [Result.andThen, add_at]
theorem shl_64 (q h : Nat) : IntKind.u64.wrap ((q : Int) * 2 ^ h) = ((q <<< h % 18446744073709551616 : Nat) : Int) := by
  have e : (q : Int) * 2 ^ h = ((q <<< h : Nat) : Int) := by rw [Nat.shiftLeft_eq]; simp
  rw [e, wrap_u64']
  omega
theorem mask_64 {wd : Nat} (h : wd ≤ 64) : IntKind.u64.wrap (IntKind.u64.wrap (2 ^ wd) - 1) = ((2 ^ wd - 1 : Nat) : Int) := by
  have e : (2 : Int) ^ wd = ((2 ^ wd : Nat) : Int) := by simp
  have hp : 0 < 2 ^ wd := Nat.two_pow_pos wd
  rw [wrap_u64', wrap_u64', e]
  rcases Nat.lt_or_ge wd 64 with h1 | h1
  · have h2 : 2 ^ wd < 2 ^ 64 := Nat.pow_lt_pow_right (by omega) h1
    generalize 2 ^ wd = p at *
    omega
  · obtain rfl : wd = 64 := by omega
    rfl
theorem and_mask {v wd : Nat} (hv : v < 18446744073709551616) (h : wd ≤ 64) : bits .and .u64 (v : Int) (IntKind.u64.wrap (IntKind.u64.wrap (2 ^ wd) - 1)) = ((v % 2 ^ wd : Nat) : Int) := by
  rw [mask_64 h]
  have hp : 0 < 2 ^ wd := Nat.two_pow_pos wd
  have h2 : 2 ^ wd ≤ 18446744073709551616 := Nat.pow_le_pow_right (n := 2) (by omega) h
  show IntKind.u64.wrap ((BitVec.ofInt 64 (v : Int) &&& BitVec.ofInt 64 ((2 ^ wd - 1 : Nat) : Int)).toNat : Int) = _
  have e : (BitVec.ofInt 64 (v : Int) &&& BitVec.ofInt 64 ((2 ^ wd - 1 : Nat) : Int)).toNat = v % 2 ^ wd := by
    rw [BitVec.toNat_and, BitVec.toNat_ofInt, BitVec.toNat_ofInt]
    have e1 : ((v : Int) % ((2 ^ 64 : Nat) : Int)).toNat = v := by omega
    have e2 : (((2 ^ wd - 1 : Nat) : Int) % ((2 ^ 64 : Nat) : Int)).toNat = 2 ^ wd - 1 := by
      generalize 2 ^ wd = p at *
      omega
    rw [e1, e2, Nat.and_two_pow_sub_one_eq_mod]
  rw [e, wrap_u64']
  have := Nat.mod_le v (2 ^ wd)
  generalize v % 2 ^ wd = q at *
  omega
set_option maxRecDepth 100000 in
set_option maxHeartbeats 1600000 in
theorem p_get (A : Option Addr) (c cap : Nat) (b : List Nat) (a wd : Nat) (W : World) (hb : BytesAt W A b) (hc : b.length = c) (hwd : wd ≤ 64) (hfit : a + wd ≤ 8 * c) (hc2 : c ≤ 1048576) (R : Nat) (hR : (pkN b 8 >>> a) % 2 ^ wd = R) :
    Calls Try.prog 29 #[.slice A c cap, .int .i64 (a : Int), .int .i64 (wd : Int)] W (Ret (.int .u64 (R : Int)) W) := by
  have HB := hide hb
  have Hc := hide hc
  have HR := hide hR
  obtain ⟨N, hN⟩ : ∃ N, pkN b 8 = N := ⟨_, rfl⟩
  have HN := hide hN
  clear hb hc hR hN
  go_enter Try.func29, Try.ntmps29
  go_wp2_with fail
  go_loop [1, 7, 8] (fun ta tv th => ∃ (h t v : Nat), ta = .int .i64 (t : Int) ∧ tv = .int .u64 (v : Int) ∧ th = .int .i64 (h : Int) ∧ t = a + h ∧ h ≤ wd + 8 ∧ Hid ((N >>> a) % 2 ^ h % 18446744073709551616 = v)) (fun _ _ th => wd - (intOf th).toNat)
  case atStart => exact ⟨0, a, 0, rfl, rfl, rfl, rfl, by omega, hide (by simp [Nat.mod_one])⟩
  case round =>
    obtain ⟨h, t, v, rfl, rfl, rfl, ht, hh, HV⟩ := hrel
    by_cases hlt : h < wd
    · obtain ⟨j, hjt⟩ : ∃ j, t / 8 = j := ⟨_, rfl⟩
      obtain ⟨r, hrt⟩ : ∃ r, t % 8 = r := ⟨_, rfl⟩
      obtain ⟨m, hm⟩ : ∃ m, 8 - r = m := ⟨_, rfl⟩
      have hj : j < c := by omega
      have hjb : j < b.length := by rw [Hc.out]; exact hj
      obtain ⟨g, off, rfl, hb1, hc1⟩ := HB.out.2.2 (by omega)
      have d1 := hc1 j hjb
      have hyb := byte_of HB.out.1 hjb
      have hy : b.getD j 0 < 256 := HB.out.1.get _
      obtain ⟨y, hyy⟩ : ∃ y, b.getD j 0 = y := ⟨_, rfl⟩
      rw [hyy] at d1 hyb hy
      rw [HN.out] at hyb
      have hst := get_step (N := N) (a := a) (h := h) (by rw [← ht]; exact hjt) (by rw [← ht]; exact hrt) hm hyb
      rw [HV.out] at hst
      have e1 := shr_cast y r
      have hq : y >>> r < 256 := Nat.lt_of_le_of_lt (by rw [Nat.shiftRight_eq_div_pow]; exact Nat.div_le_self _ _) hy
      obtain ⟨q, hqq⟩ : ∃ q, y >>> r = q := ⟨_, rfl⟩
      rw [hqq] at hst e1 hq
      have e2 := shl_64 q h
      have hz : q <<< h % 18446744073709551616 < 18446744073709551616 := Nat.mod_lt _ (by omega)
      obtain ⟨z, hzz⟩ : ∃ z, q <<< h % 18446744073709551616 = z := ⟨_, rfl⟩
      rw [hzz] at hst e2 hz
      have hv : v < 18446744073709551616 := by rw [← HV.out]; exact Nat.mod_lt _ (by omega)
      have o := or_64 v z hv hz
      have hix := idx8o g off c cap j hj
      obtain ⟨x, hx⟩ : ∃ x, (v ||| z) = x := ⟨_, rfl⟩
      rw [hx] at o hst
      have Hst := hide hst.symm
      have er : (t : Int) % 8 = (r : Int) := by omega
      have ej : (t : Int) / 8 = (j : Int) := by omega
      have em : (8 : Int) - (r : Int) = (m : Int) := by omega
      have d2 : decide ((h : Int) < (wd : Int)) = true := decide_eq_true (by omega)
      have hm8 : 1 ≤ m ∧ m ≤ 8 := by omega
      have Ht := hide ht
      clear hb1 hc1 hyy hyb hst hqq hzz hx hjb hm ht
      go_upto_region 4 with fail
      go_wp2_with fail
      exact ⟨⟨h + m, t + m, x, by go_num, rfl, by go_num, by have := Ht.out; omega, by omega, Hst⟩, by simp [intOf]; omega⟩
    · have d2 : decide ((h : Int) < (wd : Int)) = false := decide_eq_false (by omega)
      have hv : v < 18446744073709551616 := by rw [← HV.out]; exact Nat.mod_lt _ (by omega)
      have o := and_mask hv hwd
      have hR : v % 2 ^ wd = R := by
        have h2 := get_fin (G := N >>> a) (h := h) (wd := wd) (by omega) hwd
        rw [HV.out] at h2
        rw [h2, ← HR.out, HN.out]
      rw [hR] at o
      clear hR
      go_wp2_with fail
      go_ret
      exact ⟨rfl, Ext.refl _⟩
theorem clr_iff {b : List Nat} (hb : IsB b) {E : Nat} (hl : b.length = (E + 7) / 8) : pkN b 8 < 2 ^ E ↔ (E % 8 = 0 ∨ b.getD (b.length - 1) 0 >>> (E % 8) = 0) := by
  have h1 := pk_lt (l := b) (w := 8) hb
  by_cases h0 : E % 8 = 0
  · rw [hl, show (E + 7) / 8 * 8 = E by omega] at h1
    exact ⟨fun _ => Or.inl h0, fun _ => h1⟩
  · have hj : b.length - 1 < b.length := by omega
    have he : (pkN b 8 >>> ((b.length - 1) * 8)) % 256 = pkN b 8 >>> ((b.length - 1) * 8) := by
      apply Nat.mod_eq_of_lt
      rw [Nat.shiftRight_eq_div_pow, Nat.div_lt_iff_lt_mul (Nat.two_pow_pos _), show (256 : Nat) = 2 ^ 8 from rfl, ← Nat.pow_add, show 8 + (b.length - 1) * 8 = b.length * 8 by omega]
      exact h1
    rw [byte_of hb hj, he, ← Nat.shiftRight_add, show (b.length - 1) * 8 + E % 8 = E by omega, Nat.shiftRight_eq_div_pow, Nat.div_eq_zero_iff]
    have := Nat.two_pow_pos E
    constructor
    · intro h; exact Or.inr (Or.inr h)
    · rintro (h | h | h)
      · omega
      · omega
      · exact h
set_option maxRecDepth 100000 in
set_option maxHeartbeats 1600000 in
theorem p_clear (A : Option Addr) (c cap : Nat) (b : List Nat) (E : Nat) (W : World) (hb : BytesAt W A b) (hc : b.length = c) (hE : c = (E + 7) / 8) (hE2 : E ≤ 4194304) (v : Bool) (hv : decide (pkN b 8 < 2 ^ E) = v) :
    Calls Try.prog 28 #[.slice A c cap, .int .i64 (E : Int)] W (Ret (.bool v) W) := by
  have hiff := clr_iff hb.1 (hc.trans hE)
  by_cases h0 : E % 8 = 0
  · have e : v = true := by rw [← hv, decide_eq_true (hiff.2 (Or.inl h0))]
    subst e
    have er : (E : Int) % 8 = 0 := by omega
    have eb : ((E : Int) % 8 == 0) = true := by rw [er]; rfl
    clear hv hiff h0 hE hb hc
    go_enter Try.func28, Try.ntmps28
    go_wp2_with fail
    go_ret
    exact ⟨rfl, Ext.refl _⟩
  · obtain ⟨r, hr⟩ : ∃ r, E % 8 = r := ⟨_, rfl⟩
    obtain ⟨j, hj⟩ : ∃ j, c - 1 = j := ⟨_, rfl⟩
    have hjc : j < c := by omega
    have hjb : j < b.length := by omega
    obtain ⟨g, off, rfl, hb1, hc1⟩ := hb.2.2 (by omega)
    have d1 := hc1 j hjb
    have hy := hb.1.get j
    have ev : v = decide (b.getD j 0 >>> r = 0) := by
      rw [hc, hj, hr] at hiff
      rw [← hv]
      by_cases hz : b.getD j 0 >>> r = 0
      · rw [decide_eq_true hz, decide_eq_true (hiff.2 (Or.inr hz))]
      · rw [decide_eq_false hz, decide_eq_false (fun hp => by rcases hiff.1 hp with h | h <;> omega)]
    obtain ⟨y, hyy⟩ : ∃ y, b.getD j 0 = y := ⟨_, rfl⟩
    rw [hyy] at d1 ev hy
    have e1 := shr_cast y r
    obtain ⟨q, hq⟩ : ∃ q, y >>> r = q := ⟨_, rfl⟩
    rw [hq] at ev e1
    have eq : ((q : Int) == 0) = v := by
      rw [ev]
      by_cases h : q = 0
      · subst h; rfl
      · rw [decide_eq_false h]; rw [beq_eq_false_iff_ne]; omega
    have er : (E : Int) % 8 = (r : Int) := by omega
    have eb : ((r : Int) == 0) = false := by rw [beq_eq_false_iff_ne]; omega
    have ej : (c : Int) - 1 = (j : Int) := by omega
    have hix := idx8o g off c cap j hjc
    have hr8 : r < 8 := by omega
    have hj2 : j ≤ 1048576 := by omega
    clear hv hiff h0 hE hb hc hr hj hc1 hb1 hyy hq ev hjb
    go_enter Try.func28, Try.ntmps28
    go_wp2_with fail
    go_ret
    exact ⟨rfl, Ext.refl _⟩
/-- Numbers and whether there are such. -/
def UpPost (o : Option (List Nat)) (W : World) (e : Ending) (w' : World) : Prop := ∃ v, e = .returned (.tuple #[v, .bool o.isSome]) ∧ OwnQ W.heap.size w' v (o.getD []) ∧ Ext W w'
/-- The first k numbers of a list, and zeros. -/
def part (L : List Nat) (m k : Nat) : List Nat := L.take k ++ List.replicate (m - k) 0
theorem part_len {L : List Nat} {m k : Nat} (hL : L.length = m) (hk : k ≤ m) : (part L m k).length = m := by
  simp [part, hL]; omega
theorem part_set {L : List Nat} {m k : Nat} (hL : L.length = m) (hk : k < m) : (part L m k).set k (L.getD k 0) = part L m (k + 1) := by
  unfold part
  have e : m - k = (m - (k + 1)) + 1 := by omega
  have e2 : (L.take k).length = k := by rw [List.length_take]; omega
  rw [e, List.replicate_succ, List.set_append_right _ _ (by omega), e2, Nat.sub_self, List.set_cons_zero, take_succ (by omega), List.append_assoc]
  rfl
theorem part_end {L : List Nat} {m : Nat} (hL : L.length = m) : part L m m = L := by
  unfold part
  rw [Nat.sub_self, List.take_of_length_le (by omega)]
  simp
theorem part_zero (L : List Nat) (m : Nat) : part L m 0 = List.replicate m 0 := by simp [part]
theorem part_store {w : World} {g m k x : Nat} {L : List Nat} (h : Blk w g 48 (q8s (part L m k)).toArray) (hL : L.length = m) (hk : k < m) (hx : L.getD k 0 = x) : Blk (w.setCell ⟨g, k, none⟩ (.int .u64 (x : Int))) g 48 (q8s (part L m (k + 1))).toArray := by
  have := h.set_ k (.int .u64 (x : Int))
  have e : (q8s (part L m k)).toArray.setIfInBounds k (.int .u64 (x : Int)) = (q8s (part L m (k + 1))).toArray := by
    rw [← part_set hL hk, hx, List.setIfInBounds_toArray]
    simp [q8s, List.map_set]
  rw [e] at this
  exact this
theorem idx64B (g N cap j : Nat) (h : j < N) (w : World) : (Instr.indexAt 22 (.slice (some ⟨g, 0, none⟩) N cap) (.int .i64 (j : Int))).run Try.prog w = .ok (.pointer (some ⟨g, j, none⟩)) w := by
  have := idx64 g 0 N cap j h w
  rw [Nat.zero_add] at this
  exact this
theorem own_q {B g m : Nat} {w : World} {L : List Nat} (hB : B ≤ g) (h : Blk w g 48 (q8s L).toArray) (hL : L.length = m) (hm : m ≤ 1048576) (hq : IsQ L) : OwnQ B w (.slice (some ⟨g, 0, none⟩) m m) L :=
  own_ofQ (m := []) hB (by rw [List.append_nil]; exact h) hL (by simp) (by omega) hq
set_option maxRecDepth 100000 in
set_option maxHeartbeats 1600000 in
theorem p_unpack (A : Option Addr) (c cap : Nat) (b : List Nat) (n wd : Int) (W : World) (hb : BytesAt W A b) (hc : b.length = c) (hn : I64 n) (hwd : I64 wd) :
    Calls Try.prog 21 #[.slice A c cap, .int .i64 n, .int .i64 wd] W (UpPost (upR b n wd) W) := by
  have hc63 : c ≤ 9223372036854775807 := by have := hb.2.1; omega
  by_cases hq : n < 0 ∨ 65536 < n ∨ wd < 0 ∨ 64 < wd
  · have e : upR b n wd = none := if_pos (by omega)
    rw [e]
    have KS : Hid (∀ w, Calls Try.prog 14 #[.int .i64 n, .int .i64 wd] w (RetSame (.int .i64 (-1)) w)) := hide (fun w => by
      have := p_siz n wd w hn hwd
      rw [siz, if_pos hq] at this
      exact this)
    have d1 : ((c : Int) != -1) = true := by rw [bne_iff_ne]; omega
    clear hb hc hq e
    go_enter Try.func21, Try.ntmps21
    go_wp2_with (go_at_call 14; (with_reducible refine (KS.out _).mono ?_); rintro e w1 ⟨rfl, rfl⟩)
    go_ret2
    exact ⟨_, rfl, OwnQ.nil_ _ _, Ext.refl _⟩
  · obtain ⟨v, rfl⟩ := Int.eq_ofNat_of_zero_le (show 0 ≤ wd by omega)
    obtain ⟨m, rfl⟩ := Int.eq_ofNat_of_zero_le (show 0 ≤ n by omega)
    have hv : v ≤ 64 := by omega
    have hm2 : m ≤ 65536 := by omega
    have hnv := nv_le hm2 hv
    obtain ⟨S, hS⟩ : ∃ S, (m * v + 7) / 8 = S := ⟨_, rfl⟩
    have KS : Hid (∀ w, Calls Try.prog 14 #[.int .i64 (m : Int), .int .i64 (v : Int)] w (RetSame (.int .i64 (S : Int)) w)) := hide (fun w => by
      have := p_siz (m : Int) (v : Int) w hn hwd
      rw [siz_in hm2 hv, hS] at this
      exact this)
    by_cases hcS : c = S
    · obtain ⟨E, hE⟩ : ∃ E, m * v = E := ⟨_, rfl⟩
      rw [hE] at hS hnv
      have hmv : (m : Int) * (v : Int) = (E : Int) := by rw [← hE]; simp
      have ep : IntKind.i64.wrap ((m : Int) * (v : Int)) = (E : Int) := by rw [hmv]; simp [IntKind.wrap, IntKind.bits, IntKind.signed]; omega
      have hS2 : c ≤ 1048576 := by omega
      subst hcS
      have d1 : ((c : Int) != (c : Int)) = false := by simp
      by_cases hk : pkN b 8 < 2 ^ E
      · have e : upR b (m : Int) (v : Int) = some (upN (pkN b 8) m v) := by
          unfold upR
          rw [Int.toNat_natCast, Int.toNat_natCast, hE, if_neg (by omega)]
        rw [e]
        have KC := hide (p_clear A c cap b E W hb hc hS.symm hnv true (decide_eq_true hk))
        obtain ⟨N, hN⟩ : ∃ N, pkN b 8 = N := ⟨_, rfl⟩
        have KG : Hid (∀ w, Ext W w → ∀ k, k < m → ∀ R, (upN N m v).getD k 0 = R → Calls Try.prog 29 #[.slice A c cap, .int .i64 ((k * v : Nat) : Int), .int .i64 (v : Int)] w (Ret (.int .u64 (R : Int)) w)) := hide (fun w hw k hk R hR => by
          have := Nat.mul_le_mul_right v (show k + 1 ≤ m from hk)
          rw [Nat.succ_mul, hE] at this
          exact p_get A c cap b (k * v) v w (hb.ext hw) hc hv (by omega) hS2 R (by rw [hN, ← hR, upN_get hk]))
        have Hkv : Hid (∀ k, k < m → k * v ≤ E) := hide (fun k hk => by
          have := Nat.mul_le_mul_right v (show k ≤ m by omega)
          omega)
        have hmk := run_mk64 m m (Nat.le_refl _) (by omega)
        rw [hN]
        obtain ⟨L, hL⟩ : ∃ L, upN N m v = L := ⟨_, rfl⟩
        have hLl : L.length = m := by rw [← hL, upN_len]
        have hLq : IsQ L := by rw [← hL]; exact (upN_fit N m v).isq hv
        rw [hL] at KG ⊢
        rw [← part_zero L m] at hmk
        have HLl := hide hLl
        have HLq := hide hLq
        clear hb hc hq hE hS e hk hN hL hLl hLq
        go_enter Try.func21, Try.ntmps21
        go_upto_region 4 with (first
          | (go_at_call 14; (with_reducible refine (KS.out _).mono ?_); rintro e w1 ⟨rfl, rfl⟩)
          | (go_at_call 28; (with_reducible refine (KC.out).mono ?_); rintro e w1 ⟨rfl, hE⟩))
        have B1 := Blk.new w1 48 (q8s (part L m 0)).toArray
        have E1 := Ext.trans hE (ext_alloc w1 (.cells (q8s (part L m 0)).toArray 48))
        obtain ⟨w2, hw2⟩ : ∃ w2, w1.alloc (.cells (q8s (part L m 0)).toArray 48) = w2 := ⟨_, rfl⟩
        rw [hw2] at B1 E1 ⊢
        have hgW : W.heap.size ≤ w1.heap.size := hE.size
        obtain ⟨g, hg⟩ : ∃ g, w1.heap.size = g := ⟨_, rfl⟩
        rw [hg] at B1 hgW ⊢
        have B1 := hide B1
        have E1 := hide E1
        have HgW := hide hgW
        clear hE hw2 hg KS KC hgW
        go_wp2_with fail
        go_loopw [28] (fun i wr => ∃ k : Nat, k ≤ m ∧ i = .int .i64 (k : Int) ∧ Hid (Blk wr g 48 (q8s (part L m k)).toArray) ∧ Hid (Ext W wr)) (fun i _ => m - (intOf i).toNat)
        case atStart => exact ⟨0, by omega, rfl, B1, E1⟩
        case round =>
          clear B1 E1
          obtain ⟨k, hk, rfl, HB, HE⟩ := hrel
          by_cases hlt : k < m
          · obtain ⟨x, hx⟩ : ∃ x, L.getD k 0 = x := ⟨_, rfl⟩
            have KG1 := hide (KG.out wr HE.out k hlt x hx)
            have hkE := Hkv.out k hlt
            obtain ⟨p, hp⟩ : ∃ p, k * v = p := ⟨_, rfl⟩
            rw [hp] at KG1 hkE
            have hpi : (k : Int) * (v : Int) = (p : Int) := by rw [← hp]; simp
            have ep2 : IntKind.i64.wrap ((k : Int) * (v : Int)) = (p : Int) := by rw [hpi]; simp [IntKind.wrap, IntKind.bits, IntKind.signed]; omega
            have hix := idx64B g m m k hlt
            have Hx := hide hx
            clear hx hp
            go_wp2_with (go_at_call 29; (with_reducible refine (KG1.out).mono ?_); rintro e w3 ⟨rfl, hE⟩; have B3 := HB.out.ext hE; have hcx := B3.cell k; have f3 := B3.frozen k; have Z3 := hide (part_store B3 HLl.out hlt Hx.out); have E3 := hide (Below.setCell (Ext.trans HE.out hE) (p := ⟨g, k, none⟩) HgW.out (.int .u64 (x : Int))); rw [List.getElem?_toArray, List.getElem?_eq_getElem (by rw [q8s_len, part_len HLl.out hk]; exact hlt)] at hcx; clear hE B3)
            go_roundw
            case rel => exact ⟨k + 1, by omega, by go_num, Z3, E3⟩
            case measure => simp [intOf]; omega
          · obtain rfl : k = m := by omega
            go_wp2_with fail
            go_ret2
            have hB := HB.out
            rw [part_end HLl.out] at hB
            exact ⟨_, rfl, own_q HgW.out hB HLl.out (by omega) HLq.out, HE.out⟩
      · have e : upR b (m : Int) (v : Int) = none := by
          unfold upR
          rw [Int.toNat_natCast, Int.toNat_natCast, hE, if_pos (by omega)]
        rw [e]
        have KC := hide (p_clear A c cap b E W hb hc hS.symm hnv false (decide_eq_false hk))
        clear hb hc hq hE hS e hk
        go_enter Try.func21, Try.ntmps21
        go_wp2_with (first
          | (go_at_call 14; (with_reducible refine (KS.out _).mono ?_); rintro e w1 ⟨rfl, rfl⟩)
          | (go_at_call 28; (with_reducible refine (KC.out).mono ?_); rintro e w1 ⟨rfl, hE⟩))
        go_ret2
        exact ⟨_, rfl, OwnQ.nil_ _ _, hE⟩
    · have e : upR b (m : Int) (v : Int) = none := by
        unfold upR
        rw [Int.toNat_natCast, Int.toNat_natCast, hS, if_pos (by omega)]
      rw [e]
      have d1 : ((c : Int) != (S : Int)) = true := by rw [bne_iff_ne]; omega
      clear hb hc hq hS e hcS
      go_enter Try.func21, Try.ntmps21
      go_wp2_with (go_at_call 14; (with_reducible refine (KS.out _).mono ?_); rintro e w1 ⟨rfl, rfl⟩)
      go_ret2
      exact ⟨_, rfl, OwnQ.nil_ _ _, Ext.refl _⟩
end Go.Proofs.Ytkebfepkepnlkaa
