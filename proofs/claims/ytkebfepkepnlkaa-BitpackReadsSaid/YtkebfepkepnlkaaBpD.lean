/- The reference's Width, Bytes and Pack. Conditions: the slice reads as numbers of 64 bits. -/
import Derived.Test.YtkebfepkepnlkaaBpC
namespace Go.Proofs.Ytkebfepkepnlkaa
set_option linter.unusedVariables false
set_option linter.unusedSimpArgs false
open Go Go.RowKit
set_option maxRecDepth 100000 in
theorem r_siz (n w : Int) (W : World) (hn : I64 n) (hw : I64 w) : Calls Try.prog 15 #[.int .i64 n, .int .i64 w] W (RetSame (.int .i64 (siz n w)) W) := by
  obtain ⟨n1, n2⟩ := hn
  obtain ⟨w1, w2⟩ := hw
  by_cases h1 : n < 0
  · have e : siz n w = -1 := if_pos (Or.inl h1)
    rw [e]
    go_enter Try.func15, Try.ntmps15
    go_wp2_with fail
    go_ret
    exact ⟨rfl, rfl⟩
  · by_cases h2 : 65536 < n
    · have e : siz n w = -1 := if_pos (Or.inr (Or.inl h2))
      rw [e]
      go_enter Try.func15, Try.ntmps15
      go_wp2_with fail
      go_ret
      exact ⟨rfl, rfl⟩
    · by_cases h3 : w < 0
      · have e : siz n w = -1 := if_pos (Or.inr (Or.inr (Or.inl h3)))
        rw [e]
        go_enter Try.func15, Try.ntmps15
        go_wp2_with fail
        go_ret
        exact ⟨rfl, rfl⟩
      · by_cases h4 : 64 < w
        · have e : siz n w = -1 := if_pos (Or.inr (Or.inr (Or.inr h4)))
          rw [e]
          go_enter Try.func15, Try.ntmps15
          go_wp2_with fail
          go_ret
          exact ⟨rfl, rfl⟩
        · have e : siz n w = (n * w + 7) / 8 := if_neg (by omega)
          rw [e]
          have hm0 : 0 ≤ n * w := Int.mul_nonneg (by omega) (by omega)
          have hm1 : n * w ≤ 65536 * 64 := Int.mul_le_mul (by omega) (by omega) (by omega) (by omega)
          obtain ⟨p, hp⟩ : ∃ p, n * w = p := ⟨_, rfl⟩
          rw [hp] at hm0 hm1 ⊢
          have ep : IntKind.i64.wrap (n * w) = p := by rw [hp]; simp [IntKind.wrap, IntKind.bits, IntKind.signed]; omega
          have ed : (p + 7).tdiv 8 = (p + 7) / 8 := Int.tdiv_eq_ediv_of_nonneg (by omega)
          go_enter Try.func15, Try.ntmps15
          go_wp2_with fail
          go_ret
          exact ⟨rfl, rfl⟩

/-- The width goes on while the number does not fit. -/
theorem wd_step {l : List Nat} (hl : IsQ l) {k u : Nat} (hk : k < l.length) (h1 : wdt (l.take k) ≤ u) :
    (l.getD k 0 >>> u = 0 ↔ wdt (l.take (k + 1)) ≤ u) := by
  have h2 : l.getD k 0 >>> u = 0 ↔ l.getD k 0 < 2 ^ u := by
    rw [Nat.shiftRight_eq_div_pow, Nat.div_eq_zero_iff]
    have := Nat.two_pow_pos u
    omega
  have hq1 : IsQ (l.take k) := hl.take k
  have hq2 : IsQ (l.take (k + 1)) := hl.take (k + 1)
  rw [h2, ← wdt_iff hq2, take_succ hk]
  have h3 := (wdt_iff hq1 u).2 h1
  constructor
  · intro h y hy
    rcases List.mem_append.1 hy with hy | hy
    · exact h3 y hy
    · simp at hy; subst hy; simpa using h
  · intro h
    exact h _ (by simp)
theorem wd_mono {l : List Nat} (hl : IsQ l) (k : Nat) : wdt (l.take k) ≤ wdt (l.take (k + 1)) := by
  have hq1 : IsQ (l.take k) := hl.take k
  have hq2 : IsQ (l.take (k + 1)) := hl.take (k + 1)
  rw [← wdt_iff hq1]
  have := (wdt_iff hq2 (wdt (l.take (k + 1)))).2 (Nat.le_refl _)
  intro y hy
  refine this y ?_
  have e : l.take k = (l.take (k + 1)).take k := by rw [List.take_take]; congr 1; omega
  rw [e] at hy
  exact List.mem_of_mem_take hy
set_option maxRecDepth 100000 in
set_option maxHeartbeats 1600000 in
theorem r_wd (A : Option Addr) (n c : Nat) (l : List Nat) (W : World) (hl : WordsAt W A l) (hn : l.length = n) : Calls Try.prog 9 #[.slice A n c] W (Ret (.int .i64 (wdt l : Int)) W) := by
  have HL := hide hl
  have Hn := hide hn
  have Hq := hide hl.1
  have hn63 : n ≤ 9223372036854775807 := by have := hl.2.1; omega
  clear hl hn
  go_enter Try.func9, Try.ntmps9
  go_wp2_with fail
  go_loop [3, 4] (fun t i => ∃ k u : Nat, k ≤ n ∧ i = .int .i64 (k : Int) ∧ t = .int .i64 (u : Int) ∧ Hid (wdt (l.take k) = u)) (fun _ i => n - (intOf i).toNat)
  case atStart => exact ⟨0, 0, by omega, rfl, rfl, hide (by simp [wdt, orl]; rfl)⟩
  case round =>
    obtain ⟨k, u, hk, rfl, rfl, HV⟩ := hrel
    by_cases hlt : k < n
    · have hkl : k < l.length := by rw [Hn.out]; exact hlt
      obtain ⟨b, off, rfl, hb1, hc1⟩ := HL.out.2.2 (by omega)
      have d1 := hc1 k hkl
      have hx : l.getD k 0 < 18446744073709551616 := Hq.out.get k
      have hst : Hid (∀ u, wdt (l.take k) ≤ u → (l.getD k 0 >>> u = 0 ↔ wdt (l.take (k + 1)) ≤ u)) := hide (fun u h => wd_step Hq.out hkl h)
      have hle := wd_mono Hq.out k
      have h64 := wdt_le (Hq.out.take (k + 1))
      rw [HV.out] at hle hst
      obtain ⟨x, hxx⟩ : ∃ x, l.getD k 0 = x := ⟨_, rfl⟩
      obtain ⟨z, hz⟩ : ∃ z, wdt (l.take (k + 1)) = z := ⟨_, rfl⟩
      rw [hxx] at d1 hst hx
      rw [hz] at hle h64 hst
      have Hz := hide hz
      have hu := hide hle
      clear hc1 hxx hkl hb1 HV hz
      go_wp2_with fail
      go_loop [3] (fun t => ∃ y : Nat, t = .int .i64 (y : Int) ∧ u ≤ y ∧ y ≤ z) (fun t => z - (intOf t).toNat)
      case atStart => exact ⟨u, rfl, by omega, hle⟩
      case round =>
        clear hle
        obtain ⟨y, rfl, hy1, hy2⟩ := hrel
        have hs := hst.out y hy1
        have e1 := shr_cast x y
        have hq : x >>> y < 18446744073709551616 := Nat.lt_of_le_of_lt (by rw [Nat.shiftRight_eq_div_pow]; exact Nat.div_le_self _ _) hx
        obtain ⟨q, hqq⟩ : ∃ q, x >>> y = q := ⟨_, rfl⟩
        rw [hqq] at hs e1 hq
        clear hqq
        by_cases h6 : y < 64
        · have hd6 : decide ((y : Int) < 64) = true := decide_eq_true (by omega)
          by_cases h0 : q = 0
          · have hzy : z = y := by have := hs.1 h0; omega
            have hb : ((q : Int) != 0) = false := by rw [h0]; rfl
            have Hzy := hide hzy
            clear hs h0 hzy
            go_wp2_with fail
            go_round
            case rel => exact ⟨k + 1, y, by omega, by go_num, rfl, hide (Hz.out.trans Hzy.out)⟩
            case measure => simp [intOf]; omega
          · have hb : ((q : Int) != 0) = true := by rw [bne_iff_ne]; omega
            have hyz : y < z := by have : ¬ z ≤ y := fun h => h0 (hs.2 h); omega
            clear hs h0
            go_wp2_with fail
            go_round
            case rel => exact ⟨y + 1, by go_num, by omega, by omega⟩
            case measure => simp [intOf]; omega
        · have hzy : z = y := by omega
          have hd6 : decide ((y : Int) < 64) = false := decide_eq_false (by omega)
          have Hzy := hide hzy
          clear hs hzy
          go_wp2_with fail
          exact ⟨⟨k + 1, y, by omega, by go_num, rfl, hide (Hz.out.trans Hzy.out)⟩, by simp [intOf]; omega⟩
    · obtain rfl : k = n := by omega
      go_wp2_with fail
      go_ret
      refine ⟨?_, Ext.refl _⟩
      rw [← HV.out, List.take_of_length_le (by have := Hn.out; omega)]
      rfl
theorem bit_put (y x q r : Nat) (hy : y < 256) (hr : r < 8) : bits .or .u8 (y : Int) (IntKind.u8.wrap (((x >>> q % 2 : Nat) : Int) * 2 ^ r)) = ((y ||| (x >>> q % 2) <<< r : Nat) : Int) ∧ (x >>> q % 2) <<< r < 256 := by
  have h2 : x >>> q % 2 < 2 := Nat.mod_lt _ (by omega)
  generalize x >>> q % 2 = t at *
  have h3 : t <<< r < 256 := by
    rw [Nat.shiftLeft_eq]
    have : 2 ^ r ≤ 2 ^ 7 := Nat.pow_le_pow_right (by omega) (by omega)
    have h4 : t * 2 ^ r ≤ 1 * 2 ^ r := Nat.mul_le_mul_right _ (by omega)
    omega
  have e : (t : Int) * 2 ^ r = ((t <<< r : Nat) : Int) := by rw [Nat.shiftLeft_eq]; simp
  have e2 : IntKind.u8.wrap ((t : Int) * 2 ^ r) = ((t <<< r : Nat) : Int) := by
    rw [e, wrap_8]
    generalize t <<< r = z at h3
    omega
  rw [e2]
  exact ⟨or_8 _ _ hy h3, h3⟩
theorem and_one64 (x : Nat) (hx : x < 18446744073709551616) : bits .and .u64 (x : Int) 1 = ((x % 2 : Nat) : Int) := by
  have h := and_mask (v := x) (wd := 1) hx (by omega)
  have e : IntKind.u64.wrap (IntKind.u64.wrap (2 ^ 1) - 1) = 1 := rfl
  rw [e] at h
  exact h
theorem bit_more (M x p q : Nat) : (M ||| (x % 2 ^ q) <<< p) ||| (x >>> q % 2) <<< (p + q) = M ||| (x % 2 ^ (q + 1)) <<< p := by
  rw [mod_or, Nat.shiftLeft_or_distrib, ← Nat.shiftLeft_add, Nat.add_comm q p, Nat.or_assoc]
set_option maxRecDepth 100000 in
set_option maxHeartbeats 1600000 in
theorem r_pack (A : Option Addr) (n c : Nat) (l : List Nat) (wd : Int) (W : World) (hl : WordsAt W A l) (hn : l.length = n) (hwd : I64 wd) :
    Calls Try.prog 16 #[.slice A n c, .int .i64 wd] W (PkPost (pkR l wd) W) := by
  have hn63 : n ≤ 9223372036854775807 := by have := hl.2.1; omega
  by_cases hc : wd < 0 ∨ 64 < wd ∨ 65536 < n
  · have e : pkR l wd = none := if_pos (by omega)
    rw [e]
    have KS : Hid (∀ w, Calls Try.prog 15 #[.int .i64 (n : Int), .int .i64 wd] w (RetSame (.int .i64 (-1)) w)) := hide (fun w => by
      have := r_siz (n : Int) wd w ⟨by omega, by omega⟩ hwd
      rw [siz_out hc] at this
      exact this)
    clear hl hn hc
    go_enter Try.func16, Try.ntmps16
    go_wp2_with (go_at_call 15; (with_reducible refine (KS.out _).mono ?_); rintro e w1 ⟨rfl, rfl⟩)
    go_ret2
    exact ⟨_, rfl, OwnB.nil_ _ _, Ext.refl _⟩
  · obtain ⟨v, rfl⟩ := Int.eq_ofNat_of_zero_le (show 0 ≤ wd by omega)
    have hv : v ≤ 64 := by omega
    have hn2 : n ≤ 65536 := by omega
    have hnv := nv_le hn2 hv
    obtain ⟨S, hS⟩ : ∃ S, (n * v + 7) / 8 = S := ⟨_, rfl⟩
    have hS8 : n * v ≤ 8 * S := by omega
    have hS2 : S ≤ 1048576 := by omega
    have KS : Hid (∀ w, Calls Try.prog 15 #[.int .i64 (n : Int), .int .i64 (v : Int)] w (RetSame (.int .i64 (S : Int)) w)) := hide (fun w => by
      have := r_siz (n : Int) (v : Int) w ⟨by omega, by omega⟩ hwd
      rw [siz_in hn2 hv, hS] at this
      exact this)
    have KW : Hid (Calls Try.prog 9 #[.slice A n c] W (Ret (.int .i64 (wdt l : Int)) W)) := hide (r_wd A n c l W hl hn)
    have hw64 := wdt_le hl.1
    by_cases hw : v < wdt l
    · have e : pkR l (v : Int) = none := if_pos (by omega)
      rw [e]
      obtain ⟨u, hu⟩ : ∃ u, wdt l = u := ⟨_, rfl⟩
      rw [hu] at hw hw64 KW
      have d1 : decide ((v : Int) < (u : Int)) = true := decide_eq_true (by omega)
      clear hl hn hc hnv hS hS8 hu
      go_enter Try.func16, Try.ntmps16
      go_wp2_with (first
        | (go_at_call 15; (with_reducible refine (KS.out _).mono ?_); rintro e w1 ⟨rfl, rfl⟩)
        | (go_at_call 9; (with_reducible refine (KW.out).mono ?_); rintro e w1 ⟨rfl, hE⟩))
      go_ret2
      exact ⟨_, rfl, OwnB.nil_ _ _, hE⟩
    · have e : pkR l (v : Int) = some (upN (pkN l v) S 8) := by
        unfold pkR
        rw [if_neg (by omega), Int.toNat_natCast, hn, hS]
      rw [e]
      have hf := hide ((wdt_iff hl.1 v).2 (by omega))
      obtain ⟨u, hu⟩ : ∃ u, wdt l = u := ⟨_, rfl⟩
      rw [hu] at hw hw64 KW
      have d1 : decide ((v : Int) < (u : Int)) = false := decide_eq_false (by omega)
      have hm := run_mk8b S S (Nat.le_refl _) (by omega)
      have HL := hide hl
      have Hn := hide hn
      have Hnv := hide (show ∀ k, k < n → k * v + v ≤ n * v from fun k hk => by
        have := Nat.mul_le_mul_right v (show k + 1 ≤ n from hk)
        rw [Nat.succ_mul] at this
        exact this)
      have HS8 := hide hS8
      have Hnv2 := hide hnv
      clear hl hn hc hnv hS hS8 hu e
      go_enter Try.func16, Try.ntmps16
      go_upto_region 4 with (first
        | (go_at_call 15; (with_reducible refine (KS.out _).mono ?_); rintro e w1 ⟨rfl, rfl⟩)
        | (go_at_call 9; (with_reducible refine (KW.out).mono ?_); rintro e w1 ⟨rfl, hE⟩))
      go_upto_region 5 with fail
      have B1 := Blk.new w1 5 (u8s (List.replicate S 0)).toArray
      have E1 := Ext.trans hE (ext_alloc w1 (.cells (u8s (List.replicate S 0)).toArray 5))
      rw [← up_zero S 8] at B1 E1 ⊢
      obtain ⟨w2, hw2⟩ : ∃ w2, w1.alloc (.cells (u8s (upN 0 S 8)).toArray 5) = w2 := ⟨_, rfl⟩
      rw [hw2] at B1 E1 ⊢
      have hgW : W.heap.size ≤ w1.heap.size := hE.size
      obtain ⟨g, hg⟩ : ∃ g, w1.heap.size = g := ⟨_, rfl⟩
      rw [hg] at B1 hgW ⊢
      have HL2 := hide (HL.out.ext E1)
      have B1 := hide B1
      have E1 := hide E1
      have HgW := hide hgW
      have hWg : g < w2.heap.size := B1.out.lt
      clear hE hw2 hg KS KW hgW
      go_wp2_with fail
      go_loopw [8] (fun i wr => ∃ k : Nat, k ≤ n ∧ i = .int .i64 (k : Int) ∧ Hid (Blk wr g 5 (u8s (upN (pkN (l.take k) v) S 8)).toArray) ∧ Hid (Upd g w2 wr)) (fun i _ => n - (intOf i).toNat)
      case atStart => exact ⟨0, by omega, rfl, B1, hide (Upd.refl _ _)⟩
      case round =>
        clear B1
        obtain ⟨k, hk, rfl, HB, HU⟩ := hrel
        by_cases hlt : k < n
        · have hkl : k < l.length := by rw [Hn.out]; exact hlt
          obtain ⟨b, off, rfl, hb1, hc1⟩ := HL2.out.2.2 (by omega)
          have hbg : b ≠ g := by
            obtain ⟨b', off', e', hb', _⟩ := HL.out.2.2 (by omega)
            have := HgW.out
            injection e' with e'
            injection e' with e' _
            omega
          have hx : l.getD k 0 < 2 ^ v := by
            rw [getD_lt hkl]
            exact hf.out _ (List.getElem_mem _)
          have d1 : Hid (∀ w3, Upd g w2 w3 → w3.cell? ⟨b, off + k, none⟩ = some (.int .u64 ((l.getD k 0 : Nat) : Int))) := hide (fun w3 U => (World.cell?_of_block (a := ⟨b, off + k, none⟩) (U.2.2.2.2 b hb1 hbg)).trans (hc1 k hkl))
          have hM : (pkN (l.take k) v ||| (l.getD k 0) <<< (k * v)) = pkN (l.take (k + 1)) v := by
            rw [take_succ hkl, pk_or (fun y hy => hf.out y (List.mem_of_mem_take hy)), List.length_take, Nat.min_eq_left (by omega)]
          have hkv := Hnv.out k hlt
          have hkv2 : k * v + v ≤ 8 * S := Nat.le_trans hkv HS8.out
          have hx64 : l.getD k 0 < 18446744073709551616 := Nat.lt_of_lt_of_le hx (Nat.pow_le_pow_right (n := 2) (by omega) hv)
          obtain ⟨x, hxx⟩ : ∃ x, l.getD k 0 = x := ⟨_, rfl⟩
          obtain ⟨p, hp⟩ : ∃ p, k * v = p := ⟨_, rfl⟩
          rw [hxx] at hx d1 hM hx64
          rw [hp] at hM hkv2
          have hpi : (k : Int) * (v : Int) = (p : Int) := by rw [← hp]; simp
          have ep : IntKind.i64.wrap ((k : Int) * (v : Int)) = (p : Int) := by rw [hpi]; simp [IntKind.wrap, IntKind.bits, IntKind.signed]; omega
          have HM := hide hM
          have Hx := hide hx
          obtain ⟨M, hMM⟩ : ∃ M, pkN (l.take k) v = M := ⟨_, rfl⟩
          rw [hMM] at HB HM
          have hS3 := hS2
          clear hb1 hc1 hbg hx hM hkv hxx hp hkl hMM
          go_wp2_with fail
          go_loopw [9] (fun t w3 => ∃ q : Nat, q ≤ v ∧ t = .int .i64 (q : Int) ∧ Hid (Blk w3 g 5 (u8s (upN (M ||| (x % 2 ^ q) <<< p) S 8)).toArray) ∧ Hid (Upd g w2 w3)) (fun t _ => v - (intOf t).toNat)
          case atStart => exact ⟨0, by omega, rfl, hide (by simp only [Nat.pow_zero, Nat.mod_one, Nat.zero_shiftLeft, Nat.or_zero]; exact HB.out), HU⟩
          case round =>
            clear HB HU
            obtain ⟨q, hq, rfl, HB, HU⟩ := hrel
            by_cases hqv : q < v
            · obtain ⟨t, ht⟩ : ∃ t, p + q = t := ⟨_, rfl⟩
              obtain ⟨j, hjt⟩ : ∃ j, t / 8 = j := ⟨_, rfl⟩
              obtain ⟨r, hrt⟩ : ∃ r, t % 8 = r := ⟨_, rfl⟩
              have hj : j < S := by omega
              have hr : r < 8 := by omega
              have d2 := d1.out _ HU.out
              have c1 := up_cell HB.out hj
              have f1 := HB.out.frozen j
              have hy : (upN (M ||| (x % 2 ^ q) <<< p) S 8).getD j 0 < 256 := IsB.get (l := upN (M ||| (x % 2 ^ q) <<< p) S 8) (upN_fit _ S 8) _
              obtain ⟨o, hbt⟩ := bit_put _ x q r hy hr
              have B1 := up_store HB.out hj (x := (x >>> q % 2) <<< r) hbt
              have U1 := upd_here (k := j) HU.out (.int .u8 (((upN (M ||| (x % 2 ^ q) <<< p) S 8).getD j 0 ||| (x >>> q % 2) <<< r : Nat) : Int))
              have eN : (M ||| (x % 2 ^ q) <<< p) ||| ((x >>> q % 2) <<< r) <<< (j * 8) = M ||| (x % 2 ^ (q + 1)) <<< p := by
                rw [← Nat.shiftLeft_add, show r + j * 8 = p + q by omega, bit_more]
              rw [eN] at B1
              obtain ⟨y, hyy⟩ : ∃ y, (upN (M ||| (x % 2 ^ q) <<< p) S 8).getD j 0 = y := ⟨_, rfl⟩
              rw [hyy] at c1 hy o B1 U1
              have e1 := shr_cast x q
              have hxq : x >>> q < 18446744073709551616 := Nat.lt_of_le_of_lt (by rw [Nat.shiftRight_eq_div_pow]; exact Nat.div_le_self _ _) hx64
              have e2 := and_one64 (x >>> q) hxq
              obtain ⟨z, hz⟩ : ∃ z, x >>> q = z := ⟨_, rfl⟩
              rw [hz] at e1 e2 o B1 U1
              have hz2 : z % 2 < 2 := Nat.mod_lt _ (by omega)
              obtain ⟨d, hd⟩ : ∃ d, z % 2 = d := ⟨_, rfl⟩
              rw [hd] at e2 o B1 U1 hz2
              have e3 : IntKind.u8.wrap (d : Int) = (d : Int) := by rw [wrap_8]; omega
              obtain ⟨x1, hx1⟩ : ∃ x1, (y ||| d <<< r) = x1 := ⟨_, rfl⟩
              rw [hx1] at o B1 U1
              have ept : (p : Int) + (q : Int) = (t : Int) := by omega
              have er2 : (t : Int).tmod 8 = (r : Int) := by rw [Int.tmod_eq_emod_of_nonneg (by omega)]; omega
              have ej : IntKind.i64.wrap ((t : Int) / 8) = (j : Int) := by
                have : (t : Int) / 8 = (j : Int) := by omega
                rw [this]; simp [IntKind.wrap, IntKind.bits, IntKind.signed]; omega
              have i0 : (0 : Int) ≤ (j : Int) := by omega
              have i1 : (j : Int) < (S : Int) := by omega
              have i2 : ((j : Int)).toNat = j := by omega
              have r0 : (0 : Int) ≤ (r : Int) := by omega
              have r2 : ((r : Int)).toNat = r := by omega
              have k0 : (0 : Int) ≤ (k : Int) := by omega
              have k1 : (k : Int) < (n : Int) := by omega
              have k2 : ((k : Int)).toNat = k := by omega
              have q0 : (0 : Int) ≤ (q : Int) := by omega
              have q2 : ((q : Int)).toNat = q := by omega
              have wq : min (IntKind.u64.wrap (q : Int)).toNat 64 = q := by rw [wrap_u64']; omega
              have wr8 : min (IntKind.u64.wrap (r : Int)).toNat 8 = r := by rw [wrap_u64']; omega
              have B1 := hide B1
              have U1 := hide U1
              have Hjt := hide hjt
              have Hrt := hide hrt
              have Ht := hide ht
              have d1' := hide d1
              clear hyy hjt hrt ht hz hd hx1 eN d1
              go_upto_region 12 with fail
              go_region_law (fail)
              all_goals
                have X1 : Hid (Blk (wr.setCell ⟨g, j, none⟩ (.int .u8 (x1 : Int))).drew g 5 (u8s (upN (M ||| (x % 2 ^ (q + 1)) <<< p) S 8)).toArray) := B1
                have Y1 : Hid (Upd g w2 (wr.setCell ⟨g, j, none⟩ (.int .u8 (x1 : Int))).drew) := U1
                go_wp2_with fail
                go_roundw
                case rel => exact ⟨q + 1, by omega, by go_num, X1, Y1⟩
                case measure => simp [intOf]; omega
            · obtain rfl : q = v := by omega
              have X1 : Hid (Blk wr g 5 (u8s (upN (pkN (l.take (k + 1)) q) S 8)).toArray) := by
                have := HB.out
                rw [Nat.mod_eq_of_lt Hx.out, HM.out] at this
                exact this
              go_wp2_with fail
              exact ⟨⟨k + 1, by omega, by go_num, X1, HU⟩, by simp [intOf]; omega⟩
        · obtain rfl : k = n := by omega
          go_wp2_with fail
          go_ret2
          have hB := HB.out
          rw [List.take_of_length_le (by have := Hn.out; omega)] at hB
          exact ⟨_, rfl, own_up HgW.out hB hS2, Upd.ext HU.out E1.out HgW.out⟩
end Go.Proofs.Ytkebfepkepnlkaa
