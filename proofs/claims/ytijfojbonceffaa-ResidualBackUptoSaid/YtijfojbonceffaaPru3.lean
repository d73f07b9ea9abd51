/- Part 3 of what these claims stand on: contracts of the program's and the reference's functions, and plain facts. Conditions: each states its own. -/
import Derived.Test.YtijfojbonceffaaPru2
import Derived.SizedLaws
import Derived.Deep.RegionLaw
import Derived.Laws.EntriesVeiled
namespace Go.Proofs.Ytijfojbonceffaa
set_option linter.unusedVariables false
set_option linter.unusedSimpArgs false
section
open Go Go.RowKit
/-- The plain form without its first byte. -/
def encV (l : List Nat) : List Nat := (l.map encB).flatten
theorem encV_snoc (l : List Nat) (x : Nat) : encV (l ++ [x]) = encV l ++ encB x := by simp [encV]
theorem encV_cons (x : Nat) (l : List Nat) : encV (x :: l) = encB x ++ encV l := by simp [encV]
theorem encB_b (n : Nat) : IsB (encB n) := by
  induction n using Nat.strongRecOn with
  | ind n ih =>
    by_cases h : n < 128
    · rw [encB_small h]; exact IsB.one (by omega)
    · rw [encB_big (by omega)]
      intro y hy
      rcases List.mem_cons.1 hy with rfl | hy
      · omega
      · exact ih (n / 128) (by omega) y hy
theorem encV_b {l : List Nat} (h : IsQ l) : IsB (encV l) := by
  intro y hy
  simp only [encV, List.mem_flatten, List.mem_map] at hy
  obtain ⟨_, ⟨x, _, rfl⟩, hy⟩ := hy
  exact encB_b x y hy
theorem encV_le {l : List Nat} (h : IsQ l) : (encV l).length ≤ 10 * l.length := by
  induction l with
  | nil => simp [encV]
  | cons x l ih =>
    have h1 := ih (fun y hy => h y (List.mem_cons_of_mem _ hy))
    have h2 : (encB x).length ≤ 10 := encB_length_le x 9 (by have := h x (List.mem_cons_self ..); omega)
    rw [encV_cons, List.length_append, List.length_cons]; omega
/-- What Encode returns: the bytes and the error. -/
def pkS (l : List Nat) : Nat := (l.length * wdt l + 7) / 8
def enN (l : List Nat) : List Nat × Nat :=
  if 65536 < l.length then ([], 3)
  else if 2 + pkS l < 1 + (encV l).length then (1 :: wdt l :: upN (pkN l (wdt l)) (pkS l) 8, 0)
  else (0 :: encV l, 0)
theorem enN_b {l : List Nat} (h : IsQ l) : IsB (enN l).1 := by
  unfold enN
  split
  · exact IsB.nil
  · split
    · intro y hy
      have := wdt_le h
      rcases List.mem_cons.1 hy with rfl | hy
      · omega
      · rcases List.mem_cons.1 hy with rfl | hy
        · omega
        · exact upN_fit _ _ 8 y hy
    · intro y hy
      rcases List.mem_cons.1 hy with rfl | hy
      · omega
      · exact encV_b h y hy
theorem pkS_le {l : List Nat} (h : IsQ l) (hn : l.length ≤ 65536) : pkS l ≤ 524288 := by
  have h1 := wdt_le h
  have h2 : l.length * wdt l ≤ 65536 * 64 := Nat.mul_le_mul hn h1
  unfold pkS; omega
theorem enN_len {l : List Nat} (h : IsQ l) (hn : l.length ≤ 65536) : 1 ≤ (enN l).1.length ∧ (enN l).1.length ≤ 1 + (encV l).length ∧ (enN l).1.length ≤ 2 + pkS l := by
  unfold enN
  rw [if_neg (by omega)]
  split
  · simp only [List.length_cons, upN_len]; omega
  · simp only [List.length_cons]; omega
/-- Numbers of the plain form, one after the other. -/
def rdA (b : List Nat) : List Nat → Nat → Int → List Nat × Int × Int
  | acc, 0, at_ => (acc, at_, 0)
  | acc, n + 1, at_ => if (rdV b at_).2.2 = 0 then rdA b (acc ++ [(rdV b at_).1.toNat]) n (rdV b at_).2.1 else ([], 0, (rdV b at_).2.2)
/-- Numbers of the packed form. -/
def rdK (b : List Nat) (a n : Nat) : List Nat × Int × Int :=
  if a = b.length then ([], 0, 4)
  else if 64 < b.getD a 0 then ([], 0, 5)
  else if b.length - a - 1 < (n * b.getD a 0 + 7) / 8 then ([], 0, 4)
  else match upR ((b.drop (a + 1)).take ((n * b.getD a 0 + 7) / 8)) n (b.getD a 0) with
    | none => ([], 0, 5)
    | some l => (l, ((a + 1 + (n * b.getD a 0 + 7) / 8 : Nat) : Int), 0)
/-- What is read before it is compared. -/
def rdN (b : List Nat) (a n : Nat) : List Nat × Int × Int :=
  if b.getD a 0 = 0 then rdA b [] n ((a : Int) + 1) else if b.getD a 0 = 1 then rdK b (a + 1) n else ([], 0, 5)
/-- What Decode returns: the list, the index behind it and the error. -/
def deN (b : List Nat) (at_ n : Int) : List Nat × Int × Int :=
  if at_ < 0 ∨ (b.length : Int) < at_ ∨ n < 0 ∨ 65536 < n then ([], 0, 2)
  else if at_ = b.length then ([], 0, 4)
  else if (rdN b at_.toNat n.toNat).2.2 ≠ 0 then ([], 0, (rdN b at_.toNat n.toNat).2.2)
  else if (enN (rdN b at_.toNat n.toNat).1).1 = (b.drop at_.toNat).take ((rdN b at_.toNat n.toNat).2.1.toNat - at_.toNat) then ((rdN b at_.toNat n.toNat).1, (rdN b at_.toNat n.toNat).2.1, 0)
  else ([], 0, 5)
/-- A number that is read. -/
theorem rdV_ok {b : List Nat} {at_ v nx : Int} (h : rdV b at_ = (v, nx, 0)) : 0 ≤ v ∧ v < 18446744073709551616 ∧ 0 ≤ at_ ∧ at_ < nx ∧ nx ≤ b.length := by
  unfold rdV at h
  cases hg : rdG b at_ 64 10 with
  | none =>
    obtain ⟨e, hbd, he⟩ := bhd_none hg
    rw [hg] at h
    simp only [Prod.mk.injEq] at h
    unfold rdE at h
    rw [hbd] at h
    simp at h
    omega
  | some g =>
    rw [hg] at h
    simp only [Prod.mk.injEq] at h
    obtain ⟨a, ha, hal, _, hs, hk⟩ := bhd_some hg
    have hd : decB g < 2 ^ 64 := decB_ok (width := 64) hs hk
    obtain ⟨r, x, hr, _, _, ⟨t, ht⟩, _⟩ := scanG_some 10 (b.drop a) g hs
    have hl : (b.drop a).length = g.length + t.length := by rw [← ht, List.length_append]
    rw [List.length_drop] at hl
    have hg1 : 1 ≤ g.length := by rw [hr]; simp
    have : (2 : Nat) ^ 64 = 18446744073709551616 := rfl
    omega
theorem rdV_err (b : List Nat) (at_ : Int) : (rdV b at_).2.2 = 0 ∨ ((rdV b at_).1 = 0 ∧ (rdV b at_).2.1 = 0 ∧ 0 < (rdV b at_).2.2 ∧ (rdV b at_).2.2 ≤ 5) := by
  unfold rdV
  cases hg : rdG b at_ 64 10 with
  | none =>
    obtain ⟨e, hbd, he⟩ := bhd_none hg
    right
    refine ⟨rfl, rfl, ?_⟩
    show 0 < rdE b at_ 64 10 ∧ rdE b at_ 64 10 ≤ 5
    unfold rdE
    rw [hbd]
    simp only
    omega
  | some g => left; rfl
theorem rdA_ok {b : List Nat} : ∀ {n : Nat} {acc : List Nat} {at_ : Int} {l : List Nat} {nx : Int}, IsQ acc → 0 ≤ at_ → at_ ≤ b.length → rdA b acc n at_ = (l, nx, 0) → IsQ l ∧ l.length = acc.length + n ∧ at_ ≤ nx ∧ nx ≤ b.length
  | 0, acc, at_, l, nx, hq, h0, h1, h => by
    simp only [rdA, Prod.mk.injEq] at h
    obtain ⟨rfl, rfl, _⟩ := h
    exact ⟨hq, rfl, Int.le_refl _, h1⟩
  | n + 1, acc, at_, l, nx, hq, h0, h1, h => by
    simp only [rdA] at h
    by_cases he : (rdV b at_).2.2 = 0
    · rw [if_pos he] at h
      obtain ⟨v, nx1, e1⟩ : ∃ v nx1, rdV b at_ = (v, nx1, 0) := ⟨_, _, by rw [← he]⟩
      obtain ⟨v0, v1, _, a1, a2⟩ := rdV_ok e1
      rw [e1] at h
      have hq2 : IsQ (acc ++ [v.toNat]) := by
        intro y hy
        rcases List.mem_append.1 hy with hy | hy
        · exact hq y hy
        · simp at hy; omega
      have := rdA_ok hq2 (by simp only; omega) (by simp only; omega) h
      rw [List.length_append, List.length_singleton] at this
      simp only at this
      exact ⟨this.1, by omega, by omega, this.2.2.2⟩
    · rw [if_neg he] at h
      simp only [Prod.mk.injEq] at h
      omega
theorem rdK_ok {b l : List Nat} {a n : Nat} {nx : Int} (hn : n ≤ 65536) (h0 : a ≤ b.length) (h : rdK b a n = (l, nx, 0)) : IsQ l ∧ l.length = n ∧ (a : Int) < nx ∧ nx ≤ b.length := by
  unfold rdK at h
  split at h
  · simp at h
  · split at h
    · simp at h
    · split at h
      · simp at h
      · split at h
        · simp at h
        · rename_i l' hu
          simp only [Prod.mk.injEq] at h
          obtain ⟨rfl, rfl, _⟩ := h
          obtain ⟨h1, h2, _⟩ := upR_q hu
          exact ⟨h1, by omega, by omega, by omega⟩
theorem rdN_ok {b l : List Nat} {a n : Nat} {nx : Int} (hn : n ≤ 65536) (h0 : a < b.length) (h : rdN b a n = (l, nx, 0)) : IsQ l ∧ l.length = n ∧ (a : Int) < nx ∧ nx ≤ b.length := by
  unfold rdN at h
  split at h
  · have := rdA_ok (fun _ h => by simp at h) (by omega) (by omega) h
    simp only [List.length_nil] at this
    exact ⟨this.1, by omega, by omega, this.2.2.2⟩
  · split at h
    · have := rdK_ok hn (by omega) h
      exact ⟨this.1, this.2.1, by omega, this.2.2.2⟩
    · simp at h
/-- What is read is what is encoded: by the last comparison. -/
theorem deN_canon {b l : List Nat} {at_ n nx : Int} (h : deN b at_ n = (l, nx, 0)) : IsQ l ∧ (l.length : Int) = n ∧ l.length ≤ 65536 ∧ 0 ≤ at_ ∧ at_ < nx ∧ nx ≤ b.length ∧ (enN l).1 = (b.drop at_.toNat).take (nx.toNat - at_.toNat) := by
  unfold deN at h
  split at h
  · simp at h
  · rename_i hc
    split at h
    · simp at h
    · rename_i hc2
      split at h
      · rename_i hc3
        simp only [Prod.mk.injEq] at h
        exact absurd h.2.2 hc3
      · rename_i hc3
        split at h
        · rename_i hc4
          simp only [Prod.mk.injEq] at h
          obtain ⟨h1, h2, _⟩ := h
          have e : rdN b at_.toNat n.toNat = (l, nx, 0) := by
            rw [← h1, ← h2]
            have : (rdN b at_.toNat n.toNat).2.2 = 0 := by
              by_cases hz : (rdN b at_.toNat n.toNat).2.2 = 0
              · exact hz
              · exact absurd hz hc3
            rw [← this]
          rw [h1, h2] at hc4
          have := rdN_ok (by omega) (by omega) e
          exact ⟨this.1, by omega, by omega, by omega, by omega, this.2.2.2, hc4⟩
        · simp at h
/-- Bytes that the call owns, and an error. -/
def EncRet (x : List Nat) (n : Nat) (W : World) (e : Ending) (w' : World) : Prop := ∃ v, e = .returned (.tuple #[v, .int .i64 (n : Int)]) ∧ OwnB W.heap.size w' v x ∧ Ext W w'
theorem own_new8 {B : Nat} (w : World) (l : List Nat) (hl : IsB l) (hm : l.length ≤ 1048576) (cs : Array Value) (hc : cs = (u8s l).toArray) (hB : B ≤ w.heap.size) {n : Nat} (hn : l.length = n) : OwnB B (w.alloc (.cells cs 5)) (.slice (some ⟨w.heap.size, 0, none⟩) n n) l := by
  subst hc
  exact own_of (m := []) hB (by rw [List.append_nil]; exact heap_alloc_new w _) hn (by simp) (by omega) hl
theorem own_mk1 {B s : Nat} (w : World) (hs1 : 1 ≤ s) (hs : s ≤ 1048576) (hB : B ≤ w.heap.size) : OwnB B (w.alloc (.cells (u8s (List.replicate s 0)).toArray 5)) (.slice (some ⟨w.heap.size, 0, none⟩) 1 s) [0] := by
  refine own_of (m := List.replicate (s - 1) 0) hB ?_ rfl (by rw [List.length_replicate]; omega) (by omega) (IsB.one (by omega))
  rw [show [0] ++ List.replicate (s - 1) 0 = List.replicate s 0 by
    obtain ⟨k, rfl⟩ : ∃ k, s = k + 1 := ⟨s - 1, by omega⟩
    rw [List.replicate_succ]; rfl]
  exact heap_alloc_new w _
theorem encV_take {l : List Nat} {k : Nat} (h : k < l.length) : encV (l.take (k + 1)) = encV (l.take k) ++ encB (l.getD k 0) := by rw [take_succ h, encV_snoc]
theorem pkR_wdt {l : List Nat} (hq : IsQ l) (hn : l.length ≤ 65536) : pkR l (wdt l : Int) = some (upN (pkN l (wdt l)) (pkS l) 8) := by
  have := wdt_le hq
  unfold pkR pkS
  rw [if_neg (by omega), Int.toNat_natCast]
set_option maxRecDepth 100000 in
set_option maxHeartbeats 3200000 in
theorem r_encN (A : Option Addr) (n c : Nat) (l : List Nat) (W : World) (hl : WordsAt W A l) (hn : l.length = n) :
    Calls Try.prog 17 #[.slice A n c] W (EncRet (enN l).1 (enN l).2 W) := by
  have hn63 : n ≤ 9223372036854775807 := by have := hl.2.1; omega
  by_cases hc : 65536 < n
  · have e : enN l = ([], 3) := if_pos (by omega)
    rw [e]
    have d1 : decide ((65536 : Int) < (n : Int)) = true := decide_eq_true (by omega)
    clear hl hn
    go_enter Try.func17, Try.ntmps17
    go_wp2_with fail
    go_ret2
    exact ⟨_, rfl, OwnB.nil_ _ _, Ext.refl _⟩
  · have d1 : decide ((65536 : Int) < (n : Int)) = false := decide_eq_false (by omega)
    have hq := hl.1
    have hln : l.length ≤ 65536 := by omega
    have hpk := pkR_wdt hq hln
    have hS := pkS_le hq hln
    have hV := encV_le hq
    have hw64 := wdt_le hq
    obtain ⟨u, hu⟩ : ∃ u, wdt l = u := ⟨_, rfl⟩
    rw [hu] at hw64
    have iu : I64 (u : Int) := ⟨by omega, by omega⟩
    have KW : Hid (∀ w, Ext W w → Calls Try.prog 32 #[.slice A n c] w (Ret (.int .i64 (u : Int)) w)) := hide (fun w hw => by have := r_wd A n c l w (hl.ext hw) hn; rw [hu] at this; exact this)
    obtain ⟨S, hSS⟩ : ∃ S, pkS l = S := ⟨_, rfl⟩
    rw [hu, hSS] at hpk
    obtain ⟨q, hqq⟩ : ∃ q, upN (pkN l u) S 8 = q := ⟨_, rfl⟩
    have hql : q.length = S := by rw [← hqq, upN_len]
    rw [hqq] at hpk
    have KP : Hid (∀ w, Ext W w → Calls Try.prog 33 #[.slice A n c, .int .i64 (u : Int)] w fun e w' => ∃ A cap, e = .returned (.tuple #[.slice A S cap, .bool true]) ∧ BytesAt w' A q ∧ Ext w w') := hide (fun w hw => (r_pack A n c l u w (hl.ext hw) hn iu).mono fun e w' h => by
      rw [hpk] at h
      obtain ⟨v, rfl, hO, hE⟩ := h
      obtain ⟨A, cap, rfl, h1, h2, h3⟩ := hO.at_
      rw [show (some q).getD [] = q from rfl] at h3
      exact ⟨A, cap, by rw [← hql]; rfl, h3, hE⟩)
    have KS : Hid (∀ (v : Nat) (w : World), v < 18446744073709551616 → Calls Try.prog 31 #[.int .u64 (v : Int)] w (Ret (.int .i64 ((encB v).length : Int)) w)) := hide (fun v w h => v_size v w h)
    have HL := hide hl
    have Hn := hide hn
    have Hq := hide hq
    have Hql := hide hql
    have Hqq := hide hqq
    have Hu := hide hu
    have HSS := hide hSS
    have HV := hide hV
    have hS2 : S ≤ 524288 := by omega
    have HE : Hid (Ext W W) := Ext.refl _
    clear hl hn hq hpk hS hV hu hSS hqq hql
    go_enter Try.func17, Try.ntmps17
    go_wp2_with fail
    go_loopw [4, 5] (fun s i wr => ∃ (k z : Nat), k ≤ n ∧ i = .int .i64 (k : Int) ∧ s = .int .i64 (z : Int) ∧ z ≤ 1 + 10 * k ∧ Hid (1 + (encV (l.take k)).length = z) ∧ Hid (Ext W wr)) (fun _ i _ => n - (intOf i).toNat)
    case atStart => exact ⟨0, 1, by omega, rfl, rfl, by omega, hide (by simp [encV]), HE⟩
    case round =>
      clear HE
      obtain ⟨k, z, hk, rfl, rfl, hz, HZ, HE⟩ := hrel
      by_cases hlt : k < n
      · have hkl : k < l.length := by rw [Hn.out]; exact hlt
        obtain ⟨b, off, rfl, hb1, hc1⟩ := (HL.out.ext HE.out).2.2 (by omega)
        have d2 := hc1 k hkl
        have hx : l.getD k 0 < 18446744073709551616 := Hq.out.get k
        have hst := encV_take hkl
        have h10 : (encB (l.getD k 0)).length ≤ 10 := encB_length_le _ 9 (by omega)
        obtain ⟨x, hxx⟩ : ∃ x, l.getD k 0 = x := ⟨_, rfl⟩
        rw [hxx] at d2 hst hx h10
        have KS1 := hide (fun w => KS.out x w hx)
        obtain ⟨y, hy⟩ : ∃ y, (encB x).length = y := ⟨_, rfl⟩
        rw [hy] at KS1 h10
        have HZ1 : Hid (1 + (encV (l.take (k + 1))).length = z + y) := hide (by rw [hst, List.length_append, hy, ← HZ.out]; omega)
        clear hb1 hc1 hst hxx hy hkl HZ
        go_wp2_with (go_at_call 31; (with_reducible refine (KS1.out _).mono ?_); rintro e w3 ⟨rfl, hE⟩)
        have HE1 := hide (Ext.trans HE.out hE)
        clear hE
        go_roundw
        case rel => exact ⟨k + 1, z + y, by omega, by go_num, by go_num, by omega, HZ1, HE1⟩
        case measure => simp [intOf]; omega
      · obtain rfl : k = n := by omega
        have hZ : 1 + (encV l).length = z := by
          have := HZ.out
          rw [List.take_of_length_le (by have := Hn.out; omega)] at this
          exact this
        have d3 : decide ((k : Int) < (k : Int)) = false := decide_eq_false (by omega)
        have KW := hide (KW.out wr HE.out)
        by_cases hlt : 2 + S < z
        · have e : enN l = (1 :: u :: q, 0) := by
            unfold enN
            rw [if_neg (by have := Hn.out; omega), if_pos (by rw [HSS.out, hZ]; exact hlt), HSS.out, Hu.out, Hqq.out]
          have He := hide e
          have d4 : decide ((2 : Int) + (S : Int) < (z : Int)) = true := decide_eq_true (by omega)
          have hqs : 2 + q.length ≤ 140737488355328 := by have := Hql.out; omega
          clear e hZ HZ
          go_wp2_with (first
            | (go_at_call 32; (with_reducible refine (KW.out).mono ?_); rintro e w3 ⟨rfl, hE⟩; have HE3 := hide (Ext.trans HE.out hE); have kp := hide (KP.out w3 HE3.out); clear hE)
            | (go_at_call 33; (with_reducible refine (kp.out).mono ?_); rintro e w4 ⟨A4, c4, rfl, hb4, hE4⟩; have E4 := hide (Ext.trans HE3.out hE4); have O4 := hide (own_new8 (B := W.heap.size) w4 [1, u] (by intro y hy; simp at hy; omega) (by simp) #[.int .u8 1, .int .u8 (u : Int)] rfl E4.out.size (n := 2) rfl); have b4 := hide (hb4.ext (ext_alloc w4 (.cells #[.int .u8 1, .int .u8 (u : Int)] 5))); have E5 := hide (Ext.trans E4.out (ext_alloc w4 (.cells #[.int .u8 1, .int .u8 (u : Int)] 5))); clear hb4 hE4)
            | (at_builtin; refine wl_append8 rfl (.tmp 42) (.tmp 43) rfl W.heap.size _ [1, u] q rfl O4.out A4 S c4 rfl b4.out Hql.out hqs E5.out.size ?_; intro v6 w6 hO6 hG6 hA6))
          go_ret2
          rw [He.out]
          exact ⟨_, rfl, hO6, below_grown E5.out (Nat.le_refl _) O4.out hG6⟩
        · have e : enN l = (0 :: encV l, 0) := by
            unfold enN
            rw [if_neg (by have := Hn.out; omega), if_neg (by rw [HSS.out, hZ]; exact hlt)]
          have He := hide e
          have d4 : decide ((2 : Int) + (S : Int) < (z : Int)) = false := decide_eq_false (by omega)
          have hm : ∀ w : World, (Instr.makeSlice 28 (.int .i64 1) (.int .i64 (z : Int))).run Try.prog w = .ok (.slice (some ⟨w.heap.size, 0, none⟩) 1 z) (w.alloc (.cells (u8s (List.replicate z 0)).toArray 5)) := run_mk8b 1 z (by omega) (by omega)
          have hz1 : 1 ≤ z := by omega
          have hz2 : z ≤ 1048576 := by omega
          clear e hZ HZ
          go_upto_region 13 with (first
            | (go_at_call 32; (with_reducible refine (KW.out).mono ?_); rintro e w3 ⟨rfl, hE⟩; have HE3 := hide (Ext.trans HE.out hE); have kp := hide (KP.out w3 HE3.out); clear hE)
            | (go_at_call 33; (with_reducible refine (kp.out).mono ?_); rintro e w4 ⟨A4, c4, rfl, hb4, hE4⟩; have E4 := hide (Ext.trans HE3.out hE4); have O4 := hide (own_mk1 (B := W.heap.size) (s := z) w4 hz1 hz2 E4.out.size); have E5 := hide (Ext.trans E4.out (ext_alloc w4 (.cells (u8s (List.replicate z 0)).toArray 5))); clear hb4 hE4))
          have O5 : Hid (OwnB W.heap.size (w4.alloc (.cells (u8s (List.replicate z 0)).toArray 5)) (.slice (some ⟨w4.heap.size, 0, none⟩) 1 z) (0 :: encV (l.take 0))) := O4
          have KA : Hid (∀ (v : Nat) (w : World), v < 18446744073709551616 → Calls Try.prog 34 #[.slice none 0 0, .int .u64 (v : Int)] w (OwnRet (encB v) w)) := hide (fun v w h => v_append none 0 0 v [] w (BytesAt.nil _ _) rfl (by omega) h)
          clear O4 HE HE3 kp KP KW KS hm E4
          go_wp2_with fail
          go_loopw [9, 10] (fun o i wr => ∃ j : Nat, j ≤ k ∧ i = .int .i64 (j : Int) ∧ Hid (OwnB W.heap.size wr o (0 :: encV (l.take j))) ∧ Hid (Ext W wr)) (fun _ i _ => k - (intOf i).toNat)
          case atStart => exact ⟨0, by omega, rfl, O5, E5⟩
          case round =>
            clear O5 E5
            obtain ⟨j, hj, rfl, HO, HE⟩ := hrel
            by_cases hlt2 : j < k
            · have hkl : j < l.length := by rw [Hn.out]; exact hlt2
              obtain ⟨b, off, rfl, hb1, hc1⟩ := (HL.out.ext HE.out).2.2 (by omega)
              have d2 := hc1 j hkl
              have hx : l.getD j 0 < 18446744073709551616 := Hq.out.get j
              have hst := encV_take hkl
              have h10 : (encB (l.getD j 0)).length ≤ 10 := encB_length_le _ 9 (by omega)
              have hvl := encV_le (l := l.take j) (Hq.out.take j)
              rw [List.length_take] at hvl
              obtain ⟨x, hxx⟩ : ∃ x, l.getD j 0 = x := ⟨_, rfl⟩
              rw [hxx] at d2 hst hx h10
              obtain ⟨o, ho⟩ : ∃ o, encV (l.take j) = o := ⟨_, rfl⟩
              rw [ho] at HO hst hvl
              have kaa := hide (fun w => KA.out x w hx)
              have hle : (0 :: o).length + (encB x).length ≤ 140737488355328 := by rw [List.length_cons]; omega
              have Hst : Hid (0 :: encV (l.take (j + 1)) = (0 :: o) ++ encB x) := hide (by rw [hst]; rfl)
              clear hb1 hc1 hxx hkl ho hst hvl h10
              go_wp2_with (first
                | (go_at_call 34; (with_reducible refine (kaa.out _).mono ?_); rintro e w3 ⟨v3, rfl, hO3, hE3⟩; obtain ⟨A3, c3, rfl, _, _, hb3⟩ := hO3.at_; have O3 := hide (HO.out.ext hE3); have E3 := hide (Ext.trans HE.out hE3); clear hO3 hE3)
                | (at_builtin; refine wl_append8 rfl (.tmp 53) (.tmp 58) rfl W.heap.size _ (0 :: o) (encB x) rfl O3.out A3 _ c3 rfl hb3 rfl hle E3.out.size ?_; intro v6 w6 hO6 hG6 hA6))
              have O6 : Hid (OwnB W.heap.size w6 v6 (0 :: encV (l.take (j + 1)))) := by show OwnB _ _ _ _; rw [Hst.out]; exact hO6
              have E6 := hide (below_grown E3.out (Nat.le_refl _) O3.out hG6)
              clear hO6 hG6 hA6 O3 E3
              go_roundw
              case rel => exact ⟨j + 1, by omega, by go_num, O6, E6⟩
              case measure => simp [intOf]; omega
            · obtain rfl : j = k := by omega
              have hO := HO.out
              rw [List.take_of_length_le (by have := Hn.out; omega)] at hO
              have hO := hide hO
              clear HO
              go_wp2_with fail
              go_ret2
              rw [He.out]
              exact ⟨_, rfl, hO.out, HE.out⟩
/-- Numbers that the call owns, an index and an error. -/
def NumRet (r : List Nat × Int × Int) (W : World) (e : Ending) (w' : World) : Prop := ∃ v, e = .returned (.tuple #[v, .int .i64 r.2.1, .int .i64 r.2.2]) ∧ OwnQ W.heap.size w' v r.1 ∧ Ext W w'
set_option maxRecDepth 100000 in
set_option maxHeartbeats 3200000 in
theorem r_plainN (A : Option Addr) (c cap : Nat) (b : List Nat) (a : Int) (n : Nat) (W : World) (hb : BytesAt W A b) (hc : b.length = c) (hcap : c ≤ cap) (hcap2 : c ≤ 4611686018427387904) (ha0 : 0 ≤ a) (ha1 : a ≤ c) (hn : n ≤ 65536) (R : List Nat × Int × Int) (hR : rdA b [] n a = R) :
    Calls Try.prog 60 #[.slice A c cap, .int .i64 a, .int .i64 (n : Int)] W (NumRet R W) := by
  have KR : Hid (∀ (x : Int) (w : World), 0 ≤ x → x ≤ c → Ext W w → ∀ r1 r2 r3, rdV b x = (r1, r2, r3) → Calls Try.prog 72 #[.slice A c cap, .int .i64 x] w (RetSame (.tuple #[.int .u64 r1, .int .i64 r2, .int .i64 r3]) w)) := hide (fun x w h0 h1 hE r1 r2 r3 hr => v_read A c cap b x w (hb.ext hE) hc hcap hcap2 ⟨by omega, by omega⟩ r1 r2 r3 hr)
  have HR := hide hR
  have Hc := hide hc
  have HE : Hid (Ext W W) := Ext.refl _
  clear hb hc hR
  go_enter Try.func60, Try.ntmps60
  go_wp2_with fail
  go_loopw [1, 9, 10] (fun av lv iv wr => ∃ (k : Nat) (x : Int) (acc : List Nat), k ≤ n ∧ av = .int .i64 x ∧ iv = .int .i64 (k : Int) ∧ 0 ≤ x ∧ x ≤ c ∧ acc.length = k ∧ Hid (rdA b acc (n - k) x = R) ∧ Hid (OwnQ W.heap.size wr lv acc) ∧ Hid (Ext W wr)) (fun _ _ iv _ => n - (intOf iv).toNat)
  case atStart => exact ⟨0, a, [], by omega, rfl, rfl, ha0, ha1, rfl, HR, hide (OwnQ.nil_ _ _), HE⟩
  case round =>
    clear HE HR
    obtain ⟨k, x, acc, hk, rfl, rfl, hx0, hx1, hal, HR, HO, HE⟩ := hrel
    by_cases hlt : k < n
    · obtain ⟨m, hm⟩ : ∃ m, n - k = m + 1 := ⟨n - k - 1, by omega⟩
      have hR := HR.out
      rw [hm, rdA] at hR
      obtain ⟨r1, r2, r3, hr⟩ : ∃ r1 r2 r3, rdV b x = (r1, r2, r3) := ⟨_, _, _, rfl⟩
      have KR1 := hide (KR.out x wr hx0 hx1 HE.out r1 r2 r3 hr)
      by_cases h3 : r3 = 0
      · subst h3
        rw [hr, if_pos rfl] at hR
        obtain ⟨v0, v1, _, a1, a2⟩ := rdV_ok hr
        obtain ⟨v, rfl⟩ := Int.eq_ofNat_of_zero_le v0
        have hv : v < 18446744073709551616 := by omega
        rw [Int.toNat_natCast] at hR
        have HR2 : Hid (rdA b (acc ++ [v]) (n - (k + 1)) r2 = R) := hide (by rw [show n - (k + 1) = m by omega]; exact hR)
        have hr20 : 0 ≤ r2 := by omega
        have hr21 : r2 ≤ c := by have := Hc.out; omega
        have hle : acc.length + [v].length ≤ 17592186044416 := by simp; omega
        have O3 := hide (HO.out.alloc (.cells #[Value.int .u64 (v : Int)] 62))
        have hone := hide (one_atQ wr v hv _ rfl)
        have E3 := hide (Ext.trans HE.out (ext_alloc wr (.cells #[Value.int .u64 (v : Int)] 62)))
        clear hr hR hm v0 v1 a1 a2 HR
        go_wp2_with (first
          | (go_at_call 72; (with_reducible refine (KR1.out).mono ?_); rintro e w3 ⟨rfl, rfl⟩)
          | (at_builtin; refine wl_append64 rfl (.tmp 29) (.tmp 31) rfl W.heap.size _ acc [v] rfl O3.out _ 1 1 rfl hone.out rfl hle E3.out.size ?_; intro v6 w6 hO6 hG6 hA6))
        have O6 := hide hO6
        have E6 := hide (below_grownQ E3.out (Nat.le_refl _) O3.out hG6)
        clear hO6 hG6 hA6 O3 E3
        go_roundw
        case rel => exact ⟨k + 1, r2, acc ++ [v], by omega, rfl, by go_num, hr20, hr21, by simp; omega, HR2, O6, E6⟩
        case measure => simp [intOf]; omega
      · have he := rdV_err b x
        rw [hr] at he
        obtain ⟨rfl, rfl, h31, h32⟩ : r1 = 0 ∧ r2 = 0 ∧ 0 < r3 ∧ r3 ≤ 5 := by
          rcases he with h | h
          · exact absurd h h3
          · exact h
        rw [hr, if_neg h3] at hR
        have HR2 := hide hR
        have d3 : (r3 != 0) = true := by rw [bne_iff_ne]; exact h3
        clear hr hR hm he HR
        go_wp2_with (go_at_call 72; (with_reducible refine (KR1.out).mono ?_); rintro e w3 ⟨rfl, rfl⟩)
        go_ret3
        rw [← HR2.out]
        exact ⟨_, rfl, OwnQ.nil_ _ _, HE.out⟩
    · obtain rfl : k = n := by omega
      have hR := HR.out
      rw [Nat.sub_self, rdA] at hR
      have HR2 := hide hR
      clear hR HR
      go_wp2_with fail
      go_ret3
      rw [← HR2.out]
      exact ⟨_, rfl, HO.out, HE.out⟩
set_option maxRecDepth 100000 in
set_option maxHeartbeats 3200000 in
theorem r_packedN (A : Option Addr) (c cap : Nat) (b : List Nat) (a : Nat) (n : Nat) (W : World) (hb : BytesAt W A b) (hc : b.length = c) (hcap : c ≤ cap) (hcap2 : c ≤ 4611686018427387904) (ha1 : a ≤ c) (hn : n ≤ 65536) (R : List Nat × Int × Int) (hR : rdK b a n = R) :
    Calls Try.prog 61 #[.slice A c cap, .int .i64 (a : Int), .int .i64 (n : Int)] W (NumRet R W) := by
  unfold rdK at hR
  by_cases h0 : a = c
  · rw [if_pos (by omega)] at hR
    subst hR
    have d0 : ((a : Int) == (c : Int)) = true := by rw [beq_iff_eq]; omega
    clear hb hc h0
    go_enter Try.func61, Try.ntmps61
    go_wp2_with fail
    go_ret3
    exact ⟨_, rfl, OwnQ.nil_ _ _, Ext.refl _⟩
  · rw [if_neg (by omega)] at hR
    have d0 : ((a : Int) == (c : Int)) = false := by rw [beq_eq_false_iff_ne]; omega
    have hac : a < b.length := by omega
    obtain ⟨g, off, rfl, hb1, hc1⟩ := hb.2.2 (by omega)
    have d1 := hc1 a hac
    have hix := idx8o g off c cap a (by omega)
    have hu8 : b.getD a 0 < 256 := hb.1.get a
    obtain ⟨u, hu⟩ : ∃ u, b.getD a 0 = u := ⟨_, rfl⟩
    rw [hu] at d1 hR hu8
    have ha2 : a < c := by omega
    by_cases h64 : 64 < u
    · rw [if_pos h64] at hR
      subst hR
      have d2 : decide ((64 : Int) < (u : Int)) = true := decide_eq_true (by omega)
      clear hb hc h0 hac hb1 hc1 hu
      go_enter Try.func61, Try.ntmps61
      go_wp2_with fail
      go_ret3
      exact ⟨_, rfl, OwnQ.nil_ _ _, Ext.refl _⟩
    · rw [if_neg h64] at hR
      have d2 : decide ((64 : Int) < (u : Int)) = false := decide_eq_false (by omega)
      have hnu := nv_le hn (show u ≤ 64 by omega)
      have iN : I64 (n : Int) := ⟨by omega, by omega⟩
      have iU : I64 (u : Int) := ⟨by omega, by omega⟩
      obtain ⟨S, hS⟩ : ∃ S, (n * u + 7) / 8 = S := ⟨_, rfl⟩
      have KS : Hid (∀ w, Calls Try.prog 47 #[.int .i64 (n : Int), .int .i64 (u : Int)] w (RetSame (.int .i64 (S : Int)) w)) := hide (fun w => by
        have := r_siz (n : Int) (u : Int) w iN iU
        rw [siz_in hn (by omega), hS] at this
        exact this)
      have hS2 : S ≤ 1048576 := by omega
      rw [hS] at hR
      by_cases hlt : c - a - 1 < S
      · rw [if_pos (by omega)] at hR
        subst hR
        have d3 : decide ((c : Int) - (a : Int) - 1 < (S : Int)) = true := decide_eq_true (by omega)
        clear hb hc h0 hac hb1 hc1 hu hS hnu
        go_enter Try.func61, Try.ntmps61
        go_wp2_with (go_at_call 47; (with_reducible refine (KS.out _).mono ?_); rintro e w3 ⟨rfl, rfl⟩)
        go_ret3
        exact ⟨_, rfl, OwnQ.nil_ _ _, Ext.refl _⟩
      · rw [if_neg (by omega)] at hR
        have d3 : decide ((c : Int) - (a : Int) - 1 < (S : Int)) = false := decide_eq_false (by omega)
        have hsl := run_mid (some ⟨g, off, none⟩) c (a + 1) (a + 1 + S) cap (by omega) (by omega)
        have ei : ((a + 1 : Nat) : Int) = (a : Int) + 1 := by omega
        have ei2 : ((a + 1 + S : Nat) : Int) = (a : Int) + 1 + (S : Int) := by omega
        rw [ei, ei2, show a + 1 + S - (a + 1) = S by omega] at hsl
        have hbs := (hb.drop (a + 1) cap (by omega)).take S
        have hbl : ((b.drop (a + 1)).take S).length = S := by rw [List.length_take, List.length_drop]; omega
        obtain ⟨A2, hA2⟩ : ∃ A2 : Option Addr, (if cap = a + 1 then some ⟨g, off, none⟩ else (some (⟨g, off, none⟩ : Addr)).map (·.add ((a + 1) * 1))) = A2 := ⟨_, rfl⟩
        rw [hA2] at hsl hbs
        obtain ⟨q, hq⟩ : ∃ q, (b.drop (a + 1)).take S = q := ⟨_, rfl⟩
        rw [hq] at hbs hbl hR
        have KU := hide (r_unpack A2 S (cap - (a + 1)) q n u W hbs hbl iN iU)
        clear hb hc h0 hac hb1 hc1 hu hS hnu ei ei2 hbs hA2 hq
        cases ho : upR q n u with
        | none =>
          rw [ho] at hR KU
          have HR := hide (show ([], 0, 5) = R from hR)
          clear hR ho
          go_enter Try.func61, Try.ntmps61
          go_wp2_with (first
            | (go_at_call 47; (with_reducible refine (KS.out _).mono ?_); rintro e w3 ⟨rfl, rfl⟩)
            | (go_at_call 73; (with_reducible refine (KU.out).mono ?_); rintro e w4 ⟨v4, rfl, hO, hE⟩; have hE := hide hE; clear hO))
          go_ret3
          rw [← HR.out]
          exact ⟨_, rfl, OwnQ.nil_ _ _, hE.out⟩
        | some l =>
          rw [ho] at hR KU
          have HR := hide (show (l, ((a + 1 + S : Nat) : Int), 0) = R from hR)
          clear hR ho
          go_enter Try.func61, Try.ntmps61
          go_wp2_with (first
            | (go_at_call 47; (with_reducible refine (KS.out _).mono ?_); rintro e w3 ⟨rfl, rfl⟩)
            | (go_at_call 73; (with_reducible refine (KU.out).mono ?_); rintro e w4 ⟨v4, rfl, hO, hE⟩; have hE := hide hE; have hO := hide hO))
          go_ret3
          rw [← HR.out]
          exact ⟨_, by rw [show ((a + 1 + S : Nat) : Int) = (a : Int) + 1 + (S : Int) by omega]; rfl, hO.out, hE.out⟩
/-- What NumRet says, by the slice's parts. -/
theorem NumRet.parts {r : List Nat × Int × Int} {W : World} {e : Ending} {w' : World} (h : NumRet r W e w') : ∃ A cap, e = .returned (.tuple #[.slice A r.1.length cap, .int .i64 r.2.1, .int .i64 r.2.2]) ∧ r.1.length ≤ cap ∧ cap ≤ 9223372036854775807 ∧ OwnQ W.heap.size w' (.slice A r.1.length cap) r.1 ∧ WordsAt w' A r.1 ∧ Ext W w' := by
  obtain ⟨v, rfl, hO, hE⟩ := h
  obtain ⟨A, cap, rfl, h1, h2, h3⟩ := hO.at_
  exact ⟨A, cap, rfl, h1, h2, hO, h3, hE⟩
theorem EncRet.parts {x : List Nat} {n : Nat} {W : World} {e : Ending} {w' : World} (h : EncRet x n W e w') : ∃ A cap, e = .returned (.tuple #[.slice A x.length cap, .int .i64 (n : Int)]) ∧ x.length ≤ cap ∧ cap ≤ 9223372036854775807 ∧ OwnB W.heap.size w' (.slice A x.length cap) x ∧ BytesAt w' A x ∧ Ext W w' := by
  obtain ⟨v, rfl, hO, hE⟩ := h
  obtain ⟨A, cap, rfl, h1, h2, h3⟩ := hO.at_
  exact ⟨A, cap, rfl, h1, h2, hO, h3, hE⟩
/-- What Decode returns once a list is read. -/
theorem deN_in {b : List Nat} {a n : Nat} (ha : a < b.length) (hn : n ≤ 65536) {L : List Nat} {nx e1 : Int} (h : rdN b a n = (L, nx, e1)) :
    deN b a n = if e1 ≠ 0 then ([], 0, e1) else if (enN L).1 = (b.drop a).take (nx.toNat - a) then (L, nx, 0) else ([], 0, 5) := by
  unfold deN
  rw [if_neg (by omega), if_neg (by omega), Int.toNat_natCast, Int.toNat_natCast, h]
set_option maxRecDepth 100000 in
set_option maxHeartbeats 3200000 in
theorem r_deN_out (A : Option Addr) (c cap : Nat) (b : List Nat) (at_ n : Int) (W : World) (hb : BytesAt W A b) (hc : b.length = c) (hcap2 : c ≤ 4611686018427387904) (hat : I64 at_) (hn : I64 n) (hr : at_ < 0 ∨ (c : Int) < at_ ∨ n < 0 ∨ 65536 < n) :
    Calls Try.prog 48 #[.slice A c cap, .int .i64 at_, .int .i64 n] W (NumRet ([], 0, 2) W) := by
  clear hb hc
  by_cases h1 : at_ < 0
  · have d1 : decide (at_ < 0) = true := decide_eq_true h1
    clear hr h1
    go_enter Try.func48, Try.ntmps48
    go_wp2_with fail
    go_ret3
    exact ⟨_, rfl, OwnQ.nil_ _ _, Ext.refl _⟩
  · have d1 : decide (at_ < 0) = false := decide_eq_false h1
    by_cases h2 : (c : Int) < at_
    · have d2 : decide ((c : Int) < at_) = true := decide_eq_true h2
      clear hr h1 h2
      go_enter Try.func48, Try.ntmps48
      go_wp2_with fail
      go_ret3
      exact ⟨_, rfl, OwnQ.nil_ _ _, Ext.refl _⟩
    · have d2 : decide ((c : Int) < at_) = false := decide_eq_false h2
      by_cases h3 : n < 0
      · have d3 : decide (n < 0) = true := decide_eq_true h3
        clear hr h1 h2 h3
        go_enter Try.func48, Try.ntmps48
        go_wp2_with fail
        go_ret3
        exact ⟨_, rfl, OwnQ.nil_ _ _, Ext.refl _⟩
      · have d3 : decide (n < 0) = false := decide_eq_false h3
        have d4 : decide ((65536 : Int) < n) = true := decide_eq_true (by omega)
        clear hr h1 h2 h3
        go_enter Try.func48, Try.ntmps48
        go_wp2_with fail
        go_ret3
        exact ⟨_, rfl, OwnQ.nil_ _ _, Ext.refl _⟩
set_option maxRecDepth 100000 in
set_option maxHeartbeats 3200000 in
theorem r_deN (A : Option Addr) (c cap : Nat) (b : List Nat) (at_ n : Int) (W : World) (hb : BytesAt W A b) (hc : b.length = c) (hcap : c ≤ cap) (hcap2 : c ≤ 4611686018427387904) (hat : I64 at_) (hn : I64 n) (R : List Nat × Int × Int) (hR : deN b at_ n = R) :
    Calls Try.prog 48 #[.slice A c cap, .int .i64 at_, .int .i64 n] W (NumRet R W) := by
  by_cases hr : at_ < 0 ∨ (c : Int) < at_ ∨ n < 0 ∨ 65536 < n
  · have e : deN b at_ n = ([], 0, 2) := if_pos (by omega)
    rw [← hR, e]
    exact r_deN_out A c cap b at_ n W hb hc hcap2 hat hn hr
  · obtain ⟨a, rfl⟩ := Int.eq_ofNat_of_zero_le (show 0 ≤ at_ by omega)
    obtain ⟨m, rfl⟩ := Int.eq_ofNat_of_zero_le (show 0 ≤ n by omega)
    have hac : a ≤ c := by omega
    have hm : m ≤ 65536 := by omega
    have d1 : decide ((a : Int) < 0) = false := decide_eq_false (by omega)
    have d2 : decide ((c : Int) < (a : Int)) = false := decide_eq_false (by omega)
    have d3 : decide ((m : Int) < 0) = false := decide_eq_false (by omega)
    have d4 : decide ((65536 : Int) < (m : Int)) = false := decide_eq_false (by omega)
    by_cases h0 : a = c
    · have e : deN b a m = ([], 0, 4) := by
        unfold deN
        rw [if_neg (by omega), if_pos (by omega)]
      rw [e] at hR
      subst hR
      clear hb hc hr hac e hcap d2
      subst h0
      have d2 : decide ((a : Int) < (a : Int)) = false := decide_eq_false (by omega)
      have d0 : ((a : Int) == (a : Int)) = true := by rw [beq_iff_eq]
      go_enter Try.func48, Try.ntmps48
      go_wp2_with fail
      go_ret3
      exact ⟨_, rfl, OwnQ.nil_ _ _, Ext.refl _⟩
    · have d0 : ((a : Int) == (c : Int)) = false := by rw [beq_eq_false_iff_ne]; omega
      have hac2 : a < c := by omega
      obtain ⟨L, nx, e1, hL⟩ : ∃ L nx e1, rdN b a m = (L, nx, e1) := ⟨_, _, _, rfl⟩
      rw [deN_in (by omega) hm hL] at hR
      have KA : Hid (Calls Try.prog 60 #[.slice A c cap, .int .i64 ((a : Int) + 1), .int .i64 (m : Int)] W (NumRet (rdA b [] m ((a : Int) + 1)) W)) := hide (r_plainN A c cap b ((a : Int) + 1) m W hb hc hcap hcap2 (by omega) (by omega) hm _ rfl)
      have KB : Hid (Calls Try.prog 61 #[.slice A c cap, .int .i64 ((a : Int) + 1), .int .i64 (m : Int)] W (NumRet (rdK b (a + 1) m) W)) := hide (r_packedN A c cap b (a + 1) m W hb hc hcap hcap2 (by omega) hm _ rfl)
      have hLd := hL
      unfold rdN at hLd
      obtain ⟨g, off, rfl, hb1, hc1⟩ := hb.2.2 (by omega)
      have dc := hc1 a (by omega)
      have hix := idx8o g off c cap a (by omega)
      have hu8 : b.getD a 0 < 256 := hb.1.get a
      obtain ⟨u, hu⟩ : ∃ u, b.getD a 0 = u := ⟨_, rfl⟩
      rw [hu] at dc hu8 hLd
      have hnr := rdN_ok hm (show a < b.length by omega) (l := L) (nx := nx)
      rw [hL] at hnr
      have HB := hide hb
      have Hc := hide hc
      by_cases hu0 : u = 0
      · have dz : ((u : Int) == 0) = true := by rw [beq_iff_eq]; omega
        rw [if_pos hu0] at hLd
        rw [hLd] at KA
        by_cases he : e1 = 0
        · subst he
          obtain ⟨hq, hLn, hn1, hn2⟩ := hnr rfl
          obtain ⟨x, rfl⟩ := Int.eq_ofNat_of_zero_le (show 0 ≤ nx by omega)
          rw [if_neg (by omega), Int.toNat_natCast] at hR
          have hsl := run_mid (some ⟨g, off, none⟩) c a x cap (by omega) (by omega)
          have hbs := (hb.drop a cap (by omega)).take (x - a)
          have hbl : ((b.drop a).take (x - a)).length = x - a := by rw [List.length_take, List.length_drop]; omega
          obtain ⟨A2, hA2⟩ : ∃ A2 : Option Addr, (if cap = a then some ⟨g, off, none⟩ else (some (⟨g, off, none⟩ : Addr)).map (·.add (a * 1))) = A2 := ⟨_, rfl⟩
          rw [hA2] at hsl hbs
          obtain ⟨q, hqq⟩ : ∃ q, (b.drop a).take (x - a) = q := ⟨_, rfl⟩
          rw [hqq] at hbs hbl hR
          obtain ⟨z, hz⟩ : ∃ z, (enN L).1 = z := ⟨_, rfl⟩
          rw [hz] at hR
          obtain ⟨zl, hzl⟩ : ∃ zl, z.length = zl := ⟨_, rfl⟩
          obtain ⟨ze, hze⟩ : ∃ ze, (enN L).2 = ze := ⟨_, rfl⟩
          obtain ⟨xa, hxa⟩ : ∃ xa, x - a = xa := ⟨_, rfl⟩
          rw [hxa] at hsl hbl
          obtain ⟨y, hy⟩ : ∃ y, decide (z = q) = y := ⟨_, rfl⟩
          have KE : Hid (∀ A3 c3 w, WordsAt w A3 L → Calls Try.prog 17 #[.slice A3 m c3] w (fun e w' => ∃ A4 c4, e = .returned (.tuple #[.slice A4 zl c4, .int .i64 (ze : Int)]) ∧ BytesAt w' A4 z ∧ Ext w w')) := hide (fun A3 c3 w hw => (r_encN A3 m c3 L w hw hLn).mono fun e w' h => by
            obtain ⟨A4, c4, rfl, _, _, _, h3, hE⟩ := h.parts
            rw [hz] at h3
            exact ⟨A4, c4, by rw [hz, hzl, hze], h3, hE⟩)
          have KS : Hid (∀ A4 c4 w, Ext W w → BytesAt w A4 z → Calls Try.prog 12 #[.slice A4 zl c4, .slice A2 xa (cap - a)] w (Ret (.bool y) w)) := hide (fun A4 c4 w hw h4 => r_same A4 A2 zl xa c4 (cap - a) z q w h4 (hbs.ext hw) hzl hbl y hy)
          have KA1 : Hid (Calls Try.prog 60 #[.slice (some ⟨g, off, none⟩) c cap, .int .i64 ((a : Int) + 1), .int .i64 (m : Int)] W fun e w' => ∃ A3 c3, e = .returned (.tuple #[.slice A3 m c3, .int .i64 (x : Int), .int .i64 0]) ∧ OwnQ W.heap.size w' (.slice A3 m c3) L ∧ Ext W w') := hide (KA.out.mono fun e w' h => by
            obtain ⟨A3, c3, rfl, _, _, ho, _, hE⟩ := h.parts
            simp only [hLn] at ho ⊢
            exact ⟨A3, c3, rfl, ho, hE⟩)
          clear KA KB hq hqq hA2 hze hzl hLn hnr hc1 hb hc hL hb1 hu h0 hr hac hLd hbs hbl hxa HB Hc hn1 hn2
          cases y with
          | true =>
            rw [if_pos (of_decide_eq_true hy)] at hR
            have HR := hide hR
            clear hR hy hz
            go_enter Try.func48, Try.ntmps48
            go_wp2_with (first
              | (go_at_call 60; (with_reducible refine (KA1.out).mono ?_); rintro e w1 ⟨A3, c3, rfl, ho1, hE1⟩; have O1 := hide ho1; have E1 := hide hE1; have ke := hide (KE.out A3 c3 w1 (own_words ho1)); clear ho1 hE1)
              | (go_at_call 17; (with_reducible refine (ke.out).mono ?_); rintro e w2 ⟨A4, c4, rfl, hb2, hE2⟩; have E2 := hide (Ext.trans E1.out hE2); have O2 := hide (O1.out.ext hE2); have ks := hide (KS.out A4 c4 w2 E2.out hb2); clear hb2 hE2)
              | (go_at_call 12; (with_reducible refine (ks.out).mono ?_); rintro e w3 ⟨rfl, hE3⟩; have E3 := hide (Ext.trans E2.out hE3); have O3 := hide (O2.out.ext hE3); clear hE3))
            go_ret3
            rw [← HR.out]
            exact ⟨_, rfl, O3.out, E3.out⟩
          | false =>
            rw [if_neg (of_decide_eq_false hy)] at hR
            have HR := hide hR
            clear hR hy hz
            go_enter Try.func48, Try.ntmps48
            go_wp2_with (first
              | (go_at_call 60; (with_reducible refine (KA1.out).mono ?_); rintro e w1 ⟨A3, c3, rfl, ho1, hE1⟩; have O1 := hide ho1; have E1 := hide hE1; have ke := hide (KE.out A3 c3 w1 (own_words ho1)); clear ho1 hE1)
              | (go_at_call 17; (with_reducible refine (ke.out).mono ?_); rintro e w2 ⟨A4, c4, rfl, hb2, hE2⟩; have E2 := hide (Ext.trans E1.out hE2); have O2 := hide (O1.out.ext hE2); have ks := hide (KS.out A4 c4 w2 E2.out hb2); clear hb2 hE2)
              | (go_at_call 12; (with_reducible refine (ks.out).mono ?_); rintro e w3 ⟨rfl, hE3⟩; have E3 := hide (Ext.trans E2.out hE3); clear hE3))
            go_ret3
            rw [← HR.out]
            exact ⟨_, rfl, OwnQ.nil_ _ _, E3.out⟩
        · rw [if_pos he] at hR
          have HR := hide hR
          have de : (e1 != 0) = true := by rw [bne_iff_ne]; exact he
          have KA1 : Hid (Calls Try.prog 60 #[.slice (some ⟨g, off, none⟩) c cap, .int .i64 ((a : Int) + 1), .int .i64 (m : Int)] W fun e w' => ∃ v, e = .returned (.tuple #[v, .int .i64 nx, .int .i64 e1]) ∧ Ext W w') := hide (KA.out.mono fun e w' h => by
            obtain ⟨v, rfl, _, hE⟩ := h
            exact ⟨v, rfl, hE⟩)
          clear KA KB hnr hc1 hb hc hL hb1 hu h0 hr hac hLd HB Hc hR he
          go_enter Try.func48, Try.ntmps48
          go_wp2_with (go_at_call 60; (with_reducible refine (KA1.out).mono ?_); rintro e w1 ⟨v, rfl, hE1⟩; have E1 := hide hE1; clear hE1)
          go_ret3
          rw [← HR.out]
          exact ⟨_, rfl, OwnQ.nil_ _ _, E1.out⟩
      · have dz : ((u : Int) == 0) = false := by rw [beq_eq_false_iff_ne]; omega
        rw [if_neg hu0] at hLd
        by_cases hu1 : u = 1
        · have dy : ((u : Int) == 1) = true := by rw [beq_iff_eq]; omega
          rw [if_pos hu1] at hLd
          rw [hLd] at KB
          by_cases he : e1 = 0
          · subst he
            obtain ⟨hq, hLn, hn1, hn2⟩ := hnr rfl
            obtain ⟨x, rfl⟩ := Int.eq_ofNat_of_zero_le (show 0 ≤ nx by omega)
            rw [if_neg (by omega), Int.toNat_natCast] at hR
            have hsl := run_mid (some ⟨g, off, none⟩) c a x cap (by omega) (by omega)
            have hbs := (hb.drop a cap (by omega)).take (x - a)
            have hbl : ((b.drop a).take (x - a)).length = x - a := by rw [List.length_take, List.length_drop]; omega
            obtain ⟨A2, hA2⟩ : ∃ A2 : Option Addr, (if cap = a then some ⟨g, off, none⟩ else (some (⟨g, off, none⟩ : Addr)).map (·.add (a * 1))) = A2 := ⟨_, rfl⟩
            rw [hA2] at hsl hbs
            obtain ⟨q, hqq⟩ : ∃ q, (b.drop a).take (x - a) = q := ⟨_, rfl⟩
            rw [hqq] at hbs hbl hR
            obtain ⟨z, hz⟩ : ∃ z, (enN L).1 = z := ⟨_, rfl⟩
            rw [hz] at hR
            obtain ⟨zl, hzl⟩ : ∃ zl, z.length = zl := ⟨_, rfl⟩
            obtain ⟨ze, hze⟩ : ∃ ze, (enN L).2 = ze := ⟨_, rfl⟩
            obtain ⟨xa, hxa⟩ : ∃ xa, x - a = xa := ⟨_, rfl⟩
            rw [hxa] at hsl hbl
            obtain ⟨y, hy⟩ : ∃ y, decide (z = q) = y := ⟨_, rfl⟩
            have KE : Hid (∀ A3 c3 w, WordsAt w A3 L → Calls Try.prog 17 #[.slice A3 m c3] w (fun e w' => ∃ A4 c4, e = .returned (.tuple #[.slice A4 zl c4, .int .i64 (ze : Int)]) ∧ BytesAt w' A4 z ∧ Ext w w')) := hide (fun A3 c3 w hw => (r_encN A3 m c3 L w hw hLn).mono fun e w' h => by
              obtain ⟨A4, c4, rfl, _, _, _, h3, hE⟩ := h.parts
              rw [hz] at h3
              exact ⟨A4, c4, by rw [hz, hzl, hze], h3, hE⟩)
            have KS : Hid (∀ A4 c4 w, Ext W w → BytesAt w A4 z → Calls Try.prog 12 #[.slice A4 zl c4, .slice A2 xa (cap - a)] w (Ret (.bool y) w)) := hide (fun A4 c4 w hw h4 => r_same A4 A2 zl xa c4 (cap - a) z q w h4 (hbs.ext hw) hzl hbl y hy)
            have KA1 : Hid (Calls Try.prog 61 #[.slice (some ⟨g, off, none⟩) c cap, .int .i64 ((a : Int) + 1), .int .i64 (m : Int)] W fun e w' => ∃ A3 c3, e = .returned (.tuple #[.slice A3 m c3, .int .i64 (x : Int), .int .i64 0]) ∧ OwnQ W.heap.size w' (.slice A3 m c3) L ∧ Ext W w') := hide (KB.out.mono fun e w' h => by
              obtain ⟨A3, c3, rfl, _, _, ho, _, hE⟩ := h.parts
              simp only [hLn] at ho ⊢
              exact ⟨A3, c3, rfl, ho, hE⟩)
            clear KA KB hq hqq hA2 hze hzl hLn hnr hc1 hb hc hL hb1 hu h0 hr hac hLd hbs hbl hxa HB Hc hn1 hn2
            cases y with
            | true =>
              rw [if_pos (of_decide_eq_true hy)] at hR
              have HR := hide hR
              clear hR hy hz
              go_enter Try.func48, Try.ntmps48
              go_wp2_with (first
                | (go_at_call 61; (with_reducible refine (KA1.out).mono ?_); rintro e w1 ⟨A3, c3, rfl, ho1, hE1⟩; have O1 := hide ho1; have E1 := hide hE1; have ke := hide (KE.out A3 c3 w1 (own_words ho1)); clear ho1 hE1)
                | (go_at_call 17; (with_reducible refine (ke.out).mono ?_); rintro e w2 ⟨A4, c4, rfl, hb2, hE2⟩; have E2 := hide (Ext.trans E1.out hE2); have O2 := hide (O1.out.ext hE2); have ks := hide (KS.out A4 c4 w2 E2.out hb2); clear hb2 hE2)
                | (go_at_call 12; (with_reducible refine (ks.out).mono ?_); rintro e w3 ⟨rfl, hE3⟩; have E3 := hide (Ext.trans E2.out hE3); have O3 := hide (O2.out.ext hE3); clear hE3))
              go_ret3
              rw [← HR.out]
              exact ⟨_, rfl, O3.out, E3.out⟩
            | false =>
              rw [if_neg (of_decide_eq_false hy)] at hR
              have HR := hide hR
              clear hR hy hz
              go_enter Try.func48, Try.ntmps48
              go_wp2_with (first
                | (go_at_call 61; (with_reducible refine (KA1.out).mono ?_); rintro e w1 ⟨A3, c3, rfl, ho1, hE1⟩; have O1 := hide ho1; have E1 := hide hE1; have ke := hide (KE.out A3 c3 w1 (own_words ho1)); clear ho1 hE1)
                | (go_at_call 17; (with_reducible refine (ke.out).mono ?_); rintro e w2 ⟨A4, c4, rfl, hb2, hE2⟩; have E2 := hide (Ext.trans E1.out hE2); have O2 := hide (O1.out.ext hE2); have ks := hide (KS.out A4 c4 w2 E2.out hb2); clear hb2 hE2)
                | (go_at_call 12; (with_reducible refine (ks.out).mono ?_); rintro e w3 ⟨rfl, hE3⟩; have E3 := hide (Ext.trans E2.out hE3); clear hE3))
              go_ret3
              rw [← HR.out]
              exact ⟨_, rfl, OwnQ.nil_ _ _, E3.out⟩
          · rw [if_pos he] at hR
            have HR := hide hR
            have de : (e1 != 0) = true := by rw [bne_iff_ne]; exact he
            have KA1 : Hid (Calls Try.prog 61 #[.slice (some ⟨g, off, none⟩) c cap, .int .i64 ((a : Int) + 1), .int .i64 (m : Int)] W fun e w' => ∃ v, e = .returned (.tuple #[v, .int .i64 nx, .int .i64 e1]) ∧ Ext W w') := hide (KB.out.mono fun e w' h => by
              obtain ⟨v, rfl, _, hE⟩ := h
              exact ⟨v, rfl, hE⟩)
            clear KA KB hnr hc1 hb hc hL hb1 hu h0 hr hac hLd HB Hc hR he
            go_enter Try.func48, Try.ntmps48
            go_wp2_with (go_at_call 61; (with_reducible refine (KA1.out).mono ?_); rintro e w1 ⟨v, rfl, hE1⟩; have E1 := hide hE1; clear hE1)
            go_ret3
            rw [← HR.out]
            exact ⟨_, rfl, OwnQ.nil_ _ _, E1.out⟩
        · have dy : ((u : Int) == 1) = false := by rw [beq_eq_false_iff_ne]; omega
          rw [if_neg hu1] at hLd
          simp only [Prod.mk.injEq] at hLd
          obtain ⟨rfl, rfl, rfl⟩ := hLd
          rw [if_pos (by omega)] at hR
          have HR := hide hR
          clear hb hc hL hb1 hu hnr h0 hr hac KA KB HB Hc hc1 hR
          go_enter Try.func48, Try.ntmps48
          go_wp2_with fail
          go_ret3
          rw [← HR.out]
          exact ⟨_, rfl, OwnQ.nil_ _ _, Ext.refl _⟩
theorem encV_app (l m : List Nat) : encV (l ++ m) = encV l ++ encV m := by simp [encV]
theorem encV_take_le (l : List Nat) (k : Nat) : (encV (l.take k)).length ≤ (encV l).length := by
  have h := encV_app (l.take k) (l.drop k)
  rw [List.take_append_drop] at h
  rw [h, List.length_append]; omega
/-- The plain form, j of its numbers written. -/
def pst (l : List Nat) (j : Nat) : List Nat := (0 :: encV (l.take j)) ++ List.replicate ((encV l).length - (encV (l.take j)).length) 0
theorem pst_len (l : List Nat) (j : Nat) : (pst l j).length = 1 + (encV l).length := by
  have := encV_take_le l j
  unfold pst
  rw [List.length_append, List.length_cons, List.length_replicate]; omega
theorem pst_zero (l : List Nat) : pst l 0 = List.replicate (1 + (encV l).length) 0 := by
  unfold pst
  rw [Nat.add_comm, List.replicate_succ]
  simp [encV]
theorem pst_end (l : List Nat) {j : Nat} (h : l.length ≤ j) : pst l j = 0 :: encV l := by
  unfold pst
  rw [List.take_of_length_le h, Nat.sub_self]
  simp
theorem pst_splice {l : List Nat} {j a : Nat} (h : j < l.length) (ha : 1 + (encV (l.take j)).length = a) : splice (u8s (pst l j)) a (u8s (encB (l.getD j 0))) = u8s (pst l (j + 1)) := by
  have e1 : u8s (pst l j) = u8s (0 :: encV (l.take j)) ++ u8s (List.replicate ((encV l).length - (encV (l.take j)).length) 0) := u8s_app _ _
  have e2 : (u8s (0 :: encV (l.take j))).length = a := by rw [u8s_len, List.length_cons]; omega
  unfold splice
  rw [e1, List.take_left' e2, ← e2, ← List.drop_drop, List.drop_left, u8s_len]
  unfold pst
  rw [encV_take h, u8s_app, ← List.cons_append, u8s_app, List.append_assoc, List.length_append, Nat.sub_add_eq]
  congr 2
  unfold u8s
  rw [← List.map_drop, List.drop_replicate]
set_option maxRecDepth 100000 in
set_option maxHeartbeats 1600000 in
theorem p_plainSize (A : Option Addr) (n c : Nat) (l : List Nat) (W : World) (hl : WordsAt W A l) (hn : l.length = n) (hn2 : n ≤ 65536) (S : Nat) (hS : 1 + (encV l).length = S) :
    Calls Try.prog 57 #[.slice A n c] W (RetSame (.int .i64 (S : Int)) W) := by
  have KS : Hid (∀ (v : Nat) (w : World), v < 18446744073709551616 → Calls Try.prog 69 #[.int .u64 (v : Int)] w (RetSame (.int .i64 ((encB v).length : Int)) w)) := hide (fun v w h => p_size v w h)
  have HL := hide hl
  have Hn := hide hn
  have Hq := hide hl.1
  have HS := hide hS
  clear hl hn hS
  go_enter Try.func57, Try.ntmps57
  go_wp2_with fail
  go_loopw [3, 8] (fun s i wr => ∃ (k z : Nat), k ≤ n ∧ i = .int .i64 (k : Int) ∧ s = .int .i64 (z : Int) ∧ z ≤ 1 + 10 * k ∧ Hid (1 + (encV (l.take k)).length = z) ∧ wr = W) (fun _ i _ => n - (intOf i).toNat)
  case atStart => exact ⟨0, 1, by omega, rfl, rfl, by omega, hide (by simp [encV]), rfl⟩
  case round =>
    obtain ⟨k, z, hk, rfl, rfl, hz, HZ, rfl⟩ := hrel
    by_cases hlt : k < n
    · have hkl : k < l.length := by rw [Hn.out]; exact hlt
      obtain ⟨b, off, rfl, hb1, hc1⟩ := HL.out.2.2 (by omega)
      have d2 := hc1 k hkl
      have hx : l.getD k 0 < 18446744073709551616 := Hq.out.get k
      have hst := encV_take hkl
      have h10 : (encB (l.getD k 0)).length ≤ 10 := encB_length_le _ 9 (by omega)
      obtain ⟨x, hxx⟩ : ∃ x, l.getD k 0 = x := ⟨_, rfl⟩
      rw [hxx] at d2 hst hx h10
      have KS1 := hide (fun w => KS.out x w hx)
      obtain ⟨y, hy⟩ : ∃ y, (encB x).length = y := ⟨_, rfl⟩
      rw [hy] at KS1 h10
      have HZ1 : Hid (1 + (encV (l.take (k + 1))).length = z + y) := hide (by rw [hst, List.length_append, hy, ← HZ.out]; omega)
      clear hb1 hc1 hst hxx hy hkl HZ
      go_wp2_with (go_at_call 69; (with_reducible refine (KS1.out _).mono ?_); rintro e w3 ⟨rfl, rfl⟩)
      go_roundw
      case rel => exact ⟨k + 1, z + y, by omega, by go_num, by go_num, by omega, HZ1, trivial⟩
      case measure => simp [intOf]; omega
    · obtain rfl : k = n := by omega
      have hZ : z = S := by
        have := HZ.out
        rw [List.take_of_length_le (by have := Hn.out; omega)] at this
        have := HS.out
        omega
      subst hZ
      go_wp2_with fail
      go_ret
      exact ⟨rfl, rfl⟩
theorem p_packedSize (n u : Nat) (W : World) (hn : n ≤ 65536) (hu : u ≤ 64) (S : Nat) (hS : (n * u + 7) / 8 = S) :
    Calls Try.prog 56 #[.int .i64 (n : Int), .int .i64 (u : Int)] W (RetSame (.int .i64 ((2 : Int) + (S : Int))) W) := by
  have hnu := nv_le hn hu
  have hS2 : S ≤ 1048576 := by omega
  have KS : Hid (∀ w, Calls Try.prog 68 #[.int .i64 (n : Int), .int .i64 (u : Int)] w (RetSame (.int .i64 (S : Int)) w)) := hide (fun w => by
    have := p_siz (n : Int) (u : Int) w ⟨by omega, by omega⟩ ⟨by omega, by omega⟩
    rw [siz_in hn hu, hS] at this
    exact this)
  clear hnu hS
  go_enter Try.func56, Try.ntmps56
  go_wp2_with (go_at_call 68; (with_reducible refine (KS.out _).mono ?_); rintro e w3 ⟨rfl, rfl⟩)
  go_ret
  exact ⟨rfl, rfl⟩
set_option maxRecDepth 100000 in
set_option maxHeartbeats 3200000 in
theorem p_plainForm (A : Option Addr) (n c : Nat) (l : List Nat) (W : World) (hl : WordsAt W A l) (hn : l.length = n) (hn2 : n ≤ 65536) :
    Calls Try.prog 59 #[.slice A n c] W (OwnRet (0 :: encV l) W) := by
  have hV := encV_le hl.1
  obtain ⟨S, hS⟩ : ∃ S, 1 + (encV l).length = S := ⟨_, rfl⟩
  have hS1 : 1 ≤ S := by omega
  have hS2 : S ≤ 1048576 := by omega
  have KZ : Hid (Calls Try.prog 57 #[.slice A n c] W (RetSame (.int .i64 (S : Int)) W)) := hide (p_plainSize A n c l W hl hn hn2 S hS)
  have KA : Hid (∀ (v : Nat) (w : World), v < 18446744073709551616 → Calls Try.prog 71 #[.slice none 0 0, .int .u64 (v : Int)] w (OwnRet (encB v) w)) := hide (fun v w h => p_vappend none 0 0 v [] w (BytesAt.nil _ _) rfl (by omega) h)
  have hm := run_mk8b S S (Nat.le_refl _) (by omega)
  have HL := hide hl
  have Hn := hide hn
  have HS := hide hS
  have Hq := hide hl.1
  have Hend := hide (pst_end l (j := n) (by omega))
  have Hb := hide (encV_b hl.1)
  have B1 := Blk.new W 5 (u8s (List.replicate S 0)).toArray
  have E1 := ext_alloc W (.cells (u8s (List.replicate S 0)).toArray 5)
  rw [← hS, ← pst_zero l] at B1 E1 hm
  rw [hS] at hm
  obtain ⟨w1, hw1⟩ : ∃ w1, W.alloc (.cells (u8s (pst l 0)).toArray 5) = w1 := ⟨_, rfl⟩
  rw [hw1] at B1 E1
  obtain ⟨g, hg⟩ : ∃ g, W.heap.size = g := ⟨_, rfl⟩
  rw [hg] at B1
  have hgw : W.heap.size ≤ g := by omega
  have hix := idx8B g S S 0 0 rfl (by omega)
  have c0 : w1.cell? ⟨g, 0, none⟩ = some (.int .u8 0) := by
    rw [B1.cell]; rfl
  have f0 := B1.frozen 0
  have B2 : Blk (w1.setCell ⟨g, 0, none⟩ (.int .u8 0)) g 5 (u8s (pst l 0)).toArray := by
    have := B1.set_ 0 (.int .u8 0)
    rw [show (u8s (pst l 0)).toArray.setIfInBounds 0 (.int .u8 0) = (u8s (pst l 0)).toArray by unfold pst; simp [u8s]] at this
    exact this
  have E2 : Ext W (w1.setCell ⟨g, 0, none⟩ (.int .u8 0)) := Below.setCell E1 (p := ⟨g, 0, none⟩) hgw _
  have B2 := hide B2
  have E2 := hide E2
  have Hw1 := hide hw1
  have Hg := hide hg
  clear hl hn hS hV hw1 hg B1 E1
  go_enter Try.func59, Try.ntmps59
  go_upto_region 2 with (go_at_call 57; (with_reducible refine (KZ.out).mono ?_); rintro e w0 ⟨rfl, rfl⟩)
  rw [Hw1.out, Hg.out]
  clear hm KZ
  go_wp2_with fail
  go_loopw [4, 14] (fun t i wr => ∃ (j a : Nat), j ≤ n ∧ i = .int .i64 (j : Int) ∧ t = .int .i64 (a : Int) ∧ Hid (1 + (encV (l.take j)).length = a) ∧ Hid (Blk wr g 5 (u8s (pst l j)).toArray) ∧ Hid (Ext W wr)) (fun _ i _ => n - (intOf i).toNat)
  case atStart => exact ⟨0, 1, by omega, rfl, rfl, hide (by simp [encV]), B2, E2⟩
  case round =>
    clear B2 E2 c0 f0 hix
    obtain ⟨j, a, hj, rfl, rfl, HA, HB, HE⟩ := hrel
    by_cases hlt : j < n
    · have hkl : j < l.length := by rw [Hn.out]; exact hlt
      obtain ⟨b, off, rfl, hb1, hc1⟩ := (HL.out.ext HE.out).2.2 (by omega)
      have d2 := hc1 j hkl
      have hx : l.getD j 0 < 18446744073709551616 := Hq.out.get j
      have hst := encV_take hkl
      have hle := encV_take_le l (j + 1)
      have Hsp := hide (pst_splice hkl HA.out)
      have hln := pst_len l j
      have hye := encB_pos (l.getD j 0)
      obtain ⟨x, hxx⟩ : ∃ x, l.getD j 0 = x := ⟨_, rfl⟩
      rw [hxx] at d2 hst hx Hsp hye
      obtain ⟨y, hy⟩ : ∃ y, (encB x).length = y := ⟨_, rfl⟩
      rw [hst, List.length_append, hy] at hle
      rw [hy] at hye
      have hay : a + y ≤ S := by have := HA.out; have := HS.out; omega
      have HA1 : Hid (1 + (encV (l.take (j + 1))).length = a + y) := hide (by rw [hst, List.length_append, hy, ← HA.out]; omega)
      have kaa : Hid (∀ w, Calls Try.prog 71 #[.slice none 0 0, .int .u64 (x : Int)] w (OwnL (encB x) y w)) := hide (fun w => (KA.out x w hx).mono fun _ _ q => OwnRet.len hy q)
      obtain ⟨Z, hZ⟩ : ∃ Z, u8s (pst l j) = Z := ⟨_, rfl⟩
      obtain ⟨X, hX⟩ : ∃ X, u8s (encB x) = X := ⟨_, rfl⟩
      have hXl : X.length = y := by rw [← hX, u8s_len, hy]
      have hZl : Z.length = S := by rw [← hZ, u8s_len, hln, HS.out]
      have Ho := hide (show ∀ v ∈ X, v.oneCell' = true by rw [← hX]; exact u8s_one _)
      have Hmn := hide (show X.length = Nat.min y (S - a) by rw [hXl]; exact (Nat.min_eq_left (by omega)).symm)
      have Hft := hide (show a + X.length ≤ Z.length by rw [hXl, hZl]; omega)
      rw [hZ] at HB Hsp
      rw [hX] at Hsp
      have HX := hide hX
      have hs : ∀ w, (Instr.slice 28 (.slice (some ⟨g, 0, none⟩) S S) (some (.int .i64 (a : Int))) none none).run Try.prog w = .ok (.slice (some ⟨g, a, none⟩) (S - a) (S - a)) w := fun w => by
        have := run_from (some ⟨g, 0, none⟩) S a S (by omega) w
        rw [if_neg (by omega)] at this
        simpa [add_at] using this
      have hgl := HB.out.lt
      have N0 : Hid (wr.drew.heap[g]? = some (.cells Z.toArray 5 (0, 0))) := hide HB.out
      have E0 := hide (show Ext W wr.drew from Below.drew HE.out)
      have hgl : g < wr.drew.heap.size := hgl
      have hya : 0 < y := hye
      have ka := hide (kaa.out wr.drew)
      clear hb1 hc1 hst hxx hkl hle hln hye hZ hX hZl HA HB kaa KA hy
      go_upto_region 7 with fail
      go_region_law (first
        | (go_simp; go_at_call 71; (with_reducible refine (ka.out).mono ?_); rintro e w4 ⟨A4, cap4, rfl, hl4, hle4, -, -, hb4, hE4⟩; have hb4 := hide hb4; have hl4 := hide hl4; have E4 := hide (Ext.trans E0.out hE4); have N4 := hide ((hE4.block g hgl).trans N0.out); clear hE4)
        | (refine step_copy_splice rfl (.tmp 21) (.tmp 23) 28 28 rfl 5 Try.underlying28 sz8 (some ⟨g, a, none⟩) A4 (S - a) (S - a) y cap4 rfl rfl g a Z 5 N4.out X Hmn.out (fun hp => ⟨rfl, by obtain ⟨b, off, rfl, _, _⟩ := hb4.out.2.2 (by rw [hl4.out]; omega); exact ⟨_, rfl, by rw [← HX.out]; exact cells_of_bytes hb4.out⟩⟩) Hft.out Ho.out W.heap.size W E4.out hgw ?_; intro w5 N5 hE5))
      all_goals
        have B5 := hide (show Blk w5 g 5 (u8s (pst l (j + 1))).toArray by have := N5.out; rw [Hsp.out] at this; exact this)
        have E5 := hide hE5
        clear hE5 N5
        go_wp2_with fail
        go_roundw
        case rel => exact ⟨j + 1, a + y, by omega, by go_num, by go_num, HA1, B5, E5⟩
        case measure => simp [intOf]; omega
    · obtain rfl : j = n := by omega
      have hB := HB.out
      rw [Hend.out] at hB
      have hB := hide hB
      go_wp2_with fail
      go_ret
      refine ⟨_, rfl, own_of (m := []) hgw (by rw [List.append_nil]; exact hB.out) (by rw [List.length_cons]; have := HS.out; omega) (by simp) (by omega) ?_, HE.out⟩
      intro y hy
      rcases List.mem_cons.1 hy with rfl | hy
      · omega
      · exact Hb.out y hy
theorem pk_splice (x y : Nat) (q : List Nat) {S : Nat} (h : q.length = S) : splice (u8s (x :: y :: List.replicate S 0)) 2 (u8s q) = u8s (x :: y :: q) := by
  unfold splice
  rw [List.drop_of_length_le (by rw [u8s_len, u8s_len]; simp; omega)]
  simp [u8s]
set_option maxRecDepth 100000 in
set_option maxHeartbeats 3200000 in
theorem p_packedForm (A : Option Addr) (n c : Nat) (l : List Nat) (u : Nat) (W : World) (hl : WordsAt W A l) (hn : l.length = n) (hn2 : n ≤ 65536) (hu : wdt l = u) :
    Calls Try.prog 58 #[.slice A n c, .int .i64 (u : Int)] W (OwnRet (1 :: u :: upN (pkN l u) (pkS l) 8) W) := by
  have hq := hl.1
  have hln : l.length ≤ 65536 := by omega
  have hpk := pkR_wdt hq hln
  have hSl := pkS_le hq hln
  have hw64 := wdt_le hq
  rw [hu] at hpk hw64
  have iu : I64 (u : Int) := ⟨by omega, by omega⟩
  obtain ⟨S, hS⟩ : ∃ S, pkS l = S := ⟨_, rfl⟩
  rw [hS] at hpk hSl
  rw [hS]
  obtain ⟨q, hqq⟩ : ∃ q, upN (pkN l u) S 8 = q := ⟨_, rfl⟩
  have hql : q.length = S := by rw [← hqq, upN_len]
  have hqb : IsB q := by rw [← hqq]; exact upN_fit _ _ 8
  rw [hqq] at hpk
  rw [hqq]
  have KZ : Hid (∀ w, Calls Try.prog 56 #[.int .i64 (n : Int), .int .i64 (u : Int)] w (RetSame (.int .i64 ((2 : Int) + (S : Int))) w)) := hide (fun w => p_packedSize n u w hn2 hw64 S (by rw [← hS, pkS, hn, hu]))
  have KP : Hid (∀ w, Ext W w → Calls Try.prog 70 #[.slice A n c, .int .i64 (u : Int)] w fun e w' => ∃ A cap, e = .returned (.tuple #[.slice A S cap, .bool true]) ∧ BytesAt w' A q ∧ Ext w w') := hide (fun w hw => (p_pack A n c l u w (hl.ext hw) hn iu).mono fun e w' h => by
    rw [hpk] at h
    obtain ⟨v, rfl, hO, hE⟩ := h
    obtain ⟨A, cap, rfl, h1, h2, h3⟩ := hO.at_
    rw [show (some q).getD [] = q from rfl] at h3
    exact ⟨A, cap, by rw [← hql]; rfl, h3, hE⟩)
  have hm := run_mk8b (2 + S) (2 + S) (Nat.le_refl _) (by omega)
  have e2S : ((2 + S : Nat) : Int) = (2 : Int) + (S : Int) := by omega
  have B1 := Blk.new W 5 (u8s (List.replicate (2 + S) 0)).toArray
  have E1 := ext_alloc W (.cells (u8s (List.replicate (2 + S) 0)).toArray 5)
  have er : List.replicate (2 + S) 0 = 0 :: 0 :: List.replicate S 0 := by rw [show 2 + S = S + 1 + 1 by omega, List.replicate_succ, List.replicate_succ]
  rw [er] at B1 E1 hm
  rw [e2S] at hm
  obtain ⟨w1, hw1⟩ : ∃ w1, W.alloc (.cells (u8s (0 :: 0 :: List.replicate S 0)).toArray 5) = w1 := ⟨_, rfl⟩
  rw [hw1] at B1 E1
  obtain ⟨g, hg⟩ : ∃ g, W.heap.size = g := ⟨_, rfl⟩
  rw [hg] at B1
  have hgw : W.heap.size ≤ g := by omega
  obtain ⟨K, hK⟩ : ∃ K, 2 + S = K := ⟨_, rfl⟩
  rw [hK] at hm
  have hix := idx8B g K K 0 0 rfl (by omega)
  have hix1 := idx8B g K K 1 1 rfl (by omega)
  have c0 : w1.cell? ⟨g, 0, none⟩ = some (.int .u8 0) := by rw [B1.cell]; rfl
  have f0 := B1.frozen 0
  have B2 := B1.set_ 0 (.int .u8 1)
  have c1 : (w1.setCell ⟨g, 0, none⟩ (.int .u8 1)).cell? ⟨g, 1, none⟩ = some (.int .u8 0) := by rw [B2.cell]; rfl
  have f1 := B2.frozen 1
  have B3 := hide (show Blk ((w1.setCell ⟨g, 0, none⟩ (.int .u8 1)).setCell ⟨g, 1, none⟩ (.int .u8 (u : Int))) g 5 (u8s (1 :: u :: List.replicate S 0)).toArray by
    have := B2.set_ 1 (.int .u8 (u : Int))
    rw [show ((u8s (0 :: 0 :: List.replicate S 0)).toArray.setIfInBounds 0 (.int .u8 1)).setIfInBounds 1 (.int .u8 (u : Int)) = (u8s (1 :: u :: List.replicate S 0)).toArray by simp [u8s]] at this
    exact this)
  have E3 : Ext W ((w1.setCell ⟨g, 0, none⟩ (.int .u8 1)).setCell ⟨g, 1, none⟩ (.int .u8 (u : Int))) := Below.setCell (Below.setCell E1 (p := ⟨g, 0, none⟩) hgw _) (p := ⟨g, 1, none⟩) hgw _
  have E3 := hide E3
  have hcv : IntKind.u8.wrap (u : Int) = (u : Int) := by rw [wrap_8]; omega
  have Hw1 := hide hw1
  have Hg := hide hg
  have hs : ∀ w, (Instr.slice 28 (.slice (some ⟨g, 0, none⟩) K K) (some (.int .i64 2)) none none).run Try.prog w = .ok (.slice (if S = 0 then some ⟨g, 0, none⟩ else some ⟨g, 2, none⟩) S S) w := fun w => by
    have := run_from (some ⟨g, 0, none⟩) K 2 K (by omega) w
    rw [show K - 2 = S by omega] at this
    by_cases h0 : S = 0
    · rw [if_pos (by omega)] at this
      rw [if_pos h0]; exact this
    · rw [if_neg (by omega)] at this
      rw [if_neg h0]; simpa [add_at] using this
  obtain ⟨X, hX⟩ : ∃ X, u8s q = X := ⟨_, rfl⟩
  have hXl : X.length = S := by rw [← hX, u8s_len, hql]
  have Ho := hide (show ∀ v ∈ X, v.oneCell' = true by rw [← hX]; exact u8s_one _)
  have Hmn := hide (show X.length = Nat.min S S by rw [hXl]; exact (Nat.min_self _).symm)
  have Hsp := hide (pk_splice 1 u q hql)
  rw [hX] at Hsp
  have HX := hide hX
  have Hql := hide hql
  have Hqb := hide hqb
  have Hft := hide (show 2 + X.length ≤ (u8s (1 :: u :: List.replicate S 0)).length by rw [hXl, u8s_len]; simp; omega)
  have HXl := hide hXl
  obtain ⟨P0, hP0⟩ : ∃ P0 : Option Addr, (if S = 0 then some ⟨g, 0, none⟩ else some ⟨g, 2, none⟩) = P0 := ⟨_, rfl⟩
  rw [hP0] at hs
  have HP0 := hide hP0
  have HK := hide hK
  have hK2 : K ≤ 1048576 := by omega
  clear hl hn hq hln hpk hu hS hqq hql hqb e2S er hw1 hg B1 E1 B2 hX hXl hP0 hK
  go_enter Try.func58, Try.ntmps58
  go_upto_region 2 with (go_at_call 56; (with_reducible refine (KZ.out _).mono ?_); rintro e w0 ⟨rfl, rfl⟩)
  rw [Hw1.out, Hg.out]
  clear hm
  go_upto_region 3 with fail
  have kp := hide (KP.out _ E3.out)
  have hgl := B3.out.lt
  generalize ((w1.setCell ⟨g, 0, none⟩ (.int .u8 1)).setCell ⟨g, 1, none⟩ (.int .u8 (u : Int))) = w2 at *
  clear c0 c1 f0 f1
  go_upto_region 4 with (go_at_call 70; (with_reducible refine (kp.out).mono ?_); rintro e w3 ⟨A4, c4, rfl, hb4, hE4⟩; have E4 := hide (Ext.trans E3.out hE4); have N4 := hide ((hE4.block g hgl).trans B3.out); have hb4 := hide hb4; clear hE4)
  go_wp2_with (refine wpList_copy_splice rfl (.tmp 26) (.tmp 27) 28 28 rfl 5 Try.underlying28 sz8 P0 A4 S S S c4 rfl rfl g 2 (u8s (1 :: u :: List.replicate S 0)) 5 N4.out X Hmn.out (fun hp => ⟨by rw [← HP0.out, if_neg (by have := HXl.out; omega)], by obtain ⟨b, off, rfl, _, _⟩ := hb4.out.2.2 (by rw [Hql.out]; have := HXl.out; omega); exact ⟨_, rfl, by rw [← HX.out]; exact cells_of_bytes hb4.out⟩⟩) Hft.out Ho.out W.heap.size W E4.out hgw ?_; intro w5 N5 hE5)
  go_ret
  have hN := N5.out
  rw [Hsp.out] at hN
  refine ⟨_, rfl, own_of (m := []) hgw (by rw [List.append_nil]; exact hN) (by have := Hql.out; have := HK.out; simp; omega) (by simp) (by omega) ?_, hE5⟩
  intro y hy
  rcases List.mem_cons.1 hy with rfl | hy
  · omega
  · rcases List.mem_cons.1 hy with rfl | hy
    · omega
    · exact Hqb.out y hy
set_option maxRecDepth 100000 in
set_option maxHeartbeats 3200000 in
theorem p_encN (A : Option Addr) (n c : Nat) (l : List Nat) (W : World) (hl : WordsAt W A l) (hn : l.length = n) :
    Calls Try.prog 42 #[.slice A n c] W (EncRet (enN l).1 (enN l).2 W) := by
  have hn63 : n ≤ 9223372036854775807 := by have := hl.2.1; omega
  by_cases hc : 65536 < n
  · have e : enN l = ([], 3) := if_pos (by omega)
    rw [e]
    have d1 : decide ((65536 : Int) < (n : Int)) = true := decide_eq_true (by omega)
    clear hl hn
    go_enter Try.func42, Try.ntmps42
    go_wp2_with fail
    go_ret2
    exact ⟨_, rfl, OwnB.nil_ _ _, Ext.refl _⟩
  · have d1 : decide ((65536 : Int) < (n : Int)) = false := decide_eq_false (by omega)
    have hn2 : n ≤ 65536 := by omega
    have hw64 := wdt_le hl.1
    have hV := encV_le hl.1
    have hSl := pkS_le hl.1 (by omega)
    obtain ⟨u, hu⟩ : ∃ u, wdt l = u := ⟨_, rfl⟩
    have KW : Hid (Calls Try.prog 55 #[.slice A n c] W (Ret (.int .i64 (u : Int)) W)) := hide (by have := p_wd A n c l W hl hn; rw [hu] at this; exact this)
    obtain ⟨S, hS⟩ : ∃ S, pkS l = S := ⟨_, rfl⟩
    obtain ⟨z, hz⟩ : ∃ z, 1 + (encV l).length = z := ⟨_, rfl⟩
    have KS : Hid (∀ w, Calls Try.prog 56 #[.int .i64 (n : Int), .int .i64 (u : Int)] w (RetSame (.int .i64 ((2 : Int) + (S : Int))) w)) := hide (fun w => p_packedSize n u w hn2 (by omega) S (by rw [← hS, pkS, hn, hu]))
    have KT : Hid (∀ w, Ext W w → Calls Try.prog 57 #[.slice A n c] w (RetSame (.int .i64 (z : Int)) w)) := hide (fun w hw => p_plainSize A n c l w (hl.ext hw) hn hn2 z hz)
    have KK : Hid (∀ w, Ext W w → Calls Try.prog 58 #[.slice A n c, .int .i64 (u : Int)] w (OwnRet (1 :: u :: upN (pkN l u) S 8) w)) := hide (fun w hw => by rw [← hS]; exact p_packedForm A n c l u w (hl.ext hw) hn hn2 hu)
    have KL : Hid (∀ w, Ext W w → Calls Try.prog 59 #[.slice A n c] w (OwnRet (0 :: encV l) w)) := hide (fun w hw => p_plainForm A n c l w (hl.ext hw) hn hn2)
    by_cases hlt : 2 + S < z
    · have e : enN l = (1 :: u :: upN (pkN l u) S 8, 0) := by
        unfold enN
        rw [if_neg (by omega), if_pos (by omega), hS, hu]
      rw [e]
      have d4 : decide ((2 : Int) + (S : Int) < (z : Int)) = true := decide_eq_true (by omega)
      clear hl hn hV hS hz hu e
      go_enter Try.func42, Try.ntmps42
      go_wp2_with (first
        | (go_at_call 55; (with_reducible refine (KW.out).mono ?_); rintro e w3 ⟨rfl, hE⟩; have E3 := hide hE; have kt := hide (KT.out w3 hE); have kk := hide (KK.out w3 hE); clear hE)
        | (go_at_call 56; (with_reducible refine (KS.out _).mono ?_); rintro e w4 ⟨rfl, rfl⟩)
        | (go_at_call 57; (with_reducible refine (kt.out).mono ?_); rintro e w5 ⟨rfl, rfl⟩)
        | (go_at_call 58; (with_reducible refine (kk.out).mono ?_); rintro e w6 ⟨v, rfl, hO, hE⟩; have O6 := hide (hO.less E3.out.size); have E6 := hide (Ext.trans E3.out hE); clear hO hE))
      go_ret2
      exact ⟨_, rfl, O6.out, E6.out⟩
    · have e : enN l = (0 :: encV l, 0) := by
        unfold enN
        rw [if_neg (by omega), if_neg (by omega)]
      rw [e]
      have d4 : decide ((2 : Int) + (S : Int) < (z : Int)) = false := decide_eq_false (by omega)
      clear hl hn hV hS hz hu e
      go_enter Try.func42, Try.ntmps42
      go_wp2_with (first
        | (go_at_call 55; (with_reducible refine (KW.out).mono ?_); rintro e w3 ⟨rfl, hE⟩; have E3 := hide hE; have kt := hide (KT.out w3 hE); have kk := hide (KL.out w3 hE); clear hE)
        | (go_at_call 56; (with_reducible refine (KS.out _).mono ?_); rintro e w4 ⟨rfl, rfl⟩)
        | (go_at_call 57; (with_reducible refine (kt.out).mono ?_); rintro e w5 ⟨rfl, rfl⟩)
        | (go_at_call 59; (with_reducible refine (kk.out).mono ?_); rintro e w6 ⟨v, rfl, hO, hE⟩; have O6 := hide (hO.less E3.out.size); have E6 := hide (Ext.trans E3.out hE); clear hO hE))
      go_ret2
      exact ⟨_, rfl, O6.out, E6.out⟩
/-- What readForm returns. -/
def rdF (b : List Nat) (a n : Nat) : List Nat × Int × Int := if a = b.length then ([], 0, 4) else rdN b a n
/-- A list whose numbers are read one after the other. -/
def ast (acc : List Nat) (m : Nat) : List Nat := acc ++ List.replicate m 0
theorem ast_set (acc : List Nat) (m v k : Nat) (hk : acc.length = k) : (q8s (ast acc (m + 1))).toArray.setIfInBounds k (.int .u64 (v : Int)) = (q8s (ast (acc ++ [v]) m)).toArray := by
  subst hk
  unfold ast
  rw [List.replicate_succ]
  simp [q8s]
theorem ast_get (acc : List Nat) (m k : Nat) (hk : acc.length = k) : (q8s (ast acc (m + 1))).toArray[k]? = some (.int .u64 0) := by
  subst hk
  unfold ast
  rw [List.replicate_succ]
  simp [q8s]
set_option maxRecDepth 100000 in
set_option maxHeartbeats 3200000 in
theorem p_readPlain (A : Option Addr) (c cap : Nat) (b : List Nat) (a : Int) (n : Nat) (W : World) (hb : BytesAt W A b) (hc : b.length = c) (hcap : c ≤ cap) (hcap2 : c ≤ 4611686018427387904) (ha0 : 0 ≤ a) (ha1 : a ≤ c) (hn : n ≤ 65536) (R : List Nat × Int × Int) (hR : rdA b [] n a = R) :
    Calls Try.prog 63 #[.slice A c cap, .int .i64 a, .int .i64 (n : Int)] W (NumRet R W) := by
  have KR : Hid (∀ (x : Int) (w : World), 0 ≤ x → x ≤ c → Ext W w → ∀ r1 r2 r3, rdV b x = (r1, r2, r3) → Calls Try.prog 74 #[.slice A c cap, .int .i64 x] w (RetSame (.tuple #[.int .u64 r1, .int .i64 r2, .int .i64 r3]) w)) := hide (fun x w h0 h1 hE r1 r2 r3 hr => p_read A c cap b x w (hb.ext hE) hc hcap hcap2 ⟨by omega, by omega⟩ r1 r2 r3 hr)
  have HR := hide hR
  have Hc := hide hc
  have hm := run_mk64 n n (Nat.le_refl _) (by omega)
  have B1 := Blk.new W 62 (q8s (ast [] n)).toArray
  have E1 := ext_alloc W (.cells (q8s (ast [] n)).toArray 62)
  rw [show List.replicate n 0 = ast [] n from rfl] at hm
  obtain ⟨w1, hw1⟩ : ∃ w1, W.alloc (.cells (q8s (ast [] n)).toArray 62) = w1 := ⟨_, rfl⟩
  rw [hw1] at B1 E1
  obtain ⟨g, hg⟩ : ∃ g, W.heap.size = g := ⟨_, rfl⟩
  rw [hg] at B1
  have hgw : W.heap.size ≤ g := by omega
  have B1 := hide B1
  have E1 := hide E1
  have Hw1 := hide hw1
  have Hg := hide hg
  clear hb hc hR hw1 hg
  go_enter Try.func63, Try.ntmps63
  go_upto_region 2 with fail
  rw [Hw1.out, Hg.out]
  clear hm
  go_wp2_with fail
  go_loopw [1, 17] (fun av iv wr => ∃ (k m : Nat) (x : Int) (acc : List Nat), k + m = n ∧ av = .int .i64 x ∧ iv = .int .i64 (k : Int) ∧ 0 ≤ x ∧ x ≤ c ∧ Hid (acc.length = k) ∧ Hid (IsQ acc) ∧ Hid (rdA b acc m x = R) ∧ Hid (Blk wr g 62 (q8s (ast acc m)).toArray) ∧ Hid (Ext W wr)) (fun _ iv _ => n - (intOf iv).toNat)
  case atStart => exact ⟨0, n, a, [], by omega, rfl, rfl, ha0, ha1, hide rfl, hide (fun _ h => by simp at h), HR, B1, E1⟩
  case round =>
    clear B1 E1 HR
    obtain ⟨k, m, x, acc, hk, rfl, rfl, hx0, hx1, HL, HQ, HR, HB, HE⟩ := hrel
    by_cases hlt : k < n
    · obtain ⟨m, rfl⟩ : ∃ m', m = m' + 1 := ⟨m - 1, by omega⟩
      have d0 : decide ((k : Int) < (n : Int)) = true := decide_eq_true (by omega)
      have hR := HR.out
      rw [rdA] at hR
      obtain ⟨r1, r2, r3, hr⟩ : ∃ r1 r2 r3, rdV b x = (r1, r2, r3) := ⟨_, _, _, rfl⟩
      have KR1 := hide (KR.out x wr hx0 hx1 HE.out r1 r2 r3 hr)
      by_cases h3 : r3 = 0
      · subst h3
        rw [hr, if_pos rfl] at hR
        obtain ⟨v0, v1, _, a1, a2⟩ := rdV_ok hr
        obtain ⟨v, rfl⟩ := Int.eq_ofNat_of_zero_le v0
        have hv : v < 18446744073709551616 := by omega
        rw [Int.toNat_natCast] at hR
        have HR2 := hide hR
        have hr20 : 0 ≤ r2 := by omega
        have hr21 : r2 ≤ c := by have := Hc.out; omega
        have hix := idx64B g n n k hlt
        have c0 : wr.cell? ⟨g, k, none⟩ = some (.int .u64 0) := by rw [HB.out.cell]; exact ast_get acc m k HL.out
        have f0 := HB.out.frozen k
        have B2 := hide (show Blk (wr.setCell ⟨g, k, none⟩ (.int .u64 (v : Int))) g 62 (q8s (ast (acc ++ [v]) m)).toArray by
          have := HB.out.set_ k (.int .u64 (v : Int))
          rw [ast_set acc m v k HL.out] at this
          exact this)
        have E2 : Ext W (wr.setCell ⟨g, k, none⟩ (.int .u64 (v : Int))) := Below.setCell HE.out (p := ⟨g, k, none⟩) hgw _
        have E2 := hide E2
        have HL2 := hide (show (acc ++ [v]).length = k + 1 by rw [List.length_append, HL.out]; rfl)
        have HQ2 := hide (HQ.out.app (IsQ.one hv))
        clear hr hR v0 v1 a1 a2 HR HL HQ HB HE
        go_wp2_with (go_at_call 74; (with_reducible refine (KR1.out).mono ?_); rintro e w3 ⟨rfl, rfl⟩)
        go_roundw
        case rel => exact ⟨k + 1, m, r2, acc ++ [v], by omega, rfl, by go_num, hr20, hr21, HL2, HQ2, HR2, B2, E2⟩
        case measure => simp [intOf]; omega
      · have he := rdV_err b x
        rw [hr] at he
        obtain ⟨rfl, rfl, h31, h32⟩ : r1 = 0 ∧ r2 = 0 ∧ 0 < r3 ∧ r3 ≤ 5 := by
          rcases he with h | h
          · exact absurd h h3
          · exact h
        rw [hr, if_neg h3] at hR
        have HR2 := hide hR
        have d3 : (r3 != 0) = true := by rw [bne_iff_ne]; exact h3
        clear hr hR he HR
        go_wp2_with (go_at_call 74; (with_reducible refine (KR1.out).mono ?_); rintro e w3 ⟨rfl, rfl⟩)
        go_ret3
        rw [← HR2.out]
        exact ⟨_, rfl, OwnQ.nil_ _ _, HE.out⟩
    · obtain rfl : m = 0 := by omega
      obtain rfl : k = n := by omega
      have d0 : decide ((k : Int) < (k : Int)) = false := decide_eq_false (by omega)
      have hR := HR.out
      rw [rdA] at hR
      have HR2 := hide hR
      have hB := HB.out
      rw [show ast acc 0 = acc by simp [ast]] at hB
      have HB := hide hB
      clear hR HR hB
      go_wp2_with fail
      go_ret3
      rw [← HR2.out]
      exact ⟨_, rfl, own_q hgw HB.out HL.out (by omega) HQ.out, HE.out⟩
set_option maxRecDepth 100000 in
set_option maxHeartbeats 3200000 in
theorem p_readPacked (A : Option Addr) (c cap : Nat) (b : List Nat) (a : Nat) (n : Nat) (W : World) (hb : BytesAt W A b) (hc : b.length = c) (hcap : c ≤ cap) (hcap2 : c ≤ 4611686018427387904) (ha1 : a ≤ c) (hn : n ≤ 65536) (R : List Nat × Int × Int) (hR : rdK b a n = R) :
    Calls Try.prog 64 #[.slice A c cap, .int .i64 (a : Int), .int .i64 (n : Int)] W (NumRet R W) := by
  unfold rdK at hR
  by_cases h0 : a = c
  · rw [if_pos (by omega)] at hR
    subst hR
    have d0 : ((a : Int) == (c : Int)) = true := by rw [beq_iff_eq]; omega
    clear hb hc h0
    go_enter Try.func64, Try.ntmps64
    go_wp2_with fail
    go_ret3
    exact ⟨_, rfl, OwnQ.nil_ _ _, Ext.refl _⟩
  · rw [if_neg (by omega)] at hR
    have d0 : ((a : Int) == (c : Int)) = false := by rw [beq_eq_false_iff_ne]; omega
    have hac : a < b.length := by omega
    obtain ⟨g, off, rfl, hb1, hc1⟩ := hb.2.2 (by omega)
    have d1 := hc1 a hac
    have hix := idx8o g off c cap a (by omega)
    have hu8 : b.getD a 0 < 256 := hb.1.get a
    obtain ⟨u, hu⟩ : ∃ u, b.getD a 0 = u := ⟨_, rfl⟩
    rw [hu] at d1 hR hu8
    have ha2 : a < c := by omega
    have iN : I64 (n : Int) := ⟨by omega, by omega⟩
    have iU : I64 (u : Int) := ⟨by omega, by omega⟩
    by_cases h64 : 64 < u
    · rw [if_pos h64] at hR
      subst hR
      have KS : Hid (∀ w, Calls Try.prog 68 #[.int .i64 (n : Int), .int .i64 (u : Int)] w (RetSame (.int .i64 (-1)) w)) := hide (fun w => by
        have := p_siz (n : Int) (u : Int) w iN iU
        rw [siz_out (by omega)] at this
        exact this)
      clear hb hc h0 hac hb1 hc1 hu
      go_enter Try.func64, Try.ntmps64
      go_wp2_with (go_at_call 68; (with_reducible refine (KS.out _).mono ?_); rintro e w3 ⟨rfl, rfl⟩)
      go_ret3
      exact ⟨_, rfl, OwnQ.nil_ _ _, Ext.refl _⟩
    · rw [if_neg h64] at hR
      have hnu := nv_le hn (show u ≤ 64 by omega)
      obtain ⟨S, hS⟩ : ∃ S, (n * u + 7) / 8 = S := ⟨_, rfl⟩
      have KS : Hid (∀ w, Calls Try.prog 68 #[.int .i64 (n : Int), .int .i64 (u : Int)] w (RetSame (.int .i64 (S : Int)) w)) := hide (fun w => by
        have := p_siz (n : Int) (u : Int) w iN iU
        rw [siz_in hn (by omega), hS] at this
        exact this)
      have hS2 : S ≤ 1048576 := by omega
      have dS : decide ((S : Int) < 0) = false := decide_eq_false (by omega)
      rw [hS] at hR
      by_cases hlt : c - a - 1 < S
      · rw [if_pos (by omega)] at hR
        subst hR
        have d3 : decide ((c : Int) - ((a : Int) + 1) < (S : Int)) = true := decide_eq_true (by omega)
        clear hb hc h0 hac hb1 hc1 hu hS hnu
        go_enter Try.func64, Try.ntmps64
        go_wp2_with (go_at_call 68; (with_reducible refine (KS.out _).mono ?_); rintro e w3 ⟨rfl, rfl⟩)
        go_ret3
        exact ⟨_, rfl, OwnQ.nil_ _ _, Ext.refl _⟩
      · rw [if_neg (by omega)] at hR
        have d3 : decide ((c : Int) - ((a : Int) + 1) < (S : Int)) = false := decide_eq_false (by omega)
        have hsl := run_mid (some ⟨g, off, none⟩) c (a + 1) (a + 1 + S) cap (by omega) (by omega)
        have ei : ((a + 1 : Nat) : Int) = (a : Int) + 1 := by omega
        have ei2 : ((a + 1 + S : Nat) : Int) = (a : Int) + 1 + (S : Int) := by omega
        rw [ei, ei2, show a + 1 + S - (a + 1) = S by omega] at hsl
        have hbs := (hb.drop (a + 1) cap (by omega)).take S
        have hbl : ((b.drop (a + 1)).take S).length = S := by rw [List.length_take, List.length_drop]; omega
        obtain ⟨A2, hA2⟩ : ∃ A2 : Option Addr, (if cap = a + 1 then some ⟨g, off, none⟩ else (some (⟨g, off, none⟩ : Addr)).map (·.add ((a + 1) * 1))) = A2 := ⟨_, rfl⟩
        rw [hA2] at hsl hbs
        obtain ⟨q, hq⟩ : ∃ q, (b.drop (a + 1)).take S = q := ⟨_, rfl⟩
        rw [hq] at hbs hbl hR
        have KU := hide (p_unpack A2 S (cap - (a + 1)) q n u W hbs hbl iN iU)
        clear hb hc h0 hac hb1 hc1 hu hS hnu ei ei2 hbs hA2 hq
        cases ho : upR q n u with
        | none =>
          rw [ho] at hR KU
          have HR := hide (show ([], 0, 5) = R from hR)
          clear hR ho
          go_enter Try.func64, Try.ntmps64
          go_wp2_with (first
            | (go_at_call 68; (with_reducible refine (KS.out _).mono ?_); rintro e w3 ⟨rfl, rfl⟩)
            | (go_at_call 75; (with_reducible refine (KU.out).mono ?_); rintro e w4 ⟨v4, rfl, hO, hE⟩; have hE := hide hE; clear hO))
          go_ret3
          rw [← HR.out]
          exact ⟨_, rfl, OwnQ.nil_ _ _, hE.out⟩
        | some l =>
          rw [ho] at hR KU
          have HR := hide (show (l, ((a + 1 + S : Nat) : Int), 0) = R from hR)
          clear hR ho
          go_enter Try.func64, Try.ntmps64
          go_wp2_with (first
            | (go_at_call 68; (with_reducible refine (KS.out _).mono ?_); rintro e w3 ⟨rfl, rfl⟩)
            | (go_at_call 75; (with_reducible refine (KU.out).mono ?_); rintro e w4 ⟨v4, rfl, hO, hE⟩; have hE := hide hE; have hO := hide hO))
          go_ret3
          rw [← HR.out]
          exact ⟨_, by rw [show ((a + 1 + S : Nat) : Int) = (a : Int) + 1 + (S : Int) by omega]; rfl, hO.out, hE.out⟩
set_option maxRecDepth 100000 in
set_option maxHeartbeats 3200000 in
theorem p_readForm (A : Option Addr) (c cap : Nat) (b : List Nat) (a : Nat) (m : Nat) (W : World) (hb : BytesAt W A b) (hc : b.length = c) (hcap : c ≤ cap) (hcap2 : c ≤ 4611686018427387904) (hac : a ≤ c) (hm : m ≤ 65536) (R : List Nat × Int × Int) (hR : rdF b a m = R) :
    Calls Try.prog 51 #[.slice A c cap, .int .i64 (a : Int), .int .i64 (m : Int)] W (NumRet R W) := by
  unfold rdF at hR
  by_cases h0 : a = c
  · rw [if_pos (by omega)] at hR
    subst hR
    have d0 : ((a : Int) == (c : Int)) = true := by rw [beq_iff_eq]; omega
    clear hb hc h0
    go_enter Try.func51, Try.ntmps51
    go_wp2_with fail
    go_ret3
    exact ⟨_, rfl, OwnQ.nil_ _ _, Ext.refl _⟩
  · rw [if_neg (by omega)] at hR
    have d0 : ((a : Int) == (c : Int)) = false := by rw [beq_eq_false_iff_ne]; omega
    unfold rdN at hR
    have KA : Hid (Calls Try.prog 63 #[.slice A c cap, .int .i64 ((a : Int) + 1), .int .i64 (m : Int)] W (NumRet (rdA b [] m ((a : Int) + 1)) W)) := hide (p_readPlain A c cap b ((a : Int) + 1) m W hb hc hcap hcap2 (by omega) (by omega) hm _ rfl)
    have KB : Hid (Calls Try.prog 64 #[.slice A c cap, .int .i64 ((a : Int) + 1), .int .i64 (m : Int)] W (NumRet (rdK b (a + 1) m) W)) := hide (p_readPacked A c cap b (a + 1) m W hb hc hcap hcap2 (by omega) hm _ rfl)
    obtain ⟨g, off, rfl, hb1, hc1⟩ := hb.2.2 (by omega)
    have dc := hc1 a (by omega)
    have hix := idx8o g off c cap a (by omega)
    have hu8 : b.getD a 0 < 256 := hb.1.get a
    obtain ⟨u, hu⟩ : ∃ u, b.getD a 0 = u := ⟨_, rfl⟩
    rw [hu] at dc hu8 hR
    clear hb hc hb1 hc1 hu
    by_cases hu0 : u = 0
    · have dz : ((u : Int) == 0) = true := by rw [beq_iff_eq]; omega
      rw [if_pos hu0] at hR
      rw [hR] at KA
      clear hR KB hu0
      go_enter Try.func51, Try.ntmps51
      go_wp2_with (go_at_call 63; (with_reducible refine (KA.out).mono ?_); rintro e w1 ⟨v, rfl, hO, hE⟩; have O1 := hide hO; have E1 := hide hE; clear hO hE)
      go_ret3
      exact ⟨_, rfl, O1.out, E1.out⟩
    · have dz : ((u : Int) == 0) = false := by rw [beq_eq_false_iff_ne]; omega
      rw [if_neg hu0] at hR
      by_cases hu1 : u = 1
      · have dy : ((u : Int) == 1) = true := by rw [beq_iff_eq]; omega
        rw [if_pos hu1] at hR
        rw [hR] at KB
        clear hR KA hu0 hu1
        go_enter Try.func51, Try.ntmps51
        go_wp2_with (go_at_call 64; (with_reducible refine (KB.out).mono ?_); rintro e w1 ⟨v, rfl, hO, hE⟩; have O1 := hide hO; have E1 := hide hE; clear hO hE)
        go_ret3
        exact ⟨_, rfl, O1.out, E1.out⟩
      · have dy : ((u : Int) == 1) = false := by rw [beq_eq_false_iff_ne]; omega
        rw [if_neg hu1] at hR
        subst hR
        clear KA KB hu0 hu1
        go_enter Try.func51, Try.ntmps51
        go_wp2_with fail
        go_ret3
        exact ⟨_, rfl, OwnQ.nil_ _ _, Ext.refl _⟩
set_option maxRecDepth 100000 in
set_option maxHeartbeats 3200000 in
theorem p_deN_out (A : Option Addr) (c cap : Nat) (b : List Nat) (at_ n : Int) (W : World) (hb : BytesAt W A b) (hc : b.length = c) (hcap2 : c ≤ 4611686018427387904) (hat : I64 at_) (hn : I64 n) (hr : at_ < 0 ∨ (c : Int) < at_ ∨ n < 0 ∨ 65536 < n) :
    Calls Try.prog 36 #[.slice A c cap, .int .i64 at_, .int .i64 n] W (NumRet ([], 0, 2) W) := by
  clear hb hc
  by_cases h1 : at_ < 0
  · have d1 : decide (at_ < 0) = true := decide_eq_true h1
    clear hr h1
    go_enter Try.func36, Try.ntmps36
    go_wp2_with fail
    go_ret3
    exact ⟨_, rfl, OwnQ.nil_ _ _, Ext.refl _⟩
  · have d1 : decide (at_ < 0) = false := decide_eq_false h1
    by_cases h2 : (c : Int) < at_
    · have d2 : decide ((c : Int) < at_) = true := decide_eq_true h2
      clear hr h1 h2
      go_enter Try.func36, Try.ntmps36
      go_wp2_with fail
      go_ret3
      exact ⟨_, rfl, OwnQ.nil_ _ _, Ext.refl _⟩
    · have d2 : decide ((c : Int) < at_) = false := decide_eq_false h2
      by_cases h3 : n < 0
      · have d3 : decide (n < 0) = true := decide_eq_true h3
        clear hr h1 h2 h3
        go_enter Try.func36, Try.ntmps36
        go_wp2_with fail
        go_ret3
        exact ⟨_, rfl, OwnQ.nil_ _ _, Ext.refl _⟩
      · have d3 : decide (n < 0) = false := decide_eq_false h3
        have d4 : decide ((65536 : Int) < n) = true := decide_eq_true (by omega)
        clear hr h1 h2 h3
        go_enter Try.func36, Try.ntmps36
        go_wp2_with fail
        go_ret3
        exact ⟨_, rfl, OwnQ.nil_ _ _, Ext.refl _⟩
set_option maxRecDepth 100000 in
set_option maxHeartbeats 3200000 in
theorem p_deN (A : Option Addr) (c cap : Nat) (b : List Nat) (at_ n : Int) (W : World) (hb : BytesAt W A b) (hc : b.length = c) (hcap : c ≤ cap) (hcap2 : c ≤ 4611686018427387904) (hat : I64 at_) (hn : I64 n) (R : List Nat × Int × Int) (hR : deN b at_ n = R) :
    Calls Try.prog 36 #[.slice A c cap, .int .i64 at_, .int .i64 n] W (NumRet R W) := by
  by_cases hr : at_ < 0 ∨ (c : Int) < at_ ∨ n < 0 ∨ 65536 < n
  · have e : deN b at_ n = ([], 0, 2) := if_pos (by omega)
    rw [← hR, e]
    exact p_deN_out A c cap b at_ n W hb hc hcap2 hat hn hr
  · obtain ⟨a, rfl⟩ := Int.eq_ofNat_of_zero_le (show 0 ≤ at_ by omega)
    obtain ⟨m, rfl⟩ := Int.eq_ofNat_of_zero_le (show 0 ≤ n by omega)
    have hac : a ≤ c := by omega
    have hm : m ≤ 65536 := by omega
    have d1 : decide ((a : Int) < 0) = false := decide_eq_false (by omega)
    have d2 : decide ((c : Int) < (a : Int)) = false := decide_eq_false (by omega)
    have d3 : decide ((m : Int) < 0) = false := decide_eq_false (by omega)
    have d4 : decide ((65536 : Int) < (m : Int)) = false := decide_eq_false (by omega)
    by_cases h0 : a = c
    · have e : deN b a m = ([], 0, 4) := by
        unfold deN
        rw [if_neg (by omega), if_pos (by omega)]
      rw [e] at hR
      subst hR
      have KF : Hid (Calls Try.prog 51 #[.slice A c cap, .int .i64 (a : Int), .int .i64 (m : Int)] W (NumRet ([], 0, 4) W)) := hide (p_readForm A c cap b a m W hb hc hcap hcap2 hac hm _ (if_pos (by omega)))
      clear hb hc hr hac e hcap d2
      subst h0
      have d2 : decide ((a : Int) < (a : Int)) = false := decide_eq_false (by omega)
      go_enter Try.func36, Try.ntmps36
      go_wp2_with (go_at_call 51; (with_reducible refine (KF.out).mono ?_); rintro e w1 ⟨v, rfl, hO, hE⟩; have E1 := hide hE; clear hO hE)
      go_ret3
      exact ⟨_, rfl, OwnQ.nil_ _ _, E1.out⟩
    · have hac2 : a < c := by omega
      obtain ⟨L, nx, e1, hL⟩ : ∃ L nx e1, rdN b a m = (L, nx, e1) := ⟨_, _, _, rfl⟩
      rw [deN_in (by omega) hm hL] at hR
      have KF : Hid (Calls Try.prog 51 #[.slice A c cap, .int .i64 (a : Int), .int .i64 (m : Int)] W (NumRet (L, nx, e1) W)) := hide (p_readForm A c cap b a m W hb hc hcap hcap2 hac hm _ (by rw [rdF, if_neg (by omega), hL]))
      obtain ⟨g, off, rfl, hb1, hc1⟩ := hb.2.2 (by omega)
      have hnr := rdN_ok hm (show a < b.length by omega) (l := L) (nx := nx)
      rw [hL] at hnr
      have HB := hide hb
      have Hc := hide hc
      by_cases he : e1 = 0
      · subst he
        obtain ⟨hq, hLn, hn1, hn2⟩ := hnr rfl
        obtain ⟨x, rfl⟩ := Int.eq_ofNat_of_zero_le (show 0 ≤ nx by omega)
        rw [if_neg (by omega), Int.toNat_natCast] at hR
        have hsl := run_mid (some ⟨g, off, none⟩) c a x cap (by omega) (by omega)
        have hbs := (hb.drop a cap (by omega)).take (x - a)
        have hbl : ((b.drop a).take (x - a)).length = x - a := by rw [List.length_take, List.length_drop]; omega
        obtain ⟨A2, hA2⟩ : ∃ A2 : Option Addr, (if cap = a then some ⟨g, off, none⟩ else (some (⟨g, off, none⟩ : Addr)).map (·.add (a * 1))) = A2 := ⟨_, rfl⟩
        rw [hA2] at hsl hbs
        obtain ⟨q, hqq⟩ : ∃ q, (b.drop a).take (x - a) = q := ⟨_, rfl⟩
        rw [hqq] at hbs hbl hR
        obtain ⟨z, hz⟩ : ∃ z, (enN L).1 = z := ⟨_, rfl⟩
        rw [hz] at hR
        obtain ⟨zl, hzl⟩ : ∃ zl, z.length = zl := ⟨_, rfl⟩
        obtain ⟨ze, hze⟩ : ∃ ze, (enN L).2 = ze := ⟨_, rfl⟩
        obtain ⟨xa, hxa⟩ : ∃ xa, x - a = xa := ⟨_, rfl⟩
        rw [hxa] at hsl hbl
        obtain ⟨y, hy⟩ : ∃ y, decide (z = q) = y := ⟨_, rfl⟩
        have KE : Hid (∀ A3 c3 w, WordsAt w A3 L → Calls Try.prog 42 #[.slice A3 m c3] w (fun e w' => ∃ A4 c4, e = .returned (.tuple #[.slice A4 zl c4, .int .i64 (ze : Int)]) ∧ BytesAt w' A4 z ∧ Ext w w')) := hide (fun A3 c3 w hw => (p_encN A3 m c3 L w hw hLn).mono fun e w' h => by
          obtain ⟨A4, c4, rfl, _, _, _, h3, hE⟩ := h.parts
          rw [hz] at h3
          exact ⟨A4, c4, by rw [hz, hzl, hze], h3, hE⟩)
        have KS : Hid (∀ A4 c4 w, Ext W w → BytesAt w A4 z → Calls Try.prog 38 #[.slice A4 zl c4, .slice A2 xa (cap - a)] w (Ret (.bool y) w)) := hide (fun A4 c4 w hw h4 => (p_equal A4 A2 zl xa c4 (cap - a) z q w h4 (hbs.ext hw) hzl hbl y hy).mono fun e w' h => by obtain ⟨rfl, rfl⟩ := h; exact ⟨rfl, Ext.refl _⟩)
        have KA1 : Hid (Calls Try.prog 51 #[.slice (some ⟨g, off, none⟩) c cap, .int .i64 (a : Int), .int .i64 (m : Int)] W fun e w' => ∃ A3 c3, e = .returned (.tuple #[.slice A3 m c3, .int .i64 (x : Int), .int .i64 0]) ∧ OwnQ W.heap.size w' (.slice A3 m c3) L ∧ Ext W w') := hide (KF.out.mono fun e w' h => by
          obtain ⟨A3, c3, rfl, _, _, ho, _, hE⟩ := h.parts
          simp only [hLn] at ho ⊢
          exact ⟨A3, c3, rfl, ho, hE⟩)
        clear KF hq hqq hA2 hze hzl hLn hnr hc1 hb hc hL hb1 h0 hr hac  hbs hbl hxa HB Hc hn1 hn2
        cases y with
        | true =>
          rw [if_pos (of_decide_eq_true hy)] at hR
          have HR := hide hR
          clear hR hy hz
          go_enter Try.func36, Try.ntmps36
          go_wp2_with (first
            | (go_at_call 51; (with_reducible refine (KA1.out).mono ?_); rintro e w1 ⟨A3, c3, rfl, ho1, hE1⟩; have O1 := hide ho1; have E1 := hide hE1; have ke := hide (KE.out A3 c3 w1 (own_words ho1)); clear ho1 hE1)
            | (go_at_call 42; (with_reducible refine (ke.out).mono ?_); rintro e w2 ⟨A4, c4, rfl, hb2, hE2⟩; have E2 := hide (Ext.trans E1.out hE2); have O2 := hide (O1.out.ext hE2); have ks := hide (KS.out A4 c4 w2 E2.out hb2); clear hb2 hE2)
            | (go_at_call 38; (with_reducible refine (ks.out).mono ?_); rintro e w3 ⟨rfl, hE3⟩; have E3 := hide (Ext.trans E2.out hE3); have O3 := hide (O2.out.ext hE3); clear hE3))
          go_ret3
          rw [← HR.out]
          exact ⟨_, rfl, O3.out, E3.out⟩
        | false =>
          rw [if_neg (of_decide_eq_false hy)] at hR
          have HR := hide hR
          clear hR hy hz
          go_enter Try.func36, Try.ntmps36
          go_wp2_with (first
            | (go_at_call 51; (with_reducible refine (KA1.out).mono ?_); rintro e w1 ⟨A3, c3, rfl, ho1, hE1⟩; have O1 := hide ho1; have E1 := hide hE1; have ke := hide (KE.out A3 c3 w1 (own_words ho1)); clear ho1 hE1)
            | (go_at_call 42; (with_reducible refine (ke.out).mono ?_); rintro e w2 ⟨A4, c4, rfl, hb2, hE2⟩; have E2 := hide (Ext.trans E1.out hE2); have O2 := hide (O1.out.ext hE2); have ks := hide (KS.out A4 c4 w2 E2.out hb2); clear hb2 hE2)
            | (go_at_call 38; (with_reducible refine (ks.out).mono ?_); rintro e w3 ⟨rfl, hE3⟩; have E3 := hide (Ext.trans E2.out hE3); clear hE3))
          go_ret3
          rw [← HR.out]
          exact ⟨_, rfl, OwnQ.nil_ _ _, E3.out⟩
      · rw [if_pos he] at hR
        have HR := hide hR
        have de : (e1 != 0) = true := by rw [bne_iff_ne]; exact he
        have KA1 : Hid (Calls Try.prog 51 #[.slice (some ⟨g, off, none⟩) c cap, .int .i64 (a : Int), .int .i64 (m : Int)] W fun e w' => ∃ v, e = .returned (.tuple #[v, .int .i64 nx, .int .i64 e1]) ∧ Ext W w') := hide (KF.out.mono fun e w' h => by
          obtain ⟨v, rfl, _, hE⟩ := h
          exact ⟨v, rfl, hE⟩)
        clear KF hnr hc1 hb hc hL hb1 h0 hr hac  HB Hc hR he
        go_enter Try.func36, Try.ntmps36
        go_wp2_with (go_at_call 51; (with_reducible refine (KA1.out).mono ?_); rintro e w1 ⟨v, rfl, hE1⟩; have E1 := hide hE1; clear hE1)
        go_ret3
        rw [← HR.out]
        exact ⟨_, rfl, OwnQ.nil_ _ _, E1.out⟩
end
section
open Go Go.RowKit
theorem enc_bounds {v n : Nat} (h : (encB v).length = n + 1) : v < 128 ^ (n + 1) ∧ (0 < n → 128 ^ n ≤ v) := by
  constructor
  · rcases Nat.lt_or_ge v (128 ^ (n + 1)) with h1 | h1
    · exact h1
    · have := encB_length_gt v (n + 1) h1; omega
  · intro hn
    obtain ⟨m, rfl⟩ : ∃ m, n = m + 1 := ⟨n - 1, by omega⟩
    rcases Nat.lt_or_ge v (128 ^ (m + 1)) with h1 | h1
    · have := encB_length_le v m h1; omega
    · exact h1
theorem grs_hi (v : Nat) : ∀ n, ∀ y ∈ grs v n, 128 ≤ y
  | 0 => by simp [grs]
  | n + 1 => by
    intro y hy
    rcases List.mem_append.1 hy with h | h
    · exact grs_hi v n y h
    · have : y = gr v n + 128 := by simpa using h
      omega
theorem scan_enc (v : Nat) (t : List Nat) (m : Nat) (hm : (encB v).length ≤ m) : scanG m (encB v ++ t) = some (encB v) := by
  obtain ⟨n, hn⟩ : ∃ n, (encB v).length = n + 1 := ⟨(encB v).length - 1, by have := encB_pos v; omega⟩
  have e := encB_grs v n hn
  have hl : n < (encB v ++ t).length := by rw [List.length_append]; omega
  have := scanG_at m (encB v ++ t) n (by omega) hl (by
    rw [e]
    have h1 : n = (grs v n).length := (grs_len v n).symm
    simp only [List.getD_eq_getElem?_getD, List.append_assoc]
    rw [List.getElem?_append_right (by rw [grs_len]; exact Nat.le_refl _), grs_len, Nat.sub_self]
    exact gr_lt v n) (fun i hi => by
    rw [e]
    simp only [List.getD_eq_getElem?_getD, List.append_assoc]
    have hin : i < (grs v n).length := by rw [grs_len]; exact hi
    rw [List.getElem?_append_left hin, List.getElem?_eq_getElem hin]
    exact grs_hi v n _ (List.getElem_mem hin))
  rw [this]
  congr 1
  rw [← hn, List.take_left']
  rfl
theorem ok_enc (v width : Nat) (h : v < 2 ^ width) : okG width (encB v) = true := by
  obtain ⟨n, hn⟩ : ∃ n, (encB v).length = n + 1 := ⟨(encB v).length - 1, by have := encB_pos v; omega⟩
  have e := encB_grs v n hn
  obtain ⟨b1, b2⟩ := enc_bounds hn
  have hg : gr v n = v / 128 ^ n := by
    unfold gr
    refine Nat.mod_eq_of_lt ?_
    rw [Nat.pow_succ] at b1
    exact Nat.div_lt_of_lt_mul b1
  rw [okG_form (j := n) (x := gr v n) hn (by rw [e]; simp)]
  have hp : 0 < 128 ^ n := Nat.pow_pos (by omega)
  have c1 : ¬ (gr v n = 0 ∧ 0 < n) := by
    rintro ⟨h0, hn0⟩
    have := (Nat.le_div_iff_mul_le hp).2 (by rw [Nat.one_mul]; exact b2 hn0)
    omega
  have c2 : 7 * n + Lib.bitLen (gr v n) ≤ width := by
    have hlt := gr_lt v n
    obtain ⟨_, _, cc⟩ := bitLen_spec (gr v n) (by omega)
    by_cases h0 : gr v n = 0
    · have hn0 : ¬ 0 < n := fun hn0 => c1 ⟨h0, hn0⟩
      rw [h0, show Lib.bitLen 0 = 0 by decide +kernel]; omega
    · obtain ⟨d1, d2⟩ := cc h0
      rcases Nat.lt_or_ge width (7 * n + Lib.bitLen (gr v n)) with hw | hw
      · have h1 : 2 ^ width ≤ 2 ^ (7 * n + (Lib.bitLen (gr v n) - 1)) := Nat.pow_le_pow_right (by omega) (by omega)
        rw [Nat.pow_add, pow_seven] at h1
        have h2 : 128 ^ n * 2 ^ (Lib.bitLen (gr v n) - 1) ≤ 128 ^ n * gr v n := Nat.mul_le_mul_left _ d2
        have h3 : 128 ^ n * gr v n ≤ v := by rw [hg]; exact Nat.mul_div_le v _
        omega
      · exact hw
  rw [decide_eq_true c2, Bool.and_true]
  by_cases h0 : gr v n = 0
  · have : ¬ 0 < n := fun hn0 => c1 ⟨h0, hn0⟩
    rw [decide_eq_false this, Bool.and_false]; rfl
  · rw [decide_eq_false h0]; rfl
theorem rd_enc (lb lr : List Nat) (v width most : Nat) (h : v < 2 ^ width) (hm : (encB v).length ≤ most) : rdG (lb ++ encB v ++ lr) (lb.length : Int) width most = some (encB v) := by
  unfold rdG
  rw [if_neg (by rw [List.append_assoc, List.length_append]; omega), Int.toNat_natCast, List.append_assoc, List.drop_left, scan_enc v lr most hm]
  show (if okG width (encB v) = true then _ else _) = _
  rw [if_pos (ok_enc v width h)]
theorem rdV_enc (lb lr : List Nat) (v : Nat) (h : v < 18446744073709551616) : rdV (lb ++ encB v ++ lr) (lb.length : Int) = ((v : Int), (lb.length : Int) + ((encB v).length : Int), 0) := by
  unfold rdV
  rw [rd_enc lb lr v 64 10 h (encB_length_le v 9 (by omega))]
  show (((decB (encB v) : Nat) : Int), _, _) = _
  rw [decB_encB]
end
section
open Go Go.RowKit
set_option maxRecDepth 100000 in
theorem q_same_ne (A A' : Option Addr) (n n' c c' : Nat) (W : World) (h : n ≠ n') (h1 : n ≤ 9223372036854775807) (h2 : n' ≤ 9223372036854775807) : Calls Try.prog 15 #[.slice A n c, .slice A' n' c'] W (Ret (.bool false) W) := by
  have hb : ((n : Int) != (n' : Int)) = true := by rw [bne_iff_ne]; omega
  have hb' : ¬ ((n : Int) = (n' : Int)) := by omega
  go_enter Try.func15, Try.ntmps15
  go_wp2_with fail
  go_ret
  exact ⟨rfl, Ext.refl _⟩
set_option maxHeartbeats 800000 in
set_option maxRecDepth 100000 in
theorem q_same_eq (A A' : Option Addr) (n c c' : Nat) (l m : List Nat) (W : World) (hl : WordsAt W A l) (hm : WordsAt W A' m) (hn : l.length = n) (hn' : m.length = n) (v : Bool) (hv : decide (l = m) = v) :
    Calls Try.prog 15 #[.slice A n c, .slice A' n c'] W (Ret (.bool v) W) := by
  have hlen := hl.2.1
  rw [hn] at hlen
  have HL := hide hl
  have HM := hide hm
  have Hn := hide hn
  have Hn' := hide hn'
  have Hv := hide hv
  have hb : ((n : Int) != (n : Int)) = false := by simp
  clear hl hm hn hn' hv
  go_enter Try.func15, Try.ntmps15
  go_wp2_with fail
  go_loopw [5] (fun i wr => ∃ k : Nat, k ≤ n ∧ i = .int .i64 k ∧ Hid (Ext W wr) ∧ Hid (l.take k = m.take k)) (fun i _ => n - (intOf i).toNat)
  case atStart => exact ⟨0, by omega, rfl, hide (Ext.refl _), hide (by simp)⟩
  case round =>
    obtain ⟨k, hk, rfl, E, T⟩ := hrel
    by_cases hlt : k < n
    · have hkl : k < l.length := by rw [Hn.out]; exact hlt
      have hkm : k < m.length := by rw [Hn'.out]; exact hlt
      obtain ⟨b, off, rfl, hb1, hc1⟩ := (HL.out.ext E.out).2.2 (by omega)
      obtain ⟨b', off', rfl, hb2, hc2⟩ := (HM.out.ext E.out).2.2 (by omega)
      have d1 := hc1 k hkl
      have d2 := hc2 k hkm
      have hs := hide (take_eq_succ hkl hkm T.out)
      have hne : Hid (l.getD k 0 ≠ m.getD k 0 → l ≠ m) := fun h e => h (by rw [e])
      obtain ⟨x, hx⟩ : ∃ x, l.getD k 0 = x := ⟨_, rfl⟩
      obtain ⟨y, hy⟩ : ∃ y, m.getD k 0 = y := ⟨_, rfl⟩
      rw [hx] at d1 hs hne
      rw [hy] at d2 hs hne
      clear hc1 hc2 hx hy hkl hkm hb1 hb2
      by_cases hxy : x = y
      · have q : ((x : Int) != (y : Int)) = false := by subst hxy; simp
        have Hxy := hide hxy
        clear hxy
        go_wp2_with fail
        go_quiet (fail)
        go_wp2_with fail
        go_roundw
        case rel => exact ⟨k + 1, by omega, by go_num, hide (E.out.trans (ext_drewN _ _)), hide (hs.out.2 Hxy.out)⟩
        case measure => simp [intOf]; omega
      · have q : ((x : Int) != (y : Int)) = true := by rw [bne_iff_ne]; omega
        go_wp2_with fail
        go_quiet (fail)
        go_wp2_with fail
        go_ret
        refine ⟨?_, E.out.trans (ext_drewN _ _)⟩
        have := hne.out hxy
        rw [← Hv.out, decide_eq_false this]
        rfl
    · obtain rfl : k = n := by omega
      go_wp2_with fail
      go_ret
      refine ⟨?_, E.out⟩
      have e : l = m := by
        have := T.out
        rw [List.take_of_length_le (by have := Hn.out; omega), List.take_of_length_le (by have := Hn'.out; omega)] at this
        exact this
      rw [← Hv.out, decide_eq_true e]
      rfl
theorem q_same (A A' : Option Addr) (n n' c c' : Nat) (l m : List Nat) (W : World) (hl : WordsAt W A l) (hm : WordsAt W A' m) (hn : l.length = n) (hn' : m.length = n') (v : Bool) (hv : decide (l = m) = v) :
    Calls Try.prog 15 #[.slice A n c, .slice A' n' c'] W (Ret (.bool v) W) := by
  by_cases h : n = n'
  · subst h
    exact q_same_eq A A' n c c' l m W hl hm hn hn' v hv
  · have e : v = false := by
      rw [← hv, decide_eq_false]
      intro e; subst e; omega
    subst e
    exact q_same_ne A A' n n' c c' W h (by have := hl.2.1; omega) (by have := hm.2.1; omega)
end
section
open Go Go.RowKit
/-- What PkPost says, by the slice's parts. -/
theorem PkPost.parts {o : Option (List Nat)} {W : World} {e : Ending} {w' : World} (h : PkPost o W e w') : ∃ A cap, e = .returned (.tuple #[.slice A (o.getD []).length cap, .bool o.isSome]) ∧ (o.getD []).length ≤ cap ∧ cap ≤ 9223372036854775807 ∧ OwnB W.heap.size w' (.slice A (o.getD []).length cap) (o.getD []) ∧ BytesAt w' A (o.getD []) ∧ Ext W w' := by
  obtain ⟨v, rfl, hO, hE⟩ := h
  obtain ⟨A, cap, rfl, h1, h2, h3⟩ := hO.at_
  exact ⟨A, cap, rfl, h1, h2, hO, h3, hE⟩
theorem UpPost.parts {o : Option (List Nat)} {W : World} {e : Ending} {w' : World} (h : UpPost o W e w') : ∃ A cap, e = .returned (.tuple #[.slice A (o.getD []).length cap, .bool o.isSome]) ∧ (o.getD []).length ≤ cap ∧ cap ≤ 9223372036854775807 ∧ OwnQ W.heap.size w' (.slice A (o.getD []).length cap) (o.getD []) ∧ WordsAt w' A (o.getD []) ∧ Ext W w' := by
  obtain ⟨v, rfl, hO, hE⟩ := h
  obtain ⟨A, cap, rfl, h1, h2, h3⟩ := hO.at_
  exact ⟨A, cap, rfl, h1, h2, hO, h3, hE⟩
theorem t_modI (a n : Int) (w : World) (ha : I64 a) (hn : I64 n) : Calls Try.prog 19 #[.int .i64 a, .int .i64 n] w (IntIn (InN n) .i64 w) :=
  (t_mod a n w ha hn).mono fun _ _ q => ⟨_, q.1, modN_in _ _, q.2.symm⟩
/-- A list that the tape gave: kept while other memory changes. -/
structure Bs (W : World) (B : Nat) (A : Option Addr) (n cap : Nat) (m : List Nat) (w : World) : Prop where
  e : Ext W w
  t : TapeOk W.heap.size w W.heap.size
  o : OwnQ B w (.slice A n cap) m
  gb : W.heap.size < B
section
variable {W : World} {B : Nat} {A : Option Addr} {n cap : Nat} {m : List Nat} {w w' : World}
theorem Bs.ext (s : Bs W B A n cap m w) (k : Ext w w') : Bs W B A n cap m w' := ⟨s.e.trans k, s.t.ext k, s.o.ext k, s.gb⟩
theorem Bs.upd (s : Bs W B A n cap m w) (u : Upd W.heap.size w w') (t : TapeOk W.heap.size w' W.heap.size) : Bs W B A n cap m w' := ⟨Upd.ext u s.e (Nat.le_refl _), t, s.o.upd u s.gb, s.gb⟩
theorem Bs.of {w1 : World} (h1 : Ext W w1) (hT : TapeOk W.heap.size w1 W.heap.size) {v : Value} (hs : v = .slice A n cap) (o : OwnQ w1.heap.size w v m) (t : TapeOk W.heap.size w W.heap.size) (u : Upd W.heap.size w1 w) : Bs W w1.heap.size A n cap m w := by
  subst hs
  exact ⟨Upd.ext u h1 (Nat.le_refl _), t, o, hT.2.1⟩
end
end
section
open Go Go.RowKit
theorem rdA_enc : ∀ (l pre acc post : List Nat), IsQ l → rdA (pre ++ encV l ++ post) acc l.length (pre.length : Int) = (acc ++ l, ((pre.length + (encV l).length : Nat) : Int), 0)
  | [], pre, acc, post, _ => by simp [rdA, encV]
  | x :: l, pre, acc, post, hq => by
    have hx : x < 18446744073709551616 := hq x (List.mem_cons_self ..)
    have e : pre ++ encV (x :: l) ++ post = pre ++ encB x ++ (encV l ++ post) := by rw [encV_cons]; simp
    have h := rdV_enc pre (encV l ++ post) x hx
    have ih := rdA_enc l (pre ++ encB x) (acc ++ [x]) post (fun y hy => hq y (List.mem_cons_of_mem _ hy))
    rw [List.length_append, List.append_assoc (pre ++ encB x)] at ih
    rw [e, List.length_cons, rdA, h, if_pos rfl]
    simp only [Int.toNat_natCast]
    rw [show (pre.length : Int) + ((encB x).length : Int) = ((pre.length + (encB x).length : Nat) : Int) by omega, ih, encV_cons, List.length_append, Nat.add_assoc]
    simp
theorem getD_mid (pre post : List Nat) (x : Nat) (a : Nat) (ha : pre.length = a) : (pre ++ x :: post).getD a 0 = x := by
  subst ha
  simp [List.getD_eq_getElem?_getD]
theorem rdN_enc (l pre post : List Nat) (hq : IsQ l) (hn : l.length ≤ 65536) : rdN (pre ++ (enN l).1 ++ post) pre.length l.length = (l, ((pre.length + (enN l).1.length : Nat) : Int), 0) := by
  unfold enN
  rw [if_neg (by omega)]
  split
  · have hp := pkR_wdt hq hn
    obtain ⟨q, hqq⟩ : ∃ q, upN (pkN l (wdt l)) (pkS l) 8 = q := ⟨_, rfl⟩
    have hql : q.length = pkS l := by rw [← hqq, upN_len]
    rw [hqq] at hp
    rw [hqq]
    have hu := upR_pk hq hp
    have hw := wdt_le hq
    have e0 : (pre ++ (1 :: wdt l :: q) ++ post) = pre ++ 1 :: (wdt l :: q ++ post) := by simp
    have e1 : (pre ++ (1 :: wdt l :: q) ++ post) = (pre ++ [1]) ++ wdt l :: (q ++ post) := by simp
    have e2 : (pre ++ (1 :: wdt l :: q) ++ post) = (pre ++ [1, wdt l]) ++ (q ++ post) := by simp
    unfold rdN
    have g0 : (pre ++ (1 :: wdt l :: q) ++ post).getD pre.length 0 = 1 := by rw [e0]; exact getD_mid _ _ _ _ rfl
    have g1 : (pre ++ (1 :: wdt l :: q) ++ post).getD (pre.length + 1) 0 = wdt l := by rw [e1]; exact getD_mid _ _ _ _ (by simp)
    have d2 : (pre ++ (1 :: wdt l :: q) ++ post).drop (pre.length + 1 + 1) = q ++ post := by rw [e2]; exact List.drop_left' (by simp)
    have hlen : (pre ++ (1 :: wdt l :: q) ++ post).length = pre.length + 2 + q.length + post.length := by simp; omega
    rw [g0, if_neg (by omega), if_pos rfl]
    unfold rdK
    have hS : (l.length * wdt l + 7) / 8 = q.length := by rw [hql]; rfl
    rw [g1, d2, hlen, if_neg (by omega), if_neg (by omega), hS, if_neg (by omega), List.take_left' rfl, hu]
    simp only [List.length_cons]
    congr 2
    omega
  · unfold rdN
    have e0 : (pre ++ (0 :: encV l) ++ post) = pre ++ 0 :: (encV l ++ post) := by simp
    have e1 : (pre ++ (0 :: encV l) ++ post) = (pre ++ [0]) ++ encV l ++ post := by simp
    have g0 : (pre ++ (0 :: encV l) ++ post).getD pre.length 0 = 0 := by rw [e0]; exact getD_mid _ _ _ _ rfl
    rw [g0, if_pos rfl, e1]
    have := rdA_enc l (pre ++ [0]) [] post hq
    rw [List.length_append, List.length_singleton] at this
    rw [show (pre.length : Int) + 1 = ((pre.length + 1 : Nat) : Int) by omega, this]
    simp only [List.length_cons, List.nil_append]
    congr 2
    omega
/-- What is encoded is read back. -/
theorem deN_enc (l pre post : List Nat) (hq : IsQ l) (hn : l.length ≤ 65536) : deN (pre ++ (enN l).1 ++ post) pre.length l.length = (l, (pre.length : Int) + ((enN l).1.length : Int), 0) := by
  have h1 := (enN_len hq hn).1
  rw [deN_in (by rw [List.length_append, List.length_append]; omega) hn (rdN_enc l pre post hq hn), if_neg (by omega), if_pos ?_, Int.natCast_add]
  rw [Int.toNat_natCast, Nat.add_sub_cancel_left, List.append_assoc, List.drop_left, List.take_left' rfl]
end
section
open Go Go.RowKit
def IsT (l : List Int) : Prop := ∀ x ∈ l, I64 x
theorem getDT {l : List Int} {k : Nat} (h : k < l.length) : l.getD k 0 = l[k] := by simp [List.getD_eq_getElem?_getD, h]
theorem takeT_succ {l : List Int} {k : Nat} (h : k < l.length) : l.take (k + 1) = l.take k ++ [l.getD k 0] := by
  rw [getDT h, List.take_succ_eq_append_getElem h]
theorem IsT.nil : IsT [] := by intro x hx; simp at hx
theorem IsT.app {l m : List Int} (h : IsT l) (k : IsT m) : IsT (l ++ m) := by
  intro x hx; rcases List.mem_append.1 hx with a | a
  · exact h x a
  · exact k x a
theorem IsT.one {x : Int} (h : I64 x) : IsT [x] := by intro y hy; simp at hy; subst hy; exact h
theorem IsT.take {l : List Int} (h : IsT l) (k : Nat) : IsT (l.take k) := fun x hx => h x (List.mem_of_mem_take hx)
theorem IsT.drop {l : List Int} (h : IsT l) (k : Nat) : IsT (l.drop k) := fun x hx => h x (List.mem_of_mem_drop hx)
theorem IsT.get {l : List Int} (h : IsT l) (k : Nat) : I64 (l.getD k 0) := by
  rw [List.getD_eq_getElem?_getD]
  cases hk : l[k]? with
  | none => exact ⟨by simp, by simp⟩
  | some x => exact h x (List.mem_of_getElem? hk)
def t8s (l : List Int) : List Value := l.map fun x : Int => Value.int .i64 x
theorem t8s_len (l : List Int) : (t8s l).length = l.length := by simp [t8s]
theorem t8s_one (l : List Int) : ∀ u ∈ t8s l, u.oneCell' = true := by
  intro u hu; simp only [t8s, List.mem_map] at hu; obtain ⟨x, _, rfl⟩ := hu; rfl
theorem t8s_app (l m : List Int) : t8s (l ++ m) = t8s l ++ t8s m := by simp [t8s]
/-- At A the words l lie in memory that is there (whatever A, if there is none). -/
def TimesAt (w : World) (A : Option Addr) (l : List Int) : Prop :=
  IsT l ∧ l.length ≤ 9223372036854775807 ∧ (0 < l.length → ∃ b off, A = some ⟨b, off, none⟩ ∧ b < w.heap.size ∧ ∀ j, j < l.length → w.cell? ⟨b, off + j, none⟩ = some (.int .i64 (l.getD j 0)))
theorem TimesAt.nil (w : World) (A : Option Addr) : TimesAt w A [] := ⟨IsT.nil, by simp, fun h => absurd h (by simp)⟩
theorem TimesAt.ext {w w' : World} {A : Option Addr} {l : List Int} (h : TimesAt w A l) (e : Ext w w') : TimesAt w' A l :=
  ⟨h.1, h.2.1, fun hp => by
    obtain ⟨b, off, hA, hb, hc⟩ := h.2.2 hp
    exact ⟨b, off, hA, Nat.lt_of_lt_of_le hb e.size, fun j hj => (e.cell (p := ⟨b, off + j, none⟩) hb).trans (hc j hj)⟩⟩
/-- Changes elsewhere. -/
theorem TimesAt.keep {w w' : World} {A : Option Addr} {l : List Int} (h : TimesAt w A l) (hs : w.heap.size ≤ w'.heap.size) (e : ∀ b off, A = some ⟨b, off, none⟩ → b < w.heap.size → w'.heap[b]? = w.heap[b]?) : TimesAt w' A l :=
  ⟨h.1, h.2.1, fun hp => by
    obtain ⟨b, off, hA, hb, hc⟩ := h.2.2 hp
    exact ⟨b, off, hA, Nat.lt_of_lt_of_le hb hs, fun j hj => (World.cell?_of_block (a := ⟨b, off + j, none⟩) (e b off hA hb)).trans (hc j hj)⟩⟩
theorem TimesAt.drop {w : World} {A : Option Addr} {l : List Int} (h : TimesAt w A l) (k cap : Nat) (hc : l.length ≤ cap) :
    TimesAt w (if cap = k then A else A.map (·.add (k * 1))) (l.drop k) := by
  refine ⟨h.1.drop k, by rw [List.length_drop]; have := h.2.1; omega, fun hp => ?_⟩
  rw [List.length_drop] at hp
  obtain ⟨b, off, rfl, hb, hcl⟩ := h.2.2 (by omega)
  rw [if_neg (by omega)]
  refine ⟨b, off + k, by
    simp only [Option.map_some, Option.some.injEq]
    unfold Addr.add
    split
    · rename_i h0; simp only [Addr.mk.injEq, and_true, true_and]; omega
    · simp, hb, fun j hj => ?_⟩
  rw [List.length_drop] at hj
  rw [Nat.add_assoc, hcl (k + j) (by omega)]
  simp [List.getD_eq_getElem?_getD, List.getElem?_drop]
theorem TimesAt.take {w : World} {A : Option Addr} {l : List Int} (h : TimesAt w A l) (k : Nat) : TimesAt w A (l.take k) := by
  refine ⟨h.1.take k, by rw [List.length_take]; have := h.2.1; omega, fun hp => ?_⟩
  rw [List.length_take] at hp
  obtain ⟨b, off, rfl, hb, hcl⟩ := h.2.2 (by omega)
  refine ⟨b, off, rfl, hb, fun j hj => ?_⟩
  rw [List.length_take] at hj
  rw [hcl j (by omega)]
  simp [List.getD_eq_getElem?_getD, List.getElem?_take, show j < k by omega]
theorem info_t64 : (Try.prog.info? 2).map (fun i => (i.zero, i.size, i.bytes)) = some (some (.int .i64 0), 1, 8) := by kernel_rfl
/-- The slice v owns the words l: it is nil, or begins at the head of a block from B on. -/
def OwnT (B : Nat) (w : World) (v : Value) (l : List Int) : Prop := w.ownsRow B 2 1 v l.length (t8s l) ∧ IsT l
theorem OwnT.at_ {B : Nat} {w : World} {v : Value} {l : List Int} (h : OwnT B w v l) : ∃ A cap, v = .slice A l.length cap ∧ l.length ≤ cap ∧ cap ≤ 9223372036854775807 ∧ TimesAt w A l := by
  rcases h.1.2 with ⟨rfl, h0⟩ | ⟨g, cap, cur, rfl, hg, hh, hnc, hcp, hcs, htake⟩
  · obtain rfl : l = [] := List.length_eq_zero_iff.1 h0
    exact ⟨none, 0, rfl, Nat.le_refl _, by omega, TimesAt.nil _ _⟩
  · unfold maxLen at hcp
    refine ⟨_, cap, rfl, hnc, hcp, h.2, by omega, fun _ => ⟨g, 0, rfl, (Array.getElem?_eq_some_iff.1 hh).1, fun j hj => ?_⟩⟩
    have := h.1.cells (g := g) rfl j (Value.int .i64 (l.getD j 0)) (by rw [getDT hj]; simp [t8s, hj])
    have e : (⟨g, 0, none⟩ : Addr).add j = ⟨g, 0 + j, none⟩ := by unfold Addr.add; split <;> simp_all
    rw [e] at this
    exact this
theorem OwnT.kept {B : Nat} {w w' : World} {v : Value} {l : List Int} (h : OwnT B w v l) {row : Option Nat} (hg : w.grownBy w' row) (hne : v.ownBlock = none ∨ v.ownBlock ≠ row) : OwnT B w' v l := ⟨h.1.kept hg hne, h.2⟩
theorem OwnT.alloc {B : Nat} {w : World} {v : Value} {l : List Int} (h : OwnT B w v l) (o : Obj) : OwnT B (w.alloc o) v l := ⟨h.1.alloc o, h.2⟩
theorem OwnT.drew {B : Nat} {w : World} {v : Value} {l : List Int} (h : OwnT B w v l) : OwnT B w.drew v l := h
theorem OwnT.nil_ (B : Nat) (w : World) : OwnT B w (.slice none 0 0) [] := ⟨World.ownsRow_nil _ _ _ _, IsT.nil⟩
theorem OwnT.keep {B : Nat} {w w' : World} {v : Value} {l : List Int} (h : OwnT B w v l) (hs : w.heap.size ≤ w'.heap.size) (e : ∀ g, v.ownBlock = some g → w'.heap[g]? = w.heap[g]?) : OwnT B w' v l := by
  refine ⟨?_, h.2⟩
  obtain ⟨h1, h2 | ⟨g, cap, cur, hv, hg, hh, r⟩⟩ := h.1
  · exact ⟨h1, Or.inl h2⟩
  · exact ⟨h1, Or.inr ⟨g, cap, cur, hv, hg, by rw [e g (by rw [hv]; rfl)]; exact hh, r⟩⟩
theorem OwnT.ext {B : Nat} {w w' : World} {v : Value} {l : List Int} (h : OwnT B w v l) (e : Ext w w') : OwnT B w' v l := by
  refine ⟨?_, h.2⟩
  obtain ⟨h1, h2 | ⟨g, cap, cur, hv, hg, hh, r⟩⟩ := h.1
  · exact ⟨h1, Or.inl h2⟩
  · exact ⟨h1, Or.inr ⟨g, cap, cur, hv, hg, by rw [e.block g (Array.getElem?_eq_some_iff.1 hh).1]; exact hh, r⟩⟩
theorem OwnT.less {B B' : Nat} {w : World} {v : Value} {l : List Int} (h : OwnT B w v l) (hB : B' ≤ B) : OwnT B' w v l := by
  refine ⟨?_, h.2⟩
  obtain ⟨h1, h2 | ⟨g, cap, cur, hv, hg, r⟩⟩ := h.1
  · exact ⟨h1, Or.inl h2⟩
  · exact ⟨h1, Or.inr ⟨g, cap, cur, hv, by omega, r⟩⟩
theorem own_ofT {w : World} {B : Nat} {g n cap : Nat} {l m : List Int} (hB : B ≤ g) (hh : w.heap[g]? = some (.cells (t8s (l ++ m)).toArray 2 (0, 0))) (hn : l.length = n) (hc : cap = n + m.length) (hm : cap ≤ 9223372036854775807) (hb : IsT l) : OwnT B w (.slice (some ⟨g, 0, none⟩) n cap) l := by
  subst hn hc
  refine ⟨⟨by rw [t8s_len]; omega, Or.inr ⟨g, _, _, rfl, hB, hh, by omega, by unfold maxLen; omega, by simp [t8s], ?_⟩⟩, hb⟩
  rw [t8s_app]; simp [t8s]
theorem madeT (n : Nat) : (madeCells (Value.int .i64 0).cells (n * 1)).toList = t8s (List.replicate n 0) := by
  simp only [t8s, madeCells, Value.cells, Nat.mul_one, List.map_replicate]
  apply List.ext_getElem
  · simp
  · intro i h1 h2
    simp [Nat.mod_one]
def OwnRetT (l : List Int) (w : World) (e : Ending) (w' : World) : Prop := ∃ v, e = .returned v ∧ OwnT w.heap.size w' v l ∧ Ext w w'
theorem run_appendT (B : Nat) (w : World) (ty : TypeId) (v : Value) (l0 l : List Int) (hown : OwnT B w v l0) (A : Option Addr) (m c : Nat) (hb : TimesAt w A l) (hm : l.length = m) (hlen : l0.length + l.length ≤ 17592186044416) (hbase : B ≤ w.heap.size) :
    ∃ v' w', (Builtin.append_ #[22, 22] ty #[v, .slice A m c]).run Try.prog w = .ok v' w' ∧ OwnT B w' v' (l0 ++ l) ∧ w.grownBy w' v.ownBlock ∧ (v'.ownBlock = v.ownBlock ∨ v'.ownBlock = some w.heap.size) := by
  subst hm
  obtain ⟨i0, hi0, hz0, hz1, hz2⟩ := info_parts info_t64
  have h63 : l0.length + l.length ≤ maxLen := by unfold maxLen; omega
  rcases A with _ | ad
  · have h0 : l = [] := by
      rcases Nat.eq_zero_or_pos l.length with h | h
      · exact List.length_eq_zero_iff.1 h
      · obtain ⟨b, off, h', _⟩ := hb.2.2 h
        cases h'
    subst h0
    refine ⟨v, w, ?_, by rw [List.append_nil]; exact hown, World.grownBy.refl w _, .inl rfl⟩
    rcases hown.1.2 with ⟨rfl, _⟩ | ⟨g, cap, cur, rfl, _, _, hnc, _⟩
    · simp [Builtin.append_, run_underlying Try.underlying22, sizeOf, typeInfo, hi0, Builtin.lenOf, Builtin.firstCells]
    · simp [Builtin.append_, run_underlying Try.underlying22, sizeOf, typeInfo, hi0, Builtin.lenOf, Builtin.firstCells, hnc, storeCells]
  · have hcells : ∀ j u, (t8s l)[j]? = some u → w.cell? (ad.add j) = some u := by
      intro j u hu
      have hj : j < l.length := by
        rcases Nat.lt_or_ge j (t8s l).length with h | h
        · rwa [t8s_len] at h
        · rw [List.getElem?_eq_none h] at hu; cases hu
      obtain ⟨b, off, h', _, hc⟩ := hb.2.2 (by omega)
      obtain rfl : ad = ⟨b, off, none⟩ := Option.some.inj h'
      rw [add_at, hc j hj, ← hu, getDT hj]
      simp [t8s, hj]
    obtain ⟨v', w', hrun, h2, h3, _, h5⟩ := run_append_own_at (P := Try.prog) w B 22 ty 2 i0 _ 1 8 Try.underlying22 hi0 hz0 hz1 hz2 rfl (by omega) v l0.length (t8s l0) hown.1 ad l.length c (t8s l) (by rw [t8s_len]; omega) hcells (t8s_one l) h63 (by omega) hbase
    refine ⟨v', w', hrun, ⟨?_, hown.2.app hb.1⟩, h3, h5⟩
    rw [t8s_app, List.length_append]
    exact h2
theorem wl_appendT {ops : Array Oper} {rest : List Oper} {o : Oper} {a : Act} {Q : Exit → Act → World → Prop} {w : World} (hgd : o.guard = none) (s x : Operand)
    (ho : o.op = .call { callee := .builtin .append, args := #[s, x], argTypes := #[22, 22] })
    (B : Nat) (v : Value) (l0 l : List Int) (hs : a.eval s = v) (hown : OwnT B w v l0) (A : Option Addr) (m c : Nat) (hx : a.eval x = .slice A m c) (hb : TimesAt w A l) (hm : l.length = m) (hlen : l0.length + l.length ≤ 17592186044416) (hbase : B ≤ w.heap.size)
    (h : ∀ v' w', OwnT B w' v' (l0 ++ l) → w.grownBy w' v.ownBlock → (v'.ownBlock = v.ownBlock ∨ v'.ownBlock = some w.heap.size) → wpList Try.prog ops Q rest (a.put o.dst v') w') : wpList Try.prog ops Q (o :: rest) a w :=
  wpList_plain hgd fun _ hK => by
    obtain ⟨v', w', hrun, h2, h3, h4⟩ := run_appendT B w o.type v l0 l hown A m c hb hm hlen hbase
    unfold Oper.wp execOp
    simp only [ho, resolve, invoke, builtin, Sem.run_bind, Sem.run_pure, Result.andThen_ok, List.map_toArray, List.map_cons, List.map_nil, hs, hx, hrun]
    exact hK _ _ (h v' w' h2 h3 h4)
/-- The element that append lays down first. -/
theorem one_atT (w : World) (x : Int) (hx : I64 x) (u : Value) (hu : u = .int .i64 x) : TimesAt (w.alloc (.cells #[u] 2)) (some ⟨w.heap.size, 0, none⟩) [x] := by
  subst hu
  refine ⟨IsT.one hx, by simp, fun _ => ⟨w.heap.size, 0, rfl, by simp, fun j hj => ?_⟩⟩
  obtain rfl : j = 0 := by simpa using hj
  rw [World.cell?_alloc_at _ _ _ _ rfl]; rfl
theorem new_atT (w : World) (l : List Int) (hl : IsT l) (hm : l.length ≤ 9223372036854775807) (cs : Array Value) (hc : cs = (t8s l).toArray) : TimesAt (w.alloc (.cells cs 2)) (some ⟨w.heap.size, 0, none⟩) l := by
  subst hc
  refine ⟨hl, hm, fun _ => ⟨w.heap.size, 0, rfl, by simp, fun j hj => ?_⟩⟩
  rw [Nat.zero_add, cell_of_row _ w.heap.size j _ _ _ (heap_alloc_new w _), getDT hj]
  simp [t8s, hj]
/-- A row that the call owns, and what it grew to: nothing older changed. -/
theorem below_grownT {W w w' : World} {v : Value} {l : List Int} {B : Nat} (h : Below W.heap.size W w) (hB : W.heap.size ≤ B) (hown : OwnT B w v l) (hg : w.grownBy w' v.ownBlock) : Below W.heap.size W w' :=
  h.grown hg h.size (fun k hk => by
    obtain ⟨h1, h2⟩ := hown.1.lt k hk
    omega)
theorem OwnT.upd {B b : Nat} {w w' : World} {v : Value} {l : List Int} (h : OwnT B w v l) (u : Upd b w w') (hb : b < B) : OwnT B w' v l := by
  refine ⟨?_, h.2⟩
  obtain ⟨h1, h2 | ⟨g, cap, cur, hv, hg, hh, r⟩⟩ := h.1
  · exact ⟨h1, Or.inl h2⟩
  · exact ⟨h1, Or.inr ⟨g, cap, cur, hv, hg, by rw [u.2.2.2.2 g (Array.getElem?_eq_some_iff.1 hh).1 (by omega)]; exact hh, r⟩⟩
theorem TimesAt.upd {b : Nat} {w w' : World} {A : Option Addr} {l : List Int} (h : TimesAt w A l) (u : Upd b w w') (hb : ∀ g off, A = some ⟨g, off, none⟩ → g ≠ b) : TimesAt w' A l :=
  h.keep u.2.2.2.1 fun g off hA hg => u.2.2.2.2 g hg (hb g off hA)
theorem run_mkT (n m : Nat) (hnm : n ≤ m) (hm : m ≤ 35184372088832) (w : World) : (Instr.makeSlice 22 (.int .i64 (n : Int)) (.int .i64 (m : Int))).run Try.prog w = .ok (.slice (some ⟨w.heap.size, 0, none⟩) n m) (w.alloc (.cells (t8s (List.replicate m 0)).toArray 2)) := by
  obtain ⟨i0, hi0, hz0, hz1, hz2⟩ := info_parts info_t64
  have := run_make (P := Try.prog) w 22 2 i0 (.int .i64 0) Try.underlying22 hi0 hz0 .i64 .i64 (n : Int) (m : Int) (by omega) (by omega) (by rw [hz2]; omega) (by omega)
  rw [this, hz1, Int.toNat_natCast, Int.toNat_natCast]
  have e : madeCells (Value.int .i64 0).cells (m * 1) = (t8s (List.replicate m 0)).toArray := by
    rw [← madeT m]
  rw [e]
theorem idxT (b off N cap j : Nat) (h : j < N) (w : World) : (Instr.indexAt 22 (.slice (some ⟨b, off, none⟩) N cap) (.int .i64 (j : Int))).run Try.prog w = .ok (.pointer (some ⟨b, off + j, none⟩)) w := by
  have hz := Try.sizeOf2
  have he : Try.prog.elem 22 = 2 := by kernel_rfl
  have hr := run_indexAt_slice (P := Try.prog) (w := w) 22 ⟨b, off, none⟩ N cap .i64 (j : Int) (by kernel_rfl)
  rw [hr, if_pos ⟨by omega, by omega⟩, he, hz]
  simp [Result.andThen, add_at]
theorem own_times {w : World} {A : Option Addr} {c cap B : Nat} {l : List Int} (h : OwnT B w (.slice A c cap) l) : TimesAt w A l := by
  obtain ⟨A', cap', he, _, _, hw⟩ := h.at_
  cases he
  exact hw
theorem own_t {B g m : Nat} {w : World} {L : List Int} (hB : B ≤ g) (h : Blk w g 2 (t8s L).toArray) (hL : L.length = m) (hm : m ≤ 1048576) (hq : IsT L) : OwnT B w (.slice (some ⟨g, 0, none⟩) m m) L :=
  own_ofT (m := []) hB (by rw [List.append_nil]; exact h) hL (by simp) (by omega) hq
def incB (l : List Int) : Bool := decide (∀ i, i < l.length - 1 → l.getD i 0 < l.getD (i + 1) 0)
def fin (r : List Nat × Int × Int) (o : Option (List Int)) : List Int × Int × Int := if r.2.2 = 0 then (match o with | none => ([], 0, 7) | some l => (l, r.2.1, 0)) else ([], 0, r.2.2)
theorem incB_iff {l : List Int} : incB l = true ↔ ∀ i, i + 1 < l.length → l.getD i 0 < l.getD (i + 1) 0 := by
  unfold incB
  rw [decide_eq_true_iff]
  exact ⟨fun h i hi => h i (by omega), fun h i hi => h i (by omega)⟩
theorem wrap64_64 (x : Int) : -9223372036854775808 ≤ wrap64 x ∧ wrap64 x ≤ 9223372036854775807 := by simp only [wrap64]; omega
theorem getD_appL {l : List Int} (m : List Int) {i : Nat} (h : i < l.length) : (l ++ m).getD i 0 = l.getD i 0 := by
  simp only [List.getD_eq_getElem?_getD, List.getElem?_append_left h]
theorem getD_end (l : List Int) (x : Int) : (l ++ [x]).getD l.length 0 = x := by simp [List.getD_eq_getElem?_getD]
theorem incB_snoc {l : List Int} {i : Nat} (h : incB l = true) (hl : l.length = i + 1) {x : Int} (hx : l.getD i 0 < x) : incB (l ++ [x]) = true := by
  rw [incB_iff] at h ⊢
  intro j hj
  rw [List.length_append, List.length_singleton] at hj
  rw [getD_appL [x] (by omega)]
  by_cases hji : j = i
  · subst hji
    have := getD_end l x
    rw [hl] at this
    rw [this]; exact hx
  · rw [getD_appL [x] (by omega)]
    exact h j (by omega)
theorem rb1T {k : IntKind} {a a' : Int} (h1 : a = a') : Ending.returned (Value.int k a) = .returned (.int k a') := by rw [h1]
end
section
open Go Go.ChangeShapes Go.WideShapes Go.ChangeAt Go.RowKit
theorem cellsI64 : Try.prog.cellsOf 2 = 1 := by kernel_rfl
theorem timesU8 : Try.prog.bytesOf 2 = 8 := by kernel_rfl
theorem i64_range {x : Int} (h : (Lit.int .i64 x).wf = true) : I64 x := by
  have h1 : IntKind.i64.min = -9223372036854775808 := rfl
  have h2 : IntKind.i64.max = 9223372036854775807 := rfl
  simp only [Lit.wf, Bool.and_eq_true, decide_eq_true_eq] at h
  unfold I64
  omega
/-- What an argument of type []byte is, and how long. -/
def InT (W : World) (a : Option Addr) (len cap : Nat) (l : List Int) : Prop := l.length = len ∧ len ≤ cap ∧ cap ≤ 17592186043904 ∧ TimesAt W a l
theorem times_of_trod {H : Type} {enc : TypeId × Value → H} {W : World} {a : Option Addr} {len cap : Nat} {d : DataW H} {ps : List MemPlace} {ts : List TypeId} {ds : List (DataW H)} {j : Nat}
    (h : DataW.Trod enc Try.prog W 0 (fun _ => true) true 22 (.slice a len cap) d ps) (hsz : (DataW.weightsEach Try.prog ts ds).all (· ≤ reachBytes) = true) (ht : ts[j]? = some 22) (hd : ds[j]? = some d) : ∃ l, InT W a len cap l := by
  obtain ⟨fuel, hf⟩ := h
  rcases open_ints Try.underlying22 Try.underlying2 cellsI64 hf with ⟨hcs, _⟩ | ⟨x, n, c, zs, hcs, _, hl, hm, hz, hx, hcell, hwz⟩
  · simp [Value.cells] at hcs
    obtain ⟨rfl, rfl, rfl⟩ := hcs
    exact ⟨[], rfl, Nat.le_refl _, by omega, TimesAt.nil _ _⟩
  · simp [Value.cells] at hcs
    obtain ⟨rfl, rfl, rfl⟩ := hcs
    simp only [Prod.mk.injEq] at hx
    obtain ⟨rfl, _⟩ := hx
    have hw := sized_slice hsz (j := j) (t := 22) (e := 2) ht hd Try.underlying22
    rw [timesU8] at hw
    simp only [lits, List.length_map, List.length_take, List.length_drop, reachBytes] at hw
    have hz : zs.length = cap := by simpa using hz
    have hr : ∀ z ∈ zs, I64 z := fun z hz => i64_range (hwz _ hz)
    refine ⟨zs.take len, by simp; omega, hl, by omega, fun y hy => hr y (List.mem_of_mem_take hy), by simp; omega, fun hp => ?_⟩
    simp only [List.length_take] at hp ⊢
    obtain ⟨b, off, rfl, hc'⟩ := ints_at hcell (by omega)
    refine ⟨b, off, rfl, block_lt_of_cell (a := ⟨b, off + 0, none⟩) (hc' 0 (by omega)), fun i hi => ?_⟩
    have hi2 : i < zs.length := by omega
    rw [hc' i (by omega)]
    congr 2
    simp [List.getD_eq_getElem?_getD, List.getElem?_take, show i < len by omega, hi2]
end
section
open Go Go.RowKit
/-- The differences, modulo 2^64, one before the other. -/
def difF (p : Int) : List Int → List Int
  | [] => []
  | x :: l => wrap64 (x - p) :: difF x l
def difL : List Int → List Int
  | [] => []
  | x :: l => x :: difF x l
def sumF (p : Int) : List Int → List Int
  | [] => []
  | x :: l => wrap64 (p + x) :: sumF (wrap64 (p + x)) l
def sumL : List Int → List Int
  | [] => []
  | x :: l => x :: sumF x l
theorem difF_len (p : Int) : ∀ l, (difF p l).length = l.length
  | [] => rfl
  | x :: l => by simp only [difF, List.length_cons, difF_len x l]
theorem difL_len : ∀ l, (difL l).length = l.length
  | [] => rfl
  | x :: l => by simp only [difL, List.length_cons, difF_len]
theorem sumF_len (p : Int) : ∀ l, (sumF p l).length = l.length
  | [] => rfl
  | x :: l => by simp only [sumF, List.length_cons, sumF_len _ l]
theorem sumL_len : ∀ l, (sumL l).length = l.length
  | [] => rfl
  | x :: l => by simp only [sumL, List.length_cons, sumF_len]
theorem wrap64_id {x : Int} (h : I64 x) : wrap64 x = x := by unfold I64 at h; simp only [wrap64]; omega
theorem difF_t (p : Int) : ∀ l, IsT (difF p l)
  | [] => IsT.nil
  | x :: l => by
    intro y hy
    simp only [difF, List.mem_cons] at hy
    rcases hy with rfl | hy
    · exact wrap64_64 _
    · exact difF_t x l y hy
theorem difL_t {l : List Int} (h : IsT l) : IsT (difL l) := by
  cases l with
  | nil => exact IsT.nil
  | cons x l =>
    intro y hy
    simp only [difL, List.mem_cons] at hy
    rcases hy with rfl | hy
    · exact h _ (List.mem_cons_self ..)
    · exact difF_t x l y hy
theorem sumF_t (p : Int) : ∀ l, IsT (sumF p l)
  | [] => IsT.nil
  | x :: l => by
    intro y hy
    simp only [sumF, List.mem_cons] at hy
    rcases hy with rfl | hy
    · exact wrap64_64 _
    · exact sumF_t _ l y hy
theorem sumL_t {l : List Int} (h : IsT l) : IsT (sumL l) := by
  cases l with
  | nil => exact IsT.nil
  | cons x l =>
    intro y hy
    simp only [sumL, List.mem_cons] at hy
    rcases hy with rfl | hy
    · exact h _ (List.mem_cons_self ..)
    · exact sumF_t x l y hy
theorem sum_dif (p : Int) : ∀ l, IsT l → sumF p (difF p l) = l
  | [], _ => rfl
  | x :: l, h => by
    have hx := h x (List.mem_cons_self ..)
    unfold I64 at hx
    have e : wrap64 (p + wrap64 (x - p)) = x := by simp only [wrap64]; omega
    simp only [difF, sumF, e, sum_dif x l (fun y hy => h y (List.mem_cons_of_mem _ hy))]
theorem sumL_dif {l : List Int} (h : IsT l) : sumL (difL l) = l := by
  cases l with
  | nil => rfl
  | cons x l => simp only [difL, sumL, sum_dif x l (fun y hy => h y (List.mem_cons_of_mem _ hy))]
theorem difF_app (p : Int) : ∀ l x, difF p (l ++ [x]) = difF p l ++ [wrap64 (x - (p :: l).getD l.length 0)]
  | [], x => rfl
  | y :: l, x => by
    simp only [List.cons_append, difF, difF_app y l x, List.length_cons]
    congr 2
theorem difL_snoc {l : List Int} {k : Nat} (h : l.length = k + 1) (x : Int) : difL (l ++ [x]) = difL l ++ [wrap64 (x - l.getD k 0)] := by
  cases l with
  | nil => simp at h
  | cons y l =>
    have hk : k = l.length := by simpa using h.symm
    subst hk
    simp only [List.cons_append, difL, difF_app]
theorem difL_get {l : List Int} {k : Nat} (hk : k + 1 < l.length) : difL (l.take (k + 1 + 1)) = difL (l.take (k + 1)) ++ [wrap64 (l.getD (k + 1) 0 - l.getD k 0)] := by
  rw [takeT_succ hk, difL_snoc (k := k) (by rw [List.length_take]; omega)]
  congr 3
  simp [List.getD_eq_getElem?_getD, List.getElem?_take]
theorem sumF_app (p : Int) : ∀ l x, sumF p (l ++ [x]) = sumF p l ++ [wrap64 ((p :: sumF p l).getD l.length 0 + x)]
  | [], x => rfl
  | y :: l, x => by
    simp only [List.cons_append, sumF, sumF_app _ l x, List.length_cons]
    congr 2
theorem sumL_snoc {l : List Int} {k : Nat} (h : l.length = k + 1) (x : Int) : sumL (l ++ [x]) = sumL l ++ [wrap64 ((sumL l).getD k 0 + x)] := by
  cases l with
  | nil => simp at h
  | cons y l =>
    have hk : k = l.length := by simpa using h.symm
    subst hk
    simp only [List.cons_append, sumL, sumF_app]
theorem sumL_get {l : List Int} {k : Nat} (hk : k + 1 < l.length) : sumL (l.take (k + 1 + 1)) = sumL (l.take (k + 1)) ++ [wrap64 ((sumL (l.take (k + 1))).getD k 0 + l.getD (k + 1) 0)] := by
  rw [takeT_succ hk, sumL_snoc (k := k) (by rw [List.length_take]; omega)]
/-- The list whose zigzag numbers are the residuals. -/
def resI (l : List Int) (o : Nat) : List Int := if o = 0 then l else if o = 1 then difL l else difL (difL l)
def resL (l : List Int) (o : Nat) : List Nat := (resI l o).map zig
def unI (l : List Int) (o : Nat) : List Int := if o = 0 then l else if o = 1 then sumL l else sumL (sumL l)
theorem resI_t {l : List Int} (h : IsT l) (o : Nat) : IsT (resI l o) := by
  unfold resI
  split
  · exact h
  · split
    · exact difL_t h
    · exact difL_t (difL_t h)
theorem unI_t {l : List Int} (h : IsT l) (o : Nat) : IsT (unI l o) := by
  unfold unI
  split
  · exact h
  · split
    · exact sumL_t h
    · exact sumL_t (sumL_t h)
theorem resI_len (l : List Int) (o : Nat) : (resI l o).length = l.length := by
  unfold resI
  split
  · rfl
  · split <;> simp only [difL_len]
theorem unI_len (l : List Int) (o : Nat) : (unI l o).length = l.length := by
  unfold unI
  split
  · rfl
  · split <;> simp only [sumL_len]
theorem resL_len (l : List Int) (o : Nat) : (resL l o).length = l.length := by rw [resL, List.length_map, resI_len]
theorem resL_q {l : List Int} (h : IsT l) (o : Nat) : IsQ (resL l o) := by
  intro x hx
  simp only [resL, List.mem_map] at hx
  obtain ⟨y, hy, rfl⟩ := hx
  have := resI_t h o y hy
  exact zig_lt this.1 this.2
theorem un_res {l : List Int} (h : IsT l) (o : Nat) : unI (resI l o) o = l := by
  unfold unI resI
  split
  · rfl
  · split
    · exact sumL_dif h
    · rw [sumL_dif (difL_t h), sumL_dif h]
def zagL (L : List Nat) : List Int := L.map zag
theorem zagL_res (l : List Int) (o : Nat) : zagL (resL l o) = resI l o := by
  unfold zagL resL
  rw [List.map_map]
  have : ∀ x ∈ resI l o, (zag ∘ zig) x = x := fun x _ => zag_zig x
  exact (List.map_congr_left this).trans (List.map_id _)
theorem zagL_t {L : List Nat} (h : IsQ L) : IsT (zagL L) := by
  intro x hx
  simp only [zagL, List.mem_map] at hx
  obtain ⟨y, hy, rfl⟩ := hx
  have := h y hy
  unfold zag I64
  split <;> omega
theorem unz_res {l : List Int} (h : IsT l) (o : Nat) : unI (zagL (resL l o)) o = l := by rw [zagL_res, un_res h]
/-- The bytes of the list with an order. -/
def cR (l : List Int) (o : Nat) : List Nat := o :: (enN (resL l o)).1
/-- The order that is taken. -/
def ordR (l : List Int) : Nat := if (cR l 1).length < (cR l 0).length then (if (cR l 2).length < (cR l 1).length then 2 else 1) else (if (cR l 2).length < (cR l 0).length then 2 else 0)
def bestR (l : List Int) : List Nat := cR l (ordR l)
theorem ordR_le (l : List Int) : ordR l ≤ 2 := by unfold ordR; split <;> split <;> omega
theorem bestR_le (l : List Int) (o : Nat) (h : o ≤ 2) : (bestR l).length ≤ (cR l o).length := by
  unfold bestR ordR
  obtain rfl | rfl | rfl : o = 0 ∨ o = 1 ∨ o = 2 := by omega
  all_goals (repeat' split) <;> omega
def enR (l : List Int) : List Nat × Nat := if 65536 < l.length then ([], 3) else (bestR l, 0)
/-- What is read behind a byte with an order. -/
def deR (b : List Nat) (a n : Int) : List Int × Int × Int :=
  if a < 0 ∨ (b.length : Int) < a ∨ n < 0 ∨ 65536 < n then ([], 0, 2)
  else if a = b.length then ([], 0, 4)
  else if 2 < b.getD a.toNat 0 then ([], 0, 5)
  else if (deN b (a + 1) n).2.2 ≠ 0 then ([], 0, (deN b (a + 1) n).2.2)
  else if bestR (unI (zagL (deN b (a + 1) n).1) (b.getD a.toNat 0)) = (b.drop a.toNat).take ((deN b (a + 1) n).2.1.toNat - a.toNat)
    then (unI (zagL (deN b (a + 1) n).1) (b.getD a.toNat 0), (deN b (a + 1) n).2.1, 0)
  else ([], 0, 5)
theorem enR_ok {l : List Int} (h : l.length ≤ 65536) : enR l = (bestR l, 0) := if_neg (by omega)
theorem cR_b {l : List Int} (h : IsT l) {o : Nat} (ho : o ≤ 2) : IsB (cR l o) := by
  intro x hx
  rcases List.mem_cons.1 hx with rfl | hx
  · omega
  · exact enN_b (resL_q h o) x hx
theorem cR_len {l : List Int} (h : IsT l) (hn : l.length ≤ 65536) (o : Nat) : (cR l o).length ≤ 2 + 10 * l.length := by
  have h1 := enN_len (resL_q h o) (by rw [resL_len]; exact hn)
  have h2 := encV_le (resL_q h o)
  rw [resL_len] at h2
  rw [cR, List.length_cons]
  omega
/-- What is encoded is read back. -/
theorem deR_enc (l : List Int) (pre post : List Nat) (ht : IsT l) (hn : l.length ≤ 65536) :
    deR (pre ++ (enR l).1 ++ post) pre.length l.length = (l, (pre.length : Int) + ((enR l).1.length : Int), 0) := by
  rw [enR_ok hn]
  show deR (pre ++ bestR l ++ post) _ _ = (l, (pre.length : Int) + ((bestR l).length : Int), 0)
  obtain ⟨o, ho⟩ : ∃ o, ordR l = o := ⟨_, rfl⟩
  have ho2 := ordR_le l
  have hb : bestR l = o :: (enN (resL l o)).1 := by rw [bestR, ho]; rfl
  rw [ho] at ho2
  have hq := resL_q ht o
  have hql := resL_len l o
  have e1 : pre ++ bestR l ++ post = (pre ++ [o]) ++ (enN (resL l o)).1 ++ post := by rw [hb]; simp
  have hde := deN_enc (resL l o) (pre ++ [o]) post hq (by omega)
  rw [← e1, hql, List.length_append, List.length_singleton] at hde
  have g0 : (pre ++ bestR l ++ post).getD pre.length 0 = o := by
    rw [hb, List.append_assoc, List.cons_append]
    exact getD_mid _ _ _ _ rfl
  have hlen : (pre ++ bestR l ++ post).length = pre.length + (bestR l).length + post.length := by rw [List.length_append, List.length_append]
  have hbl : (bestR l).length = 1 + (enN (resL l o)).1.length := by rw [hb, List.length_cons]; omega
  unfold deR
  rw [if_neg (by omega), if_neg (by omega), Int.toNat_natCast, g0, if_neg (by omega), show (pre.length : Int) + 1 = ((pre.length + 1 : Nat) : Int) by omega, hde]
  simp only [ne_eq, not_true_eq_false, if_false, unz_res ht]
  rw [if_pos ?_]
  · congr 2
    omega
  · rw [List.append_assoc, List.drop_left, show (((pre.length + 1 : Nat) : Int) + ((enN (resL l o)).1.length : Int)).toNat - pre.length = (bestR l).length by omega, List.take_left' rfl]
/-- What is read is encoded to the bytes from which it was read. -/
theorem deR_canon {b : List Nat} {l : List Int} {a n nx : Int} (h : deR b a n = (l, nx, 0)) :
    IsT l ∧ (l.length : Int) = n ∧ l.length ≤ 65536 ∧ 0 ≤ a ∧ a < nx ∧ nx ≤ b.length ∧ (enR l).1 = (b.drop a.toNat).take (nx.toNat - a.toNat) ∧ (enR l).2 = 0 := by
  unfold deR at h
  split at h
  · simp at h
  rename_i hr
  split at h
  · simp at h
  split at h
  · simp at h
  obtain ⟨L, x, e, hR⟩ : ∃ L x e, deN b (a + 1) n = (L, x, e) := ⟨_, _, _, rfl⟩
  rw [hR] at h
  simp only at h
  split at h
  · rename_i he
    simp only [Prod.mk.injEq] at h
    exact absurd h.2.2 he
  rename_i he
  obtain rfl : e = 0 := by omega
  obtain ⟨hq, h1, h2, h3, h4, h5, h6⟩ := deN_canon hR
  split at h
  · rename_i hb
    simp only [Prod.mk.injEq, and_true] at h
    obtain ⟨rfl, rfl⟩ := h
    have hl : (unI (zagL L) (b.getD a.toNat 0)).length = L.length := by rw [unI_len, zagL, List.length_map]
    refine ⟨unI_t (zagL_t hq) _, by rw [hl]; exact h1, by omega, by omega, by omega, h5, ?_, ?_⟩
    · rw [enR_ok (by omega)]; exact hb
    · rw [enR_ok (by omega)]
  · simp at h
end
section
open Go Go.RowKit
/-- Of what was there only the blocks of L may have changed. -/
def UpdL (L : Nat → Prop) (w w' : World) : Prop := w'.os = w.os ∧ w'.tape = w.tape ∧ w'.output = w.output ∧ w.heap.size ≤ w'.heap.size ∧ ∀ k, k < w.heap.size → ¬ L k → w'.heap[k]? = w.heap[k]?
theorem UpdL.refl (L : Nat → Prop) (w : World) : UpdL L w w := ⟨rfl, rfl, rfl, Nat.le_refl _, fun _ _ _ => rfl⟩
theorem UpdL.trans {L : Nat → Prop} {a b c : World} (h : UpdL L a b) (k : UpdL L b c) : UpdL L a c :=
  ⟨k.1.trans h.1, k.2.1.trans h.2.1, k.2.2.1.trans h.2.2.1, Nat.le_trans h.2.2.2.1 k.2.2.2.1, fun i hi hn => (k.2.2.2.2 i (Nat.lt_of_lt_of_le hi h.2.2.2.1) hn).trans (h.2.2.2.2 i hi hn)⟩
theorem Upd.updL {L : Nat → Prop} {g : Nat} {w w' : World} (h : Upd g w w') (hg : L g) : UpdL L w w' :=
  ⟨h.1, h.2.1, h.2.2.1, h.2.2.2.1, fun k hk hn => h.2.2.2.2 k hk (fun e => hn (e ▸ hg))⟩
theorem UpdL.ext {L : Nat → Prop} {W w w' : World} (h : UpdL L w w') (e : Ext W w) (hL : ∀ k, L k → W.heap.size ≤ k) : Ext W w' :=
  ⟨h.1.trans e.os, h.2.1.trans e.tape, h.2.2.1.trans e.output, Nat.le_trans e.size h.2.2.2.1, fun k hk => (h.2.2.2.2 k (Nat.lt_of_lt_of_le hk e.size) (fun hl => by have := hL k hl; omega)).trans (e.block k hk)⟩
theorem Blk.updL {L : Nat → Prop} {w w' : World} {g : Nat} {t : TypeId} {cs : Array Value} (h : Blk w g t cs) (u : UpdL L w w') (hg : ¬ L g) : Blk w' g t cs := (u.2.2.2.2 g h.lt hg).trans h
/-- A closure with one cell: it returns F of the cell and its argument, and leaves G of them in the cell. -/
structure Cl (f : Nat) (F G : Int → Int → Int) : Prop where
  call : ∀ g p x w, I64 p → I64 x → Blk w g 2 #[.int .i64 p] → Calls Try.prog f #[.int .i64 x, .pointer (some ⟨g, 0, none⟩)] w (fun e w' => e = .returned (.int .i64 (F p x)) ∧ Blk w' g 2 #[.int .i64 (G p x)] ∧ Upd g w w')
  enter : ∀ a w, (callFunc f a).run Try.prog w = .ok (.enter f a) w
  inF : ∀ p x, I64 (F p x)
  inG : ∀ p x, I64 x → I64 (G p x)
theorem p_diff1 (a b : Int) (w : World) (ha : I64 a) (hb : I64 b) : Calls Try.prog 45 #[.int .i64 a, .int .i64 b] w (RetSame (.int .u64 (((a - b) % 18446744073709551616).toNat : Nat)) w) := by
  have e : IntKind.u64.wrap (IntKind.u64.wrap a - IntKind.u64.wrap b) = (((a - b) % 18446744073709551616).toNat : Nat) := by
    rw [wrap_u64', wrap_u64', wrap_u64']; omega
  obtain ⟨x, hx⟩ : ∃ x, ((a - b) % 18446744073709551616).toNat = x := ⟨_, rfl⟩
  rw [hx] at e ⊢
  obtain ⟨a1, a2⟩ := ha
  obtain ⟨b1, b2⟩ := hb
  clear hx
  go_enter Try.func45, Try.ntmps45
  go_wp2
  all_goals (first | go_ret | (exfalso; simp_all; done))
  all_goals exact ⟨rfl, rfl⟩
theorem p_applyW (a : Int) (d : Nat) (w : World) (ha : I64 a) (hd : d < 18446744073709551616) (y : Int) (hy : wrap64 (a + (d : Int)) = y) : Calls Try.prog 66 #[.int .i64 a, .int .u64 (d : Int)] w (RetSame (.int .i64 y) w) := by
  have e : wrap64 (IntKind.u64.wrap (IntKind.u64.wrap a + (d : Int))) = y := by
    rw [wrap_u64', wrap_u64', ← hy]; simp only [wrap64]; omega
  obtain ⟨a1, a2⟩ := ha
  clear hy
  go_enter Try.func66, Try.ntmps66
  go_wp2
  all_goals (first | go_ret | (exfalso; simp_all; done))
  all_goals exact ⟨rb1T e, rfl⟩
set_option maxRecDepth 100000 in
theorem p_dcl (g : Nat) (p x : Int) (w : World) (ip : I64 p) (ix : I64 x) (h : Blk w g 2 #[.int .i64 p]) :
    Calls Try.prog 44 #[.int .i64 x, .pointer (some ⟨g, 0, none⟩)] w (fun e w' => e = .returned (.int .i64 (wrap64 (x - p))) ∧ Blk w' g 2 #[.int .i64 x] ∧ Upd g w w') := by
  have KD := hide (p_diff1 x p w ix ip)
  have e1 : wrap64 ((((x - p) % 18446744073709551616).toNat : Nat) : Int) = wrap64 (x - p) := by simp only [wrap64]; omega
  obtain ⟨dd, hdd⟩ : ∃ dd, ((x - p) % 18446744073709551616).toNat = dd := ⟨_, rfl⟩
  obtain ⟨y, hy⟩ : ∃ y, wrap64 (x - p) = y := ⟨_, rfl⟩
  rw [hdd, hy] at e1
  rw [hdd] at KD
  rw [hy]
  have c0 : w.cell? ⟨g, 0, none⟩ = some (.int .i64 p) := h.cell 0
  have f0 := h.frozen 0
  have hs := hide (show Blk (w.setCell ⟨g, 0, none⟩ (.int .i64 x)) g 2 #[.int .i64 x] from by simpa using h.set_ 0 (.int .i64 x))
  clear hdd hy h
  go_enter Try.func44, Try.ntmps44
  go_wp2_with (go_at_call 45; (with_reducible refine (KD.out).mono ?_); rintro e w1 ⟨rfl, rfl⟩)
  go_ret
  exact ⟨rb1T e1, hs.out, upd_set _ _ _ _⟩
set_option maxRecDepth 100000 in
theorem p_scl (g : Nat) (p x : Int) (w : World) (ip : I64 p) (ix : I64 x) (h : Blk w g 2 #[.int .i64 p]) :
    Calls Try.prog 65 #[.int .i64 x, .pointer (some ⟨g, 0, none⟩)] w (fun e w' => e = .returned (.int .i64 (wrap64 (p + x))) ∧ Blk w' g 2 #[.int .i64 (wrap64 (p + x))] ∧ Upd g w w') := by
  obtain ⟨y, hy⟩ : ∃ y, wrap64 (p + x) = y := ⟨_, rfl⟩
  rw [hy]
  obtain ⟨dd, hd1, hd2⟩ : ∃ dd : Nat, IntKind.u64.wrap x = (dd : Int) ∧ dd < 18446744073709551616 := ⟨(IntKind.u64.wrap x).toNat, by rw [wrap_u64']; omega, by rw [wrap_u64']; omega⟩
  have KD := hide (p_applyW p dd w ip hd2 y (by rw [← hy]; have := hd1; rw [wrap_u64'] at this; simp only [wrap64]; omega))
  have c0 : w.cell? ⟨g, 0, none⟩ = some (.int .i64 p) := h.cell 0
  have f0 := h.frozen 0
  have hs := hide (show Blk (w.setCell ⟨g, 0, none⟩ (.int .i64 y)) g 2 #[.int .i64 y] from by simpa using h.set_ 0 (.int .i64 y))
  clear hy h
  go_enter Try.func65, Try.ntmps65
  go_wp2_with (go_at_call 66; (with_reducible refine (KD.out).mono ?_); rintro e w1 ⟨rfl, rfl⟩)
  go_ret
  exact ⟨rfl, hs.out, upd_set _ _ _ _⟩
theorem cl_dif : Cl 44 (fun p x => wrap64 (x - p)) (fun _ x => x) :=
  ⟨fun g p x w ip ix h => p_dcl g p x w ip ix h, fun a w => by go_simp, fun p x => wrap64_64 _, fun _ _ h => h⟩
theorem cl_sum : Cl 65 (fun p x => wrap64 (p + x)) (fun p x => wrap64 (p + x)) :=
  ⟨fun g p x w ip ix h => p_scl g p x w ip ix h, fun a w => by go_simp, fun p x => wrap64_64 _, fun _ _ _ => wrap64_64 _⟩
/-- A fresh closure: its cell is new and holds 0. -/
def Fresh (f : Nat) (w : World) (e : Ending) (w' : World) : Prop := ∃ g, e = .returned (.func (.func f) #[] #[.pointer (some ⟨g, 0, none⟩)]) ∧ w.heap.size ≤ g ∧ Blk w' g 2 #[.int .i64 0] ∧ Ext w w'
theorem p_mkd (w : World) : Calls Try.prog 27 #[] w (Fresh 44 w) := by
  have hmf : ∀ (fn : Fn) (first cap : Array Value) (w : World), (Instr.makeFunc fn first cap).run Try.prog w = .ok (.func fn first cap) w := fun _ _ _ _ => rfl
  go_enter Try.func27, Try.ntmps27
  go_wp2_with fail
  go_ret
  exact ⟨_, rfl, Nat.le_refl _, Blk.new _ _ _, ext_alloc _ _⟩
theorem p_mks (w : World) : Calls Try.prog 52 #[] w (Fresh 65 w) := by
  have hmf : ∀ (fn : Fn) (first cap : Array Value) (w : World), (Instr.makeFunc fn first cap).run Try.prog w = .ok (.func fn first cap) w := fun _ _ _ _ => rfl
  go_enter Try.func52, Try.ntmps52
  go_wp2_with fail
  go_ret
  exact ⟨_, rfl, Nat.le_refl _, Blk.new _ _ _, ext_alloc _ _⟩
end
section
open Go Go.RowKit
def fnV (f g : Nat) : Value := .func (.func f) #[] #[.pointer (some ⟨g, 0, none⟩)]
/-- The first i of o closures. -/
def cls (f : Nat) (g : Nat → Nat) (o i : Nat) : List Value := (List.range o).map fun j => if j < i then fnV f (g j) else .nilFunc
theorem cls_len (f : Nat) (g : Nat → Nat) (o i : Nat) : (cls f g o i).length = o := by simp [cls]
theorem cls_get (f : Nat) (g : Nat → Nat) {o i j : Nat} (h : j < o) : (cls f g o i)[j]? = some (if j < i then fnV f (g j) else .nilFunc) := by simp [cls, h]
theorem cls_zero (f : Nat) (g : Nat → Nat) (o : Nat) : cls f g o 0 = List.replicate o .nilFunc := by
  apply List.ext_getElem?
  intro j
  simp only [cls, List.getElem?_map, List.getElem?_replicate]
  by_cases h : j < o
  · simp [h]
  · simp [h]
def upG (g : Nat → Nat) (i x : Nat) : Nat → Nat := fun j => if j = i then x else g j
theorem cls_set (f : Nat) (g : Nat → Nat) {o i : Nat} (x : Nat) (h : i < o) : (cls f g o i).set i (fnV f x) = cls f (upG g i x) o (i + 1) := by
  apply List.ext_getElem?
  intro j
  rw [List.getElem?_set]
  by_cases hj : j < o
  · rw [cls_get _ _ hj, cls_get _ _ hj, cls_len]
    by_cases e : i = j
    · subst e; simp [h, upG]
    · rw [if_neg e]
      have : ¬ j = i := fun k => e k.symm
      by_cases k : j < i
      · rw [if_pos k, if_pos (by omega)]; simp [upG, this]
      · rw [if_neg k, if_neg (by omega)]
  · have e1 : (cls f g o i)[j]? = none := List.getElem?_eq_none (by rw [cls_len]; omega)
    have e2 : (cls f (upG g i x) o (i + 1))[j]? = none := List.getElem?_eq_none (by rw [cls_len]; omega)
    rw [e1, e2, if_neg (by omega)]
/-- A chain of which i of o closures are made: the variable of its slice in block h, the slice in block k, the closures' cells in blocks g. -/
structure Rep (f h k : Nat) (g : Nat → Nat) (o i B : Nat) (p : Nat → Int) (w : World) : Prop where
  hv : Blk w h 76 #[.slice (some ⟨k, 0, none⟩) o o]
  kv : Blk w k 59 (cls f g o i).toArray
  gv : ∀ j, j < i → Blk w (g j) 2 #[.int .i64 (p j)]
  gp : ∀ j, j < i → I64 (p j)
  lo : B ≤ h ∧ B ≤ k ∧ ∀ j, j < i → B ≤ g j
  inj : ∀ a b, a < i → b < i → a ≠ b → g a ≠ g b
  apart : h ≠ k ∧ ∀ j, j < i → g j ≠ h ∧ g j ≠ k
theorem Rep.keep {f h k : Nat} {g : Nat → Nat} {o i B : Nat} {p : Nat → Int} {w w' : World} (r : Rep f h k g o i B p w) (e : ∀ b, b < w.heap.size → (b = h ∨ b = k ∨ ∃ j, j < i ∧ g j = b) → w'.heap[b]? = w.heap[b]?) : Rep f h k g o i B p w' :=
  ⟨(e h r.hv.lt (Or.inl rfl)).trans r.hv, (e k r.kv.lt (Or.inr (Or.inl rfl))).trans r.kv, fun j hj => (e _ (r.gv j hj).lt (Or.inr (Or.inr ⟨j, hj, rfl⟩))).trans (r.gv j hj), r.gp, r.lo, r.inj, r.apart⟩
theorem Rep.ext {f h k : Nat} {g : Nat → Nat} {o i B : Nat} {p : Nat → Int} {w w' : World} (r : Rep f h k g o i B p w) (e : Ext w w') : Rep f h k g o i B p w' :=
  r.keep fun b hb _ => e.block b hb
theorem Rep.congr {f h k : Nat} {g : Nat → Nat} {o i B : Nat} {p q : Nat → Int} {w : World} (r : Rep f h k g o i B p w) (e : ∀ j, j < i → p j = q j) : Rep f h k g o i B q w :=
  ⟨r.hv, r.kv, fun j hj => by rw [← e j hj]; exact r.gv j hj, fun j hj => by rw [← e j hj]; exact r.gp j hj, r.lo, r.inj, r.apart⟩
/-- The blocks of a chain's cells. -/
def InG (g : Nat → Nat) (o : Nat) (b : Nat) : Prop := ∃ j, j < o ∧ g j = b
theorem Rep.one {f h k : Nat} {g : Nat → Nat} {o B : Nat} {p q : Nat → Int} {w w' : World} {i : Nat} (r : Rep f h k g o o B p w) (hi : i < o) (u : Upd (g i) w w') (hb : Blk w' (g i) 2 #[.int .i64 (q i)]) (hq : I64 (q i)) (hs : ∀ j, j ≠ i → q j = p j) : Rep f h k g o o B q w' :=
  ⟨(u.2.2.2.2 h r.hv.lt (fun e => (r.apart.2 i hi).1 e.symm)).trans r.hv, (u.2.2.2.2 k r.kv.lt (fun e => (r.apart.2 i hi).2 e.symm)).trans r.kv,
    fun j hj => by
      by_cases e : j = i
      · subst e; exact hb
      · rw [hs j e]; exact (u.2.2.2.2 _ (r.gv j hj).lt (r.inj j i hj hi e)).trans (r.gv j hj),
    fun j hj => by
      by_cases e : j = i
      · subst e; exact hq
      · rw [hs j e]; exact r.gp j hj, r.lo, r.inj, r.apart⟩
theorem info_fn : (Try.prog.info? 59).map (fun i => (i.zero, i.size, i.bytes)) = some (some .nilFunc, 1, 8) := by kernel_rfl
theorem madeF (n : Nat) : (madeCells Value.nilFunc.cells (n * 1)).toList = List.replicate n .nilFunc := by
  simp only [madeCells, Value.cells, Nat.mul_one]
  apply List.ext_getElem
  · simp
  · intro i h1 h2
    simp [Nat.mod_one]
theorem run_mkF (f : Nat) (g : Nat → Nat) (o : Nat) (ho : o ≤ 2) (w : World) : (Instr.makeSlice 76 (.int .i64 (o : Int)) (.int .i64 (o : Int))).run Try.prog w = .ok (.slice (some ⟨w.heap.size, 0, none⟩) o o) (w.alloc (.cells (cls f g o 0).toArray 59)) := by
  obtain ⟨i0, hi0, hz0, hz1, hz2⟩ := info_parts info_fn
  have := run_make (P := Try.prog) w 76 59 i0 .nilFunc (by kernel_rfl) hi0 hz0 .i64 .i64 (o : Int) (o : Int) (by omega) (by omega) (by rw [hz2]; omega) (by omega)
  rw [this, hz1, Int.toNat_natCast]
  have e : madeCells Value.nilFunc.cells (o * 1) = (cls f g o 0).toArray := by
    rw [cls_zero, ← madeF o]
  rw [e]
theorem idxF (b N cap j : Nat) (h : j < N) (w : World) : (Instr.indexAt 76 (.slice (some ⟨b, 0, none⟩) N cap) (.int .i64 (j : Int))).run Try.prog w = .ok (.pointer (some ⟨b, j, none⟩)) w := by
  have hz := Try.sizeOf59
  have he : Try.prog.elem 76 = 59 := by kernel_rfl
  have hr := run_indexAt_slice (P := Try.prog) (w := w) 76 ⟨b, 0, none⟩ N cap .i64 (j : Int) (by kernel_rfl)
  rw [hr, if_pos ⟨by omega, by omega⟩, he, hz]
  simp [Result.andThen, add_at]
end
section
open Go Go.RowKit
theorem Rep.drew {f h k : Nat} {g : Nat → Nat} {o i B : Nat} {p : Nat → Int} {w : World} (r : Rep f h k g o i B p w) : Rep f h k g o i B p w.drew := ⟨r.hv, r.kv, r.gv, r.gp, r.lo, r.inj, r.apart⟩
/-- A chain of o fresh closures: all its cells are new and hold 0. -/
def RepRet (f o : Nat) (W : World) (e : Ending) (w' : World) : Prop := ∃ h k g, e = .returned (.func (.func 43) #[] #[.pointer (some ⟨h, 0, none⟩)]) ∧ Rep f h k g o o W.heap.size (fun _ => 0) w' ∧ Ext W w'
theorem Rep.more {f h k o i B x : Nat} {g : Nat → Nat} {w w4 : World} (r : Rep f h k g o i B (fun _ => 0) w) (hi : i < o) (E : Ext w w4) (hx : w.heap.size ≤ x) (hB : B ≤ w.heap.size) (hb : Blk w4 x 2 #[.int .i64 0]) :
    Rep f h k (upG g i x) o (i + 1) B (fun _ => 0) (w4.setCell ⟨k, i, none⟩ (fnV f x)) := by
  have r4 := r.ext E
  have hh := r.hv.lt
  have hk := r.kv.lt
  have eg : ∀ j, j < i → upG g i x j = g j := fun j hj => by unfold upG; rw [if_neg (by omega)]
  have ei : upG g i x i = x := by unfold upG; rw [if_pos rfl]
  refine ⟨r4.hv.far (fun e => r.apart.1 e) _, ?_, ?_, ?_, ⟨r.lo.1, r.lo.2.1, ?_⟩, ?_, r.apart.1, ?_⟩
  · have := r4.kv.set_ i (fnV f x)
    rw [List.setIfInBounds_toArray, cls_set f g x hi] at this
    exact this
  · intro j hj
    by_cases e : j = i
    · rw [e, ei]; exact hb.far (p := ⟨k, i, none⟩) (fun e => by simp at e; omega) _
    · rw [eg j (by omega)]; exact (r4.gv j (by omega)).far (p := ⟨k, i, none⟩) (fun e => (r.apart.2 j (by omega)).2 e) _
  · intro j hj; exact ⟨by omega, by omega⟩
  · intro j hj
    by_cases e : j = i
    · rw [e, ei]; omega
    · rw [eg j (by omega)]; exact r.lo.2.2 j (by omega)
  · intro a b ha hb' hab
    by_cases e : a = i
    · rw [e, ei, eg b (by omega)]; have := (r.gv b (by omega)).lt; omega
    · by_cases e' : b = i
      · rw [e', ei, eg a (by omega)]; have := (r.gv a (by omega)).lt; omega
      · rw [eg a (by omega), eg b (by omega)]; exact r.inj a b (by omega) (by omega) hab
  · intro j hj
    by_cases e : j = i
    · rw [e, ei]; exact ⟨by omega, by omega⟩
    · rw [eg j (by omega)]; exact r.apart.2 j (by omega)
set_option maxHeartbeats 3200000 in
set_option maxRecDepth 100000 in
theorem p_rep (fr f : Nat) (KF : ∀ w, Calls Try.prog fr #[] w (Fresh f w)) (hen : ∀ a w, (callFunc fr a).run Try.prog w = .ok (.enter fr a) w) (o : Nat) (ho : o ≤ 2) (W : World) :
    Calls Try.prog 26 #[.int .i64 (o : Int), .func (.func fr) #[] #[]] W (RepRet f o W) := by
  have hmk := run_mkF f (fun _ => 0) o ho
  have hmf : ∀ (fn : Fn) (first cap : Array Value) (w : World), (Instr.makeFunc fn first cap).run Try.prog w = .ok (.func fn first cap) w := fun _ _ _ _ => rfl
  have B1 := (Blk.new W 59 (cls f (fun _ => 0) o 0).toArray).alloc (.cells #[.slice (some ⟨W.heap.size, 0, none⟩) o o] 76)
  have B2 := Blk.new (W.alloc (.cells (cls f (fun _ => 0) o 0).toArray 59)) 76 #[.slice (some ⟨W.heap.size, 0, none⟩) o o]
  have E2 := Ext.trans (ext_alloc W (.cells (cls f (fun _ => 0) o 0).toArray 59)) (ext_alloc _ (.cells #[.slice (some ⟨W.heap.size, 0, none⟩) o o] 76))
  obtain ⟨w2, hw2⟩ : ∃ w2, (W.alloc (.cells (cls f (fun _ => 0) o 0).toArray 59)).alloc (.cells #[.slice (some ⟨W.heap.size, 0, none⟩) o o] 76) = w2 := ⟨_, rfl⟩
  rw [hw2] at B1 B2 E2
  have es : (W.alloc (.cells (cls f (fun _ => 0) o 0).toArray 59)).heap.size = W.heap.size + 1 := Array.size_push ..
  rw [es] at B2
  have r0 : Rep f (W.heap.size + 1) W.heap.size (fun _ => 0) o 0 W.heap.size (fun _ => 0) w2 := ⟨B2, B1, fun j hj => absurd hj (by omega), fun j hj => absurd hj (by omega), ⟨by omega, by omega, fun j hj => absurd hj (by omega)⟩, fun a b ha => absurd ha (by omega), by omega, fun j hj => absurd hj (by omega)⟩
  have X2 := hide E2
  have Hw2 := hide hw2
  have HF := hide KF
  obtain ⟨h, hh⟩ : ∃ h, W.heap.size + 1 = h := ⟨_, rfl⟩
  obtain ⟨k, hk⟩ : ∃ k, W.heap.size = k := ⟨_, rfl⟩
  have R0 : Hid (Rep f h k (fun _ => 0) o 0 W.heap.size (fun _ => 0) w2) := hide (by rw [← hh]; rw [hk] at r0 ⊢; exact r0)
  have Hh := hide hh
  have Hk := hide hk
  clear B1 B2 E2 hw2 es KF r0 hh hk
  go_enter Try.func26, Try.ntmps26
  go_upto_region 2 with fail
  rw [Hw2.out, Hh.out, Hk.out]
  have c0 : w2.cell? ⟨h, 0, none⟩ = some (.slice (some ⟨k, 0, none⟩) o o) := R0.out.hv.cell 0
  go_wp2_with fail
  go_loopw [6, 11] (fun _ iv wr => ∃ (i : Nat) (g : Nat → Nat), i ≤ o ∧ iv = .int .i64 (i : Int) ∧ Hid (Rep f h k g o i W.heap.size (fun _ => 0) wr) ∧ Hid (Ext W wr)) (fun _ iv _ => o - (intOf iv).toNat)
  case atStart => exact ⟨0, fun _ => 0, by omega, rfl, R0, X2⟩
  case round =>
    clear R0 X2 c0
    obtain ⟨i, g, hi, rfl, HR, HE⟩ := hrel
    by_cases hlt : i < o
    · have d0 : decide ((i : Int) < (o : Int)) = true := decide_eq_true (by omega)
      have d1 : decide (i < o) = true := decide_eq_true hlt
      have KF1 := hide (HF.out wr.drew)
      have ch : wr.drew.cell? ⟨h, 0, none⟩ = some (.slice (some ⟨k, 0, none⟩) o o) := HR.out.hv.cell 0
      have ixa := idxF k o o i hlt
      have Hsz := hide HR.out.hv.lt
      have Hkd := hide (HR.out.kv.drew)
      go_upto_region 5 with fail
      go_region_law (go_simp; (with_reducible refine (KF1.out).mono ?_); rintro e w4 ⟨x, rfl, hx, hb, hE⟩; have ch4 := (hE.cell (p := ⟨h, 0, none⟩) Hsz.out).trans ch; have ck4 := (Hkd.out.ext hE).cell i; have fk4 := (Hkd.out.ext hE).frozen i; rw [List.getElem?_toArray, cls_get f g hlt, if_neg (Nat.lt_irrefl i)] at ck4; have HX := hide (And.intro hx (And.intro hb hE)); clear hx hb hE)
      all_goals
        have R5 := hide (Rep.more (HR.out.drew) hlt HX.out.2.2 HX.out.1 HE.out.size HX.out.2.1)
        have E5 := hide (Below.setCell (Ext.trans (Ext.trans HE.out (ext_drew wr)) HX.out.2.2) (p := ⟨k, i, none⟩) HR.out.lo.2.1 (fnV f x))
        clear HX ch ch4 ck4 fk4 HR HE ixa KF1 Hsz Hkd
        go_wp2_with fail
        go_roundw
        case rel => exact ⟨i + 1, _, by omega, by go_num, R5, E5⟩
        case measure => simp [intOf]; omega
    · obtain rfl : i = o := by omega
      have d0 : decide ((i : Int) < (i : Int)) = false := decide_eq_false (by omega)
      go_wp2_with fail
      go_ret
      exact ⟨h, k, g, rfl, HR.out, HE.out⟩
/-- What passes through i of the closures. -/
def thru (F : Int → Int → Int) (p : Nat → Int) (x : Int) : Nat → Int
  | 0 => x
  | i + 1 => F (p i) (thru F p x i)
/-- What the cells then hold. -/
def aft (F G : Int → Int → Int) (p : Nat → Int) (x : Int) (i : Nat) : Nat → Int := fun j => if j < i then G (p j) (thru F p x j) else p j
theorem thru_t {f : Nat} {F G : Int → Int → Int} (c : Cl f F G) (p : Nat → Int) {x : Int} (hx : I64 x) : ∀ i, I64 (thru F p x i)
  | 0 => hx
  | i + 1 => c.inF _ _
set_option maxHeartbeats 3200000 in
set_option maxRecDepth 100000 in
theorem p_rep1 {f : Nat} {F G : Int → Int → Int} (c : Cl f F G) (h k : Nat) (g : Nat → Nat) (o B : Nat) (ho : o ≤ 2) (p : Nat → Int) (x : Int) (hx : I64 x) (W : World) (r : Rep f h k g o o B p W) :
    Calls Try.prog 43 #[.int .i64 x, .pointer (some ⟨h, 0, none⟩)] W (fun e w' => e = .returned (.int .i64 (thru F p x o)) ∧ Rep f h k g o o B (aft F G p x o) w' ∧ UpdL (InG g o) W w') := by
  have hen := c.enter
  have C := hide c
  have R0 : Hid (Rep f h k g o o B (aft F G p x 0) W) := hide (r.congr fun j hj => by unfold aft; rw [if_neg (by omega)])
  have U0 := hide (UpdL.refl (InG g o) W)
  have c0 : W.cell? ⟨h, 0, none⟩ = some (.slice (some ⟨k, 0, none⟩) o o) := r.hv.cell 0
  clear c r
  go_enter Try.func43, Try.ntmps43
  go_wp2_with fail
  go_loopw [0, 5, 8] (fun xv _ iv wr => ∃ i : Nat, i ≤ o ∧ iv = .int .i64 (i : Int) ∧ xv = .int .i64 (thru F p x i) ∧ Hid (Rep f h k g o o B (aft F G p x i) wr) ∧ Hid (UpdL (InG g o) W wr)) (fun _ _ iv _ => o - (intOf iv).toNat)
  case atStart => exact ⟨0, by omega, rfl, rfl, R0, U0⟩
  case round =>
    clear R0 U0 c0
    obtain ⟨i, hi, rfl, rfl, HR, HU⟩ := hrel
    have it := thru_t C.out p hx i
    by_cases hlt : i < o
    · have d0 : decide ((i : Int) < (o : Int)) = true := decide_eq_true (by omega)
      have hgi := HR.out.gv i hlt
      have hpi := HR.out.gp i hlt
      have ea : aft F G p x i i = p i := by unfold aft; rw [if_neg (by omega)]
      rw [ea] at hgi hpi
      have KC := hide (C.out.call (g i) (p i) (thru F p x i) wr hpi it hgi)
      have ixa := idxF k o o i hlt
      have ck := HR.out.kv.cell i
      rw [List.getElem?_toArray, cls_get f g hlt, if_pos hlt, show fnV f (g i) = .func (.func f) #[] #[.pointer (some ⟨g i, 0, none⟩)] from rfl] at ck
      have hth : thru F p x (i + 1) = F (p i) (thru F p x i) := rfl
      obtain ⟨y, hy⟩ : ∃ y, thru F p x i = y := ⟨_, rfl⟩
      have haf : aft F G p x (i + 1) i = G (p i) y := by unfold aft; rw [if_pos (by omega), hy]
      have hs : ∀ j, j ≠ i → aft F G p x (i + 1) j = aft F G p x i j := fun j hj => by
        unfold aft
        by_cases e : j < i
        · rw [if_pos e, if_pos (by omega)]
        · rw [if_neg e, if_neg (by omega)]
      rw [hy] at KC hth it ⊢
      obtain ⟨z, hz⟩ : ∃ z, F (p i) y = z := ⟨_, rfl⟩
      obtain ⟨q, hq⟩ : ∃ q, G (p i) y = q := ⟨_, rfl⟩
      have iq : I64 q := by rw [← hq]; exact C.out.inG _ _ it
      rw [hz] at KC hth
      rw [hq] at KC haf
      have Hth := hide hth
      have Haf := hide haf
      have Hs := hide hs
      have Hiq := hide iq
      clear hgi hpi ea hy hth hz hq haf hs iq it
      go_wp2_with fail
      (with_reducible refine (KC.out).mono ?_)
      rintro e w2 ⟨rfl, hb, hu⟩
      have R2 := hide (HR.out.one hlt hu (by rw [Haf.out]; exact hb) (by rw [Haf.out]; exact Hiq.out) Hs.out)
      have U2 := hide (HU.out.trans (hu.updL ⟨i, hlt, rfl⟩))
      clear hb hu HR HU ck ixa KC hen
      go_wp2_with fail
      go_roundw
      case rel => exact ⟨i + 1, by omega, by go_num, by rw [Hth.out], R2, U2⟩
      case measure => simp [intOf]; omega
    · obtain rfl : i = o := by omega
      have d0 : decide ((i : Int) < (i : Int)) = false := decide_eq_false (by omega)
      obtain ⟨y, hy⟩ : ∃ y, thru F p x i = y := ⟨_, rfl⟩
      rw [hy]
      have Hy := hide hy
      clear hy
      go_wp2_with fail
      go_ret
      exact ⟨by rw [Hy.out]; rfl, HR.out, HU.out⟩
end
section
open Go Go.RowKit
theorem r_diff1 (a b : Int) (w : World) (ha : I64 a) (hb : I64 b) : Calls Try.prog 46 #[.int .i64 a, .int .i64 b] w (RetSame (.int .u64 (((a - b) % 18446744073709551616).toNat : Nat)) w) := by
  have e : IntKind.u64.wrap (IntKind.u64.wrap a - IntKind.u64.wrap b) = (((a - b) % 18446744073709551616).toNat : Nat) := by
    rw [wrap_u64', wrap_u64', wrap_u64']; omega
  obtain ⟨x, hx⟩ : ∃ x, ((a - b) % 18446744073709551616).toNat = x := ⟨_, rfl⟩
  rw [hx] at e ⊢
  obtain ⟨a1, a2⟩ := ha
  obtain ⟨b1, b2⟩ := hb
  clear hx
  go_enter Try.func46, Try.ntmps46
  go_wp2
  all_goals (first | go_ret | (exfalso; simp_all; done))
  all_goals exact ⟨rfl, rfl⟩
theorem r_applyW (a : Int) (d : Nat) (w : World) (ha : I64 a) (hd : d < 18446744073709551616) (y : Int) (hy : wrap64 (a + (d : Int)) = y) : Calls Try.prog 62 #[.int .i64 a, .int .u64 (d : Int)] w (RetSame (.int .i64 y) w) := by
  have e : wrap64 (IntKind.u64.wrap (IntKind.u64.wrap a + (d : Int))) = y := by
    rw [wrap_u64', wrap_u64', ← hy]; simp only [wrap64]; omega
  obtain ⟨a1, a2⟩ := ha
  clear hy
  go_enter Try.func62, Try.ntmps62
  go_wp2
  all_goals (first | go_ret | (exfalso; simp_all; done))
  all_goals first | exact ⟨rfl, rfl⟩ | exact ⟨rb1T e, rfl⟩
theorem step_appendT {ops : Array Oper} {o : Oper} {a : Act} {K : Act → World → Prop} {Q : Exit → Act → World → Prop} {w : World} {E : Prop} (hgd : o.guard = none) (s x : Operand)
    (ho : o.op = .call { callee := .builtin .append, args := #[s, x], argTypes := #[22, 22] })
    (B : Nat) (v : Value) (l0 l : List Int) (hs : a.eval s = v) (A : Option Addr) (m c : Nat) (hx : a.eval x = .slice A m c) (hown : OwnT B w v l0) (hb : TimesAt w A l) (hm : l.length = m) (hlen : l0.length + l.length ≤ 17592186044416) (hbase : B ≤ w.heap.size)
    (h : ∀ v' w', OwnT B w' v' (l0 ++ l) → w.grownBy w' v.ownBlock → (v'.ownBlock = v.ownBlock ∨ v'.ownBlock = some w.heap.size) → K (a.put o.dst v') w') :
    if Region.wanted o (yielded ops a.tmps) = true then Oper.wp Try.prog o a w K Q else E := by
  have hw : Region.wanted o (yielded ops a.tmps) = true := by simp [Region.wanted, hgd]
  rw [if_pos hw]
  obtain ⟨v', w', hrun, h2, h3, h4⟩ := run_appendT B w o.type v l0 l hown A m c hb hm hlen hbase
  unfold Oper.wp execOp
  simp only [ho, resolve, invoke, builtin, Sem.run_bind, Sem.run_pure, Result.andThen_ok, List.map_toArray, List.map_cons, List.map_nil, hs, hx, hrun]
  exact h v' w' h2 h3 h4
set_option maxHeartbeats 3200000 in
set_option maxRecDepth 100000 in
theorem r_dif (A : Option Addr) (n c : Nat) (l : List Int) (W : World) (hl : TimesAt W A l) (hn : l.length = n) (hn2 : n ≤ 17592186043904) :
    Calls Try.prog 29 #[.slice A n c] W (OwnRetT (difL l) W) := by
  have hq := hl.1
  have HL := hide hl
  have Hn := hide hn
  have HE0 : Hid (Ext W W) := Ext.refl _
  clear hl hn
  go_enter Try.func29, Try.ntmps29
  go_wp2_with fail
  go_loopw [3, 4] (fun lv iv wr => ∃ i : Nat, i ≤ n ∧ iv = .int .i64 (i : Int) ∧ Hid (OwnT W.heap.size wr lv (difL (l.take i))) ∧ Hid (Ext W wr)) (fun _ iv _ => n - (intOf iv).toNat)
  case atStart => exact ⟨0, by omega, rfl, hide (OwnT.nil_ _ _), HE0⟩
  case round =>
    clear HE0
    obtain ⟨i, hi, rfl, HO, HE⟩ := hrel
    by_cases hlt : i < n
    · have d0 : decide ((i : Int) < (n : Int)) = true := decide_eq_true (by omega)
      obtain ⟨b, off, rfl, hb1, hc1⟩ := (HL.out.ext HE.out).2.2 (by have := Hn.out; omega)
      cases i with
      | zero =>
        have hkl : 0 < l.length := by have := Hn.out; omega
        have c0 := hc1 0 hkl
        rw [Nat.add_zero] at c0
        have hst : difL (l.take (0 + 1)) = [] ++ [l.getD 0 0] := by rw [takeT_succ hkl]; rfl
        obtain ⟨p, hp⟩ : ∃ p, l.getD 0 0 = p := ⟨_, rfl⟩
        have ip : I64 p := by rw [← hp]; exact hq.get _
        rw [hp] at c0 hst
        have HO : Hid (OwnT W.heap.size wr _ []) := HO
        have ixa : ∀ w, (Instr.indexAt 22 (.slice (some ⟨b, off, none⟩) n c) (.int .i64 0)).run Try.prog w = .ok (.pointer (some ⟨b, off, none⟩)) w := fun w => idxT b off n c 0 (by omega) w
        have Hst := hide hst
        have O3 := hide (HO.out.alloc (.cells #[Value.int .i64 p] 2))
        have hone := hide (one_atT wr p ip _ rfl)
        have E3 := hide (Ext.trans HE.out (ext_alloc wr (.cells #[Value.int .i64 p] 2)))
        have hle : ([] : List Int).length + [p].length ≤ 17592186044416 := by simp
        have d1 : (((0 : Nat) : Int) == 0) = true := by simp
        clear hb1 hc1 hp hst hkl HO HE
        go_wp2_with (at_builtin; refine wl_appendT rfl (.tmp 13) (.tmp 17) rfl W.heap.size _ [] [p] rfl O3.out _ 1 1 rfl hone.out rfl hle E3.out.size ?_; intro v6 w6 hO6 hG6 hA6)
        have O6 : Hid (OwnT W.heap.size w6 v6 (difL (l.take (0 + 1)))) := by show OwnT _ _ _ _; rw [Hst.out]; exact hO6
        have E6 := hide (below_grownT E3.out (Nat.le_refl _) O3.out hG6)
        clear hO6 hG6 hA6 O3 E3
        go_roundw
        case rel => exact ⟨0 + 1, by omega, by go_num, O6, E6⟩
        case measure => simp [intOf]; omega
      | succ m =>
          have hkl : m + 1 < l.length := by rw [Hn.out]; exact hlt
          have hkm : m < l.length := by omega
          have hst := difL_get hkl
          obtain ⟨T, hT⟩ : ∃ T, difL (l.take (m + 1)) = T := ⟨_, rfl⟩
          have hTl : T.length = m + 1 := by rw [← hT, difL_len, List.length_take]; omega
          rw [hT] at HO hst
          obtain ⟨Ao, co, rfl, _, _, _⟩ := HO.out.at_
          rw [hTl] at HO ⊢
          have c0 := hide (hc1 m hkm)
          have c1 := hide (hc1 (m + 1) hkl)
          obtain ⟨x0, hx0⟩ : ∃ x, l.getD m 0 = x := ⟨_, rfl⟩
          obtain ⟨x1, hx1⟩ : ∃ x, l.getD (m + 1) 0 = x := ⟨_, rfl⟩
          have i0 : I64 x0 := by rw [← hx0]; exact hq.get _
          have i1 : I64 x1 := by rw [← hx1]; exact hq.get _
          rw [hx0] at c0 hst
          rw [hx1] at c1 hst
          obtain ⟨p, hp⟩ : ∃ p, wrap64 (x1 - x0) = p := ⟨_, rfl⟩
          have ip : I64 p := by rw [← hp]; exact wrap64_64 _
          rw [hp] at hst
          have e1 : wrap64 ((((x1 - x0) % 18446744073709551616).toNat : Nat) : Int) = p := by rw [← hp]; simp only [wrap64]; omega
          have KC := hide (fun w => r_diff1 x1 x0 w i1 i0)
          obtain ⟨dd, hdd⟩ : ∃ dd, ((x1 - x0) % 18446744073709551616).toNat = dd := ⟨_, rfl⟩
          rw [hdd] at e1 KC
          have e2 : IntKind.i64.wrap (dd : Int) = p := by rw [← e1, IntKind.wrap_i64]; simp only [wrap64]
          have ixa : ∀ w, (Instr.indexAt 22 (.slice (some ⟨b, off, none⟩) n c) (.int .i64 ((m : Int) + 1))).run Try.prog w = .ok (.pointer (some ⟨b, off + (m + 1), none⟩)) w := fun w => idxT b off n c (m + 1) (by omega) w
          have ixb : ∀ w, (Instr.indexAt 22 (.slice (some ⟨b, off, none⟩) n c) (.int .i64 (m : Int))).run Try.prog w = .ok (.pointer (some ⟨b, off + m, none⟩)) w := fun w => idxT b off n c m (by omega) w
          have g0 : wr.drew.cell? ⟨b, off + m, none⟩ = some (.int .i64 x0) := c0.out
          have g1 : wr.drew.cell? ⟨b, off + (m + 1), none⟩ = some (.int .i64 x1) := c1.out
          clear hx0 hx1 hp hdd c0 c1
          have Hst := hide hst
          have ei : ((m + 1 : Nat) : Int) = (m : Int) + 1 := by omega
          rw [ei] at d0 ⊢
          have em : IntKind.i64.wrap ((m : Int) + 1 - 1) = (m : Int) := by rw [IntKind.wrap_i64]; omega
          have em2 : IntKind.i64.wrap (m : Int) = (m : Int) := by rw [IntKind.wrap_i64]; omega
          have d1 : (((m : Int) + 1) == 0) = false := by rw [beq_eq_false_iff_ne]; omega
          have O3 := hide (HO.out.drew.alloc (.cells #[Value.int .i64 p] 2))
          have hone := hide (one_atT wr.drew p ip _ rfl)
          have E3 := hide (Ext.trans (Ext.trans HE.out (ext_drew wr)) (ext_alloc wr.drew (.cells #[Value.int .i64 p] 2)))
          have hle : T.length + [p].length ≤ 17592186044416 := by rw [hTl]; simp; omega
          clear hb1 hc1 hst hkl hkm HO HE ei hT hTl
          go_upto_region 7 with fail
          go_region_law (first
            | (go_simp; go_at_call 46; (with_reducible refine (KC.out _).mono ?_); rintro e w4 ⟨rfl, rfl⟩)
            | (refine step_appendT rfl (.tmp 19) (.tmp 31) rfl W.heap.size (.slice Ao (m + 1) co) T [p] rfl (some ⟨wr.heap.size, 0, none⟩) 1 1 rfl O3.out hone.out rfl hle E3.out.size ?_; intro v6 w6 hO6 hG6 hA6))
          all_goals
            have O6 : Hid (OwnT W.heap.size w6 v6 (difL (l.take (m + 1 + 1)))) := by show OwnT _ _ _ _; rw [Hst.out]; exact hO6
            have E6 := hide (below_grownT E3.out (Nat.le_refl _) O3.out hG6)
            clear hO6 hG6 hA6 O3 E3
            go_wp2_with fail
            go_roundw
            case rel => exact ⟨m + 1 + 1, by omega, by go_num, O6, E6⟩
            case measure => simp [intOf]; omega
    · obtain rfl : i = n := by omega
      have d0 : decide ((i : Int) < (i : Int)) = false := decide_eq_false (by omega)
      have hO := HO.out
      rw [List.take_of_length_le (by rw [Hn.out]; omega)] at hO
      have hO := hide hO
      go_wp2_with fail
      go_ret
      exact ⟨_, rfl, hO.out, HE.out⟩
set_option maxHeartbeats 3200000 in
set_option maxRecDepth 100000 in
theorem r_sum (A : Option Addr) (n c : Nat) (l : List Int) (W : World) (hl : TimesAt W A l) (hn : l.length = n) (hn2 : n ≤ 17592186043904) :
    Calls Try.prog 50 #[.slice A n c] W (OwnRetT (sumL l) W) := by
  have hq := hl.1
  have HL := hide hl
  have Hn := hide hn
  have HE0 : Hid (Ext W W) := Ext.refl _
  clear hl hn
  go_enter Try.func50, Try.ntmps50
  go_wp2_with fail
  go_loopw [3, 4] (fun lv iv wr => ∃ i : Nat, i ≤ n ∧ iv = .int .i64 (i : Int) ∧ Hid (OwnT W.heap.size wr lv (sumL (l.take i))) ∧ Hid (Ext W wr)) (fun _ iv _ => n - (intOf iv).toNat)
  case atStart => exact ⟨0, by omega, rfl, hide (OwnT.nil_ _ _), HE0⟩
  case round =>
    clear HE0
    obtain ⟨i, hi, rfl, HO, HE⟩ := hrel
    by_cases hlt : i < n
    · have d0 : decide ((i : Int) < (n : Int)) = true := decide_eq_true (by omega)
      obtain ⟨b, off, rfl, hb1, hc1⟩ := (HL.out.ext HE.out).2.2 (by have := Hn.out; omega)
      cases i with
      | zero =>
        have hkl : 0 < l.length := by have := Hn.out; omega
        have c0 := hc1 0 hkl
        rw [Nat.add_zero] at c0
        have hst : sumL (l.take (0 + 1)) = [] ++ [l.getD 0 0] := by rw [takeT_succ hkl]; rfl
        obtain ⟨p, hp⟩ : ∃ p, l.getD 0 0 = p := ⟨_, rfl⟩
        have ip : I64 p := by rw [← hp]; exact hq.get _
        rw [hp] at c0 hst
        have HO : Hid (OwnT W.heap.size wr _ []) := HO
        have ixa : ∀ w, (Instr.indexAt 22 (.slice (some ⟨b, off, none⟩) n c) (.int .i64 0)).run Try.prog w = .ok (.pointer (some ⟨b, off, none⟩)) w := fun w => idxT b off n c 0 (by omega) w
        have Hst := hide hst
        have O3 := hide (HO.out.alloc (.cells #[Value.int .i64 p] 2))
        have hone := hide (one_atT wr p ip _ rfl)
        have E3 := hide (Ext.trans HE.out (ext_alloc wr (.cells #[Value.int .i64 p] 2)))
        have hle : ([] : List Int).length + [p].length ≤ 17592186044416 := by simp
        have d1 : (((0 : Nat) : Int) == 0) = true := by simp
        clear hb1 hc1 hp hst hkl HO HE
        go_wp2_with (at_builtin; refine wl_appendT rfl (.tmp 13) (.tmp 17) rfl W.heap.size _ [] [p] rfl O3.out _ 1 1 rfl hone.out rfl hle E3.out.size ?_; intro v6 w6 hO6 hG6 hA6)
        have O6 : Hid (OwnT W.heap.size w6 v6 (sumL (l.take (0 + 1)))) := by show OwnT _ _ _ _; rw [Hst.out]; exact hO6
        have E6 := hide (below_grownT E3.out (Nat.le_refl _) O3.out hG6)
        clear hO6 hG6 hA6 O3 E3
        go_roundw
        case rel => exact ⟨0 + 1, by omega, by go_num, O6, E6⟩
        case measure => simp [intOf]; omega
      | succ m =>
          have hkl : m + 1 < l.length := by rw [Hn.out]; exact hlt
          have hkm : m < l.length := by omega
          have hst := sumL_get hkl
          have c1 := hide (hc1 (m + 1) hkl)
          obtain ⟨x1, hx1⟩ : ∃ x, l.getD (m + 1) 0 = x := ⟨_, rfl⟩
          have i1 : I64 x1 := by rw [← hx1]; exact hq.get _
          obtain ⟨T, hT⟩ : ∃ T, sumL (l.take (m + 1)) = T := ⟨_, rfl⟩
          have hTl : T.length = m + 1 := by rw [← hT, sumL_len, List.length_take]; omega
          rw [hT] at HO hst
          obtain ⟨Ao, co, rfl, _, _, hTa⟩ := HO.out.at_
          obtain ⟨bo, oo, rfl, _, hco⟩ := hTa.2.2 (by omega)
          have c0 := hide (hco m (by omega))
          rw [hTl] at HO ⊢
          obtain ⟨x0, hx0⟩ : ∃ x, T.getD m 0 = x := ⟨_, rfl⟩
          have i0 : I64 x0 := by rw [← hx0]; exact hTa.1.get _
          rw [hx0] at c0 hst
          rw [hx1] at c1 hst
          obtain ⟨p, hp⟩ : ∃ p, wrap64 (x0 + x1) = p := ⟨_, rfl⟩
          have ip : I64 p := by rw [← hp]; exact wrap64_64 _
          rw [hp] at hst
          obtain ⟨dd, hdd⟩ : ∃ dd : Nat, IntKind.u64.wrap x1 = (dd : Int) ∧ dd < 18446744073709551616 := ⟨(IntKind.u64.wrap x1).toNat, by rw [wrap_u64']; omega, by rw [wrap_u64']; omega⟩
          have e1 := hdd.1
          have KC : Hid (∀ w, Calls Try.prog 62 #[.int .i64 x0, .int .u64 (dd : Int)] w (RetSame (.int .i64 p) w)) := hide (fun w => r_applyW x0 dd w i0 hdd.2 p (by rw [← hp]; have := e1; rw [wrap_u64'] at this; simp only [wrap64]; omega))
          have ixa : ∀ w, (Instr.indexAt 22 (.slice (some ⟨b, off, none⟩) n c) (.int .i64 ((m : Int) + 1))).run Try.prog w = .ok (.pointer (some ⟨b, off + (m + 1), none⟩)) w := fun w => idxT b off n c (m + 1) (by omega) w
          have ixb : ∀ w, (Instr.indexAt 22 (.slice (some ⟨bo, oo, none⟩) (m + 1) co) (.int .i64 (m : Int))).run Try.prog w = .ok (.pointer (some ⟨bo, oo + m, none⟩)) w := fun w => idxT bo oo (m + 1) co m (by omega) w
          have g0 : wr.drew.cell? ⟨bo, oo + m, none⟩ = some (.int .i64 x0) := c0.out
          have g1 : wr.drew.cell? ⟨b, off + (m + 1), none⟩ = some (.int .i64 x1) := c1.out
          clear hx0 hx1 hp hdd c0 c1 hTa hco
          have Hst := hide hst
          have ei : ((m + 1 : Nat) : Int) = (m : Int) + 1 := by omega
          rw [ei] at d0 ⊢
          have em : IntKind.i64.wrap ((m : Int) + 1 - 1) = (m : Int) := by rw [IntKind.wrap_i64]; omega
          have em2 : IntKind.i64.wrap (m : Int) = (m : Int) := by rw [IntKind.wrap_i64]; omega
          have d1 : (((m : Int) + 1) == 0) = false := by rw [beq_eq_false_iff_ne]; omega
          have O3 := hide (HO.out.drew.alloc (.cells #[Value.int .i64 p] 2))
          have hone := hide (one_atT wr.drew p ip _ rfl)
          have E3 := hide (Ext.trans (Ext.trans HE.out (ext_drew wr)) (ext_alloc wr.drew (.cells #[Value.int .i64 p] 2)))
          have hle : T.length + [p].length ≤ 17592186044416 := by rw [hTl]; simp; omega
          clear hb1 hc1 hst hkl hkm HO HE ei hT hTl
          go_upto_region 7 with fail
          go_region_law (first
            | (go_simp; go_at_call 62; (with_reducible refine (KC.out _).mono ?_); rintro e w4 ⟨rfl, rfl⟩)
            | (refine step_appendT rfl (.tmp 19) (.tmp 31) rfl W.heap.size (.slice (some ⟨bo, oo, none⟩) (m + 1) co) T [p] rfl (some ⟨wr.heap.size, 0, none⟩) 1 1 rfl O3.out hone.out rfl hle E3.out.size ?_; intro v6 w6 hO6 hG6 hA6))
          all_goals
            have O6 : Hid (OwnT W.heap.size w6 v6 (sumL (l.take (m + 1 + 1)))) := by show OwnT _ _ _ _; rw [Hst.out]; exact hO6
            have E6 := hide (below_grownT E3.out (Nat.le_refl _) O3.out hG6)
            clear hO6 hG6 hA6 O3 E3
            go_wp2_with fail
            go_roundw
            case rel => exact ⟨m + 1 + 1, by omega, by go_num, O6, E6⟩
            case measure => simp [intOf]; omega
    · obtain rfl : i = n := by omega
      have d0 : decide ((i : Int) < (i : Int)) = false := decide_eq_false (by omega)
      have hO := HO.out
      rw [List.take_of_length_le (by rw [Hn.out]; omega)] at hO
      have hO := hide hO
      go_wp2_with fail
      go_ret
      exact ⟨_, rfl, hO.out, HE.out⟩
end
section
open Go Go.RowKit
def resR (l : List Int) (o : Int) : Option (List Nat) := if o < 0 ∨ 2 < o then none else some (resL l o.toNat)
theorem own_qL {B g m : Nat} {w : World} {L : List Nat} (hB : B ≤ g) (h : Blk w g 62 (q8s L).toArray) (hL : L.length = m) (hm : m ≤ 35184372088832) (hq : IsQ L) : OwnQ B w (.slice (some ⟨g, 0, none⟩) m m) L :=
  own_ofQ (m := []) hB (by rw [List.append_nil]; exact h) hL (by simp) (by omega) hq
theorem resI_succ (l : List Int) {k o : Nat} (h : k < o) (ho : o ≤ 2) : resI l (k + 1) = difL (resI l k) := by
  obtain rfl | rfl : k = 0 ∨ k = 1 := by omega
  · rfl
  · rfl
set_option maxHeartbeats 3200000 in
set_option maxRecDepth 100000 in
theorem r_res (A : Option Addr) (n c : Nat) (l : List Int) (od : Int) (W : World) (hl : TimesAt W A l) (hn : l.length = n) (hn2 : n ≤ 17592186043904) (hod : I64 od) :
    Calls Try.prog 14 #[.slice A n c, .int .i64 od] W (UpPost (resR l od) W) := by
  by_cases hr : od < 0 ∨ 2 < od
  · have e : resR l od = none := if_pos hr
    rw [e]
    clear hl hn e
    by_cases h1 : od < 0
    · have d1 : decide (od < 0) = true := decide_eq_true h1
      clear hr h1
      go_enter Try.func14, Try.ntmps14
      go_wp2_with fail
      go_ret2
      exact ⟨_, rfl, OwnQ.nil_ _ _, Ext.refl _⟩
    · have d1 : decide (od < 0) = false := decide_eq_false h1
      have d2 : decide ((2 : Int) < od) = true := decide_eq_true (by omega)
      clear hr h1
      go_enter Try.func14, Try.ntmps14
      go_wp2_with fail
      go_ret2
      exact ⟨_, rfl, OwnQ.nil_ _ _, Ext.refl _⟩
  · have e : resR l od = some (resL l od.toNat) := if_neg hr
    rw [e]
    obtain ⟨o, rfl⟩ := Int.eq_ofNat_of_zero_le (show 0 ≤ od by omega)
    have ho : o ≤ 2 := by omega
    have d1 : decide ((o : Int) < 0) = false := decide_eq_false (by omega)
    have d2 : decide ((2 : Int) < (o : Int)) = false := decide_eq_false (by omega)
    rw [Int.toNat_natCast]
    have KD : Hid (∀ k, k < o → ∀ A c w, TimesAt w A (resI l k) → Calls Try.prog 29 #[.slice A n c] w (OwnRetT (resI l (k + 1)) w)) := hide (fun k hk A c w h => by
      rw [resI_succ l hk ho]
      exact r_dif A n c (resI l k) w h (by rw [resI_len]; exact hn) hn2)
    have HL : Hid (TimesAt W A (resI l 0)) := hide hl
    have HRl : Hid (∀ k, (resI l k).length = n) := hide (fun k => by rw [resI_len]; exact hn)
    have hLl : (resL l o).length = n := by rw [resL_len]; exact hn
    have hLq := resL_q hl.1 o
    have HG : Hid (∀ k, k < n → (resL l o).getD k 0 = zig ((resI l o).getD k 0)) := hide (fun k hk => by
      have hki : k < (resI l o).length := by rw [resI_len]; omega
      simp [resL, List.getD_eq_getElem?_getD, hki])
    have HE0 : Hid (Ext W W) := Ext.refl _
    have HLl := hide hLl
    have HLq := hide hLq
    have Ht := hide (resI_t hl.1 o)
    clear hl hn e hr hLl hLq hod
    go_enter Try.func14, Try.ntmps14
    go_wp2_with fail
    go_loopw [0, 6] (fun lv iv wr => ∃ (k : Nat) (A' : Option Addr) (c' : Nat), k ≤ o ∧ iv = .int .i64 (k : Int) ∧ lv = .slice A' n c' ∧ Hid (TimesAt wr A' (resI l k)) ∧ Hid (Ext W wr)) (fun _ iv _ => o - (intOf iv).toNat)
    case atStart => exact ⟨0, A, c, by omega, rfl, rfl, HL, HE0⟩
    case round =>
      clear HL HE0
      obtain ⟨k, A', c', hk, rfl, rfl, HT, HE⟩ := hrel
      by_cases hlt : k < o
      · have d3 : decide ((k : Int) < (o : Int)) = true := decide_eq_true (by omega)
        have KD1 := hide (KD.out k hlt A' c' wr HT.out)
        have hl1 := HRl.out (k + 1)
        clear HT
        go_wp2_with (go_at_call 29; (with_reducible refine (KD1.out).mono ?_); rintro e w1 ⟨v, rfl, ho, hE⟩; obtain ⟨A2, c2, rfl, _, _, ht⟩ := ho.at_; have T1 := hide ht; have E1 := hide (Ext.trans HE.out hE); clear ho hE ht)
        go_roundw
        case rel => exact ⟨k + 1, A2, c2, by omega, by go_num, rfl, T1, E1⟩
        case measure => simp [intOf]; omega
      · obtain rfl : k = o := by omega
        have d3 : decide ((k : Int) < (k : Int)) = false := decide_eq_false (by omega)
        obtain ⟨L, hL⟩ : ∃ L, resL l k = L := ⟨_, rfl⟩
        obtain ⟨I, hI⟩ : ∃ I, resI l k = I := ⟨_, rfl⟩
        have hIl := HRl.out k
        rw [hL] at HLl HLq HG ⊢
        rw [hI] at HT HG Ht hIl
        have HIl := hide hIl
        have hmk := run_mk64 n n (Nat.le_refl _) (by omega)
        rw [← part_zero L n] at hmk
        have B1 := hide (Blk.new wr 62 (q8s (part L n 0)).toArray)
        have E1 := hide (ext_alloc wr (.cells (q8s (part L n 0)).toArray 62))
        have HLL := hide hL
        clear hL hI hIl KD HRl
        go_upto_region 8 with fail
        obtain ⟨w1, hw1⟩ : ∃ w1, wr.alloc (.cells (q8s (part L n 0)).toArray 62) = w1 := ⟨_, rfl⟩
        rw [hw1] at B1 E1 ⊢
        obtain ⟨g, hg⟩ : ∃ g, wr.heap.size = g := ⟨_, rfl⟩
        rw [hg] at B1 ⊢
        have hgW : wr.heap.size ≤ g := by omega
        clear hw1 hg hmk
        go_wp2_with fail
        go_loopw [8] (fun iv w => ∃ j : Nat, j ≤ n ∧ iv = .int .i64 (j : Int) ∧ Hid (Blk w g 62 (q8s (part L n j)).toArray) ∧ Hid (Ext wr w)) (fun iv _ => n - (intOf iv).toNat)
        case atStart => exact ⟨0, by omega, rfl, B1, E1⟩
        case round =>
          clear B1 E1
          rename_i w5 _
          obtain ⟨j, hj, rfl, HB, HX⟩ := hrel
          by_cases hlj : j < n
          · have d4 : decide ((j : Int) < (n : Int)) = true := decide_eq_true (by omega)
            have hjl : j < I.length := by rw [HIl.out]; exact hlj
            obtain ⟨b, off, rfl, hb1, hc1⟩ := (HT.out.ext HX.out).2.2 (by omega)
            have ct := hc1 j hjl
            have hx := Ht.out.get j
            have hg := HG.out j hlj
            obtain ⟨x, hxx⟩ : ∃ x, I.getD j 0 = x := ⟨_, rfl⟩
            rw [hxx] at ct hx hg
            obtain ⟨q, hq⟩ : ∃ q, zig x = q := ⟨_, rfl⟩
            have KZ := hide (fun w => v_zigzag x w hx.1 hx.2)
            rw [hq] at KZ hg
            have ixa := fun w => idxT b off n c' j hlj w
            have ixb := fun w => idx64B g n n j hlj w
            have hcx := HB.out.cell j
            have f3 := HB.out.frozen j
            have Z3 := hide (part_store HB.out HLl.out hlj hg)
            have E3 := hide (Below.setCell HX.out (p := ⟨g, j, none⟩) hgW (.int .u64 (q : Int)))
            rw [List.getElem?_toArray, List.getElem?_eq_getElem (by rw [q8s_len, part_len HLl.out hj]; exact hlj)] at hcx
            clear hb1 hc1 hxx hq hg hjl HB HX
            go_wp2_with (go_at_call 30; (with_reducible refine (KZ.out _).mono ?_); rintro e w3 ⟨rfl, rfl⟩)
            go_roundw
            case rel => exact ⟨j + 1, by omega, by go_num, Z3, E3⟩
            case measure => simp [intOf]; omega
          · obtain rfl : j = n := by omega
            have d4 : decide ((j : Int) < (j : Int)) = false := decide_eq_false (by omega)
            have hB := HB.out
            rw [part_end HLl.out] at hB
            have hB := hide hB
            have EE := hide (Ext.trans HE.out HX.out)
            have hgW2 := Nat.le_trans HE.out.size hgW
            go_wp2_with fail
            go_ret2
            refine ⟨_, rfl, ?_, EE.out⟩
            show OwnQ _ _ _ (resL l k)
            rw [HLL.out]
            exact own_qL hgW2 hB.out HLl.out (by omega) HLq.out
end
section
open Go Go.RowKit
/-- The best encoding of the first orders. -/
def bst (l : List Int) : Nat → List Nat
  | 0 => []
  | k + 1 => if k = 0 ∨ (cR l k).length < (bst l k).length then cR l k else bst l k
theorem bst_end (l : List Int) : bst l 3 = bestR l := by
  have e1 : bst l 1 = cR l 0 := by simp [bst]
  have e2 : bst l 2 = if (cR l 1).length < (cR l 0).length then cR l 1 else cR l 0 := by
    rw [bst, e1]; simp
  have e3 : bst l 3 = if (cR l 2).length < (bst l 2).length then cR l 2 else bst l 2 := by
    rw [bst]; simp
  rw [e3, e2]
  unfold bestR ordR
  split
  · split
    · rfl
    · rfl
  · split
    · rfl
    · rfl
theorem bst_len {l : List Int} (h : IsT l) (hn : l.length ≤ 65536) : ∀ k, (bst l k).length ≤ 2 + 10 * l.length
  | 0 => by simp [bst]
  | k + 1 => by
    rw [bst]
    split
    · exact cR_len h hn k
    · exact bst_len h hn k
theorem bst_yes {l : List Int} {k : Nat} (h : k = 0 ∨ (cR l k).length < (bst l k).length) : bst l (k + 1) = cR l k := by rw [bst, if_pos h]
theorem bst_no {l : List Int} {k : Nat} (h : ¬ (k = 0 ∨ (cR l k).length < (bst l k).length)) : bst l (k + 1) = bst l k := by rw [bst, if_neg h]
set_option maxHeartbeats 3200000 in
set_option maxRecDepth 100000 in
theorem r_encR (A : Option Addr) (n c : Nat) (l : List Int) (W : World) (hl : TimesAt W A l) (hn : l.length = n) :
    Calls Try.prog 11 #[.slice A n c] W (EncRet (enR l).1 (enR l).2 W) := by
  have hn63 : n ≤ 9223372036854775807 := by have := hl.2.1; omega
  by_cases hc : 65536 < n
  · have e : enR l = ([], 3) := if_pos (by omega)
    rw [e]
    have d1 : decide ((65536 : Int) < (n : Int)) = true := decide_eq_true (by omega)
    clear hl hn e
    go_enter Try.func11, Try.ntmps11
    go_wp2_with fail
    go_ret2
    exact ⟨_, rfl, OwnB.nil_ _ _, Ext.refl _⟩
  · have d1 : decide ((65536 : Int) < (n : Int)) = false := decide_eq_false (by omega)
    have hn2 : n ≤ 65536 := by omega
    have e : enR l = (bestR l, 0) := enR_ok (by omega)
    rw [e]
    have KR : Hid (∀ k : Nat, k ≤ 2 → ∀ w, Ext W w → Calls Try.prog 14 #[.slice A n c, .int .i64 (k : Int)] w fun e w' => ∃ A1 c1, e = .returned (.tuple #[.slice A1 n c1, .bool true]) ∧ WordsAt w' A1 (resL l k) ∧ Ext w w') := hide (fun k hk w hE => by
      have e : resR l (k : Int) = some (resL l k) := by unfold resR; rw [if_neg (by omega), Int.toNat_natCast]
      have := r_res A n c l (k : Int) w (hl.ext hE) hn (by omega) ⟨by omega, by omega⟩
      rw [e] at this
      refine this.mono fun e w' h => ?_
      obtain ⟨v, rfl, ho, hE⟩ := h
      obtain ⟨A1, c1, rfl, _, _, hw⟩ := ho.at_
      exact ⟨A1, c1, by rw [show (some (resL l k)).getD [] = resL l k from rfl, resL_len, hn]; rfl, hw, hE⟩)
    have KE : Hid (∀ (k : Nat) A1 c1 w, WordsAt w A1 (resL l k) → Calls Try.prog 17 #[.slice A1 n c1] w (EncRet (enN (resL l k)).1 (enN (resL l k)).2 w)) := hide (fun k A1 c1 w h => r_encN A1 n c1 (resL l k) w h (by rw [resL_len]; exact hn))
    have Hb : Hid (∀ k, k ≤ 2 → IsB (cR l k)) := hide (fun k hk => cR_b hl.1 hk)
    have Hbl : Hid (∀ k, (bst l k).length ≤ 700000) := hide (fun k => by have := bst_len hl.1 (by omega) k; omega)
    have Hcl : Hid (∀ k, (cR l k).length ≤ 700000) := hide (fun k => by have := cR_len hl.1 (by omega) k; omega)
    have HE0 : Hid (Ext W W) := Ext.refl _
    clear hl hn e hc
    go_enter Try.func11, Try.ntmps11
    go_wp2_with fail
    go_loopw [4, 5] (fun bv iv wr => ∃ k : Nat, k ≤ 3 ∧ iv = .int .i64 (k : Int) ∧ Hid (OwnB W.heap.size wr bv (bst l k)) ∧ Hid (Ext W wr)) (fun _ iv _ => 3 - (intOf iv).toNat)
    case atStart => exact ⟨0, by omega, rfl, hide (OwnB.nil_ _ _), HE0⟩
    case round =>
      clear HE0
      obtain ⟨k, hk, rfl, HO, HE⟩ := hrel
      by_cases hlt : k ≤ 2
      · have d2 : decide ((k : Int) ≤ 2) = true := decide_eq_true (by omega)
        have KR1 := hide (KR.out k hlt wr HE.out)
        have KE1 := hide (KE.out k)
        have hcb := Hb.out k hlt
        have hcl := Hcl.out k
        have hbl := Hbl.out k
        have hy := bst_yes (l := l) (k := k)
        have hno := bst_no (l := l) (k := k)
        obtain ⟨Ab, cb, rfl, _, _, -⟩ := HO.out.at_
        have e0 : cR l k = k :: (enN (resL l k)).1 := rfl
        rw [e0] at hcb hcl hy hno
        obtain ⟨F, hF⟩ : ∃ F, (enN (resL l k)).1 = F := ⟨_, rfl⟩
        obtain ⟨z, hz⟩ : ∃ z, F.length = z := ⟨_, rfl⟩
        obtain ⟨ze, hze⟩ : ∃ ze, (enN (resL l k)).2 = ze := ⟨_, rfl⟩
        obtain ⟨bk, hbk⟩ : ∃ bk, bst l k = bk := ⟨_, rfl⟩
        obtain ⟨bn, hbn⟩ : ∃ bn, bk.length = bn := ⟨_, rfl⟩
        rw [hF] at hcb hcl hy hno
        rw [List.length_cons, hz] at hcl hy hno
        rw [hbk, hbn] at hbl hy hno
        rw [hbk] at HO ⊢
        rw [hbn] at HO ⊢
        have KE2 : Hid (∀ A1 c1 w, WordsAt w A1 (resL l k) → Calls Try.prog 17 #[.slice A1 n c1] w (fun e w' => ∃ A4 c4, e = .returned (.tuple #[.slice A4 z c4, .int .i64 (ze : Int)]) ∧ BytesAt w' A4 F ∧ Ext w w')) := hide (fun A1 c1 w h => (KE1.out A1 c1 w h).mono fun e w' h => by
          obtain ⟨A4, c4, rfl, _, _, _, h3, hE⟩ := h.parts
          rw [hF] at h3
          exact ⟨A4, c4, by rw [hF, hz, hze], h3, hE⟩)
        have HF := hide hz
        clear e0 hF hz hze hbk KE1
        by_cases hcond : k = 0 ∨ z + 1 < bn
        · have hst := hide (hy hcond)
          have H6 : Hid (([k] ++ F).length = 1 + z) := hide (by rw [List.length_append, HF.out]; rfl)
          have L6 : ([k] : List Nat).length + F.length ≤ 140737488355328 := by rw [HF.out]; simp; omega
          have ek : IntKind.u8.wrap (k : Int) = (k : Int) := by rw [wrap_8]; omega
          have ek2 : (k : Int) % 256 = (k : Int) := by omega
          have Hk : Hid (IsB [k]) := hide (IsB.one (by omega))
          by_cases hk0 : k = 0
          · have d3 : ((k : Int) == 0) = true := by rw [beq_iff_eq]; omega
            clear hy hno hcond hbn hk0 HO
            go_wp2_with (first
              | (go_at_call 14; (with_reducible refine (KR1.out).mono ?_); rintro e w1 ⟨A1, c1, rfl, hw, hE⟩; have E1 := hide (Ext.trans HE.out hE); have ke := hide (KE2.out A1 c1 w1 hw); clear hw hE)
              | (go_at_call 17; (with_reducible refine (ke.out).mono ?_); rintro e w2 ⟨A4, c4, rfl, hb, hE⟩; have E2 := hide (Ext.trans E1.out hE); have O4 := hide (own_new8 (B := W.heap.size) w2 [k] Hk.out (by simp) #[.int .u8 (k : Int)] rfl E2.out.size (n := 1) rfl); have b4 := hide (hb.ext (ext_alloc w2 (.cells #[.int .u8 (k : Int)] 5))); have E4 := hide (Ext.trans E2.out (ext_alloc w2 (.cells #[.int .u8 (k : Int)] 5))); clear hb hE)
              | (at_builtin; refine wl_append8 rfl (.tmp 40) (.tmp 41) rfl W.heap.size _ [k] F rfl O4.out A4 z c4 rfl b4.out HF.out L6 E4.out.size ?_; intro v6 w6 hO6 hG6 hA6))
            have O6 : Hid (OwnB W.heap.size w6 v6 (bst l (k + 1))) := by show OwnB _ _ _ _; rw [hst.out]; exact hO6
            have E6 := hide (below_grown E4.out (Nat.le_refl _) O4.out hG6)
            clear hO6 hG6 hA6 O4 E4
            go_roundw
            case rel => exact ⟨k + 1, by omega, by go_num, O6, E6⟩
            case measure => simp [intOf]; omega
          · have d3 : ((k : Int) == 0) = false := by rw [beq_eq_false_iff_ne]; omega
            have d4 : decide ((1 : Int) + (z : Int) < (bn : Int)) = true := decide_eq_true (by omega)
            have d5 : decide (1 + z < bn) = true := decide_eq_true (by omega)
            clear hy hno hcond hbn hk0 HO
            go_wp2_with (first
              | (go_at_call 14; (with_reducible refine (KR1.out).mono ?_); rintro e w1 ⟨A1, c1, rfl, hw, hE⟩; have E1 := hide (Ext.trans HE.out hE); have ke := hide (KE2.out A1 c1 w1 hw); clear hw hE)
              | (go_at_call 17; (with_reducible refine (ke.out).mono ?_); rintro e w2 ⟨A4, c4, rfl, hb, hE⟩; have E2 := hide (Ext.trans E1.out hE); have O4 := hide (own_new8 (B := W.heap.size) w2 [k] Hk.out (by simp) #[.int .u8 (k : Int)] rfl E2.out.size (n := 1) rfl); have b4 := hide (hb.ext (ext_alloc w2 (.cells #[.int .u8 (k : Int)] 5))); have E4 := hide (Ext.trans E2.out (ext_alloc w2 (.cells #[.int .u8 (k : Int)] 5))); clear hb hE)
              | (at_builtin; refine wl_append8 rfl (.tmp 40) (.tmp 41) rfl W.heap.size _ [k] F rfl O4.out A4 z c4 rfl b4.out HF.out L6 E4.out.size ?_; intro v6 w6 hO6 hG6 hA6))
            have O6 : Hid (OwnB W.heap.size w6 v6 (bst l (k + 1))) := by show OwnB _ _ _ _; rw [hst.out]; exact hO6
            have E6 := hide (below_grown E4.out (Nat.le_refl _) O4.out hG6)
            clear hO6 hG6 hA6 O4 E4
            go_roundw
            case rel => exact ⟨k + 1, by omega, by go_num, O6, E6⟩
            case measure => simp [intOf]; omega
        · have hst := hide (hno hcond)
          have d3 : ((k : Int) == 0) = false := by rw [beq_eq_false_iff_ne]; omega
          have d4 : decide ((1 : Int) + (z : Int) < (bn : Int)) = false := decide_eq_false (by omega)
          have d5 : decide (1 + z < bn) = false := decide_eq_false (by omega)
          clear hy hno hcond hbn
          go_wp2_with (first
            | (go_at_call 14; (with_reducible refine (KR1.out).mono ?_); rintro e w1 ⟨A1, c1, rfl, hw, hE⟩; have E1 := hide (Ext.trans HE.out hE); have O1 := hide (HO.out.ext hE); have ke := hide (KE2.out A1 c1 w1 hw); clear hw hE)
            | (go_at_call 17; (with_reducible refine (ke.out).mono ?_); rintro e w2 ⟨A4, c4, rfl, hb, hE⟩; have E2 := hide (Ext.trans E1.out hE); have O2 := hide (O1.out.ext hE); clear hb hE))
          have O3 : Hid (OwnB W.heap.size w2 (.slice Ab bn cb) (bst l (k + 1))) := by show OwnB _ _ _ _; rw [hst.out]; exact O2.out
          go_roundw
          case rel => exact ⟨k + 1, by omega, by go_num, O3, E2⟩
          case measure => simp [intOf]; omega
      · obtain rfl : k = 3 := by omega
        have hO := HO.out
        rw [bst_end] at hO
        have hO := hide hO
        go_wp2_with fail
        go_ret2
        exact ⟨_, rfl, hO.out, HE.out⟩
end
section
open Go Go.RowKit
/-- A list of times whose elements are written one after the other. -/
def tst (acc : List Int) (m : Nat) : List Int := acc ++ List.replicate m 0
theorem tst_set (acc : List Int) (m : Nat) (x : Int) (k : Nat) (hk : acc.length = k) : (t8s (tst acc (m + 1))).toArray.setIfInBounds k (.int .i64 x) = (t8s (tst (acc ++ [x]) m)).toArray := by
  subst hk
  unfold tst
  rw [List.replicate_succ]
  simp [t8s]
theorem tst_get (acc : List Int) (m k : Nat) (hk : acc.length = k) : (t8s (tst acc (m + 1))).toArray[k]? = some (.int .i64 0) := by
  subst hk
  unfold tst
  rw [List.replicate_succ]
  simp [t8s]
theorem idxTB (g N cap j : Nat) (h : j < N) (w : World) : (Instr.indexAt 22 (.slice (some ⟨g, 0, none⟩) N cap) (.int .i64 (j : Int))).run Try.prog w = .ok (.pointer (some ⟨g, j, none⟩)) w := by
  have := idxT g 0 N cap j h w
  rw [Nat.zero_add] at this
  exact this
/-- A list of times, an index and an error. -/
def TmRet (r : List Int × Int × Int) (W : World) (e : Ending) (w' : World) : Prop := ∃ v, e = .returned (.tuple #[v, .int .i64 r.2.1, .int .i64 r.2.2]) ∧ OwnT W.heap.size w' v r.1 ∧ Ext W w'
theorem TmRet.parts {r : List Int × Int × Int} {W : World} {e : Ending} {w' : World} (h : TmRet r W e w') : ∃ A cap, e = .returned (.tuple #[.slice A r.1.length cap, .int .i64 r.2.1, .int .i64 r.2.2]) ∧ r.1.length ≤ cap ∧ cap ≤ 9223372036854775807 ∧ OwnT W.heap.size w' (.slice A r.1.length cap) r.1 ∧ TimesAt w' A r.1 ∧ Ext W w' := by
  obtain ⟨v, rfl, hO, hE⟩ := h
  obtain ⟨A, cap, rfl, h1, h2, h3⟩ := hO.at_
  exact ⟨A, cap, rfl, h1, h2, hO, h3, hE⟩
end
end Go.Proofs.Ytijfojbonceffaa
