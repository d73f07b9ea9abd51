/- Layer 9: lists of numbers, the program's and the reference's Encode and Decode. Conditions: the slices read as bytes and numbers. -/
import Derived.Test.YtjmigglibidbdaaBpQ
import Derived.Test.YtjmigglibidbdaaVar1
import Derived.Test.YtjmigglibidbdaaBpk1
import Derived.Test.YtjmigglibidbdaaRvM
import Derived.Test.YtjmigglibidbdaaSamA
import Derived.Test.YtjmigglibidbdaaFrm1
namespace Go.Proofs.Ytjmigglibidbdaa
set_option linter.unusedVariables false
set_option linter.unusedSimpArgs false
open Go Go.RowKit
/-- The plain form without its first byte. -/
def encV (l : List Nat) : List Nat := (l.map encB).flatten
theorem encV_nil : encV [] = [] := rfl
theorem encV_snoc (l : List Nat) (x : Nat) : encV (l ++ [x]) = encV l ++ encB x := by simp [encV]
theorem encV_cons (x : Nat) (l : List Nat) : encV (x :: l) = encB x ++ encV l := by simp [encV]
theorem encB_b (n : Nat) : IsB (encB n) := by
  induction n using Nat.strongRecOn with
  | ind n ih =>
    by_cases h : n < 128
    · rw [encB_small h]; exact IsB.one (by omega)
    · rw [encB_big (by omega)]
      intro y hy
      rcases List.mem_cons.1 hy with rfl | hy
      · omega
      · exact ih (n / 128) (by omega) y hy
theorem encV_b {l : List Nat} (h : IsQ l) : IsB (encV l) := by
  intro y hy
  simp only [encV, List.mem_flatten, List.mem_map] at hy
  obtain ⟨_, ⟨x, _, rfl⟩, hy⟩ := hy
  exact encB_b x y hy
theorem encV_le {l : List Nat} (h : IsQ l) : (encV l).length ≤ 10 * l.length := by
  induction l with
  | nil => simp [encV]
  | cons x l ih =>
    have h1 := ih (fun y hy => h y (List.mem_cons_of_mem _ hy))
    have h2 : (encB x).length ≤ 10 := encB_length_le x 9 (by have := h x (List.mem_cons_self ..); omega)
    rw [encV_cons, List.length_append, List.length_cons]; omega
/-- What Encode returns: the bytes and the error. -/
def pkS (l : List Nat) : Nat := (l.length * wdt l + 7) / 8
def enN (l : List Nat) : List Nat × Nat :=
  if 65536 < l.length then ([], 3)
  else if 2 + pkS l < 1 + (encV l).length then (1 :: wdt l :: upN (pkN l (wdt l)) (pkS l) 8, 0)
  else (0 :: encV l, 0)
theorem enN_b {l : List Nat} (h : IsQ l) : IsB (enN l).1 := by
  unfold enN
  split
  · exact IsB.nil
  · split
    · intro y hy
      have := wdt_le h
      rcases List.mem_cons.1 hy with rfl | hy
      · omega
      · rcases List.mem_cons.1 hy with rfl | hy
        · omega
        · exact upN_fit _ _ 8 y hy
    · intro y hy
      rcases List.mem_cons.1 hy with rfl | hy
      · omega
      · exact encV_b h y hy
theorem enN_ok {l : List Nat} (h : l.length ≤ 65536) : (enN l).2 = 0 := by
  unfold enN
  rw [if_neg (by omega)]
  split <;> rfl
theorem pkS_le {l : List Nat} (h : IsQ l) (hn : l.length ≤ 65536) : pkS l ≤ 524288 := by
  have h1 := wdt_le h
  have h2 : l.length * wdt l ≤ 65536 * 64 := Nat.mul_le_mul hn h1
  unfold pkS; omega
theorem enN_len {l : List Nat} (h : IsQ l) (hn : l.length ≤ 65536) : 1 ≤ (enN l).1.length ∧ (enN l).1.length ≤ 1 + (encV l).length ∧ (enN l).1.length ≤ 2 + pkS l := by
  unfold enN
  rw [if_neg (by omega)]
  split
  · simp only [List.length_cons, upN_len]; omega
  · simp only [List.length_cons]; omega
/-- Numbers of the plain form, one after the other. -/
def rdA (b : List Nat) : List Nat → Nat → Int → List Nat × Int × Int
  | acc, 0, at_ => (acc, at_, 0)
  | acc, n + 1, at_ => if (rdV b at_).2.2 = 0 then rdA b (acc ++ [(rdV b at_).1.toNat]) n (rdV b at_).2.1 else ([], 0, (rdV b at_).2.2)
/-- Numbers of the packed form. -/
def rdK (b : List Nat) (a n : Nat) : List Nat × Int × Int :=
  if a = b.length then ([], 0, 4)
  else if 64 < b.getD a 0 then ([], 0, 5)
  else if b.length - a - 1 < (n * b.getD a 0 + 7) / 8 then ([], 0, 4)
  else match upR ((b.drop (a + 1)).take ((n * b.getD a 0 + 7) / 8)) n (b.getD a 0) with
    | none => ([], 0, 5)
    | some l => (l, ((a + 1 + (n * b.getD a 0 + 7) / 8 : Nat) : Int), 0)
/-- What is read before it is compared. -/
def rdN (b : List Nat) (a n : Nat) : List Nat × Int × Int :=
  if b.getD a 0 = 0 then rdA b [] n ((a : Int) + 1) else if b.getD a 0 = 1 then rdK b (a + 1) n else ([], 0, 5)
/-- What Decode returns: the list, the index behind it and the error. -/
def deN (b : List Nat) (at_ n : Int) : List Nat × Int × Int :=
  if at_ < 0 ∨ (b.length : Int) < at_ ∨ n < 0 ∨ 65536 < n then ([], 0, 2)
  else if at_ = b.length then ([], 0, 4)
  else if (rdN b at_.toNat n.toNat).2.2 ≠ 0 then ([], 0, (rdN b at_.toNat n.toNat).2.2)
  else if (enN (rdN b at_.toNat n.toNat).1).1 = (b.drop at_.toNat).take ((rdN b at_.toNat n.toNat).2.1.toNat - at_.toNat) then ((rdN b at_.toNat n.toNat).1, (rdN b at_.toNat n.toNat).2.1, 0)
  else ([], 0, 5)
/-- A number that is read. -/
theorem rdV_ok {b : List Nat} {at_ v nx : Int} (h : rdV b at_ = (v, nx, 0)) : 0 ≤ v ∧ v < 18446744073709551616 ∧ 0 ≤ at_ ∧ at_ < nx ∧ nx ≤ b.length := by
  unfold rdV at h
  cases hg : rdG b at_ 64 10 with
  | none =>
    obtain ⟨e, hbd, he⟩ := bhd_none hg
    rw [hg] at h
    simp only [Prod.mk.injEq] at h
    unfold rdE at h
    rw [hbd] at h
    simp at h
    omega
  | some g =>
    rw [hg] at h
    simp only [Prod.mk.injEq] at h
    obtain ⟨a, ha, hal, _, hs, hk⟩ := bhd_some hg
    have hd : decB g < 2 ^ 64 := decB_ok (width := 64) hs hk
    obtain ⟨r, x, hr, _, _, ⟨t, ht⟩, _⟩ := scanG_some 10 (b.drop a) g hs
    have hl : (b.drop a).length = g.length + t.length := by rw [← ht, List.length_append]
    rw [List.length_drop] at hl
    have hg1 : 1 ≤ g.length := by rw [hr]; simp
    have : (2 : Nat) ^ 64 = 18446744073709551616 := rfl
    omega
theorem rdV_err (b : List Nat) (at_ : Int) : (rdV b at_).2.2 = 0 ∨ ((rdV b at_).1 = 0 ∧ (rdV b at_).2.1 = 0 ∧ 0 < (rdV b at_).2.2 ∧ (rdV b at_).2.2 ≤ 5) := by
  unfold rdV
  cases hg : rdG b at_ 64 10 with
  | none =>
    obtain ⟨e, hbd, he⟩ := bhd_none hg
    right
    refine ⟨rfl, rfl, ?_⟩
    show 0 < rdE b at_ 64 10 ∧ rdE b at_ 64 10 ≤ 5
    unfold rdE
    rw [hbd]
    simp only
    omega
  | some g => left; rfl
theorem rdA_ok {b : List Nat} : ∀ {n : Nat} {acc : List Nat} {at_ : Int} {l : List Nat} {nx : Int}, IsQ acc → 0 ≤ at_ → at_ ≤ b.length → rdA b acc n at_ = (l, nx, 0) → IsQ l ∧ l.length = acc.length + n ∧ at_ ≤ nx ∧ nx ≤ b.length
  | 0, acc, at_, l, nx, hq, h0, h1, h => by
    simp only [rdA, Prod.mk.injEq] at h
    obtain ⟨rfl, rfl, _⟩ := h
    exact ⟨hq, rfl, Int.le_refl _, h1⟩
  | n + 1, acc, at_, l, nx, hq, h0, h1, h => by
    simp only [rdA] at h
    by_cases he : (rdV b at_).2.2 = 0
    · rw [if_pos he] at h
      obtain ⟨v, nx1, e1⟩ : ∃ v nx1, rdV b at_ = (v, nx1, 0) := ⟨_, _, by rw [← he]⟩
      obtain ⟨v0, v1, _, a1, a2⟩ := rdV_ok e1
      rw [e1] at h
      have hq2 : IsQ (acc ++ [v.toNat]) := by
        intro y hy
        rcases List.mem_append.1 hy with hy | hy
        · exact hq y hy
        · simp at hy; omega
      have := rdA_ok hq2 (by simp only; omega) (by simp only; omega) h
      rw [List.length_append, List.length_singleton] at this
      simp only at this
      exact ⟨this.1, by omega, by omega, this.2.2.2⟩
    · rw [if_neg he] at h
      simp only [Prod.mk.injEq] at h
      omega
theorem rdK_ok {b l : List Nat} {a n : Nat} {nx : Int} (hn : n ≤ 65536) (h0 : a ≤ b.length) (h : rdK b a n = (l, nx, 0)) : IsQ l ∧ l.length = n ∧ (a : Int) < nx ∧ nx ≤ b.length := by
  unfold rdK at h
  split at h
  · simp at h
  · split at h
    · simp at h
    · split at h
      · simp at h
      · split at h
        · simp at h
        · rename_i l' hu
          simp only [Prod.mk.injEq] at h
          obtain ⟨rfl, rfl, _⟩ := h
          obtain ⟨h1, h2, _⟩ := upR_q hu
          exact ⟨h1, by omega, by omega, by omega⟩
theorem rdN_ok {b l : List Nat} {a n : Nat} {nx : Int} (hn : n ≤ 65536) (h0 : a < b.length) (h : rdN b a n = (l, nx, 0)) : IsQ l ∧ l.length = n ∧ (a : Int) < nx ∧ nx ≤ b.length := by
  unfold rdN at h
  split at h
  · have := rdA_ok (fun _ h => by simp at h) (by omega) (by omega) h
    simp only [List.length_nil] at this
    exact ⟨this.1, by omega, by omega, this.2.2.2⟩
  · split at h
    · have := rdK_ok hn (by omega) h
      exact ⟨this.1, this.2.1, by omega, this.2.2.2⟩
    · simp at h
/-- What is read is what is encoded: by the last comparison. -/
theorem deN_canon {b l : List Nat} {at_ n nx : Int} (h : deN b at_ n = (l, nx, 0)) : IsQ l ∧ (l.length : Int) = n ∧ l.length ≤ 65536 ∧ 0 ≤ at_ ∧ at_ < nx ∧ nx ≤ b.length ∧ (enN l).1 = (b.drop at_.toNat).take (nx.toNat - at_.toNat) := by
  unfold deN at h
  split at h
  · simp at h
  · rename_i hc
    split at h
    · simp at h
    · rename_i hc2
      split at h
      · rename_i hc3
        simp only [Prod.mk.injEq] at h
        exact absurd h.2.2 hc3
      · rename_i hc3
        split at h
        · rename_i hc4
          simp only [Prod.mk.injEq] at h
          obtain ⟨h1, h2, _⟩ := h
          have e : rdN b at_.toNat n.toNat = (l, nx, 0) := by
            rw [← h1, ← h2]
            have : (rdN b at_.toNat n.toNat).2.2 = 0 := by
              by_cases hz : (rdN b at_.toNat n.toNat).2.2 = 0
              · exact hz
              · exact absurd hz hc3
            rw [← this]
          rw [h1, h2] at hc4
          have := rdN_ok (by omega) (by omega) e
          exact ⟨this.1, by omega, by omega, by omega, by omega, this.2.2.2, hc4⟩
        · simp at h
/-- Bytes that the call owns, and an error. -/
def EncRet (x : List Nat) (n : Nat) (W : World) (e : Ending) (w' : World) : Prop := ∃ v, e = .returned (.tuple #[v, .int .i64 (n : Int)]) ∧ OwnB W.heap.size w' v x ∧ Ext W w'
theorem own_new8 {B : Nat} (w : World) (l : List Nat) (hl : IsB l) (hm : l.length ≤ 1048576) (cs : Array Value) (hc : cs = (u8s l).toArray) (hB : B ≤ w.heap.size) {n : Nat} (hn : l.length = n) : OwnB B (w.alloc (.cells cs 5)) (.slice (some ⟨w.heap.size, 0, none⟩) n n) l := by
  subst hc
  exact own_of (m := []) hB (by rw [List.append_nil]; exact heap_alloc_new w _) hn (by simp) (by omega) hl
theorem own_mk1 {B s : Nat} (w : World) (hs1 : 1 ≤ s) (hs : s ≤ 1048576) (hB : B ≤ w.heap.size) : OwnB B (w.alloc (.cells (u8s (List.replicate s 0)).toArray 5)) (.slice (some ⟨w.heap.size, 0, none⟩) 1 s) [0] := by
  refine own_of (m := List.replicate (s - 1) 0) hB ?_ rfl (by rw [List.length_replicate]; omega) (by omega) (IsB.one (by omega))
  rw [show [0] ++ List.replicate (s - 1) 0 = List.replicate s 0 by
    obtain ⟨k, rfl⟩ : ∃ k, s = k + 1 := ⟨s - 1, by omega⟩
    rw [List.replicate_succ]; rfl]
  exact heap_alloc_new w _
theorem encV_take {l : List Nat} {k : Nat} (h : k < l.length) : encV (l.take (k + 1)) = encV (l.take k) ++ encB (l.getD k 0) := by rw [take_succ h, encV_snoc]
theorem pkR_wdt {l : List Nat} (hq : IsQ l) (hn : l.length ≤ 65536) : pkR l (wdt l : Int) = some (upN (pkN l (wdt l)) (pkS l) 8) := by
  have := wdt_le hq
  unfold pkR pkS
  rw [if_neg (by omega), Int.toNat_natCast]
set_option maxRecDepth 100000 in
set_option maxHeartbeats 3200000 in
theorem r_encN (A : Option Addr) (n c : Nat) (l : List Nat) (W : World) (hl : WordsAt W A l) (hn : l.length = n) :
    Calls Try.prog 29 #[.slice A n c] W (EncRet (enN l).1 (enN l).2 W) := by
  have hn63 : n ≤ 9223372036854775807 := by have := hl.2.1; omega
  by_cases hc : 65536 < n
  · have e : enN l = ([], 3) := if_pos (by omega)
    rw [e]
    have d1 : decide ((65536 : Int) < (n : Int)) = true := decide_eq_true (by omega)
    clear hl hn
    go_enter Try.func29, Try.ntmps29
    go_wp2_with fail
    go_ret2
    exact ⟨_, rfl, OwnB.nil_ _ _, Ext.refl _⟩
  · have d1 : decide ((65536 : Int) < (n : Int)) = false := decide_eq_false (by omega)
    have hq := hl.1
    have hln : l.length ≤ 65536 := by omega
    have hpk := pkR_wdt hq hln
    have hS := pkS_le hq hln
    have hV := encV_le hq
    have hw64 := wdt_le hq
    obtain ⟨u, hu⟩ : ∃ u, wdt l = u := ⟨_, rfl⟩
    rw [hu] at hw64
    have iu : I64 (u : Int) := ⟨by omega, by omega⟩
    have KW : Hid (∀ w, Ext W w → Calls Try.prog 41 #[.slice A n c] w (Ret (.int .i64 (u : Int)) w)) := hide (fun w hw => by have := r_wd A n c l w (hl.ext hw) hn; rw [hu] at this; exact this)
    obtain ⟨S, hSS⟩ : ∃ S, pkS l = S := ⟨_, rfl⟩
    rw [hu, hSS] at hpk
    obtain ⟨q, hqq⟩ : ∃ q, upN (pkN l u) S 8 = q := ⟨_, rfl⟩
    have hql : q.length = S := by rw [← hqq, upN_len]
    rw [hqq] at hpk
    have KP : Hid (∀ w, Ext W w → Calls Try.prog 42 #[.slice A n c, .int .i64 (u : Int)] w fun e w' => ∃ A cap, e = .returned (.tuple #[.slice A S cap, .bool true]) ∧ BytesAt w' A q ∧ Ext w w') := hide (fun w hw => (r_pack A n c l u w (hl.ext hw) hn iu).mono fun e w' h => by
      rw [hpk] at h
      obtain ⟨v, rfl, hO, hE⟩ := h
      obtain ⟨A, cap, rfl, h1, h2, h3⟩ := hO.at_
      rw [show (some q).getD [] = q from rfl] at h3
      exact ⟨A, cap, by rw [← hql]; rfl, h3, hE⟩)
    have KS : Hid (∀ (v : Nat) (w : World), v < 18446744073709551616 → Calls Try.prog 40 #[.int .u64 (v : Int)] w (Ret (.int .i64 ((encB v).length : Int)) w)) := hide (fun v w h => v_size v w h)
    have HL := hide hl
    have Hn := hide hn
    have Hq := hide hq
    have Hql := hide hql
    have Hqq := hide hqq
    have Hu := hide hu
    have HSS := hide hSS
    have HV := hide hV
    have hS2 : S ≤ 524288 := by omega
    have HE : Hid (Ext W W) := Ext.refl _
    clear hl hn hq hpk hS hV hu hSS hqq hql
    go_enter Try.func29, Try.ntmps29
    go_wp2_with fail
    go_loopw [4, 5] (fun s i wr => ∃ (k z : Nat), k ≤ n ∧ i = .int .i64 (k : Int) ∧ s = .int .i64 (z : Int) ∧ z ≤ 1 + 10 * k ∧ Hid (1 + (encV (l.take k)).length = z) ∧ Hid (Ext W wr)) (fun _ i _ => n - (intOf i).toNat)
    case atStart => exact ⟨0, 1, by omega, rfl, rfl, by omega, hide (by simp [encV]), HE⟩
    case round =>
      clear HE
      obtain ⟨k, z, hk, rfl, rfl, hz, HZ, HE⟩ := hrel
      by_cases hlt : k < n
      · have hkl : k < l.length := by rw [Hn.out]; exact hlt
        obtain ⟨b, off, rfl, hb1, hc1⟩ := (HL.out.ext HE.out).2.2 (by omega)
        have d2 := hc1 k hkl
        have hx : l.getD k 0 < 18446744073709551616 := Hq.out.get k
        have hst := encV_take hkl
        have h10 : (encB (l.getD k 0)).length ≤ 10 := encB_length_le _ 9 (by omega)
        obtain ⟨x, hxx⟩ : ∃ x, l.getD k 0 = x := ⟨_, rfl⟩
        rw [hxx] at d2 hst hx h10
        have KS1 := hide (fun w => KS.out x w hx)
        obtain ⟨y, hy⟩ : ∃ y, (encB x).length = y := ⟨_, rfl⟩
        rw [hy] at KS1 h10
        have HZ1 : Hid (1 + (encV (l.take (k + 1))).length = z + y) := hide (by rw [hst, List.length_append, hy, ← HZ.out]; omega)
        clear hb1 hc1 hst hxx hy hkl HZ
        go_wp2_with (go_at_call 40; (with_reducible refine (KS1.out _).mono ?_); rintro e w3 ⟨rfl, hE⟩)
        have HE1 := hide (Ext.trans HE.out hE)
        clear hE
        go_roundw
        case rel => exact ⟨k + 1, z + y, by omega, by go_num, by go_num, by omega, HZ1, HE1⟩
        case measure => simp [intOf]; omega
      · obtain rfl : k = n := by omega
        have hZ : 1 + (encV l).length = z := by
          have := HZ.out
          rw [List.take_of_length_le (by have := Hn.out; omega)] at this
          exact this
        have d3 : decide ((k : Int) < (k : Int)) = false := decide_eq_false (by omega)
        have KW := hide (KW.out wr HE.out)
        by_cases hlt : 2 + S < z
        · have e : enN l = (1 :: u :: q, 0) := by
            unfold enN
            rw [if_neg (by have := Hn.out; omega), if_pos (by rw [HSS.out, hZ]; exact hlt), HSS.out, Hu.out, Hqq.out]
          have He := hide e
          have d4 : decide ((2 : Int) + (S : Int) < (z : Int)) = true := decide_eq_true (by omega)
          have hqs : 2 + q.length ≤ 140737488355328 := by have := Hql.out; omega
          clear e hZ HZ
          go_wp2_with (first
            | (go_at_call 41; (with_reducible refine (KW.out).mono ?_); rintro e w3 ⟨rfl, hE⟩; have HE3 := hide (Ext.trans HE.out hE); have kp := hide (KP.out w3 HE3.out); clear hE)
            | (go_at_call 42; (with_reducible refine (kp.out).mono ?_); rintro e w4 ⟨A4, c4, rfl, hb4, hE4⟩; have E4 := hide (Ext.trans HE3.out hE4); have O4 := hide (own_new8 (B := W.heap.size) w4 [1, u] (by intro y hy; simp at hy; omega) (by simp) #[.int .u8 1, .int .u8 (u : Int)] rfl E4.out.size (n := 2) rfl); have b4 := hide (hb4.ext (ext_alloc w4 (.cells #[.int .u8 1, .int .u8 (u : Int)] 5))); have E5 := hide (Ext.trans E4.out (ext_alloc w4 (.cells #[.int .u8 1, .int .u8 (u : Int)] 5))); clear hb4 hE4)
            | (at_builtin; refine wl_append8 rfl (.tmp 42) (.tmp 43) rfl W.heap.size _ [1, u] q rfl O4.out A4 S c4 rfl b4.out Hql.out hqs E5.out.size ?_; intro v6 w6 hO6 hG6 hA6))
          go_ret2
          rw [He.out]
          exact ⟨_, rfl, hO6, below_grown E5.out (Nat.le_refl _) O4.out hG6⟩
        · have e : enN l = (0 :: encV l, 0) := by
            unfold enN
            rw [if_neg (by have := Hn.out; omega), if_neg (by rw [HSS.out, hZ]; exact hlt)]
          have He := hide e
          have d4 : decide ((2 : Int) + (S : Int) < (z : Int)) = false := decide_eq_false (by omega)
          have hm : ∀ w : World, (Instr.makeSlice 29 (.int .i64 1) (.int .i64 (z : Int))).run Try.prog w = .ok (.slice (some ⟨w.heap.size, 0, none⟩) 1 z) (w.alloc (.cells (u8s (List.replicate z 0)).toArray 5)) := run_mk8b 1 z (by omega) (by omega)
          have hz1 : 1 ≤ z := by omega
          have hz2 : z ≤ 1048576 := by omega
          clear e hZ HZ
          go_upto_region 13 with (first
            | (go_at_call 41; (with_reducible refine (KW.out).mono ?_); rintro e w3 ⟨rfl, hE⟩; have HE3 := hide (Ext.trans HE.out hE); have kp := hide (KP.out w3 HE3.out); clear hE)
            | (go_at_call 42; (with_reducible refine (kp.out).mono ?_); rintro e w4 ⟨A4, c4, rfl, hb4, hE4⟩; have E4 := hide (Ext.trans HE3.out hE4); have O4 := hide (own_mk1 (B := W.heap.size) (s := z) w4 hz1 hz2 E4.out.size); have E5 := hide (Ext.trans E4.out (ext_alloc w4 (.cells (u8s (List.replicate z 0)).toArray 5))); clear hb4 hE4))
          have O5 : Hid (OwnB W.heap.size (w4.alloc (.cells (u8s (List.replicate z 0)).toArray 5)) (.slice (some ⟨w4.heap.size, 0, none⟩) 1 z) (0 :: encV (l.take 0))) := O4
          have KA : Hid (∀ (v : Nat) (w : World), v < 18446744073709551616 → Calls Try.prog 43 #[.slice none 0 0, .int .u64 (v : Int)] w (OwnRet (encB v) w)) := hide (fun v w h => v_append none 0 0 v [] w (BytesAt.nil _ _) rfl (by omega) h)
          clear O4 HE HE3 kp KP KW KS hm E4
          go_wp2_with fail
          go_loopw [9, 10] (fun o i wr => ∃ j : Nat, j ≤ k ∧ i = .int .i64 (j : Int) ∧ Hid (OwnB W.heap.size wr o (0 :: encV (l.take j))) ∧ Hid (Ext W wr)) (fun _ i _ => k - (intOf i).toNat)
          case atStart => exact ⟨0, by omega, rfl, O5, E5⟩
          case round =>
            clear O5 E5
            obtain ⟨j, hj, rfl, HO, HE⟩ := hrel
            by_cases hlt2 : j < k
            · have hkl : j < l.length := by rw [Hn.out]; exact hlt2
              obtain ⟨b, off, rfl, hb1, hc1⟩ := (HL.out.ext HE.out).2.2 (by omega)
              have d2 := hc1 j hkl
              have hx : l.getD j 0 < 18446744073709551616 := Hq.out.get j
              have hst := encV_take hkl
              have h10 : (encB (l.getD j 0)).length ≤ 10 := encB_length_le _ 9 (by omega)
              have hvl := encV_le (l := l.take j) (Hq.out.take j)
              rw [List.length_take] at hvl
              obtain ⟨x, hxx⟩ : ∃ x, l.getD j 0 = x := ⟨_, rfl⟩
              rw [hxx] at d2 hst hx h10
              obtain ⟨o, ho⟩ : ∃ o, encV (l.take j) = o := ⟨_, rfl⟩
              rw [ho] at HO hst hvl
              have kaa := hide (fun w => KA.out x w hx)
              have hle : (0 :: o).length + (encB x).length ≤ 140737488355328 := by rw [List.length_cons]; omega
              have Hst : Hid (0 :: encV (l.take (j + 1)) = (0 :: o) ++ encB x) := hide (by rw [hst]; rfl)
              clear hb1 hc1 hxx hkl ho hst hvl h10
              go_wp2_with (first
                | (go_at_call 43; (with_reducible refine (kaa.out _).mono ?_); rintro e w3 ⟨v3, rfl, hO3, hE3⟩; obtain ⟨A3, c3, rfl, _, _, hb3⟩ := hO3.at_; have O3 := hide (HO.out.ext hE3); have E3 := hide (Ext.trans HE.out hE3); clear hO3 hE3)
                | (at_builtin; refine wl_append8 rfl (.tmp 53) (.tmp 58) rfl W.heap.size _ (0 :: o) (encB x) rfl O3.out A3 _ c3 rfl hb3 rfl hle E3.out.size ?_; intro v6 w6 hO6 hG6 hA6))
              have O6 : Hid (OwnB W.heap.size w6 v6 (0 :: encV (l.take (j + 1)))) := by show OwnB _ _ _ _; rw [Hst.out]; exact hO6
              have E6 := hide (below_grown E3.out (Nat.le_refl _) O3.out hG6)
              clear hO6 hG6 hA6 O3 E3
              go_roundw
              case rel => exact ⟨j + 1, by omega, by go_num, O6, E6⟩
              case measure => simp [intOf]; omega
            · obtain rfl : j = k := by omega
              have hO := HO.out
              rw [List.take_of_length_le (by have := Hn.out; omega)] at hO
              have hO := hide hO
              clear HO
              go_wp2_with fail
              go_ret2
              rw [He.out]
              exact ⟨_, rfl, hO.out, HE.out⟩
/-- Numbers that the call owns, an index and an error. -/
def NumRet (r : List Nat × Int × Int) (W : World) (e : Ending) (w' : World) : Prop := ∃ v, e = .returned (.tuple #[v, .int .i64 r.2.1, .int .i64 r.2.2]) ∧ OwnQ W.heap.size w' v r.1 ∧ Ext W w'
set_option maxRecDepth 100000 in
set_option maxHeartbeats 3200000 in
theorem r_plainN (A : Option Addr) (c cap : Nat) (b : List Nat) (a : Int) (n : Nat) (W : World) (hb : BytesAt W A b) (hc : b.length = c) (hcap : c ≤ cap) (hcap2 : c ≤ 4611686018427387904) (ha0 : 0 ≤ a) (ha1 : a ≤ c) (hn : n ≤ 65536) (R : List Nat × Int × Int) (hR : rdA b [] n a = R) :
    Calls Try.prog 58 #[.slice A c cap, .int .i64 a, .int .i64 (n : Int)] W (NumRet R W) := by
  have KR : Hid (∀ (x : Int) (w : World), 0 ≤ x → x ≤ c → Ext W w → ∀ r1 r2 r3, rdV b x = (r1, r2, r3) → Calls Try.prog 67 #[.slice A c cap, .int .i64 x] w (RetSame (.tuple #[.int .u64 r1, .int .i64 r2, .int .i64 r3]) w)) := hide (fun x w h0 h1 hE r1 r2 r3 hr => v_read A c cap b x w (hb.ext hE) hc hcap hcap2 ⟨by omega, by omega⟩ r1 r2 r3 hr)
  have HR := hide hR
  have Hc := hide hc
  have HE : Hid (Ext W W) := Ext.refl _
  clear hb hc hR
  go_enter Try.func58, Try.ntmps58
  go_wp2_with fail
  go_loopw [1, 9, 10] (fun av lv iv wr => ∃ (k : Nat) (x : Int) (acc : List Nat), k ≤ n ∧ av = .int .i64 x ∧ iv = .int .i64 (k : Int) ∧ 0 ≤ x ∧ x ≤ c ∧ acc.length = k ∧ Hid (rdA b acc (n - k) x = R) ∧ Hid (OwnQ W.heap.size wr lv acc) ∧ Hid (Ext W wr)) (fun _ _ iv _ => n - (intOf iv).toNat)
  case atStart => exact ⟨0, a, [], by omega, rfl, rfl, ha0, ha1, rfl, HR, hide (OwnQ.nil_ _ _), HE⟩
  case round =>
    clear HE HR
    obtain ⟨k, x, acc, hk, rfl, rfl, hx0, hx1, hal, HR, HO, HE⟩ := hrel
    by_cases hlt : k < n
    · obtain ⟨m, hm⟩ : ∃ m, n - k = m + 1 := ⟨n - k - 1, by omega⟩
      have hR := HR.out
      rw [hm, rdA] at hR
      obtain ⟨r1, r2, r3, hr⟩ : ∃ r1 r2 r3, rdV b x = (r1, r2, r3) := ⟨_, _, _, rfl⟩
      have KR1 := hide (KR.out x wr hx0 hx1 HE.out r1 r2 r3 hr)
      by_cases h3 : r3 = 0
      · subst h3
        rw [hr, if_pos rfl] at hR
        obtain ⟨v0, v1, _, a1, a2⟩ := rdV_ok hr
        obtain ⟨v, rfl⟩ := Int.eq_ofNat_of_zero_le v0
        have hv : v < 18446744073709551616 := by omega
        rw [Int.toNat_natCast] at hR
        have HR2 : Hid (rdA b (acc ++ [v]) (n - (k + 1)) r2 = R) := hide (by rw [show n - (k + 1) = m by omega]; exact hR)
        have hr20 : 0 ≤ r2 := by omega
        have hr21 : r2 ≤ c := by have := Hc.out; omega
        have hle : acc.length + [v].length ≤ 17592186044416 := by simp; omega
        have O3 := hide (HO.out.alloc (.cells #[Value.int .u64 (v : Int)] 52))
        have hone := hide (one_atQ wr v hv _ rfl)
        have E3 := hide (Ext.trans HE.out (ext_alloc wr (.cells #[Value.int .u64 (v : Int)] 52)))
        clear hr hR hm v0 v1 a1 a2 HR
        go_wp2_with (first
          | (go_at_call 67; (with_reducible refine (KR1.out).mono ?_); rintro e w3 ⟨rfl, rfl⟩)
          | (at_builtin; refine wl_append64 rfl (.tmp 29) (.tmp 31) rfl W.heap.size _ acc [v] rfl O3.out _ 1 1 rfl hone.out rfl hle E3.out.size ?_; intro v6 w6 hO6 hG6 hA6))
        have O6 := hide hO6
        have E6 := hide (below_grownQ E3.out (Nat.le_refl _) O3.out hG6)
        clear hO6 hG6 hA6 O3 E3
        go_roundw
        case rel => exact ⟨k + 1, r2, acc ++ [v], by omega, rfl, by go_num, hr20, hr21, by simp; omega, HR2, O6, E6⟩
        case measure => simp [intOf]; omega
      · have he := rdV_err b x
        rw [hr] at he
        obtain ⟨rfl, rfl, h31, h32⟩ : r1 = 0 ∧ r2 = 0 ∧ 0 < r3 ∧ r3 ≤ 5 := by
          rcases he with h | h
          · exact absurd h h3
          · exact h
        rw [hr, if_neg h3] at hR
        have HR2 := hide hR
        have d3 : (r3 != 0) = true := by rw [bne_iff_ne]; exact h3
        clear hr hR hm he HR
        go_wp2_with (go_at_call 67; (with_reducible refine (KR1.out).mono ?_); rintro e w3 ⟨rfl, rfl⟩)
        go_ret3
        rw [← HR2.out]
        exact ⟨_, rfl, OwnQ.nil_ _ _, HE.out⟩
    · obtain rfl : k = n := by omega
      have hR := HR.out
      rw [Nat.sub_self, rdA] at hR
      have HR2 := hide hR
      clear hR HR
      go_wp2_with fail
      go_ret3
      rw [← HR2.out]
      exact ⟨_, rfl, HO.out, HE.out⟩
set_option maxRecDepth 100000 in
set_option maxHeartbeats 3200000 in
theorem r_packedN (A : Option Addr) (c cap : Nat) (b : List Nat) (a : Nat) (n : Nat) (W : World) (hb : BytesAt W A b) (hc : b.length = c) (hcap : c ≤ cap) (hcap2 : c ≤ 4611686018427387904) (ha1 : a ≤ c) (hn : n ≤ 65536) (R : List Nat × Int × Int) (hR : rdK b a n = R) :
    Calls Try.prog 59 #[.slice A c cap, .int .i64 (a : Int), .int .i64 (n : Int)] W (NumRet R W) := by
  unfold rdK at hR
  by_cases h0 : a = c
  · rw [if_pos (by omega)] at hR
    subst hR
    have d0 : ((a : Int) == (c : Int)) = true := by rw [beq_iff_eq]; omega
    clear hb hc h0
    go_enter Try.func59, Try.ntmps59
    go_wp2_with fail
    go_ret3
    exact ⟨_, rfl, OwnQ.nil_ _ _, Ext.refl _⟩
  · rw [if_neg (by omega)] at hR
    have d0 : ((a : Int) == (c : Int)) = false := by rw [beq_eq_false_iff_ne]; omega
    have hac : a < b.length := by omega
    obtain ⟨g, off, rfl, hb1, hc1⟩ := hb.2.2 (by omega)
    have d1 := hc1 a hac
    have hix := idx8o g off c cap a (by omega)
    have hu8 : b.getD a 0 < 256 := hb.1.get a
    obtain ⟨u, hu⟩ : ∃ u, b.getD a 0 = u := ⟨_, rfl⟩
    rw [hu] at d1 hR hu8
    have ha2 : a < c := by omega
    by_cases h64 : 64 < u
    · rw [if_pos h64] at hR
      subst hR
      have d2 : decide ((64 : Int) < (u : Int)) = true := decide_eq_true (by omega)
      clear hb hc h0 hac hb1 hc1 hu
      go_enter Try.func59, Try.ntmps59
      go_wp2_with fail
      go_ret3
      exact ⟨_, rfl, OwnQ.nil_ _ _, Ext.refl _⟩
    · rw [if_neg h64] at hR
      have d2 : decide ((64 : Int) < (u : Int)) = false := decide_eq_false (by omega)
      have hnu := nv_le hn (show u ≤ 64 by omega)
      have iN : I64 (n : Int) := ⟨by omega, by omega⟩
      have iU : I64 (u : Int) := ⟨by omega, by omega⟩
      obtain ⟨S, hS⟩ : ∃ S, (n * u + 7) / 8 = S := ⟨_, rfl⟩
      have KS : Hid (∀ w, Calls Try.prog 57 #[.int .i64 (n : Int), .int .i64 (u : Int)] w (RetSame (.int .i64 (S : Int)) w)) := hide (fun w => by
        have := r_siz (n : Int) (u : Int) w iN iU
        rw [siz_in hn (by omega), hS] at this
        exact this)
      have hS2 : S ≤ 1048576 := by omega
      rw [hS] at hR
      by_cases hlt : c - a - 1 < S
      · rw [if_pos (by omega)] at hR
        subst hR
        have d3 : decide ((c : Int) - (a : Int) - 1 < (S : Int)) = true := decide_eq_true (by omega)
        clear hb hc h0 hac hb1 hc1 hu hS hnu
        go_enter Try.func59, Try.ntmps59
        go_wp2_with (go_at_call 57; (with_reducible refine (KS.out _).mono ?_); rintro e w3 ⟨rfl, rfl⟩)
        go_ret3
        exact ⟨_, rfl, OwnQ.nil_ _ _, Ext.refl _⟩
      · rw [if_neg (by omega)] at hR
        have d3 : decide ((c : Int) - (a : Int) - 1 < (S : Int)) = false := decide_eq_false (by omega)
        have hsl := run_mid (some ⟨g, off, none⟩) c (a + 1) (a + 1 + S) cap (by omega) (by omega)
        have ei : ((a + 1 : Nat) : Int) = (a : Int) + 1 := by omega
        have ei2 : ((a + 1 + S : Nat) : Int) = (a : Int) + 1 + (S : Int) := by omega
        rw [ei, ei2, show a + 1 + S - (a + 1) = S by omega] at hsl
        have hbs := (hb.drop (a + 1) cap (by omega)).take S
        have hbl : ((b.drop (a + 1)).take S).length = S := by rw [List.length_take, List.length_drop]; omega
        obtain ⟨A2, hA2⟩ : ∃ A2 : Option Addr, (if cap = a + 1 then some ⟨g, off, none⟩ else (some (⟨g, off, none⟩ : Addr)).map (·.add ((a + 1) * 1))) = A2 := ⟨_, rfl⟩
        rw [hA2] at hsl hbs
        obtain ⟨q, hq⟩ : ∃ q, (b.drop (a + 1)).take S = q := ⟨_, rfl⟩
        rw [hq] at hbs hbl hR
        have KU := hide (r_unpack A2 S (cap - (a + 1)) q n u W hbs hbl iN iU)
        clear hb hc h0 hac hb1 hc1 hu hS hnu ei ei2 hbs hA2 hq
        cases ho : upR q n u with
        | none =>
          rw [ho] at hR KU
          have HR := hide (show ([], 0, 5) = R from hR)
          clear hR ho
          go_enter Try.func59, Try.ntmps59
          go_wp2_with (first
            | (go_at_call 57; (with_reducible refine (KS.out _).mono ?_); rintro e w3 ⟨rfl, rfl⟩)
            | (go_at_call 68; (with_reducible refine (KU.out).mono ?_); rintro e w4 ⟨v4, rfl, hO, hE⟩; have hE := hide hE; clear hO))
          go_ret3
          rw [← HR.out]
          exact ⟨_, rfl, OwnQ.nil_ _ _, hE.out⟩
        | some l =>
          rw [ho] at hR KU
          have HR := hide (show (l, ((a + 1 + S : Nat) : Int), 0) = R from hR)
          clear hR ho
          go_enter Try.func59, Try.ntmps59
          go_wp2_with (first
            | (go_at_call 57; (with_reducible refine (KS.out _).mono ?_); rintro e w3 ⟨rfl, rfl⟩)
            | (go_at_call 68; (with_reducible refine (KU.out).mono ?_); rintro e w4 ⟨v4, rfl, hO, hE⟩; have hE := hide hE; have hO := hide hO))
          go_ret3
          rw [← HR.out]
          exact ⟨_, by rw [show ((a + 1 + S : Nat) : Int) = (a : Int) + 1 + (S : Int) by omega]; rfl, hO.out, hE.out⟩
/-- What NumRet says, by the slice's parts. -/
theorem NumRet.parts {r : List Nat × Int × Int} {W : World} {e : Ending} {w' : World} (h : NumRet r W e w') : ∃ A cap, e = .returned (.tuple #[.slice A r.1.length cap, .int .i64 r.2.1, .int .i64 r.2.2]) ∧ r.1.length ≤ cap ∧ cap ≤ 9223372036854775807 ∧ OwnQ W.heap.size w' (.slice A r.1.length cap) r.1 ∧ WordsAt w' A r.1 ∧ Ext W w' := by
  obtain ⟨v, rfl, hO, hE⟩ := h
  obtain ⟨A, cap, rfl, h1, h2, h3⟩ := hO.at_
  exact ⟨A, cap, rfl, h1, h2, hO, h3, hE⟩
theorem EncRet.parts {x : List Nat} {n : Nat} {W : World} {e : Ending} {w' : World} (h : EncRet x n W e w') : ∃ A cap, e = .returned (.tuple #[.slice A x.length cap, .int .i64 (n : Int)]) ∧ x.length ≤ cap ∧ cap ≤ 9223372036854775807 ∧ OwnB W.heap.size w' (.slice A x.length cap) x ∧ BytesAt w' A x ∧ Ext W w' := by
  obtain ⟨v, rfl, hO, hE⟩ := h
  obtain ⟨A, cap, rfl, h1, h2, h3⟩ := hO.at_
  exact ⟨A, cap, rfl, h1, h2, hO, h3, hE⟩
/-- What Decode returns once a list is read. -/
theorem deN_in {b : List Nat} {a n : Nat} (ha : a < b.length) (hn : n ≤ 65536) {L : List Nat} {nx e1 : Int} (h : rdN b a n = (L, nx, e1)) :
    deN b a n = if e1 ≠ 0 then ([], 0, e1) else if (enN L).1 = (b.drop a).take (nx.toNat - a) then (L, nx, 0) else ([], 0, 5) := by
  unfold deN
  rw [if_neg (by omega), if_neg (by omega), Int.toNat_natCast, Int.toNat_natCast, h]
set_option maxRecDepth 100000 in
set_option maxHeartbeats 3200000 in
theorem r_deN_out (A : Option Addr) (c cap : Nat) (b : List Nat) (at_ n : Int) (W : World) (hb : BytesAt W A b) (hc : b.length = c) (hcap2 : c ≤ 4611686018427387904) (hat : I64 at_) (hn : I64 n) (hr : at_ < 0 ∨ (c : Int) < at_ ∨ n < 0 ∨ 65536 < n) :
    Calls Try.prog 44 #[.slice A c cap, .int .i64 at_, .int .i64 n] W (NumRet ([], 0, 2) W) := by
  clear hb hc
  by_cases h1 : at_ < 0
  · have d1 : decide (at_ < 0) = true := decide_eq_true h1
    clear hr h1
    go_enter Try.func44, Try.ntmps44
    go_wp2_with fail
    go_ret3
    exact ⟨_, rfl, OwnQ.nil_ _ _, Ext.refl _⟩
  · have d1 : decide (at_ < 0) = false := decide_eq_false h1
    by_cases h2 : (c : Int) < at_
    · have d2 : decide ((c : Int) < at_) = true := decide_eq_true h2
      clear hr h1 h2
      go_enter Try.func44, Try.ntmps44
      go_wp2_with fail
      go_ret3
      exact ⟨_, rfl, OwnQ.nil_ _ _, Ext.refl _⟩
    · have d2 : decide ((c : Int) < at_) = false := decide_eq_false h2
      by_cases h3 : n < 0
      · have d3 : decide (n < 0) = true := decide_eq_true h3
        clear hr h1 h2 h3
        go_enter Try.func44, Try.ntmps44
        go_wp2_with fail
        go_ret3
        exact ⟨_, rfl, OwnQ.nil_ _ _, Ext.refl _⟩
      · have d3 : decide (n < 0) = false := decide_eq_false h3
        have d4 : decide ((65536 : Int) < n) = true := decide_eq_true (by omega)
        clear hr h1 h2 h3
        go_enter Try.func44, Try.ntmps44
        go_wp2_with fail
        go_ret3
        exact ⟨_, rfl, OwnQ.nil_ _ _, Ext.refl _⟩
set_option maxRecDepth 100000 in
set_option maxHeartbeats 3200000 in
theorem r_deN (A : Option Addr) (c cap : Nat) (b : List Nat) (at_ n : Int) (W : World) (hb : BytesAt W A b) (hc : b.length = c) (hcap : c ≤ cap) (hcap2 : c ≤ 4611686018427387904) (hat : I64 at_) (hn : I64 n) (R : List Nat × Int × Int) (hR : deN b at_ n = R) :
    Calls Try.prog 44 #[.slice A c cap, .int .i64 at_, .int .i64 n] W (NumRet R W) := by
  by_cases hr : at_ < 0 ∨ (c : Int) < at_ ∨ n < 0 ∨ 65536 < n
  · have e : deN b at_ n = ([], 0, 2) := if_pos (by omega)
    rw [← hR, e]
    exact r_deN_out A c cap b at_ n W hb hc hcap2 hat hn hr
  · obtain ⟨a, rfl⟩ := Int.eq_ofNat_of_zero_le (show 0 ≤ at_ by omega)
    obtain ⟨m, rfl⟩ := Int.eq_ofNat_of_zero_le (show 0 ≤ n by omega)
    have hac : a ≤ c := by omega
    have hm : m ≤ 65536 := by omega
    have d1 : decide ((a : Int) < 0) = false := decide_eq_false (by omega)
    have d2 : decide ((c : Int) < (a : Int)) = false := decide_eq_false (by omega)
    have d3 : decide ((m : Int) < 0) = false := decide_eq_false (by omega)
    have d4 : decide ((65536 : Int) < (m : Int)) = false := decide_eq_false (by omega)
    by_cases h0 : a = c
    · have e : deN b a m = ([], 0, 4) := by
        unfold deN
        rw [if_neg (by omega), if_pos (by omega)]
      rw [e] at hR
      subst hR
      clear hb hc hr hac e hcap d2
      subst h0
      have d2 : decide ((a : Int) < (a : Int)) = false := decide_eq_false (by omega)
      have d0 : ((a : Int) == (a : Int)) = true := by rw [beq_iff_eq]
      go_enter Try.func44, Try.ntmps44
      go_wp2_with fail
      go_ret3
      exact ⟨_, rfl, OwnQ.nil_ _ _, Ext.refl _⟩
    · have d0 : ((a : Int) == (c : Int)) = false := by rw [beq_eq_false_iff_ne]; omega
      have hac2 : a < c := by omega
      obtain ⟨L, nx, e1, hL⟩ : ∃ L nx e1, rdN b a m = (L, nx, e1) := ⟨_, _, _, rfl⟩
      rw [deN_in (by omega) hm hL] at hR
      have KA : Hid (Calls Try.prog 58 #[.slice A c cap, .int .i64 ((a : Int) + 1), .int .i64 (m : Int)] W (NumRet (rdA b [] m ((a : Int) + 1)) W)) := hide (r_plainN A c cap b ((a : Int) + 1) m W hb hc hcap hcap2 (by omega) (by omega) hm _ rfl)
      have KB : Hid (Calls Try.prog 59 #[.slice A c cap, .int .i64 ((a : Int) + 1), .int .i64 (m : Int)] W (NumRet (rdK b (a + 1) m) W)) := hide (r_packedN A c cap b (a + 1) m W hb hc hcap hcap2 (by omega) hm _ rfl)
      have hLd := hL
      unfold rdN at hLd
      obtain ⟨g, off, rfl, hb1, hc1⟩ := hb.2.2 (by omega)
      have dc := hc1 a (by omega)
      have hix := idx8o g off c cap a (by omega)
      have hu8 : b.getD a 0 < 256 := hb.1.get a
      obtain ⟨u, hu⟩ : ∃ u, b.getD a 0 = u := ⟨_, rfl⟩
      rw [hu] at dc hu8 hLd
      have hnr := rdN_ok hm (show a < b.length by omega) (l := L) (nx := nx)
      rw [hL] at hnr
      have HB := hide hb
      have Hc := hide hc
      by_cases hu0 : u = 0
      · have dz : ((u : Int) == 0) = true := by rw [beq_iff_eq]; omega
        rw [if_pos hu0] at hLd
        rw [hLd] at KA
        by_cases he : e1 = 0
        · subst he
          obtain ⟨hq, hLn, hn1, hn2⟩ := hnr rfl
          obtain ⟨x, rfl⟩ := Int.eq_ofNat_of_zero_le (show 0 ≤ nx by omega)
          rw [if_neg (by omega), Int.toNat_natCast] at hR
          have hsl := run_mid (some ⟨g, off, none⟩) c a x cap (by omega) (by omega)
          have hbs := (hb.drop a cap (by omega)).take (x - a)
          have hbl : ((b.drop a).take (x - a)).length = x - a := by rw [List.length_take, List.length_drop]; omega
          obtain ⟨A2, hA2⟩ : ∃ A2 : Option Addr, (if cap = a then some ⟨g, off, none⟩ else (some (⟨g, off, none⟩ : Addr)).map (·.add (a * 1))) = A2 := ⟨_, rfl⟩
          rw [hA2] at hsl hbs
          obtain ⟨q, hqq⟩ : ∃ q, (b.drop a).take (x - a) = q := ⟨_, rfl⟩
          rw [hqq] at hbs hbl hR
          obtain ⟨z, hz⟩ : ∃ z, (enN L).1 = z := ⟨_, rfl⟩
          rw [hz] at hR
          obtain ⟨zl, hzl⟩ : ∃ zl, z.length = zl := ⟨_, rfl⟩
          obtain ⟨ze, hze⟩ : ∃ ze, (enN L).2 = ze := ⟨_, rfl⟩
          obtain ⟨xa, hxa⟩ : ∃ xa, x - a = xa := ⟨_, rfl⟩
          rw [hxa] at hsl hbl
          obtain ⟨y, hy⟩ : ∃ y, decide (z = q) = y := ⟨_, rfl⟩
          have KE : Hid (∀ A3 c3 w, WordsAt w A3 L → Calls Try.prog 29 #[.slice A3 m c3] w (fun e w' => ∃ A4 c4, e = .returned (.tuple #[.slice A4 zl c4, .int .i64 (ze : Int)]) ∧ BytesAt w' A4 z ∧ Ext w w')) := hide (fun A3 c3 w hw => (r_encN A3 m c3 L w hw hLn).mono fun e w' h => by
            obtain ⟨A4, c4, rfl, _, _, _, h3, hE⟩ := h.parts
            rw [hz] at h3
            exact ⟨A4, c4, by rw [hz, hzl, hze], h3, hE⟩)
          have KS : Hid (∀ A4 c4 w, Ext W w → BytesAt w A4 z → Calls Try.prog 13 #[.slice A4 zl c4, .slice A2 xa (cap - a)] w (Ret (.bool y) w)) := hide (fun A4 c4 w hw h4 => r_same A4 A2 zl xa c4 (cap - a) z q w h4 (hbs.ext hw) hzl hbl y hy)
          have KA1 : Hid (Calls Try.prog 58 #[.slice (some ⟨g, off, none⟩) c cap, .int .i64 ((a : Int) + 1), .int .i64 (m : Int)] W fun e w' => ∃ A3 c3, e = .returned (.tuple #[.slice A3 m c3, .int .i64 (x : Int), .int .i64 0]) ∧ OwnQ W.heap.size w' (.slice A3 m c3) L ∧ Ext W w') := hide (KA.out.mono fun e w' h => by
            obtain ⟨A3, c3, rfl, _, _, ho, _, hE⟩ := h.parts
            simp only [hLn] at ho ⊢
            exact ⟨A3, c3, rfl, ho, hE⟩)
          clear KA KB hq hqq hA2 hze hzl hLn hnr hc1 hb hc hL hb1 hu h0 hr hac hLd hbs hbl hxa HB Hc hn1 hn2
          cases y with
          | true =>
            rw [if_pos (of_decide_eq_true hy)] at hR
            have HR := hide hR
            clear hR hy hz
            go_enter Try.func44, Try.ntmps44
            go_wp2_with (first
              | (go_at_call 58; (with_reducible refine (KA1.out).mono ?_); rintro e w1 ⟨A3, c3, rfl, ho1, hE1⟩; have O1 := hide ho1; have E1 := hide hE1; have ke := hide (KE.out A3 c3 w1 (own_words ho1)); clear ho1 hE1)
              | (go_at_call 29; (with_reducible refine (ke.out).mono ?_); rintro e w2 ⟨A4, c4, rfl, hb2, hE2⟩; have E2 := hide (Ext.trans E1.out hE2); have O2 := hide (O1.out.ext hE2); have ks := hide (KS.out A4 c4 w2 E2.out hb2); clear hb2 hE2)
              | (go_at_call 13; (with_reducible refine (ks.out).mono ?_); rintro e w3 ⟨rfl, hE3⟩; have E3 := hide (Ext.trans E2.out hE3); have O3 := hide (O2.out.ext hE3); clear hE3))
            go_ret3
            rw [← HR.out]
            exact ⟨_, rfl, O3.out, E3.out⟩
          | false =>
            rw [if_neg (of_decide_eq_false hy)] at hR
            have HR := hide hR
            clear hR hy hz
            go_enter Try.func44, Try.ntmps44
            go_wp2_with (first
              | (go_at_call 58; (with_reducible refine (KA1.out).mono ?_); rintro e w1 ⟨A3, c3, rfl, ho1, hE1⟩; have O1 := hide ho1; have E1 := hide hE1; have ke := hide (KE.out A3 c3 w1 (own_words ho1)); clear ho1 hE1)
              | (go_at_call 29; (with_reducible refine (ke.out).mono ?_); rintro e w2 ⟨A4, c4, rfl, hb2, hE2⟩; have E2 := hide (Ext.trans E1.out hE2); have O2 := hide (O1.out.ext hE2); have ks := hide (KS.out A4 c4 w2 E2.out hb2); clear hb2 hE2)
              | (go_at_call 13; (with_reducible refine (ks.out).mono ?_); rintro e w3 ⟨rfl, hE3⟩; have E3 := hide (Ext.trans E2.out hE3); clear hE3))
            go_ret3
            rw [← HR.out]
            exact ⟨_, rfl, OwnQ.nil_ _ _, E3.out⟩
        · rw [if_pos he] at hR
          have HR := hide hR
          have de : (e1 != 0) = true := by rw [bne_iff_ne]; exact he
          have KA1 : Hid (Calls Try.prog 58 #[.slice (some ⟨g, off, none⟩) c cap, .int .i64 ((a : Int) + 1), .int .i64 (m : Int)] W fun e w' => ∃ v, e = .returned (.tuple #[v, .int .i64 nx, .int .i64 e1]) ∧ Ext W w') := hide (KA.out.mono fun e w' h => by
            obtain ⟨v, rfl, _, hE⟩ := h
            exact ⟨v, rfl, hE⟩)
          clear KA KB hnr hc1 hb hc hL hb1 hu h0 hr hac hLd HB Hc hR he
          go_enter Try.func44, Try.ntmps44
          go_wp2_with (go_at_call 58; (with_reducible refine (KA1.out).mono ?_); rintro e w1 ⟨v, rfl, hE1⟩; have E1 := hide hE1; clear hE1)
          go_ret3
          rw [← HR.out]
          exact ⟨_, rfl, OwnQ.nil_ _ _, E1.out⟩
      · have dz : ((u : Int) == 0) = false := by rw [beq_eq_false_iff_ne]; omega
        rw [if_neg hu0] at hLd
        by_cases hu1 : u = 1
        · have dy : ((u : Int) == 1) = true := by rw [beq_iff_eq]; omega
          rw [if_pos hu1] at hLd
          rw [hLd] at KB
          by_cases he : e1 = 0
          · subst he
            obtain ⟨hq, hLn, hn1, hn2⟩ := hnr rfl
            obtain ⟨x, rfl⟩ := Int.eq_ofNat_of_zero_le (show 0 ≤ nx by omega)
            rw [if_neg (by omega), Int.toNat_natCast] at hR
            have hsl := run_mid (some ⟨g, off, none⟩) c a x cap (by omega) (by omega)
            have hbs := (hb.drop a cap (by omega)).take (x - a)
            have hbl : ((b.drop a).take (x - a)).length = x - a := by rw [List.length_take, List.length_drop]; omega
            obtain ⟨A2, hA2⟩ : ∃ A2 : Option Addr, (if cap = a then some ⟨g, off, none⟩ else (some (⟨g, off, none⟩ : Addr)).map (·.add (a * 1))) = A2 := ⟨_, rfl⟩
            rw [hA2] at hsl hbs
            obtain ⟨q, hqq⟩ : ∃ q, (b.drop a).take (x - a) = q := ⟨_, rfl⟩
            rw [hqq] at hbs hbl hR
            obtain ⟨z, hz⟩ : ∃ z, (enN L).1 = z := ⟨_, rfl⟩
            rw [hz] at hR
            obtain ⟨zl, hzl⟩ : ∃ zl, z.length = zl := ⟨_, rfl⟩
            obtain ⟨ze, hze⟩ : ∃ ze, (enN L).2 = ze := ⟨_, rfl⟩
            obtain ⟨xa, hxa⟩ : ∃ xa, x - a = xa := ⟨_, rfl⟩
            rw [hxa] at hsl hbl
            obtain ⟨y, hy⟩ : ∃ y, decide (z = q) = y := ⟨_, rfl⟩
            have KE : Hid (∀ A3 c3 w, WordsAt w A3 L → Calls Try.prog 29 #[.slice A3 m c3] w (fun e w' => ∃ A4 c4, e = .returned (.tuple #[.slice A4 zl c4, .int .i64 (ze : Int)]) ∧ BytesAt w' A4 z ∧ Ext w w')) := hide (fun A3 c3 w hw => (r_encN A3 m c3 L w hw hLn).mono fun e w' h => by
              obtain ⟨A4, c4, rfl, _, _, _, h3, hE⟩ := h.parts
              rw [hz] at h3
              exact ⟨A4, c4, by rw [hz, hzl, hze], h3, hE⟩)
            have KS : Hid (∀ A4 c4 w, Ext W w → BytesAt w A4 z → Calls Try.prog 13 #[.slice A4 zl c4, .slice A2 xa (cap - a)] w (Ret (.bool y) w)) := hide (fun A4 c4 w hw h4 => r_same A4 A2 zl xa c4 (cap - a) z q w h4 (hbs.ext hw) hzl hbl y hy)
            have KA1 : Hid (Calls Try.prog 59 #[.slice (some ⟨g, off, none⟩) c cap, .int .i64 ((a : Int) + 1), .int .i64 (m : Int)] W fun e w' => ∃ A3 c3, e = .returned (.tuple #[.slice A3 m c3, .int .i64 (x : Int), .int .i64 0]) ∧ OwnQ W.heap.size w' (.slice A3 m c3) L ∧ Ext W w') := hide (KB.out.mono fun e w' h => by
              obtain ⟨A3, c3, rfl, _, _, ho, _, hE⟩ := h.parts
              simp only [hLn] at ho ⊢
              exact ⟨A3, c3, rfl, ho, hE⟩)
            clear KA KB hq hqq hA2 hze hzl hLn hnr hc1 hb hc hL hb1 hu h0 hr hac hLd hbs hbl hxa HB Hc hn1 hn2
            cases y with
            | true =>
              rw [if_pos (of_decide_eq_true hy)] at hR
              have HR := hide hR
              clear hR hy hz
              go_enter Try.func44, Try.ntmps44
              go_wp2_with (first
                | (go_at_call 59; (with_reducible refine (KA1.out).mono ?_); rintro e w1 ⟨A3, c3, rfl, ho1, hE1⟩; have O1 := hide ho1; have E1 := hide hE1; have ke := hide (KE.out A3 c3 w1 (own_words ho1)); clear ho1 hE1)
                | (go_at_call 29; (with_reducible refine (ke.out).mono ?_); rintro e w2 ⟨A4, c4, rfl, hb2, hE2⟩; have E2 := hide (Ext.trans E1.out hE2); have O2 := hide (O1.out.ext hE2); have ks := hide (KS.out A4 c4 w2 E2.out hb2); clear hb2 hE2)
                | (go_at_call 13; (with_reducible refine (ks.out).mono ?_); rintro e w3 ⟨rfl, hE3⟩; have E3 := hide (Ext.trans E2.out hE3); have O3 := hide (O2.out.ext hE3); clear hE3))
              go_ret3
              rw [← HR.out]
              exact ⟨_, rfl, O3.out, E3.out⟩
            | false =>
              rw [if_neg (of_decide_eq_false hy)] at hR
              have HR := hide hR
              clear hR hy hz
              go_enter Try.func44, Try.ntmps44
              go_wp2_with (first
                | (go_at_call 59; (with_reducible refine (KA1.out).mono ?_); rintro e w1 ⟨A3, c3, rfl, ho1, hE1⟩; have O1 := hide ho1; have E1 := hide hE1; have ke := hide (KE.out A3 c3 w1 (own_words ho1)); clear ho1 hE1)
                | (go_at_call 29; (with_reducible refine (ke.out).mono ?_); rintro e w2 ⟨A4, c4, rfl, hb2, hE2⟩; have E2 := hide (Ext.trans E1.out hE2); have O2 := hide (O1.out.ext hE2); have ks := hide (KS.out A4 c4 w2 E2.out hb2); clear hb2 hE2)
                | (go_at_call 13; (with_reducible refine (ks.out).mono ?_); rintro e w3 ⟨rfl, hE3⟩; have E3 := hide (Ext.trans E2.out hE3); clear hE3))
              go_ret3
              rw [← HR.out]
              exact ⟨_, rfl, OwnQ.nil_ _ _, E3.out⟩
          · rw [if_pos he] at hR
            have HR := hide hR
            have de : (e1 != 0) = true := by rw [bne_iff_ne]; exact he
            have KA1 : Hid (Calls Try.prog 59 #[.slice (some ⟨g, off, none⟩) c cap, .int .i64 ((a : Int) + 1), .int .i64 (m : Int)] W fun e w' => ∃ v, e = .returned (.tuple #[v, .int .i64 nx, .int .i64 e1]) ∧ Ext W w') := hide (KB.out.mono fun e w' h => by
              obtain ⟨v, rfl, _, hE⟩ := h
              exact ⟨v, rfl, hE⟩)
            clear KA KB hnr hc1 hb hc hL hb1 hu h0 hr hac hLd HB Hc hR he
            go_enter Try.func44, Try.ntmps44
            go_wp2_with (go_at_call 59; (with_reducible refine (KA1.out).mono ?_); rintro e w1 ⟨v, rfl, hE1⟩; have E1 := hide hE1; clear hE1)
            go_ret3
            rw [← HR.out]
            exact ⟨_, rfl, OwnQ.nil_ _ _, E1.out⟩
        · have dy : ((u : Int) == 1) = false := by rw [beq_eq_false_iff_ne]; omega
          rw [if_neg hu1] at hLd
          simp only [Prod.mk.injEq] at hLd
          obtain ⟨rfl, rfl, rfl⟩ := hLd
          rw [if_pos (by omega)] at hR
          have HR := hide hR
          clear hb hc hL hb1 hu hnr h0 hr hac KA KB HB Hc hc1 hR
          go_enter Try.func44, Try.ntmps44
          go_wp2_with fail
          go_ret3
          rw [← HR.out]
          exact ⟨_, rfl, OwnQ.nil_ _ _, Ext.refl _⟩
theorem encV_app (l m : List Nat) : encV (l ++ m) = encV l ++ encV m := by simp [encV]
theorem encV_take_le (l : List Nat) (k : Nat) : (encV (l.take k)).length ≤ (encV l).length := by
  have h := encV_app (l.take k) (l.drop k)
  rw [List.take_append_drop] at h
  rw [h, List.length_append]; omega
/-- The plain form, j of its numbers written. -/
def pst (l : List Nat) (j : Nat) : List Nat := (0 :: encV (l.take j)) ++ List.replicate ((encV l).length - (encV (l.take j)).length) 0
theorem pst_len (l : List Nat) (j : Nat) : (pst l j).length = 1 + (encV l).length := by
  have := encV_take_le l j
  unfold pst
  rw [List.length_append, List.length_cons, List.length_replicate]; omega
theorem pst_zero (l : List Nat) : pst l 0 = List.replicate (1 + (encV l).length) 0 := by
  unfold pst
  rw [Nat.add_comm, List.replicate_succ]
  simp [encV]
theorem pst_end (l : List Nat) {j : Nat} (h : l.length ≤ j) : pst l j = 0 :: encV l := by
  unfold pst
  rw [List.take_of_length_le h, Nat.sub_self]
  simp
theorem pst_splice {l : List Nat} {j a : Nat} (h : j < l.length) (ha : 1 + (encV (l.take j)).length = a) : splice (u8s (pst l j)) a (u8s (encB (l.getD j 0))) = u8s (pst l (j + 1)) := by
  have e1 : u8s (pst l j) = u8s (0 :: encV (l.take j)) ++ u8s (List.replicate ((encV l).length - (encV (l.take j)).length) 0) := u8s_app _ _
  have e2 : (u8s (0 :: encV (l.take j))).length = a := by rw [u8s_len, List.length_cons]; omega
  unfold splice
  rw [e1, List.take_left' e2, ← e2, ← List.drop_drop, List.drop_left, u8s_len]
  unfold pst
  rw [encV_take h, u8s_app, ← List.cons_append, u8s_app, List.append_assoc, List.length_append, Nat.sub_add_eq]
  congr 2
  unfold u8s
  rw [← List.map_drop, List.drop_replicate]
set_option maxRecDepth 100000 in
set_option maxHeartbeats 1600000 in
theorem p_plainSize (A : Option Addr) (n c : Nat) (l : List Nat) (W : World) (hl : WordsAt W A l) (hn : l.length = n) (hn2 : n ≤ 65536) (S : Nat) (hS : 1 + (encV l).length = S) :
    Calls Try.prog 35 #[.slice A n c] W (RetSame (.int .i64 (S : Int)) W) := by
  have KS : Hid (∀ (v : Nat) (w : World), v < 18446744073709551616 → Calls Try.prog 53 #[.int .u64 (v : Int)] w (RetSame (.int .i64 ((encB v).length : Int)) w)) := hide (fun v w h => p_size v w h)
  have HL := hide hl
  have Hn := hide hn
  have Hq := hide hl.1
  have HS := hide hS
  clear hl hn hS
  go_enter Try.func35, Try.ntmps35
  go_wp2_with fail
  go_loopw [3, 8] (fun s i wr => ∃ (k z : Nat), k ≤ n ∧ i = .int .i64 (k : Int) ∧ s = .int .i64 (z : Int) ∧ z ≤ 1 + 10 * k ∧ Hid (1 + (encV (l.take k)).length = z) ∧ wr = W) (fun _ i _ => n - (intOf i).toNat)
  case atStart => exact ⟨0, 1, by omega, rfl, rfl, by omega, hide (by simp [encV]), rfl⟩
  case round =>
    obtain ⟨k, z, hk, rfl, rfl, hz, HZ, rfl⟩ := hrel
    by_cases hlt : k < n
    · have hkl : k < l.length := by rw [Hn.out]; exact hlt
      obtain ⟨b, off, rfl, hb1, hc1⟩ := HL.out.2.2 (by omega)
      have d2 := hc1 k hkl
      have hx : l.getD k 0 < 18446744073709551616 := Hq.out.get k
      have hst := encV_take hkl
      have h10 : (encB (l.getD k 0)).length ≤ 10 := encB_length_le _ 9 (by omega)
      obtain ⟨x, hxx⟩ : ∃ x, l.getD k 0 = x := ⟨_, rfl⟩
      rw [hxx] at d2 hst hx h10
      have KS1 := hide (fun w => KS.out x w hx)
      obtain ⟨y, hy⟩ : ∃ y, (encB x).length = y := ⟨_, rfl⟩
      rw [hy] at KS1 h10
      have HZ1 : Hid (1 + (encV (l.take (k + 1))).length = z + y) := hide (by rw [hst, List.length_append, hy, ← HZ.out]; omega)
      clear hb1 hc1 hst hxx hy hkl HZ
      go_wp2_with (go_at_call 53; (with_reducible refine (KS1.out _).mono ?_); rintro e w3 ⟨rfl, rfl⟩)
      go_roundw
      case rel => exact ⟨k + 1, z + y, by omega, by go_num, by go_num, by omega, HZ1, trivial⟩
      case measure => simp [intOf]; omega
    · obtain rfl : k = n := by omega
      have hZ : z = S := by
        have := HZ.out
        rw [List.take_of_length_le (by have := Hn.out; omega)] at this
        have := HS.out
        omega
      subst hZ
      go_wp2_with fail
      go_ret
      exact ⟨rfl, rfl⟩
theorem p_packedSize (n u : Nat) (W : World) (hn : n ≤ 65536) (hu : u ≤ 64) (S : Nat) (hS : (n * u + 7) / 8 = S) :
    Calls Try.prog 34 #[.int .i64 (n : Int), .int .i64 (u : Int)] W (RetSame (.int .i64 ((2 : Int) + (S : Int))) W) := by
  have hnu := nv_le hn hu
  have hS2 : S ≤ 1048576 := by omega
  have KS : Hid (∀ w, Calls Try.prog 52 #[.int .i64 (n : Int), .int .i64 (u : Int)] w (RetSame (.int .i64 (S : Int)) w)) := hide (fun w => by
    have := p_siz (n : Int) (u : Int) w ⟨by omega, by omega⟩ ⟨by omega, by omega⟩
    rw [siz_in hn hu, hS] at this
    exact this)
  clear hnu hS
  go_enter Try.func34, Try.ntmps34
  go_wp2_with (go_at_call 52; (with_reducible refine (KS.out _).mono ?_); rintro e w3 ⟨rfl, rfl⟩)
  go_ret
  exact ⟨rfl, rfl⟩
set_option maxRecDepth 100000 in
set_option maxHeartbeats 3200000 in
theorem p_plainForm (A : Option Addr) (n c : Nat) (l : List Nat) (W : World) (hl : WordsAt W A l) (hn : l.length = n) (hn2 : n ≤ 65536) :
    Calls Try.prog 37 #[.slice A n c] W (OwnRet (0 :: encV l) W) := by
  have hV := encV_le hl.1
  obtain ⟨S, hS⟩ : ∃ S, 1 + (encV l).length = S := ⟨_, rfl⟩
  have hS1 : 1 ≤ S := by omega
  have hS2 : S ≤ 1048576 := by omega
  have KZ : Hid (Calls Try.prog 35 #[.slice A n c] W (RetSame (.int .i64 (S : Int)) W)) := hide (p_plainSize A n c l W hl hn hn2 S hS)
  have KA : Hid (∀ (v : Nat) (w : World), v < 18446744073709551616 → Calls Try.prog 55 #[.slice none 0 0, .int .u64 (v : Int)] w (OwnRet (encB v) w)) := hide (fun v w h => p_vappend none 0 0 v [] w (BytesAt.nil _ _) rfl (by omega) h)
  have hm := run_mk8b S S (Nat.le_refl _) (by omega)
  have HL := hide hl
  have Hn := hide hn
  have HS := hide hS
  have Hq := hide hl.1
  have Hend := hide (pst_end l (j := n) (by omega))
  have Hb := hide (encV_b hl.1)
  have B1 := Blk.new W 5 (u8s (List.replicate S 0)).toArray
  have E1 := ext_alloc W (.cells (u8s (List.replicate S 0)).toArray 5)
  rw [← hS, ← pst_zero l] at B1 E1 hm
  rw [hS] at hm
  obtain ⟨w1, hw1⟩ : ∃ w1, W.alloc (.cells (u8s (pst l 0)).toArray 5) = w1 := ⟨_, rfl⟩
  rw [hw1] at B1 E1
  obtain ⟨g, hg⟩ : ∃ g, W.heap.size = g := ⟨_, rfl⟩
  rw [hg] at B1
  have hgw : W.heap.size ≤ g := by omega
  have hix := idx8B g S S 0 0 rfl (by omega)
  have c0 : w1.cell? ⟨g, 0, none⟩ = some (.int .u8 0) := by
    rw [B1.cell]; rfl
  have f0 := B1.frozen 0
  have B2 : Blk (w1.setCell ⟨g, 0, none⟩ (.int .u8 0)) g 5 (u8s (pst l 0)).toArray := by
    have := B1.set_ 0 (.int .u8 0)
    rw [show (u8s (pst l 0)).toArray.setIfInBounds 0 (.int .u8 0) = (u8s (pst l 0)).toArray by unfold pst; simp [u8s]] at this
    exact this
  have E2 : Ext W (w1.setCell ⟨g, 0, none⟩ (.int .u8 0)) := Below.setCell E1 (p := ⟨g, 0, none⟩) hgw _
  have B2 := hide B2
  have E2 := hide E2
  have Hw1 := hide hw1
  have Hg := hide hg
  clear hl hn hS hV hw1 hg B1 E1
  go_enter Try.func37, Try.ntmps37
  go_upto_region 2 with (go_at_call 35; (with_reducible refine (KZ.out).mono ?_); rintro e w0 ⟨rfl, rfl⟩)
  rw [Hw1.out, Hg.out]
  clear hm KZ
  go_wp2_with fail
  go_loopw [4, 14] (fun t i wr => ∃ (j a : Nat), j ≤ n ∧ i = .int .i64 (j : Int) ∧ t = .int .i64 (a : Int) ∧ Hid (1 + (encV (l.take j)).length = a) ∧ Hid (Blk wr g 5 (u8s (pst l j)).toArray) ∧ Hid (Ext W wr)) (fun _ i _ => n - (intOf i).toNat)
  case atStart => exact ⟨0, 1, by omega, rfl, rfl, hide (by simp [encV]), B2, E2⟩
  case round =>
    clear B2 E2 c0 f0 hix
    obtain ⟨j, a, hj, rfl, rfl, HA, HB, HE⟩ := hrel
    by_cases hlt : j < n
    · have hkl : j < l.length := by rw [Hn.out]; exact hlt
      obtain ⟨b, off, rfl, hb1, hc1⟩ := (HL.out.ext HE.out).2.2 (by omega)
      have d2 := hc1 j hkl
      have hx : l.getD j 0 < 18446744073709551616 := Hq.out.get j
      have hst := encV_take hkl
      have hle := encV_take_le l (j + 1)
      have Hsp := hide (pst_splice hkl HA.out)
      have hln := pst_len l j
      have hye := encB_pos (l.getD j 0)
      obtain ⟨x, hxx⟩ : ∃ x, l.getD j 0 = x := ⟨_, rfl⟩
      rw [hxx] at d2 hst hx Hsp hye
      obtain ⟨y, hy⟩ : ∃ y, (encB x).length = y := ⟨_, rfl⟩
      rw [hst, List.length_append, hy] at hle
      rw [hy] at hye
      have hay : a + y ≤ S := by have := HA.out; have := HS.out; omega
      have HA1 : Hid (1 + (encV (l.take (j + 1))).length = a + y) := hide (by rw [hst, List.length_append, hy, ← HA.out]; omega)
      have kaa : Hid (∀ w, Calls Try.prog 55 #[.slice none 0 0, .int .u64 (x : Int)] w (OwnL (encB x) y w)) := hide (fun w => (KA.out x w hx).mono fun _ _ q => OwnRet.len hy q)
      obtain ⟨Z, hZ⟩ : ∃ Z, u8s (pst l j) = Z := ⟨_, rfl⟩
      obtain ⟨X, hX⟩ : ∃ X, u8s (encB x) = X := ⟨_, rfl⟩
      have hXl : X.length = y := by rw [← hX, u8s_len, hy]
      have hZl : Z.length = S := by rw [← hZ, u8s_len, hln, HS.out]
      have Ho := hide (show ∀ v ∈ X, v.oneCell' = true by rw [← hX]; exact u8s_one _)
      have Hmn := hide (show X.length = Nat.min y (S - a) by rw [hXl]; exact (Nat.min_eq_left (by omega)).symm)
      have Hft := hide (show a + X.length ≤ Z.length by rw [hXl, hZl]; omega)
      rw [hZ] at HB Hsp
      rw [hX] at Hsp
      have HX := hide hX
      have hs : ∀ w, (Instr.slice 29 (.slice (some ⟨g, 0, none⟩) S S) (some (.int .i64 (a : Int))) none none).run Try.prog w = .ok (.slice (some ⟨g, a, none⟩) (S - a) (S - a)) w := fun w => by
        have := run_from (some ⟨g, 0, none⟩) S a S (by omega) w
        rw [if_neg (by omega)] at this
        simpa [add_at] using this
      have hgl := HB.out.lt
      have N0 : Hid (wr.drew.heap[g]? = some (.cells Z.toArray 5 (0, 0))) := hide HB.out
      have E0 := hide (show Ext W wr.drew from Below.drew HE.out)
      have hgl : g < wr.drew.heap.size := hgl
      have hya : 0 < y := hye
      have ka := hide (kaa.out wr.drew)
      clear hb1 hc1 hst hxx hkl hle hln hye hZ hX hZl HA HB kaa KA hy
      go_upto_region 7 with fail
      go_region_law (first
        | (go_simp; go_at_call 55; (with_reducible refine (ka.out).mono ?_); rintro e w4 ⟨A4, cap4, rfl, hl4, hle4, -, -, hb4, hE4⟩; have hb4 := hide hb4; have hl4 := hide hl4; have E4 := hide (Ext.trans E0.out hE4); have N4 := hide ((hE4.block g hgl).trans N0.out); clear hE4)
        | (refine step_copy_splice rfl (.tmp 21) (.tmp 23) 29 29 rfl 5 Try.underlying29 sz8 (some ⟨g, a, none⟩) A4 (S - a) (S - a) y cap4 rfl rfl g a Z 5 N4.out X Hmn.out (fun hp => ⟨rfl, by obtain ⟨b, off, rfl, _, _⟩ := hb4.out.2.2 (by rw [hl4.out]; omega); exact ⟨_, rfl, by rw [← HX.out]; exact cells_of_bytes hb4.out⟩⟩) Hft.out Ho.out W.heap.size W E4.out hgw ?_; intro w5 N5 hE5))
      all_goals
        have B5 := hide (show Blk w5 g 5 (u8s (pst l (j + 1))).toArray by have := N5.out; rw [Hsp.out] at this; exact this)
        have E5 := hide hE5
        clear hE5 N5
        go_wp2_with fail
        go_roundw
        case rel => exact ⟨j + 1, a + y, by omega, by go_num, by go_num, HA1, B5, E5⟩
        case measure => simp [intOf]; omega
    · obtain rfl : j = n := by omega
      have hB := HB.out
      rw [Hend.out] at hB
      have hB := hide hB
      go_wp2_with fail
      go_ret
      refine ⟨_, rfl, own_of (m := []) hgw (by rw [List.append_nil]; exact hB.out) (by rw [List.length_cons]; have := HS.out; omega) (by simp) (by omega) ?_, HE.out⟩
      intro y hy
      rcases List.mem_cons.1 hy with rfl | hy
      · omega
      · exact Hb.out y hy
theorem pk_splice (x y : Nat) (q : List Nat) {S : Nat} (h : q.length = S) : splice (u8s (x :: y :: List.replicate S 0)) 2 (u8s q) = u8s (x :: y :: q) := by
  unfold splice
  rw [List.drop_of_length_le (by rw [u8s_len, u8s_len]; simp; omega)]
  simp [u8s]
set_option maxRecDepth 100000 in
set_option maxHeartbeats 3200000 in
theorem p_packedForm (A : Option Addr) (n c : Nat) (l : List Nat) (u : Nat) (W : World) (hl : WordsAt W A l) (hn : l.length = n) (hn2 : n ≤ 65536) (hu : wdt l = u) :
    Calls Try.prog 36 #[.slice A n c, .int .i64 (u : Int)] W (OwnRet (1 :: u :: upN (pkN l u) (pkS l) 8) W) := by
  have hq := hl.1
  have hln : l.length ≤ 65536 := by omega
  have hpk := pkR_wdt hq hln
  have hSl := pkS_le hq hln
  have hw64 := wdt_le hq
  rw [hu] at hpk hw64
  have iu : I64 (u : Int) := ⟨by omega, by omega⟩
  obtain ⟨S, hS⟩ : ∃ S, pkS l = S := ⟨_, rfl⟩
  rw [hS] at hpk hSl
  rw [hS]
  obtain ⟨q, hqq⟩ : ∃ q, upN (pkN l u) S 8 = q := ⟨_, rfl⟩
  have hql : q.length = S := by rw [← hqq, upN_len]
  have hqb : IsB q := by rw [← hqq]; exact upN_fit _ _ 8
  rw [hqq] at hpk
  rw [hqq]
  have KZ : Hid (∀ w, Calls Try.prog 34 #[.int .i64 (n : Int), .int .i64 (u : Int)] w (RetSame (.int .i64 ((2 : Int) + (S : Int))) w)) := hide (fun w => p_packedSize n u w hn2 hw64 S (by rw [← hS, pkS, hn, hu]))
  have KP : Hid (∀ w, Ext W w → Calls Try.prog 54 #[.slice A n c, .int .i64 (u : Int)] w fun e w' => ∃ A cap, e = .returned (.tuple #[.slice A S cap, .bool true]) ∧ BytesAt w' A q ∧ Ext w w') := hide (fun w hw => (p_pack A n c l u w (hl.ext hw) hn iu).mono fun e w' h => by
    rw [hpk] at h
    obtain ⟨v, rfl, hO, hE⟩ := h
    obtain ⟨A, cap, rfl, h1, h2, h3⟩ := hO.at_
    rw [show (some q).getD [] = q from rfl] at h3
    exact ⟨A, cap, by rw [← hql]; rfl, h3, hE⟩)
  have hm := run_mk8b (2 + S) (2 + S) (Nat.le_refl _) (by omega)
  have e2S : ((2 + S : Nat) : Int) = (2 : Int) + (S : Int) := by omega
  have B1 := Blk.new W 5 (u8s (List.replicate (2 + S) 0)).toArray
  have E1 := ext_alloc W (.cells (u8s (List.replicate (2 + S) 0)).toArray 5)
  have er : List.replicate (2 + S) 0 = 0 :: 0 :: List.replicate S 0 := by rw [show 2 + S = S + 1 + 1 by omega, List.replicate_succ, List.replicate_succ]
  rw [er] at B1 E1 hm
  rw [e2S] at hm
  obtain ⟨w1, hw1⟩ : ∃ w1, W.alloc (.cells (u8s (0 :: 0 :: List.replicate S 0)).toArray 5) = w1 := ⟨_, rfl⟩
  rw [hw1] at B1 E1
  obtain ⟨g, hg⟩ : ∃ g, W.heap.size = g := ⟨_, rfl⟩
  rw [hg] at B1
  have hgw : W.heap.size ≤ g := by omega
  obtain ⟨K, hK⟩ : ∃ K, 2 + S = K := ⟨_, rfl⟩
  rw [hK] at hm
  have hix := idx8B g K K 0 0 rfl (by omega)
  have hix1 := idx8B g K K 1 1 rfl (by omega)
  have c0 : w1.cell? ⟨g, 0, none⟩ = some (.int .u8 0) := by rw [B1.cell]; rfl
  have f0 := B1.frozen 0
  have B2 := B1.set_ 0 (.int .u8 1)
  have c1 : (w1.setCell ⟨g, 0, none⟩ (.int .u8 1)).cell? ⟨g, 1, none⟩ = some (.int .u8 0) := by rw [B2.cell]; rfl
  have f1 := B2.frozen 1
  have B3 := hide (show Blk ((w1.setCell ⟨g, 0, none⟩ (.int .u8 1)).setCell ⟨g, 1, none⟩ (.int .u8 (u : Int))) g 5 (u8s (1 :: u :: List.replicate S 0)).toArray by
    have := B2.set_ 1 (.int .u8 (u : Int))
    rw [show ((u8s (0 :: 0 :: List.replicate S 0)).toArray.setIfInBounds 0 (.int .u8 1)).setIfInBounds 1 (.int .u8 (u : Int)) = (u8s (1 :: u :: List.replicate S 0)).toArray by simp [u8s]] at this
    exact this)
  have E3 : Ext W ((w1.setCell ⟨g, 0, none⟩ (.int .u8 1)).setCell ⟨g, 1, none⟩ (.int .u8 (u : Int))) := Below.setCell (Below.setCell E1 (p := ⟨g, 0, none⟩) hgw _) (p := ⟨g, 1, none⟩) hgw _
  have E3 := hide E3
  have hcv : IntKind.u8.wrap (u : Int) = (u : Int) := by rw [wrap_8]; omega
  have Hw1 := hide hw1
  have Hg := hide hg
  have hs : ∀ w, (Instr.slice 29 (.slice (some ⟨g, 0, none⟩) K K) (some (.int .i64 2)) none none).run Try.prog w = .ok (.slice (if S = 0 then some ⟨g, 0, none⟩ else some ⟨g, 2, none⟩) S S) w := fun w => by
    have := run_from (some ⟨g, 0, none⟩) K 2 K (by omega) w
    rw [show K - 2 = S by omega] at this
    by_cases h0 : S = 0
    · rw [if_pos (by omega)] at this
      rw [if_pos h0]; exact this
    · rw [if_neg (by omega)] at this
      rw [if_neg h0]; simpa [add_at] using this
  obtain ⟨X, hX⟩ : ∃ X, u8s q = X := ⟨_, rfl⟩
  have hXl : X.length = S := by rw [← hX, u8s_len, hql]
  have Ho := hide (show ∀ v ∈ X, v.oneCell' = true by rw [← hX]; exact u8s_one _)
  have Hmn := hide (show X.length = Nat.min S S by rw [hXl]; exact (Nat.min_self _).symm)
  have Hsp := hide (pk_splice 1 u q hql)
  rw [hX] at Hsp
  have HX := hide hX
  have Hql := hide hql
  have Hqb := hide hqb
  have Hft := hide (show 2 + X.length ≤ (u8s (1 :: u :: List.replicate S 0)).length by rw [hXl, u8s_len]; simp; omega)
  have HXl := hide hXl
  obtain ⟨P0, hP0⟩ : ∃ P0 : Option Addr, (if S = 0 then some ⟨g, 0, none⟩ else some ⟨g, 2, none⟩) = P0 := ⟨_, rfl⟩
  rw [hP0] at hs
  have HP0 := hide hP0
  have HK := hide hK
  have hK2 : K ≤ 1048576 := by omega
  clear hl hn hq hln hpk hu hS hqq hql hqb e2S er hw1 hg B1 E1 B2 hX hXl hP0 hK
  go_enter Try.func36, Try.ntmps36
  go_upto_region 2 with (go_at_call 34; (with_reducible refine (KZ.out _).mono ?_); rintro e w0 ⟨rfl, rfl⟩)
  rw [Hw1.out, Hg.out]
  clear hm
  go_upto_region 3 with fail
  have kp := hide (KP.out _ E3.out)
  have hgl := B3.out.lt
  generalize ((w1.setCell ⟨g, 0, none⟩ (.int .u8 1)).setCell ⟨g, 1, none⟩ (.int .u8 (u : Int))) = w2 at *
  clear c0 c1 f0 f1
  go_upto_region 4 with (go_at_call 54; (with_reducible refine (kp.out).mono ?_); rintro e w3 ⟨A4, c4, rfl, hb4, hE4⟩; have E4 := hide (Ext.trans E3.out hE4); have N4 := hide ((hE4.block g hgl).trans B3.out); have hb4 := hide hb4; clear hE4)
  go_wp2_with (refine wpList_copy_splice rfl (.tmp 26) (.tmp 27) 29 29 rfl 5 Try.underlying29 sz8 P0 A4 S S S c4 rfl rfl g 2 (u8s (1 :: u :: List.replicate S 0)) 5 N4.out X Hmn.out (fun hp => ⟨by rw [← HP0.out, if_neg (by have := HXl.out; omega)], by obtain ⟨b, off, rfl, _, _⟩ := hb4.out.2.2 (by rw [Hql.out]; have := HXl.out; omega); exact ⟨_, rfl, by rw [← HX.out]; exact cells_of_bytes hb4.out⟩⟩) Hft.out Ho.out W.heap.size W E4.out hgw ?_; intro w5 N5 hE5)
  go_ret
  have hN := N5.out
  rw [Hsp.out] at hN
  refine ⟨_, rfl, own_of (m := []) hgw (by rw [List.append_nil]; exact hN) (by have := Hql.out; have := HK.out; simp; omega) (by simp) (by omega) ?_, hE5⟩
  intro y hy
  rcases List.mem_cons.1 hy with rfl | hy
  · omega
  · rcases List.mem_cons.1 hy with rfl | hy
    · omega
    · exact Hqb.out y hy
set_option maxRecDepth 100000 in
set_option maxHeartbeats 3200000 in
theorem p_encN (A : Option Addr) (n c : Nat) (l : List Nat) (W : World) (hl : WordsAt W A l) (hn : l.length = n) :
    Calls Try.prog 25 #[.slice A n c] W (EncRet (enN l).1 (enN l).2 W) := by
  have hn63 : n ≤ 9223372036854775807 := by have := hl.2.1; omega
  by_cases hc : 65536 < n
  · have e : enN l = ([], 3) := if_pos (by omega)
    rw [e]
    have d1 : decide ((65536 : Int) < (n : Int)) = true := decide_eq_true (by omega)
    clear hl hn
    go_enter Try.func25, Try.ntmps25
    go_wp2_with fail
    go_ret2
    exact ⟨_, rfl, OwnB.nil_ _ _, Ext.refl _⟩
  · have d1 : decide ((65536 : Int) < (n : Int)) = false := decide_eq_false (by omega)
    have hn2 : n ≤ 65536 := by omega
    have hw64 := wdt_le hl.1
    have hV := encV_le hl.1
    have hSl := pkS_le hl.1 (by omega)
    obtain ⟨u, hu⟩ : ∃ u, wdt l = u := ⟨_, rfl⟩
    have KW : Hid (Calls Try.prog 33 #[.slice A n c] W (Ret (.int .i64 (u : Int)) W)) := hide (by have := p_wd A n c l W hl hn; rw [hu] at this; exact this)
    obtain ⟨S, hS⟩ : ∃ S, pkS l = S := ⟨_, rfl⟩
    obtain ⟨z, hz⟩ : ∃ z, 1 + (encV l).length = z := ⟨_, rfl⟩
    have KS : Hid (∀ w, Calls Try.prog 34 #[.int .i64 (n : Int), .int .i64 (u : Int)] w (RetSame (.int .i64 ((2 : Int) + (S : Int))) w)) := hide (fun w => p_packedSize n u w hn2 (by omega) S (by rw [← hS, pkS, hn, hu]))
    have KT : Hid (∀ w, Ext W w → Calls Try.prog 35 #[.slice A n c] w (RetSame (.int .i64 (z : Int)) w)) := hide (fun w hw => p_plainSize A n c l w (hl.ext hw) hn hn2 z hz)
    have KK : Hid (∀ w, Ext W w → Calls Try.prog 36 #[.slice A n c, .int .i64 (u : Int)] w (OwnRet (1 :: u :: upN (pkN l u) S 8) w)) := hide (fun w hw => by rw [← hS]; exact p_packedForm A n c l u w (hl.ext hw) hn hn2 hu)
    have KL : Hid (∀ w, Ext W w → Calls Try.prog 37 #[.slice A n c] w (OwnRet (0 :: encV l) w)) := hide (fun w hw => p_plainForm A n c l w (hl.ext hw) hn hn2)
    by_cases hlt : 2 + S < z
    · have e : enN l = (1 :: u :: upN (pkN l u) S 8, 0) := by
        unfold enN
        rw [if_neg (by omega), if_pos (by omega), hS, hu]
      rw [e]
      have d4 : decide ((2 : Int) + (S : Int) < (z : Int)) = true := decide_eq_true (by omega)
      clear hl hn hV hS hz hu e
      go_enter Try.func25, Try.ntmps25
      go_wp2_with (first
        | (go_at_call 33; (with_reducible refine (KW.out).mono ?_); rintro e w3 ⟨rfl, hE⟩; have E3 := hide hE; have kt := hide (KT.out w3 hE); have kk := hide (KK.out w3 hE); clear hE)
        | (go_at_call 34; (with_reducible refine (KS.out _).mono ?_); rintro e w4 ⟨rfl, rfl⟩)
        | (go_at_call 35; (with_reducible refine (kt.out).mono ?_); rintro e w5 ⟨rfl, rfl⟩)
        | (go_at_call 36; (with_reducible refine (kk.out).mono ?_); rintro e w6 ⟨v, rfl, hO, hE⟩; have O6 := hide (hO.less E3.out.size); have E6 := hide (Ext.trans E3.out hE); clear hO hE))
      go_ret2
      exact ⟨_, rfl, O6.out, E6.out⟩
    · have e : enN l = (0 :: encV l, 0) := by
        unfold enN
        rw [if_neg (by omega), if_neg (by omega)]
      rw [e]
      have d4 : decide ((2 : Int) + (S : Int) < (z : Int)) = false := decide_eq_false (by omega)
      clear hl hn hV hS hz hu e
      go_enter Try.func25, Try.ntmps25
      go_wp2_with (first
        | (go_at_call 33; (with_reducible refine (KW.out).mono ?_); rintro e w3 ⟨rfl, hE⟩; have E3 := hide hE; have kt := hide (KT.out w3 hE); have kk := hide (KL.out w3 hE); clear hE)
        | (go_at_call 34; (with_reducible refine (KS.out _).mono ?_); rintro e w4 ⟨rfl, rfl⟩)
        | (go_at_call 35; (with_reducible refine (kt.out).mono ?_); rintro e w5 ⟨rfl, rfl⟩)
        | (go_at_call 37; (with_reducible refine (kk.out).mono ?_); rintro e w6 ⟨v, rfl, hO, hE⟩; have O6 := hide (hO.less E3.out.size); have E6 := hide (Ext.trans E3.out hE); clear hO hE))
      go_ret2
      exact ⟨_, rfl, O6.out, E6.out⟩
/-- What readForm returns. -/
def rdF (b : List Nat) (a n : Nat) : List Nat × Int × Int := if a = b.length then ([], 0, 4) else rdN b a n
/-- A list whose numbers are read one after the other. -/
def ast (acc : List Nat) (m : Nat) : List Nat := acc ++ List.replicate m 0
theorem ast_set (acc : List Nat) (m v k : Nat) (hk : acc.length = k) : (q8s (ast acc (m + 1))).toArray.setIfInBounds k (.int .u64 (v : Int)) = (q8s (ast (acc ++ [v]) m)).toArray := by
  subst hk
  unfold ast
  rw [List.replicate_succ]
  simp [q8s]
theorem ast_get (acc : List Nat) (m k : Nat) (hk : acc.length = k) : (q8s (ast acc (m + 1))).toArray[k]? = some (.int .u64 0) := by
  subst hk
  unfold ast
  rw [List.replicate_succ]
  simp [q8s]
set_option maxRecDepth 100000 in
set_option maxHeartbeats 3200000 in
theorem p_readPlain (A : Option Addr) (c cap : Nat) (b : List Nat) (a : Int) (n : Nat) (W : World) (hb : BytesAt W A b) (hc : b.length = c) (hcap : c ≤ cap) (hcap2 : c ≤ 4611686018427387904) (ha0 : 0 ≤ a) (ha1 : a ≤ c) (hn : n ≤ 65536) (R : List Nat × Int × Int) (hR : rdA b [] n a = R) :
    Calls Try.prog 60 #[.slice A c cap, .int .i64 a, .int .i64 (n : Int)] W (NumRet R W) := by
  have KR : Hid (∀ (x : Int) (w : World), 0 ≤ x → x ≤ c → Ext W w → ∀ r1 r2 r3, rdV b x = (r1, r2, r3) → Calls Try.prog 69 #[.slice A c cap, .int .i64 x] w (RetSame (.tuple #[.int .u64 r1, .int .i64 r2, .int .i64 r3]) w)) := hide (fun x w h0 h1 hE r1 r2 r3 hr => p_read A c cap b x w (hb.ext hE) hc hcap hcap2 ⟨by omega, by omega⟩ r1 r2 r3 hr)
  have HR := hide hR
  have Hc := hide hc
  have hm := run_mk64 n n (Nat.le_refl _) (by omega)
  have B1 := Blk.new W 52 (q8s (ast [] n)).toArray
  have E1 := ext_alloc W (.cells (q8s (ast [] n)).toArray 52)
  rw [show List.replicate n 0 = ast [] n from rfl] at hm
  obtain ⟨w1, hw1⟩ : ∃ w1, W.alloc (.cells (q8s (ast [] n)).toArray 52) = w1 := ⟨_, rfl⟩
  rw [hw1] at B1 E1
  obtain ⟨g, hg⟩ : ∃ g, W.heap.size = g := ⟨_, rfl⟩
  rw [hg] at B1
  have hgw : W.heap.size ≤ g := by omega
  have B1 := hide B1
  have E1 := hide E1
  have Hw1 := hide hw1
  have Hg := hide hg
  clear hb hc hR hw1 hg
  go_enter Try.func60, Try.ntmps60
  go_upto_region 2 with fail
  rw [Hw1.out, Hg.out]
  clear hm
  go_wp2_with fail
  go_loopw [1, 17] (fun av iv wr => ∃ (k m : Nat) (x : Int) (acc : List Nat), k + m = n ∧ av = .int .i64 x ∧ iv = .int .i64 (k : Int) ∧ 0 ≤ x ∧ x ≤ c ∧ Hid (acc.length = k) ∧ Hid (IsQ acc) ∧ Hid (rdA b acc m x = R) ∧ Hid (Blk wr g 52 (q8s (ast acc m)).toArray) ∧ Hid (Ext W wr)) (fun _ iv _ => n - (intOf iv).toNat)
  case atStart => exact ⟨0, n, a, [], by omega, rfl, rfl, ha0, ha1, hide rfl, hide (fun _ h => by simp at h), HR, B1, E1⟩
  case round =>
    clear B1 E1 HR
    obtain ⟨k, m, x, acc, hk, rfl, rfl, hx0, hx1, HL, HQ, HR, HB, HE⟩ := hrel
    by_cases hlt : k < n
    · obtain ⟨m, rfl⟩ : ∃ m', m = m' + 1 := ⟨m - 1, by omega⟩
      have d0 : decide ((k : Int) < (n : Int)) = true := decide_eq_true (by omega)
      have hR := HR.out
      rw [rdA] at hR
      obtain ⟨r1, r2, r3, hr⟩ : ∃ r1 r2 r3, rdV b x = (r1, r2, r3) := ⟨_, _, _, rfl⟩
      have KR1 := hide (KR.out x wr hx0 hx1 HE.out r1 r2 r3 hr)
      by_cases h3 : r3 = 0
      · subst h3
        rw [hr, if_pos rfl] at hR
        obtain ⟨v0, v1, _, a1, a2⟩ := rdV_ok hr
        obtain ⟨v, rfl⟩ := Int.eq_ofNat_of_zero_le v0
        have hv : v < 18446744073709551616 := by omega
        rw [Int.toNat_natCast] at hR
        have HR2 := hide hR
        have hr20 : 0 ≤ r2 := by omega
        have hr21 : r2 ≤ c := by have := Hc.out; omega
        have hix := idx64B g n n k hlt
        have c0 : wr.cell? ⟨g, k, none⟩ = some (.int .u64 0) := by rw [HB.out.cell]; exact ast_get acc m k HL.out
        have f0 := HB.out.frozen k
        have B2 := hide (show Blk (wr.setCell ⟨g, k, none⟩ (.int .u64 (v : Int))) g 52 (q8s (ast (acc ++ [v]) m)).toArray by
          have := HB.out.set_ k (.int .u64 (v : Int))
          rw [ast_set acc m v k HL.out] at this
          exact this)
        have E2 : Ext W (wr.setCell ⟨g, k, none⟩ (.int .u64 (v : Int))) := Below.setCell HE.out (p := ⟨g, k, none⟩) hgw _
        have E2 := hide E2
        have HL2 := hide (show (acc ++ [v]).length = k + 1 by rw [List.length_append, HL.out]; rfl)
        have HQ2 := hide (HQ.out.app (IsQ.one hv))
        clear hr hR v0 v1 a1 a2 HR HL HQ HB HE
        go_wp2_with (go_at_call 69; (with_reducible refine (KR1.out).mono ?_); rintro e w3 ⟨rfl, rfl⟩)
        go_roundw
        case rel => exact ⟨k + 1, m, r2, acc ++ [v], by omega, rfl, by go_num, hr20, hr21, HL2, HQ2, HR2, B2, E2⟩
        case measure => simp [intOf]; omega
      · have he := rdV_err b x
        rw [hr] at he
        obtain ⟨rfl, rfl, h31, h32⟩ : r1 = 0 ∧ r2 = 0 ∧ 0 < r3 ∧ r3 ≤ 5 := by
          rcases he with h | h
          · exact absurd h h3
          · exact h
        rw [hr, if_neg h3] at hR
        have HR2 := hide hR
        have d3 : (r3 != 0) = true := by rw [bne_iff_ne]; exact h3
        clear hr hR he HR
        go_wp2_with (go_at_call 69; (with_reducible refine (KR1.out).mono ?_); rintro e w3 ⟨rfl, rfl⟩)
        go_ret3
        rw [← HR2.out]
        exact ⟨_, rfl, OwnQ.nil_ _ _, HE.out⟩
    · obtain rfl : m = 0 := by omega
      obtain rfl : k = n := by omega
      have d0 : decide ((k : Int) < (k : Int)) = false := decide_eq_false (by omega)
      have hR := HR.out
      rw [rdA] at hR
      have HR2 := hide hR
      have hB := HB.out
      rw [show ast acc 0 = acc by simp [ast]] at hB
      have HB := hide hB
      clear hR HR hB
      go_wp2_with fail
      go_ret3
      rw [← HR2.out]
      exact ⟨_, rfl, own_q hgw HB.out HL.out (by omega) HQ.out, HE.out⟩
set_option maxRecDepth 100000 in
set_option maxHeartbeats 3200000 in
theorem p_readPacked (A : Option Addr) (c cap : Nat) (b : List Nat) (a : Nat) (n : Nat) (W : World) (hb : BytesAt W A b) (hc : b.length = c) (hcap : c ≤ cap) (hcap2 : c ≤ 4611686018427387904) (ha1 : a ≤ c) (hn : n ≤ 65536) (R : List Nat × Int × Int) (hR : rdK b a n = R) :
    Calls Try.prog 61 #[.slice A c cap, .int .i64 (a : Int), .int .i64 (n : Int)] W (NumRet R W) := by
  unfold rdK at hR
  by_cases h0 : a = c
  · rw [if_pos (by omega)] at hR
    subst hR
    have d0 : ((a : Int) == (c : Int)) = true := by rw [beq_iff_eq]; omega
    clear hb hc h0
    go_enter Try.func61, Try.ntmps61
    go_wp2_with fail
    go_ret3
    exact ⟨_, rfl, OwnQ.nil_ _ _, Ext.refl _⟩
  · rw [if_neg (by omega)] at hR
    have d0 : ((a : Int) == (c : Int)) = false := by rw [beq_eq_false_iff_ne]; omega
    have hac : a < b.length := by omega
    obtain ⟨g, off, rfl, hb1, hc1⟩ := hb.2.2 (by omega)
    have d1 := hc1 a hac
    have hix := idx8o g off c cap a (by omega)
    have hu8 : b.getD a 0 < 256 := hb.1.get a
    obtain ⟨u, hu⟩ : ∃ u, b.getD a 0 = u := ⟨_, rfl⟩
    rw [hu] at d1 hR hu8
    have ha2 : a < c := by omega
    have iN : I64 (n : Int) := ⟨by omega, by omega⟩
    have iU : I64 (u : Int) := ⟨by omega, by omega⟩
    by_cases h64 : 64 < u
    · rw [if_pos h64] at hR
      subst hR
      have KS : Hid (∀ w, Calls Try.prog 52 #[.int .i64 (n : Int), .int .i64 (u : Int)] w (RetSame (.int .i64 (-1)) w)) := hide (fun w => by
        have := p_siz (n : Int) (u : Int) w iN iU
        rw [siz_out (by omega)] at this
        exact this)
      clear hb hc h0 hac hb1 hc1 hu
      go_enter Try.func61, Try.ntmps61
      go_wp2_with (go_at_call 52; (with_reducible refine (KS.out _).mono ?_); rintro e w3 ⟨rfl, rfl⟩)
      go_ret3
      exact ⟨_, rfl, OwnQ.nil_ _ _, Ext.refl _⟩
    · rw [if_neg h64] at hR
      have hnu := nv_le hn (show u ≤ 64 by omega)
      obtain ⟨S, hS⟩ : ∃ S, (n * u + 7) / 8 = S := ⟨_, rfl⟩
      have KS : Hid (∀ w, Calls Try.prog 52 #[.int .i64 (n : Int), .int .i64 (u : Int)] w (RetSame (.int .i64 (S : Int)) w)) := hide (fun w => by
        have := p_siz (n : Int) (u : Int) w iN iU
        rw [siz_in hn (by omega), hS] at this
        exact this)
      have hS2 : S ≤ 1048576 := by omega
      have dS : decide ((S : Int) < 0) = false := decide_eq_false (by omega)
      rw [hS] at hR
      by_cases hlt : c - a - 1 < S
      · rw [if_pos (by omega)] at hR
        subst hR
        have d3 : decide ((c : Int) - ((a : Int) + 1) < (S : Int)) = true := decide_eq_true (by omega)
        clear hb hc h0 hac hb1 hc1 hu hS hnu
        go_enter Try.func61, Try.ntmps61
        go_wp2_with (go_at_call 52; (with_reducible refine (KS.out _).mono ?_); rintro e w3 ⟨rfl, rfl⟩)
        go_ret3
        exact ⟨_, rfl, OwnQ.nil_ _ _, Ext.refl _⟩
      · rw [if_neg (by omega)] at hR
        have d3 : decide ((c : Int) - ((a : Int) + 1) < (S : Int)) = false := decide_eq_false (by omega)
        have hsl := run_mid (some ⟨g, off, none⟩) c (a + 1) (a + 1 + S) cap (by omega) (by omega)
        have ei : ((a + 1 : Nat) : Int) = (a : Int) + 1 := by omega
        have ei2 : ((a + 1 + S : Nat) : Int) = (a : Int) + 1 + (S : Int) := by omega
        rw [ei, ei2, show a + 1 + S - (a + 1) = S by omega] at hsl
        have hbs := (hb.drop (a + 1) cap (by omega)).take S
        have hbl : ((b.drop (a + 1)).take S).length = S := by rw [List.length_take, List.length_drop]; omega
        obtain ⟨A2, hA2⟩ : ∃ A2 : Option Addr, (if cap = a + 1 then some ⟨g, off, none⟩ else (some (⟨g, off, none⟩ : Addr)).map (·.add ((a + 1) * 1))) = A2 := ⟨_, rfl⟩
        rw [hA2] at hsl hbs
        obtain ⟨q, hq⟩ : ∃ q, (b.drop (a + 1)).take S = q := ⟨_, rfl⟩
        rw [hq] at hbs hbl hR
        have KU := hide (p_unpack A2 S (cap - (a + 1)) q n u W hbs hbl iN iU)
        clear hb hc h0 hac hb1 hc1 hu hS hnu ei ei2 hbs hA2 hq
        cases ho : upR q n u with
        | none =>
          rw [ho] at hR KU
          have HR := hide (show ([], 0, 5) = R from hR)
          clear hR ho
          go_enter Try.func61, Try.ntmps61
          go_wp2_with (first
            | (go_at_call 52; (with_reducible refine (KS.out _).mono ?_); rintro e w3 ⟨rfl, rfl⟩)
            | (go_at_call 70; (with_reducible refine (KU.out).mono ?_); rintro e w4 ⟨v4, rfl, hO, hE⟩; have hE := hide hE; clear hO))
          go_ret3
          rw [← HR.out]
          exact ⟨_, rfl, OwnQ.nil_ _ _, hE.out⟩
        | some l =>
          rw [ho] at hR KU
          have HR := hide (show (l, ((a + 1 + S : Nat) : Int), 0) = R from hR)
          clear hR ho
          go_enter Try.func61, Try.ntmps61
          go_wp2_with (first
            | (go_at_call 52; (with_reducible refine (KS.out _).mono ?_); rintro e w3 ⟨rfl, rfl⟩)
            | (go_at_call 70; (with_reducible refine (KU.out).mono ?_); rintro e w4 ⟨v4, rfl, hO, hE⟩; have hE := hide hE; have hO := hide hO))
          go_ret3
          rw [← HR.out]
          exact ⟨_, by rw [show ((a + 1 + S : Nat) : Int) = (a : Int) + 1 + (S : Int) by omega]; rfl, hO.out, hE.out⟩
set_option maxRecDepth 100000 in
set_option maxHeartbeats 3200000 in
theorem p_readForm (A : Option Addr) (c cap : Nat) (b : List Nat) (a : Nat) (m : Nat) (W : World) (hb : BytesAt W A b) (hc : b.length = c) (hcap : c ≤ cap) (hcap2 : c ≤ 4611686018427387904) (hac : a ≤ c) (hm : m ≤ 65536) (R : List Nat × Int × Int) (hR : rdF b a m = R) :
    Calls Try.prog 47 #[.slice A c cap, .int .i64 (a : Int), .int .i64 (m : Int)] W (NumRet R W) := by
  unfold rdF at hR
  by_cases h0 : a = c
  · rw [if_pos (by omega)] at hR
    subst hR
    have d0 : ((a : Int) == (c : Int)) = true := by rw [beq_iff_eq]; omega
    clear hb hc h0
    go_enter Try.func47, Try.ntmps47
    go_wp2_with fail
    go_ret3
    exact ⟨_, rfl, OwnQ.nil_ _ _, Ext.refl _⟩
  · rw [if_neg (by omega)] at hR
    have d0 : ((a : Int) == (c : Int)) = false := by rw [beq_eq_false_iff_ne]; omega
    unfold rdN at hR
    have KA : Hid (Calls Try.prog 60 #[.slice A c cap, .int .i64 ((a : Int) + 1), .int .i64 (m : Int)] W (NumRet (rdA b [] m ((a : Int) + 1)) W)) := hide (p_readPlain A c cap b ((a : Int) + 1) m W hb hc hcap hcap2 (by omega) (by omega) hm _ rfl)
    have KB : Hid (Calls Try.prog 61 #[.slice A c cap, .int .i64 ((a : Int) + 1), .int .i64 (m : Int)] W (NumRet (rdK b (a + 1) m) W)) := hide (p_readPacked A c cap b (a + 1) m W hb hc hcap hcap2 (by omega) hm _ rfl)
    obtain ⟨g, off, rfl, hb1, hc1⟩ := hb.2.2 (by omega)
    have dc := hc1 a (by omega)
    have hix := idx8o g off c cap a (by omega)
    have hu8 : b.getD a 0 < 256 := hb.1.get a
    obtain ⟨u, hu⟩ : ∃ u, b.getD a 0 = u := ⟨_, rfl⟩
    rw [hu] at dc hu8 hR
    clear hb hc hb1 hc1 hu
    by_cases hu0 : u = 0
    · have dz : ((u : Int) == 0) = true := by rw [beq_iff_eq]; omega
      rw [if_pos hu0] at hR
      rw [hR] at KA
      clear hR KB hu0
      go_enter Try.func47, Try.ntmps47
      go_wp2_with (go_at_call 60; (with_reducible refine (KA.out).mono ?_); rintro e w1 ⟨v, rfl, hO, hE⟩; have O1 := hide hO; have E1 := hide hE; clear hO hE)
      go_ret3
      exact ⟨_, rfl, O1.out, E1.out⟩
    · have dz : ((u : Int) == 0) = false := by rw [beq_eq_false_iff_ne]; omega
      rw [if_neg hu0] at hR
      by_cases hu1 : u = 1
      · have dy : ((u : Int) == 1) = true := by rw [beq_iff_eq]; omega
        rw [if_pos hu1] at hR
        rw [hR] at KB
        clear hR KA hu0 hu1
        go_enter Try.func47, Try.ntmps47
        go_wp2_with (go_at_call 61; (with_reducible refine (KB.out).mono ?_); rintro e w1 ⟨v, rfl, hO, hE⟩; have O1 := hide hO; have E1 := hide hE; clear hO hE)
        go_ret3
        exact ⟨_, rfl, O1.out, E1.out⟩
      · have dy : ((u : Int) == 1) = false := by rw [beq_eq_false_iff_ne]; omega
        rw [if_neg hu1] at hR
        subst hR
        clear KA KB hu0 hu1
        go_enter Try.func47, Try.ntmps47
        go_wp2_with fail
        go_ret3
        exact ⟨_, rfl, OwnQ.nil_ _ _, Ext.refl _⟩
set_option maxRecDepth 100000 in
set_option maxHeartbeats 3200000 in
theorem p_deN_out (A : Option Addr) (c cap : Nat) (b : List Nat) (at_ n : Int) (W : World) (hb : BytesAt W A b) (hc : b.length = c) (hcap2 : c ≤ 4611686018427387904) (hat : I64 at_) (hn : I64 n) (hr : at_ < 0 ∨ (c : Int) < at_ ∨ n < 0 ∨ 65536 < n) :
    Calls Try.prog 31 #[.slice A c cap, .int .i64 at_, .int .i64 n] W (NumRet ([], 0, 2) W) := by
  clear hb hc
  by_cases h1 : at_ < 0
  · have d1 : decide (at_ < 0) = true := decide_eq_true h1
    clear hr h1
    go_enter Try.func31, Try.ntmps31
    go_wp2_with fail
    go_ret3
    exact ⟨_, rfl, OwnQ.nil_ _ _, Ext.refl _⟩
  · have d1 : decide (at_ < 0) = false := decide_eq_false h1
    by_cases h2 : (c : Int) < at_
    · have d2 : decide ((c : Int) < at_) = true := decide_eq_true h2
      clear hr h1 h2
      go_enter Try.func31, Try.ntmps31
      go_wp2_with fail
      go_ret3
      exact ⟨_, rfl, OwnQ.nil_ _ _, Ext.refl _⟩
    · have d2 : decide ((c : Int) < at_) = false := decide_eq_false h2
      by_cases h3 : n < 0
      · have d3 : decide (n < 0) = true := decide_eq_true h3
        clear hr h1 h2 h3
        go_enter Try.func31, Try.ntmps31
        go_wp2_with fail
        go_ret3
        exact ⟨_, rfl, OwnQ.nil_ _ _, Ext.refl _⟩
      · have d3 : decide (n < 0) = false := decide_eq_false h3
        have d4 : decide ((65536 : Int) < n) = true := decide_eq_true (by omega)
        clear hr h1 h2 h3
        go_enter Try.func31, Try.ntmps31
        go_wp2_with fail
        go_ret3
        exact ⟨_, rfl, OwnQ.nil_ _ _, Ext.refl _⟩
set_option maxRecDepth 100000 in
set_option maxHeartbeats 3200000 in
theorem p_deN (A : Option Addr) (c cap : Nat) (b : List Nat) (at_ n : Int) (W : World) (hb : BytesAt W A b) (hc : b.length = c) (hcap : c ≤ cap) (hcap2 : c ≤ 4611686018427387904) (hat : I64 at_) (hn : I64 n) (R : List Nat × Int × Int) (hR : deN b at_ n = R) :
    Calls Try.prog 31 #[.slice A c cap, .int .i64 at_, .int .i64 n] W (NumRet R W) := by
  by_cases hr : at_ < 0 ∨ (c : Int) < at_ ∨ n < 0 ∨ 65536 < n
  · have e : deN b at_ n = ([], 0, 2) := if_pos (by omega)
    rw [← hR, e]
    exact p_deN_out A c cap b at_ n W hb hc hcap2 hat hn hr
  · obtain ⟨a, rfl⟩ := Int.eq_ofNat_of_zero_le (show 0 ≤ at_ by omega)
    obtain ⟨m, rfl⟩ := Int.eq_ofNat_of_zero_le (show 0 ≤ n by omega)
    have hac : a ≤ c := by omega
    have hm : m ≤ 65536 := by omega
    have d1 : decide ((a : Int) < 0) = false := decide_eq_false (by omega)
    have d2 : decide ((c : Int) < (a : Int)) = false := decide_eq_false (by omega)
    have d3 : decide ((m : Int) < 0) = false := decide_eq_false (by omega)
    have d4 : decide ((65536 : Int) < (m : Int)) = false := decide_eq_false (by omega)
    by_cases h0 : a = c
    · have e : deN b a m = ([], 0, 4) := by
        unfold deN
        rw [if_neg (by omega), if_pos (by omega)]
      rw [e] at hR
      subst hR
      have KF : Hid (Calls Try.prog 47 #[.slice A c cap, .int .i64 (a : Int), .int .i64 (m : Int)] W (NumRet ([], 0, 4) W)) := hide (p_readForm A c cap b a m W hb hc hcap hcap2 hac hm _ (if_pos (by omega)))
      clear hb hc hr hac e hcap d2
      subst h0
      have d2 : decide ((a : Int) < (a : Int)) = false := decide_eq_false (by omega)
      go_enter Try.func31, Try.ntmps31
      go_wp2_with (go_at_call 47; (with_reducible refine (KF.out).mono ?_); rintro e w1 ⟨v, rfl, hO, hE⟩; have E1 := hide hE; clear hO hE)
      go_ret3
      exact ⟨_, rfl, OwnQ.nil_ _ _, E1.out⟩
    · have hac2 : a < c := by omega
      obtain ⟨L, nx, e1, hL⟩ : ∃ L nx e1, rdN b a m = (L, nx, e1) := ⟨_, _, _, rfl⟩
      rw [deN_in (by omega) hm hL] at hR
      have KF : Hid (Calls Try.prog 47 #[.slice A c cap, .int .i64 (a : Int), .int .i64 (m : Int)] W (NumRet (L, nx, e1) W)) := hide (p_readForm A c cap b a m W hb hc hcap hcap2 hac hm _ (by rw [rdF, if_neg (by omega), hL]))
      obtain ⟨g, off, rfl, hb1, hc1⟩ := hb.2.2 (by omega)
      have hnr := rdN_ok hm (show a < b.length by omega) (l := L) (nx := nx)
      rw [hL] at hnr
      have HB := hide hb
      have Hc := hide hc
      by_cases he : e1 = 0
      · subst he
        obtain ⟨hq, hLn, hn1, hn2⟩ := hnr rfl
        obtain ⟨x, rfl⟩ := Int.eq_ofNat_of_zero_le (show 0 ≤ nx by omega)
        rw [if_neg (by omega), Int.toNat_natCast] at hR
        have hsl := run_mid (some ⟨g, off, none⟩) c a x cap (by omega) (by omega)
        have hbs := (hb.drop a cap (by omega)).take (x - a)
        have hbl : ((b.drop a).take (x - a)).length = x - a := by rw [List.length_take, List.length_drop]; omega
        obtain ⟨A2, hA2⟩ : ∃ A2 : Option Addr, (if cap = a then some ⟨g, off, none⟩ else (some (⟨g, off, none⟩ : Addr)).map (·.add (a * 1))) = A2 := ⟨_, rfl⟩
        rw [hA2] at hsl hbs
        obtain ⟨q, hqq⟩ : ∃ q, (b.drop a).take (x - a) = q := ⟨_, rfl⟩
        rw [hqq] at hbs hbl hR
        obtain ⟨z, hz⟩ : ∃ z, (enN L).1 = z := ⟨_, rfl⟩
        rw [hz] at hR
        obtain ⟨zl, hzl⟩ : ∃ zl, z.length = zl := ⟨_, rfl⟩
        obtain ⟨ze, hze⟩ : ∃ ze, (enN L).2 = ze := ⟨_, rfl⟩
        obtain ⟨xa, hxa⟩ : ∃ xa, x - a = xa := ⟨_, rfl⟩
        rw [hxa] at hsl hbl
        obtain ⟨y, hy⟩ : ∃ y, decide (z = q) = y := ⟨_, rfl⟩
        have KE : Hid (∀ A3 c3 w, WordsAt w A3 L → Calls Try.prog 25 #[.slice A3 m c3] w (fun e w' => ∃ A4 c4, e = .returned (.tuple #[.slice A4 zl c4, .int .i64 (ze : Int)]) ∧ BytesAt w' A4 z ∧ Ext w w')) := hide (fun A3 c3 w hw => (p_encN A3 m c3 L w hw hLn).mono fun e w' h => by
          obtain ⟨A4, c4, rfl, _, _, _, h3, hE⟩ := h.parts
          rw [hz] at h3
          exact ⟨A4, c4, by rw [hz, hzl, hze], h3, hE⟩)
        have KS : Hid (∀ A4 c4 w, Ext W w → BytesAt w A4 z → Calls Try.prog 48 #[.slice A4 zl c4, .slice A2 xa (cap - a)] w (Ret (.bool y) w)) := hide (fun A4 c4 w hw h4 => (p_equal A4 A2 zl xa c4 (cap - a) z q w h4 (hbs.ext hw) hzl hbl y hy).mono fun e w' h => by obtain ⟨rfl, rfl⟩ := h; exact ⟨rfl, Ext.refl _⟩)
        have KA1 : Hid (Calls Try.prog 47 #[.slice (some ⟨g, off, none⟩) c cap, .int .i64 (a : Int), .int .i64 (m : Int)] W fun e w' => ∃ A3 c3, e = .returned (.tuple #[.slice A3 m c3, .int .i64 (x : Int), .int .i64 0]) ∧ OwnQ W.heap.size w' (.slice A3 m c3) L ∧ Ext W w') := hide (KF.out.mono fun e w' h => by
          obtain ⟨A3, c3, rfl, _, _, ho, _, hE⟩ := h.parts
          simp only [hLn] at ho ⊢
          exact ⟨A3, c3, rfl, ho, hE⟩)
        clear KF hq hqq hA2 hze hzl hLn hnr hc1 hb hc hL hb1 h0 hr hac  hbs hbl hxa HB Hc hn1 hn2
        cases y with
        | true =>
          rw [if_pos (of_decide_eq_true hy)] at hR
          have HR := hide hR
          clear hR hy hz
          go_enter Try.func31, Try.ntmps31
          go_wp2_with (first
            | (go_at_call 47; (with_reducible refine (KA1.out).mono ?_); rintro e w1 ⟨A3, c3, rfl, ho1, hE1⟩; have O1 := hide ho1; have E1 := hide hE1; have ke := hide (KE.out A3 c3 w1 (own_words ho1)); clear ho1 hE1)
            | (go_at_call 25; (with_reducible refine (ke.out).mono ?_); rintro e w2 ⟨A4, c4, rfl, hb2, hE2⟩; have E2 := hide (Ext.trans E1.out hE2); have O2 := hide (O1.out.ext hE2); have ks := hide (KS.out A4 c4 w2 E2.out hb2); clear hb2 hE2)
            | (go_at_call 48; (with_reducible refine (ks.out).mono ?_); rintro e w3 ⟨rfl, hE3⟩; have E3 := hide (Ext.trans E2.out hE3); have O3 := hide (O2.out.ext hE3); clear hE3))
          go_ret3
          rw [← HR.out]
          exact ⟨_, rfl, O3.out, E3.out⟩
        | false =>
          rw [if_neg (of_decide_eq_false hy)] at hR
          have HR := hide hR
          clear hR hy hz
          go_enter Try.func31, Try.ntmps31
          go_wp2_with (first
            | (go_at_call 47; (with_reducible refine (KA1.out).mono ?_); rintro e w1 ⟨A3, c3, rfl, ho1, hE1⟩; have O1 := hide ho1; have E1 := hide hE1; have ke := hide (KE.out A3 c3 w1 (own_words ho1)); clear ho1 hE1)
            | (go_at_call 25; (with_reducible refine (ke.out).mono ?_); rintro e w2 ⟨A4, c4, rfl, hb2, hE2⟩; have E2 := hide (Ext.trans E1.out hE2); have O2 := hide (O1.out.ext hE2); have ks := hide (KS.out A4 c4 w2 E2.out hb2); clear hb2 hE2)
            | (go_at_call 48; (with_reducible refine (ks.out).mono ?_); rintro e w3 ⟨rfl, hE3⟩; have E3 := hide (Ext.trans E2.out hE3); clear hE3))
          go_ret3
          rw [← HR.out]
          exact ⟨_, rfl, OwnQ.nil_ _ _, E3.out⟩
      · rw [if_pos he] at hR
        have HR := hide hR
        have de : (e1 != 0) = true := by rw [bne_iff_ne]; exact he
        have KA1 : Hid (Calls Try.prog 47 #[.slice (some ⟨g, off, none⟩) c cap, .int .i64 (a : Int), .int .i64 (m : Int)] W fun e w' => ∃ v, e = .returned (.tuple #[v, .int .i64 nx, .int .i64 e1]) ∧ Ext W w') := hide (KF.out.mono fun e w' h => by
          obtain ⟨v, rfl, _, hE⟩ := h
          exact ⟨v, rfl, hE⟩)
        clear KF hnr hc1 hb hc hL hb1 h0 hr hac  HB Hc hR he
        go_enter Try.func31, Try.ntmps31
        go_wp2_with (go_at_call 47; (with_reducible refine (KA1.out).mono ?_); rintro e w1 ⟨v, rfl, hE1⟩; have E1 := hide hE1; clear hE1)
        go_ret3
        rw [← HR.out]
        exact ⟨_, rfl, OwnQ.nil_ _ _, E1.out⟩
end Go.Proofs.Ytjmigglibidbdaa
