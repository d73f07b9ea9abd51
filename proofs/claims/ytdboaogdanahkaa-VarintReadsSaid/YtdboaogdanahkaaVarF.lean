/- The program's Read and ReadSigned. Conditions: the slice reads as bytes. -/
import Derived.Test.YtdboaogdanahkaaVarE
namespace Go.Proofs.Ytdboaogdanahkaa
set_option linter.unusedVariables false
set_option linter.unusedSimpArgs false
open Go Go.RowKit
/-- The groups of an encoding of a number of at most so many bits, at a place. -/
def rdG (l : List Nat) (at_ : Int) (width most : Nat) : Option (List Nat) :=
  if at_ < 0 ∨ (l.length : Int) < at_ then none
  else match scanG most (l.drop at_.toNat) with
    | none => none
    | some g => if okG width g then some g else none
theorem bhd_some {l : List Nat} {at_ : Int} {width most : Nat} {g : List Nat} (h : rdG l at_ width most = some g) : ∃ a : Nat, at_ = (a : Int) ∧ a ≤ l.length ∧ bhd l at_ width most = ((a : Int) + (g.length : Int), 0) ∧ scanG most (l.drop a) = some g ∧ okG width g = true := by
  unfold rdG at h
  by_cases h1 : at_ < 0 ∨ (l.length : Int) < at_
  · rw [if_pos h1] at h; cases h
  · rw [if_neg h1] at h
    obtain ⟨a, rfl⟩ := Int.eq_ofNat_of_zero_le (show 0 ≤ at_ by omega)
    rw [Int.toNat_natCast] at h
    cases hs : scanG most (l.drop a) with
    | none => rw [hs] at h; cases h
    | some g' =>
      rw [hs] at h
      by_cases hk : okG width g' = true
      · have h : (if okG width g' = true then some g' else none) = some g := h
        rw [if_pos hk] at h
        have h := Option.some.inj h
        subst h
        refine ⟨a, rfl, by omega, ?_, hs, hk⟩
        unfold bhd
        rw [if_neg h1, Int.toNat_natCast, hs]
        simp [hk]
      · have h : (if okG width g' = true then some g' else none) = some g := h
        rw [if_neg hk] at h; cases h
theorem bhd_none {l : List Nat} {at_ : Int} {width most : Nat} (h : rdG l at_ width most = none) : ∃ e : Int, bhd l at_ width most = (0, e) ∧ (e = 2 ∨ e = 4 ∨ e = 5) := by
  unfold rdG at h
  unfold bhd
  by_cases h1 : at_ < 0 ∨ (l.length : Int) < at_
  · rw [if_pos h1]; exact ⟨2, rfl, by omega⟩
  · rw [if_neg h1] at h ⊢
    cases hs : scanG most (l.drop at_.toNat) with
    | none =>
      refine ⟨_, rfl, ?_⟩
      split <;> omega
    | some g' =>
      rw [hs] at h
      have h : (if okG width g' = true then some g' else none) = none := h
      by_cases hk : okG width g' = true
      · rw [if_pos hk] at h; cases h
      · refine ⟨5, ?_, by omega⟩
        show (if okG width g' = true then _ else _) = _
        rw [if_neg hk]
def rdE (l : List Nat) (at_ : Int) (width most : Nat) : Int := (bhd l at_ width most).2
theorem decB_snoc (b : Nat) : ∀ (r : List Nat) (x : Nat), x < 2 ^ b → x < 128 → decB (r ++ [x]) < 2 ^ (7 * r.length + b)
  | [], x, h, h2 => by
    have : x % 128 = x := Nat.mod_eq_of_lt h2
    simp [decB, this]; exact h
  | y :: r, x, h, h2 => by
    have ih := decB_snoc b r x h h2
    show y % 128 + 128 * decB (r ++ [x]) < 2 ^ (7 * (r.length + 1) + b)
    have e : 2 ^ (7 * (r.length + 1) + b) = 128 * 2 ^ (7 * r.length + b) := by
      rw [show 7 * (r.length + 1) + b = 7 + (7 * r.length + b) by omega, Nat.pow_add]
    rw [e]; omega
theorem decB_ok {width most : Nat} {l g : List Nat} (h : scanG most l = some g) (hk : okG width g = true) : decB g < 2 ^ width := by
  obtain ⟨r, x, rfl, hx, _, _, _⟩ := scanG_some most l g h
  have e := okG_form (g := r ++ [x]) (width := width) (j := r.length) (x := x) (by simp) (by simp)
  rw [e] at hk
  simp only [Bool.and_eq_true, decide_eq_true_eq] at hk
  exact Nat.lt_of_lt_of_le (decB_snoc _ r x (bl8 x hx).2 hx) (Nat.pow_le_pow_right (by omega) hk.2)
theorem decB_drop {g : List Nat} {k : Nat} (h : k < g.length) : decB (g.drop k) = g.getD k 0 % 128 + 128 * decB (g.drop (k + 1)) := by
  rw [List.drop_eq_getElem_cons h, getD_lt h]; rfl
theorem decB_drop_le (g : List Nat) : ∀ k, decB (g.drop k) ≤ decB g
  | 0 => by simp
  | k + 1 => by
    have ih := decB_drop_le g k
    rcases Nat.lt_or_ge k g.length with h | h
    · rw [decB_drop h] at ih; omega
    · rw [List.drop_of_length_le (by omega)]; simp [decB]
theorem or_low (v r : Nat) (hr : r < 128) (h : v * 128 + r < 18446744073709551616) : bits .or .u64 ((v : Int) * 128) (r : Int) = ((v * 128 + r : Nat) : Int) := by
  show IntKind.u64.wrap ((BitVec.ofInt 64 ((v : Int) * 128) ||| BitVec.ofInt 64 (r : Int)).toNat : Int) = _
  rw [BitVec.toNat_or]
  have e1 : (BitVec.ofInt 64 ((v : Int) * 128)).toNat = 2 ^ 7 * v := by rw [BitVec.toNat_ofInt]; omega
  have e2 : (BitVec.ofInt 64 (r : Int)).toNat = r := by rw [BitVec.toNat_ofInt]; omega
  rw [e1, e2, ← Nat.two_pow_add_eq_or_of_lt (show r < 2 ^ 7 by omega), wrap_u64']
  omega
/-- What Read returns. -/
def rdV (l : List Nat) (at_ : Int) : Int × Int × Int := match rdG l at_ 64 10 with
  | some g => (decB g, at_ + g.length, 0)
  | none => (0, 0, rdE l at_ 64 10)
set_option maxRecDepth 100000 in
set_option maxHeartbeats 1600000 in
theorem p_read (A : Option Addr) (c cap : Nat) (l : List Nat) (at_ : Int) (W : World) (hb : BytesAt W A l) (hc : l.length = c) (hcap : c ≤ cap) (hcap2 : c ≤ 4611686018427387904) (hat : I64 at_) (r1 r2 r3 : Int) (hr : rdV l at_ = (r1, r2, r3)) :
    Calls Try.prog 20 #[.slice A c cap, .int .i64 at_] W (RetSame (.tuple #[.int .u64 r1, .int .i64 r2, .int .i64 r3]) W) := by
  have KB : Hid (∀ w e1 e2, Ext W w → bhd l at_ 64 10 = (e1, e2) → Calls Try.prog 47 #[.slice A c cap, .int .i64 at_, .int .i64 64] w (RetSame (.tuple #[.int .i64 e1, .int .i64 e2]) w)) := fun w e1 e2 he hbd => p_behind A c cap l at_ 64 10 w (hb.ext he) hc hcap hcap2 hat (by omega) (by omega) (by omega) e1 e2 hbd
  unfold rdV at hr
  cases hg : rdG l at_ 64 10 with
  | none =>
    obtain ⟨e, hbd, he⟩ := bhd_none hg
    have hk := hide (KB.out W _ _ (Ext.refl _) hbd)
    rw [hg] at hr
    have hre : rdE l at_ 64 10 = e := by unfold rdE; rw [hbd]
    obtain ⟨rfl, h2⟩ := Prod.mk.inj (show ((0 : Int), (0 : Int), rdE l at_ 64 10) = (r1, r2, r3) from hr)
    obtain ⟨rfl, h3⟩ := Prod.mk.inj h2
    rw [hre] at h3
    subst h3
    have q1 : (e != 0) = true := by rw [bne_iff_ne]; omega
    clear hr hg KB hbd hre h2 hb hc
    go_enter Try.func20, Try.ntmps20
    go_wp2_with (go_at_call 47; (with_reducible refine (hk.out).mono ?_); rintro e w1 ⟨rfl, rfl⟩)
    go_ret3
    exact ⟨rfl, rfl⟩
  | some g =>
    obtain ⟨a, rfl, hal, hbd, hsc, hok⟩ := bhd_some hg
    have hk := hide (KB.out W _ _ (Ext.refl _) hbd)
    rw [hg] at hr
    obtain ⟨rfl, h2⟩ := Prod.mk.inj (show ((decB g : Int), (a : Int) + g.length, (0 : Int)) = (r1, r2, r3) from hr)
    obtain ⟨rfl, rfl⟩ := Prod.mk.inj h2
    obtain ⟨n, hn⟩ : ∃ n, g.length = n := ⟨_, rfl⟩
    obtain ⟨r, x, hgr, hx, _, ⟨t, ht⟩, hmost⟩ := scanG_some 10 _ g hsc
    have hlt := decB_ok hsc hok
    have hlt : decB g < 18446744073709551616 := hlt
    have hnc : a + n ≤ c := by
      have := congrArg List.length ht
      rw [List.length_append, List.length_drop] at this
      omega
    have hn1 : 1 ≤ n := by rw [← hn, hgr]; simp
    have hget : Hid (∀ j, j < n → l.getD (a + j) 0 = g.getD j 0) := fun j hj => by
      have h1 : l.getD (a + j) 0 = (l.drop a).getD j 0 := by simp [List.getD_eq_getElem?_getD, List.getElem?_drop]
      rw [h1, ← ht]
      simp [List.getD_eq_getElem?_getD, List.getElem?_append_left (show j < g.length by omega)]
    rw [hn] at hk hmost ⊢
    have Hb := hide hb
    have Hc := hide hc
    have Hn := hide hn
    clear hr hg KB hbd h2 hb hc hsc hok hgr ht hn hal
    go_enter Try.func20, Try.ntmps20
    go_wp2_with (go_at_call 47; (with_reducible refine (hk.out).mono ?_); rintro e w1 ⟨rfl, rfl⟩)
    go_loop [9, 10] (fun v i => ∃ j : Nat, j ≤ n ∧ i = .int .i64 ((a : Int) + (j : Int) - 1) ∧ v = .int .u64 (decB (g.drop j) : Int)) (fun _ i => (intOf i + 1 - a).toNat)
    case atStart => exact ⟨n, Nat.le_refl _, rfl, by rw [List.drop_of_length_le (by rw [Hn.out]; exact Nat.le_refl _)]; rfl⟩
    case round =>
      obtain ⟨j, hj, rfl, rfl⟩ := hrel
      have hle := decB_drop_le g j
      obtain ⟨v, hv⟩ : ∃ v, decB (g.drop j) = v := ⟨_, rfl⟩
      rw [hv] at hle ⊢
      cases j with
      | zero =>
        have Hv : Hid (v = decB g) := by show _ = _; rw [← hv]; simp
        have n1 : ¬ (a : Int) ≤ (a : Int) + ((0 : Nat) : Int) - 1 := by omega
        clear hv
        go_wp2_with fail
        go_ret3
        exact ⟨by rw [← Hv.out]; rfl, rfl⟩
      | succ j =>
        have e1 : ((a : Int) + ((j + 1 : Nat) : Int) - 1) = (a : Int) + (j : Int) := by omega
        rw [e1]
        clear e1
        have hjg : j < g.length := by rw [Hn.out]; omega
        have hst := decB_drop hjg
        rw [hv] at hst
        have hle2 := decB_drop_le g j
        obtain ⟨b, off, rfl, _, hcl⟩ := Hb.out.2.2 (by rw [Hc.out]; omega)
        have d2 := hcl (a + j) (by rw [Hc.out]; omega)
        rw [hget.out j (by omega)] at d2
        have hyb : g.getD j 0 < 256 := by rw [← hget.out j (by omega)]; exact Hb.out.1.get _
        obtain ⟨y, hy⟩ : ∃ y, g.getD j 0 = y := ⟨_, rfl⟩
        rw [hy] at d2 hst hyb
        have ho := or_low v (y % 128) (Nat.mod_lt _ (by omega)) (by omega)
        have ey : ((y % 128 : Nat) : Int) = (y : Int) % (128 : Int) := by omega
        rw [ey] at ho
        have hv57 : v ≤ 144115188075855871 := by omega
        have Hst : Hid (decB (g.drop j) = v * 128 + y % 128) := by show _ = _; omega
        have ge : (a : Int) ≤ (a : Int) + (j : Int) := by omega
        clear hcl hy hv hst hle2 hjg ey hle
        go_wp2_with fail
        go_round
        case rel => exact ⟨j, by omega, rfl, by rw [Hst.out]; exact congrArg (Value.int .u64) (by omega)⟩
        case measure => simp [intOf]; omega
end Go.Proofs.Ytdboaogdanahkaa
