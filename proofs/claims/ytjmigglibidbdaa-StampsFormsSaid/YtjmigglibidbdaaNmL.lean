/- Layer 9's laws: what is encoded is read back; the list of numbers, what is compared, the sanity check. Conditions: the slices read as bytes and numbers. -/
import Derived.Test.YtjmigglibidbdaaNmb1
import Derived.Test.YtjmigglibidbdaaVarR
import Derived.Test.YtjmigglibidbdaaBpk2
namespace Go.Proofs.Ytjmigglibidbdaa
set_option linter.unusedVariables false
set_option linter.unusedSimpArgs false
open Go Go.RowKit
theorem rdA_enc : ∀ (l pre acc post : List Nat), IsQ l → rdA (pre ++ encV l ++ post) acc l.length (pre.length : Int) = (acc ++ l, ((pre.length + (encV l).length : Nat) : Int), 0)
  | [], pre, acc, post, _ => by simp [rdA, encV]
  | x :: l, pre, acc, post, hq => by
    have hx : x < 18446744073709551616 := hq x (List.mem_cons_self ..)
    have e : pre ++ encV (x :: l) ++ post = pre ++ encB x ++ (encV l ++ post) := by rw [encV_cons]; simp
    have h := rdV_enc pre (encV l ++ post) x hx
    have ih := rdA_enc l (pre ++ encB x) (acc ++ [x]) post (fun y hy => hq y (List.mem_cons_of_mem _ hy))
    rw [List.length_append, List.append_assoc (pre ++ encB x)] at ih
    rw [e, List.length_cons, rdA, h, if_pos rfl]
    simp only [Int.toNat_natCast]
    rw [show (pre.length : Int) + ((encB x).length : Int) = ((pre.length + (encB x).length : Nat) : Int) by omega, ih, encV_cons, List.length_append, Nat.add_assoc]
    simp
theorem getD_mid (pre post : List Nat) (x : Nat) (a : Nat) (ha : pre.length = a) : (pre ++ x :: post).getD a 0 = x := by
  subst ha
  simp [List.getD_eq_getElem?_getD]
theorem rdN_enc (l pre post : List Nat) (hq : IsQ l) (hn : l.length ≤ 65536) : rdN (pre ++ (enN l).1 ++ post) pre.length l.length = (l, ((pre.length + (enN l).1.length : Nat) : Int), 0) := by
  unfold enN
  rw [if_neg (by omega)]
  split
  · have hp := pkR_wdt hq hn
    obtain ⟨q, hqq⟩ : ∃ q, upN (pkN l (wdt l)) (pkS l) 8 = q := ⟨_, rfl⟩
    have hql : q.length = pkS l := by rw [← hqq, upN_len]
    rw [hqq] at hp
    rw [hqq]
    have hu := upR_pk hq hp
    have hw := wdt_le hq
    have e0 : (pre ++ (1 :: wdt l :: q) ++ post) = pre ++ 1 :: (wdt l :: q ++ post) := by simp
    have e1 : (pre ++ (1 :: wdt l :: q) ++ post) = (pre ++ [1]) ++ wdt l :: (q ++ post) := by simp
    have e2 : (pre ++ (1 :: wdt l :: q) ++ post) = (pre ++ [1, wdt l]) ++ (q ++ post) := by simp
    unfold rdN
    have g0 : (pre ++ (1 :: wdt l :: q) ++ post).getD pre.length 0 = 1 := by rw [e0]; exact getD_mid _ _ _ _ rfl
    have g1 : (pre ++ (1 :: wdt l :: q) ++ post).getD (pre.length + 1) 0 = wdt l := by rw [e1]; exact getD_mid _ _ _ _ (by simp)
    have d2 : (pre ++ (1 :: wdt l :: q) ++ post).drop (pre.length + 1 + 1) = q ++ post := by rw [e2]; exact List.drop_left' (by simp)
    have hlen : (pre ++ (1 :: wdt l :: q) ++ post).length = pre.length + 2 + q.length + post.length := by simp; omega
    rw [g0, if_neg (by omega), if_pos rfl]
    unfold rdK
    have hS : (l.length * wdt l + 7) / 8 = q.length := by rw [hql]; rfl
    rw [g1, d2, hlen, if_neg (by omega), if_neg (by omega), hS, if_neg (by omega), List.take_left' rfl, hu]
    simp only [List.length_cons]
    congr 2
    omega
  · unfold rdN
    have e0 : (pre ++ (0 :: encV l) ++ post) = pre ++ 0 :: (encV l ++ post) := by simp
    have e1 : (pre ++ (0 :: encV l) ++ post) = (pre ++ [0]) ++ encV l ++ post := by simp
    have g0 : (pre ++ (0 :: encV l) ++ post).getD pre.length 0 = 0 := by rw [e0]; exact getD_mid _ _ _ _ rfl
    rw [g0, if_pos rfl, e1]
    have := rdA_enc l (pre ++ [0]) [] post hq
    rw [List.length_append, List.length_singleton] at this
    rw [show (pre.length : Int) + 1 = ((pre.length + 1 : Nat) : Int) by omega, this]
    simp only [List.length_cons, List.nil_append]
    congr 2
    omega
/-- What is encoded is read back. -/
theorem deN_enc (l pre post : List Nat) (hq : IsQ l) (hn : l.length ≤ 65536) : deN (pre ++ (enN l).1 ++ post) pre.length l.length = (l, (pre.length : Int) + ((enN l).1.length : Int), 0) := by
  have h1 := (enN_len hq hn).1
  rw [deN_in (by rw [List.length_append, List.length_append]; omega) hn (rdN_enc l pre post hq hn), if_neg (by omega), if_pos ?_, Int.natCast_add]
  rw [Int.toNat_natCast, Nat.add_sub_cancel_left, List.append_assoc, List.drop_left, List.take_left' rfl]
theorem known_enc : enN [1, 1, 1, 1, 1, 1, 1, 1, 1] = ([1, 1, 255, 1], 0) := by
  have e : encV [1, 1, 1, 1, 1, 1, 1, 1, 1] = [1, 1, 1, 1, 1, 1, 1, 1, 1] := by simp [encV, encB_small]
  unfold enN
  rw [e]
  decide +kernel
theorem known_e300 : enN [300] = ([0, 172, 2], 0) := by
  have e : encV [300] = [172, 2] := by simp [encV, encB_small, encB_big]
  unfold enN
  rw [e]
  decide +kernel
theorem known_de : deN [0, 172, 2] 0 1 = ([300], 3, 0) := by
  have := deN_enc [300] [] [] (by intro x hx; simp at hx; omega) (by simp)
  rw [known_e300] at this
  simpa using this
/-- The numbers that the tape gives: owned. -/
def ListPost9 (B b : Nat) (W : World) (e : Ending) (w' : World) : Prop := ∃ A n cap l, e = .returned (.slice A n cap) ∧ l.length = n ∧ n ≤ 24 ∧ n ≤ cap ∧ OwnQ W.heap.size w' (.slice A n cap) l ∧ TapeOk B w' b ∧ Upd b W w'
end Go.Proofs.Ytjmigglibidbdaa
