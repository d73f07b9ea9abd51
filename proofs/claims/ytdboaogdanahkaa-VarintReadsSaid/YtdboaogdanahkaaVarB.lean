/- Numbers of variable length: groups by their number. No condition; nothing of the program. -/
import Derived.Test.YtdboaogdanahkaaVgr
namespace Go.Proofs.Ytdboaogdanahkaa
set_option linter.unusedVariables false
set_option linter.unusedSimpArgs false
/-- The group j of a number. -/
def gr (v j : Nat) : Nat := v / 128 ^ j % 128
/-- k groups of a number, 128 added to each. -/
def grs (v : Nat) : Nat → List Nat
  | 0 => []
  | k + 1 => grs v k ++ [gr v k + 128]
theorem gr_lt (v j : Nat) : gr v j < 128 := Nat.mod_lt _ (by omega)
theorem grs_len (v k : Nat) : (grs v k).length = k := by
  induction k with
  | zero => rfl
  | succ k ih => simp [grs, ih]
theorem gr_succ (v j : Nat) : gr v (j + 1) = gr (v / 128) j := by
  unfold gr; rw [Nat.pow_succ, Nat.div_div_eq_div_mul, Nat.mul_comm]
theorem grs_succ (v : Nat) : ∀ k, grs v (k + 1) = (v % 128 + 128) :: grs (v / 128) k
  | 0 => by simp [grs, gr]
  | k + 1 => by
    show grs v (k + 1) ++ [gr v (k + 1) + 128] = _
    rw [grs_succ v k, gr_succ]; rfl
/-- An encoding, group by group. -/
theorem encB_grs (v k : Nat) (h : (encB v).length = k + 1) : encB v = grs v k ++ [gr v k] := by
  induction k generalizing v with
  | zero =>
    by_cases h1 : v < 128
    · rw [encB_small h1]; simp [grs, gr]; omega
    · rw [encB_big (by omega)] at h
      have := List.length_pos_iff.2 (encB_ne (v / 128))
      rw [List.length_cons] at h; omega
  | succ k ih =>
    by_cases h1 : v < 128
    · rw [encB_small h1] at h; simp at h
    · rw [encB_big (by omega)] at h ⊢
      rw [ih (v / 128) (by simpa using h), grs_succ, gr_succ]; rfl
theorem encB_pos (v : Nat) : 1 ≤ (encB v).length := List.length_pos_iff.2 (encB_ne v)
/-- The bytes up to the first one below 128, of at most so many. -/
def scanG : Nat → List Nat → Option (List Nat)
  | 0, _ => none
  | _ + 1, [] => none
  | m + 1, b :: l => if b < 128 then some [b] else (scanG m l).map (b :: ·)
theorem scanG_some : ∀ (m : Nat) (l g : List Nat), scanG m l = some g → ∃ r x, g = r ++ [x] ∧ x < 128 ∧ (∀ y ∈ r, 128 ≤ y) ∧ g <+: l ∧ g.length ≤ m
  | m + 1, b :: l, g, h => by
    unfold scanG at h
    by_cases hb : b < 128
    · rw [if_pos hb] at h
      have h := Option.some.inj h
      subst h
      exact ⟨[], b, rfl, hb, by simp, ⟨l, rfl⟩, by simp⟩
    · rw [if_neg hb] at h
      cases hs : scanG m l with
      | none => rw [hs] at h; cases h
      | some g' =>
        rw [hs] at h
        have h := Option.some.inj h
        subst h
        obtain ⟨r, x, rfl, hx, hr, ⟨t, ht⟩, hl⟩ := scanG_some m l g' hs
        refine ⟨b :: r, x, rfl, hx, ?_, ⟨t, by rw [← ht]; rfl⟩, by simp at hl ⊢; omega⟩
        intro y hy
        rcases List.mem_cons.1 hy with rfl | hy
        · omega
        · exact hr y hy
/-- Found at the place j. -/
theorem scanG_at : ∀ (m : Nat) (l : List Nat) (j : Nat), j < m → j < l.length → l.getD j 0 < 128 → (∀ i, i < j → 128 ≤ l.getD i 0) → scanG m l = some (l.take (j + 1))
  | m + 1, b :: l, 0, _, _, h, _ => by
    have h : b < 128 := h
    unfold scanG; rw [if_pos h]; rfl
  | m + 1, b :: l, j + 1, h1, h2, h, hr => by
    have hb : 128 ≤ b := hr 0 (by omega)
    unfold scanG
    rw [if_neg (by omega), scanG_at m l j (by omega) (by simpa using h2) (by simpa using h) (fun i hi => by have := hr (i + 1) (by omega); simpa using this)]
    rfl
theorem scanG_none : ∀ (m : Nat) (l : List Nat), (∀ i, i < m → i < l.length → 128 ≤ l.getD i 0) → scanG m l = none
  | 0, _, _ => rfl
  | _ + 1, [], _ => rfl
  | m + 1, b :: l, hr => by
    have hb : 128 ≤ b := hr 0 (by omega) (by simp)
    unfold scanG
    rw [if_neg (by omega), scanG_none m l (fun i hi h2 => by have := hr (i + 1) (by omega) (by simpa using h2); simpa using this)]
    rfl
end Go.Proofs.Ytdboaogdanahkaa
