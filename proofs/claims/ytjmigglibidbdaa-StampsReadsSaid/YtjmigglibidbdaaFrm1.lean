/- The program's frames: pure part, Size, head, Encode, payloadBytes, readPayload, Decode. Conditions: the slices read as bytes. -/
import Derived.Test.YtjmigglibidbdaaCrc1
import Derived.Test.YtjmigglibidbdaaTapeB
import Derived.Test.YtjmigglibidbdaaLawH
import Derived.Test.YtjmigglibidbdaaBurst
import Derived.Test.YtjmigglibidbdaaDeclQ
import Derived.Deep.MidRow
namespace Go.Proofs.Ytjmigglibidbdaa
set_option linter.unusedVariables false
set_option linter.unusedSimpArgs false
open Go Go.RowKit
def fsz (n : Int) : Int := if n < 0 then 0 else if 4194304 < n then 0 else n + 13
def hd5K (k n j : Nat) : List Nat := k :: ((numL n 4).take j ++ List.replicate (4 - j) 0)
def hd5 (k n : Nat) : List Nat := k :: numL n 4
def hd9 (k n : Nat) : List Nat := hd5 k n ++ tailL (crcB 0#32 (hd5 k n))
def frE (k : Nat) (p : List Nat) : List Nat := hd9 k p.length ++ (p ++ tailL (crcB 0#32 p))
/-- The number of bytes that the head gives, and the error. -/
def frH (s : List Nat) : Nat × Nat :=
  if s.length < 9 then (0, 4) else if chk (s.take 9) = false then (0, 6) else if 4194304 < valLE ((s.drop 1).take 4) then (0, 3) else (valLE ((s.drop 1).take 4), 0)
/-- The payload that begins s, and the error. -/
def frB (s : List Nat) (n : Nat) : List Nat × Nat :=
  if s.length < n + 4 then ([], 4) else if chk (s.take (n + 4)) = false then ([], 6) else (s.take n, 0)
/-- Kind, payload, bytes, error. -/
def frD (s : List Nat) : Nat × List Nat × Nat × Nat :=
  if (frH s).2 ≠ 0 then (0, [], 0, (frH s).2) else if (frB (s.drop 9) (frH s).1).2 ≠ 0 then (0, [], 0, (frB (s.drop 9) (frH s).1).2) else (s.getD 0 0, (frB (s.drop 9) (frH s).1).1, (frH s).1 + 13, 0)
theorem hd5_len (k n : Nat) : (hd5 k n).length = 5 := by simp [hd5, numL_len]
theorem hd9_len (k n : Nat) : (hd9 k n).length = 9 := by simp [hd9, hd5_len, tailL]
theorem frE_len (k : Nat) (p : List Nat) : (frE k p).length = p.length + 13 := by simp [frE, hd9_len, tailL]; omega
theorem hd5_b {k : Nat} (h : k < 256) (n : Nat) : IsB (hd5 k n) := by
  have := (IsB.one h).app (numL_b n 4)
  exact this
theorem hd9_b {k : Nat} (h : k < 256) (n : Nat) : IsB (hd9 k n) := (hd5_b h n).app (tailL_b _)
theorem frE_b {k : Nat} (h : k < 256) {p : List Nat} (hp : IsB p) : IsB (frE k p) := (hd9_b h _).app (hp.app (tailL_b _))
theorem valLE_num (n : Nat) (h : n < 4294967296) : valLE (numL n 4) = n := by
  simp [numL, valLE]; omega
theorem hd9_num (k n : Nat) (t : List Nat) : ((hd9 k n ++ t).drop 1).take 4 = numL n 4 := by
  have h4 := numL_len n 4
  simp only [hd9, hd5, List.cons_append, List.append_assoc, List.drop_succ_cons, List.drop_zero]
  exact List.take_left' h4
theorem hd9_take (k n : Nat) (t : List Nat) : (hd9 k n ++ t).take 9 = hd9 k n := List.take_left' (hd9_len k n)
theorem hd9_drop (k n : Nat) (t : List Nat) : (hd9 k n ++ t).drop 9 = t := List.drop_left' (hd9_len k n)
theorem chk_hd9 (k n : Nat) : chk (hd9 k n) = true := chk_app _
theorem frH_hd9 (k n : Nat) (t : List Nat) (h : n < 4294967296) : frH (hd9 k n ++ t) = if 4194304 < n then (0, 3) else (n, 0) := by
  unfold frH
  rw [if_neg (by rw [List.length_append, hd9_len]; omega), hd9_take, chk_hd9, if_neg (by simp), hd9_num, valLE_num n h]
theorem frH_le (s : List Nat) : (frH s).1 ≤ 4194304 := by
  unfold frH
  split
  · exact Nat.zero_le _
  · split
    · exact Nat.zero_le _
    · split
      · exact Nat.zero_le _
      · rename_i h; exact Nat.le_of_not_lt h
theorem frH_ok {s : List Nat} (h : (frH s).2 = 0) : 9 ≤ s.length := by
  unfold frH at h
  split at h
  · simp at h
  · omega
theorem frB_ok {s : List Nat} {n : Nat} (h : (frB s n).2 = 0) : n + 4 ≤ s.length ∧ (frB s n).1 = s.take n := by
  unfold frB at h ⊢
  split at h
  · simp at h
  · rename_i h1
    rw [if_neg h1]
    split at h
    · simp at h
    · rename_i h2
      rw [if_neg h2]
      exact ⟨by omega, rfl⟩
theorem frB_app (p t : List Nat) : frB (p ++ tailL (crcB 0#32 p) ++ t) p.length = (p, 0) := by
  have hl : (p ++ tailL (crcB 0#32 p)).length = p.length + 4 := by simp [tailL]
  unfold frB
  rw [if_neg (by rw [List.length_append, hl]; omega), List.take_left' hl, chk_app, if_neg (by simp), List.append_assoc, List.take_left' rfl]
/-- What is encoded is read. -/
theorem frD_enc (k : Nat) (p t : List Nat) (h : p.length ≤ 4194304) : frD (frE k p ++ t) = (k, p, p.length + 13, 0) := by
  have e : frE k p ++ t = hd9 k p.length ++ (p ++ tailL (crcB 0#32 p) ++ t) := by simp [frE, List.append_assoc]
  have h0 : (frE k p ++ t).getD 0 0 = k := by simp [frE, hd9, hd5]
  have h1 : frH (frE k p ++ t) = (p.length, 0) := by rw [e, frH_hd9 _ _ _ (by omega), if_neg (by omega)]
  unfold frD
  rw [h0, h1, e, hd9_drop, frB_app]
  simp
/-- A proper beginning is truncated. -/
theorem frD_cut (k : Nat) (p : List Nat) (m : Nat) (h : p.length ≤ 4194304) (hm : m < p.length + 13) : frD ((frE k p).take m) = (0, [], 0, 4) := by
  by_cases h9 : m < 9
  · have h1 : frH ((frE k p).take m) = (0, 4) := by
      unfold frH
      rw [if_pos (by rw [List.length_take]; omega)]
    unfold frD
    rw [h1]; simp
  · have e : (frE k p).take m = hd9 k p.length ++ (p ++ tailL (crcB 0#32 p)).take (m - 9) := by
      unfold frE
      rw [List.take_append, List.take_of_length_le (by rw [hd9_len]; omega), hd9_len]
    have h1 : frH ((frE k p).take m) = (p.length, 0) := by rw [e, frH_hd9 _ _ _ (by omega), if_neg (by omega)]
    have h2 : frB ((p ++ tailL (crcB 0#32 p)).take (m - 9)) p.length = ([], 4) := by
      unfold frB
      rw [if_pos (by rw [List.length_take, List.length_append]; simp [tailL]; omega)]
    unfold frD
    rw [h1, e, hd9_drop, h2]
    simp
theorem or_32 (a b k : Nat) (hk : k = 0 ∨ k = 8 ∨ k = 16 ∨ k = 24) (ha : a < 2 ^ k) (hb : b < 256) : bits .or .u32 (a : Int) ((b * 2 ^ k : Nat) : Int) = ((a + b * 2 ^ k : Nat) : Int) := by
  have hlt : a + b * 2 ^ k < 4294967296 := by rcases hk with rfl | rfl | rfl | rfl <;> simp at ha ⊢ <;> omega
  show IntKind.u32.wrap ((BitVec.ofInt 32 (a : Int) ||| BitVec.ofInt 32 ((b * 2 ^ k : Nat) : Int)).toNat : Int) = _
  have e : (BitVec.ofInt 32 (a : Int) ||| BitVec.ofInt 32 ((b * 2 ^ k : Nat) : Int)).toNat = a + b * 2 ^ k := by
    rw [BitVec.toNat_or, BitVec.toNat_ofInt, BitVec.toNat_ofInt]
    have e1 : ((a : Int) % ((2 ^ 32 : Nat) : Int)).toNat = a := by omega
    have e2 : (((b * 2 ^ k : Nat) : Int) % ((2 ^ 32 : Nat) : Int)).toNat = b * 2 ^ k := by omega
    rw [e1, e2]
    have := Nat.shiftLeft_add_eq_or_of_lt ha b
    rw [Nat.shiftLeft_eq] at this
    rw [Nat.or_comm, ← this]; omega
  rw [e, wrap_u32 _ hlt]
theorem valLE_take_succ {l : List Nat} {k : Nat} (h : k < l.length) : valLE (l.take (k + 1)) = valLE (l.take k) + l.getD k 0 * 256 ^ k := by
  induction l generalizing k with
  | nil => simp at h
  | cons x l ih =>
    cases k with
    | zero => simp [valLE]
    | succ k =>
      have := ih (k := k) (by simpa using h)
      simp only [List.take_succ_cons, valLE, this]
      simp only [List.getD_cons_succ, Nat.pow_succ, Nat.mul_add]
      have e : 256 * (l.getD k 0 * 256 ^ k) = l.getD k 0 * (256 ^ k * 256) := by rw [← Nat.mul_assoc, Nat.mul_comm 256, Nat.mul_assoc, Nat.mul_comm 256]
      rw [e]; omega
theorem run_mk8 (n m : Nat) (hnm : n ≤ m) (hm : m ≤ 281474976710656) (w : World) : (Instr.makeSlice 29 (.int .i64 (n : Int)) (.int .i64 (m : Int))).run Try.prog w = .ok (.slice (some ⟨w.heap.size, 0, none⟩) n m) (w.alloc (.cells (u8s (List.replicate m 0)).toArray 5)) := by
  obtain ⟨i0, hi0, hz0, hz1, hz2⟩ := info_parts info_u8
  have := run_make (P := Try.prog) w 29 5 i0 (.int .u8 0) Try.underlying29 hi0 hz0 .i64 .i64 (n : Int) (m : Int) (by omega) (by omega) (by rw [hz2]; omega) (by omega)
  rw [this, hz1, Int.toNat_natCast, Int.toNat_natCast]
  have e : madeCells (Value.int .u8 0).cells (m * 1) = (u8s (List.replicate m 0)).toArray := by
    rw [← made8 m]
  rw [e]
theorem sz8 : (Try.prog.info? 5).map (·.size) = some 1 := by kernel_rfl
/-- A slice of bytes and an error: what was returned is owned. -/
def OwnE (l : List Nat) (n : Nat) (w : World) (e : Ending) (w' : World) : Prop := ∃ v, e = .returned (.tuple #[v, .int .i64 (n : Int)]) ∧ OwnB w.heap.size w' v l ∧ Ext w w'
/-- What Encode returns, and the error. -/
def frN (k : Nat) (p : List Nat) : List Nat × Nat := if 4194304 < p.length then ([], 3) else (frE k p, 0)
theorem splice2 {α : Type} (Z X Y : List α) (k : Nat) (hk : X.length = k) (hZ : Z.length = k + Y.length) : splice (splice Z 0 X) k Y = X ++ Y := by
  subst hk
  have e1 : splice Z 0 X = X ++ Z.drop X.length := by simp [splice]
  rw [e1]
  unfold splice
  rw [List.take_left' rfl, List.drop_of_length_le (by rw [List.length_append, List.length_drop]; omega), List.append_nil]
/-- What is owned, its length known. -/
def OwnL (l : List Nat) (n : Nat) (w : World) (e : Ending) (w' : World) : Prop := ∃ A cap, e = .returned (.slice A n cap) ∧ l.length = n ∧ n ≤ cap ∧ cap ≤ 9223372036854775807 ∧ OwnB w.heap.size w' (.slice A n cap) l ∧ BytesAt w' A l ∧ Ext w w'
theorem OwnRet.len {l : List Nat} {n : Nat} {w : World} {e : Ending} {w' : World} (hn : l.length = n) (h : OwnRet l w e w') : OwnL l n w e w' := by
  subst hn
  obtain ⟨v, rfl, hO, hE⟩ := h
  obtain ⟨A, cap, rfl, h1, h2, hb⟩ := hO.at_
  exact ⟨A, cap, rfl, rfl, h1, h2, hO, hb, hE⟩
attribute [local go_sem] qUpon putAll slotV
/-- The results where the first lies in a row of cells. -/
theorem res_frm3 {fn : Func} {p u v : Tmp} {ty : TypeId} (h : fn.results = #[.cell p ty, .tmp u, .tmp v]) (tmps : Array Value) (w : World) (g : Nat) (t : TypeId) (cs : Array Value) (d : TypeDesc)
    (hp : tmps.getD p undef = .pointer (some ⟨g, 0, none⟩)) (hg : Blk w g t cs)
    (hu : Try.prog.underlying ty = some d) (hd : (match (generalizing := false) d with | .struct _ | .array _ _ => true | _ => false) = true) (hi : (Try.prog.info? ty).map (·.size) = some cs.size) :
    (results fn tmps).run Try.prog w = .ok (.tuple #[.agg cs, tmps.getD u undef, tmps.getD v undef]) w := by
  have hp' : tmps[p]?.getD undef = .pointer (some ⟨g, 0, none⟩) := by simpa using hp
  simp [results, h, hp', asAddr, run_loadVar_row w g t ty cs (0, 0) d hg hu (by cases d <;> first | rfl | exact hd) hi, Sem.run_bind, Result.andThen]
theorem below_rowF {W w : World} {g : Nat} (h : Below W.heap.size W w) (hg : W.heap.size ≤ g) (cs : Array Value) : Below W.heap.size W (w.setRow g cs) := below_setRow h hg cs
theorem frm_one (k : Int) (A : Option Addr) (n c : Nat) : (#[.int .u8 k, .slice A n c] : Array Value).all (·.oneCell') = true := by simp [Value.oneCell']
theorem idx8 (b off N cap j : Nat) (h : j < N) (w : World) : (Instr.indexAt 29 (.slice (some ⟨b, off, none⟩) N cap) (.int .i64 (j : Int))).run Try.prog w = .ok (.pointer (some ⟨b, off + j, none⟩)) w := by
  have hz := Try.sizeOf5
  have he : Try.prog.elem 29 = 5 := by kernel_rfl
  have hr := run_indexAt_slice (P := Try.prog) (w := w) 29 ⟨b, off, none⟩ N cap .i64 (j : Int) (by kernel_rfl)
  rw [hr, if_pos ⟨by omega, by omega⟩, he, hz]
  simp [Result.andThen, add_at]
/-- A frame, the index behind it and an error: the payload is owned. -/
def FrmRet (k : Nat) (p : List Nat) (nx : Int) (e : Nat) (W : World) (en : Ending) (w' : World) : Prop := ∃ v, en = .returned (.tuple #[.agg #[.int .u8 (k : Int), v], .int .i64 nx, .int .i64 (e : Int)]) ∧ OwnB W.heap.size w' v p ∧ Ext W w'
end Go.Proofs.Ytjmigglibidbdaa
