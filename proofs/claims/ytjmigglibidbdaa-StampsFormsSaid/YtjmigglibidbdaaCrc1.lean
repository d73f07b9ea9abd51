/- CRC-32C: pure; the program's and the reference's functions of layer 6. Conditions: the slices read as bytes. -/
import Derived.KernelRfl
import Derived.Test.YtjmigglibidbdaaProg
import Derived.WalkSmall
import Derived.Deep.QuietTactic
import Derived.BigQuiet
import Derived.Deep.DeepCutAuto
import Derived.Test.YtjmigglibidbdaaByA
import Derived.Shelf.Bytes.SlEqualAll
import Derived.Test.YtjmigglibidbdaaBase
import Derived.Test.YtjmigglibidbdaaByB
import Derived.Lib.AppendZerosOnto
namespace Go.Proofs.Ytjmigglibidbdaa
set_option linter.unusedVariables false
set_option linter.unusedSimpArgs false
open Go Go.RowKit Go.Sort
def polyB : BitVec 32 := 2197175160#32
def stB (x : BitVec 32) : BitVec 32 := if x.getLsbD 0 = true then (x >>> 1) ^^^ polyB else x >>> 1
def itB : Nat → BitVec 32 → BitVec 32
  | 0, x => x
  | n + 1, x => itB n (stB x)
def elB (x : BitVec 32) : BitVec 32 := itB 8 x
def updB (c : BitVec 32) (b : Nat) : BitVec 32 := elB ((c ^^^ BitVec.ofNat 32 b) &&& 255#32) ^^^ (c >>> 8)
def runB (c : BitVec 32) (l : List Nat) : BitVec 32 := l.foldl updB c
def crcB (c : BitVec 32) (l : List Nat) : BitVec 32 := ~~~(runB (~~~c) l)
theorem itB_succ (n : Nat) (x : BitVec 32) : itB (n + 1) x = stB (itB n x) := by
  induction n generalizing x with
  | zero => rfl
  | succ n ih => show itB (n + 1) (stB x) = _; rw [ih]; rfl
theorem itB_add (n m : Nat) (x : BitVec 32) : itB (n + m) x = itB m (itB n x) := by
  induction n generalizing x with
  | zero => simp [itB]
  | succ n ih => rw [Nat.succ_add]; exact ih _
theorem stB_zero : stB 0#32 = 0#32 := by decide
theorem stB_xor (x y : BitVec 32) : stB (x ^^^ y) = stB x ^^^ stB y := by
  unfold stB
  rw [BitVec.getLsbD_xor, BitVec.ushiftRight_xor_distrib]
  cases hx : x.getLsbD 0 <;> cases hy : y.getLsbD 0
  · simp
  · simp [BitVec.xor_assoc]
  · simp; rw [BitVec.xor_assoc, BitVec.xor_comm (y >>> 1), BitVec.xor_assoc]
  · simp
    apply BitVec.eq_of_getLsbD_eq
    intro i hi
    simp only [BitVec.getLsbD_xor]
    cases (x >>> 1).getLsbD i <;> cases (y >>> 1).getLsbD i <;> cases polyB.getLsbD i <;> rfl
theorem itB_xor (n : Nat) (x y : BitVec 32) : itB n (x ^^^ y) = itB n x ^^^ itB n y := by
  induction n generalizing x y with
  | zero => rfl
  | succ n ih => show itB n (stB (x ^^^ y)) = _; rw [stB_xor, ih]; rfl
theorem itB_zero (n : Nat) : itB n 0#32 = 0#32 := by
  induction n with
  | zero => rfl
  | succ n ih => show itB n (stB 0#32) = _; rw [stB_zero, ih]
theorem runB_append (c : BitVec 32) (l m : List Nat) : runB c (l ++ m) = runB (runB c l) m := by
  unfold runB; rw [List.foldl_append]
theorem crcB_append (c : BitVec 32) (l m : List Nat) : crcB (crcB c l) m = crcB c (l ++ m) := by
  unfold crcB; rw [BitVec.not_not, runB_append]
/-- A step takes a bit away: low zero bits only shift. -/
theorem stB_low (x : BitVec 32) (h : x.getLsbD 0 = false) : stB x = x >>> 1 := by unfold stB; rw [h]; simp
theorem itB_low (n : Nat) (x : BitVec 32) (h : ∀ i, i < n → x.getLsbD i = false) : itB n x = x >>> n := by
  induction n generalizing x with
  | zero => simp [itB]
  | succ n ih =>
    show itB n (stB x) = _
    rw [stB_low x (h 0 (by omega)), ih, ← BitVec.shiftRight_add, Nat.add_comm]
    intro i hi
    rw [BitVec.getLsbD_ushiftRight]
    exact h (1 + i) (by omega)
/-- A byte at once is eight bits. -/
theorem updB_eq (c : BitVec 32) (b : Nat) (hb : b < 256) : updB c b = itB 8 (c ^^^ BitVec.ofNat 32 b) := by
  have hlow : ∀ (x : BitVec 32), itB 8 x = elB (x &&& 255#32) ^^^ (x >>> 8) := by
    intro x
    have e : x = (x &&& 255#32) ^^^ (x &&& ~~~255#32) := by
      apply BitVec.eq_of_getLsbD_eq
      intro i hi
      simp only [BitVec.getLsbD_xor, BitVec.getLsbD_and, BitVec.getLsbD_not]
      cases x.getLsbD i <;> cases (255#32).getLsbD i <;> simp [hi]
    have e2 : itB 8 (x &&& ~~~255#32) = x >>> 8 := by
      rw [itB_low]
      · apply BitVec.eq_of_getLsbD_eq
        intro i hi
        simp only [BitVec.getLsbD_ushiftRight, BitVec.getLsbD_and, BitVec.getLsbD_not]
        have : (255#32).getLsbD (8 + i) = false := by
          rw [BitVec.getLsbD_ofNat]
          have : Nat.testBit 255 (8 + i) = false := Nat.testBit_lt_two_pow (by
            have : 2 ^ 8 ≤ 2 ^ (8 + i) := Nat.pow_le_pow_right (by omega) (by omega)
            omega)
          simp [this]
        rw [this]
        by_cases h : 8 + i < 32
        · simp [h]
        · have : x.getLsbD (8 + i) = false := BitVec.getLsbD_of_ge x _ (by omega)
          simp [this]
      · intro i hi
        simp only [BitVec.getLsbD_and, BitVec.getLsbD_not]
        have : (255#32).getLsbD i = true := by
          have : i = 0 ∨ i = 1 ∨ i = 2 ∨ i = 3 ∨ i = 4 ∨ i = 5 ∨ i = 6 ∨ i = 7 := by omega
          rcases this with rfl | rfl | rfl | rfl | rfl | rfl | rfl | rfl <;> decide
        rw [this]; simp
    have e3 : itB 8 x = itB 8 ((x &&& 255#32) ^^^ (x &&& ~~~255#32)) := congrArg (itB 8) e
    rw [e3, itB_xor, e2]; rfl
  rw [hlow]
  unfold updB
  congr 1
  rw [BitVec.ushiftRight_xor_distrib]
  have : BitVec.ofNat 32 b >>> 8 = 0#32 := by
    apply BitVec.eq_of_toNat_eq
    rw [BitVec.toNat_ushiftRight, BitVec.toNat_ofNat, Nat.shiftRight_eq_div_pow]
    simp; omega
  rw [this, BitVec.xor_zero]
/-- The low byte. -/
theorem low_byte (c : BitVec 32) (b : Nat) (hb : b < 256) : ((c ^^^ BitVec.ofNat 32 b) &&& 255#32).toNat = (c.toNat % 256) ^^^ b := by
  rw [BitVec.toNat_and, BitVec.toNat_xor, BitVec.toNat_ofNat]
  have h255 : (255#32).toNat = 2 ^ 8 - 1 := rfl
  rw [h255, Nat.and_two_pow_sub_one_eq_mod, Nat.mod_eq_of_lt (by omega : b < 2 ^ 32), Nat.xor_mod_two_pow, Nat.mod_eq_of_lt (by omega : b < 2 ^ 8)]
/-- Steps lose nothing. -/
theorem stB_inj0 (x : BitVec 32) (h : stB x = 0#32) : x = 0#32 := by
  unfold stB at h
  by_cases h0 : x.getLsbD 0 = true
  · rw [if_pos h0] at h
    have := congrArg (fun y => y.getLsbD 31) h
    simp only [BitVec.getLsbD_xor, BitVec.getLsbD_ushiftRight] at this
    rw [BitVec.getLsbD_of_ge x (1 + 31) (by omega)] at this
    have d : ¬ ((false ^^ polyB.getLsbD 31) = (0#32).getLsbD 31) := by decide
    exact absurd this d
  · rw [if_neg h0] at h
    apply BitVec.eq_of_getLsbD_eq
    intro i hi
    rw [BitVec.getLsbD_zero]
    cases i with
    | zero => simpa using h0
    | succ i =>
      have := congrArg (fun y => y.getLsbD i) h
      simp only [BitVec.getLsbD_ushiftRight, BitVec.getLsbD_zero] at this
      rw [Nat.add_comm]; exact this
theorem itB_inj0 (n : Nat) (x : BitVec 32) (h : itB n x = 0#32) : x = 0#32 := by
  induction n generalizing x with
  | zero => exact h
  | succ n ih => exact stB_inj0 x (ih _ h)
theorem hidC {p : Prop} (h : p) : Hid p := h
def B32 (x : BitVec 32) : Value := .int .u32 (x.toNat : Int)
def Ret32 (x : BitVec 32) (w : World) (e : Ending) (w' : World) : Prop := e = .returned (B32 x) ∧ w = w'
theorem ofInt32 (x : BitVec 32) : BitVec.ofInt 32 (x.toNat : Int) = x := by
  apply BitVec.eq_of_toNat_eq
  rw [BitVec.toNat_ofInt]; have := x.isLt; omega
theorem wrap_u32 (n : Nat) (h : n < 4294967296) : IntKind.u32.wrap (n : Int) = (n : Int) := by
  simp [IntKind.wrap, IntKind.bits, IntKind.signed]; omega
theorem xor32 (x y : BitVec 32) : bits .xor .u32 (x.toNat : Int) (y.toNat : Int) = ((x ^^^ y).toNat : Int) := by
  show IntKind.u32.wrap ((BitVec.ofInt 32 (x.toNat : Int) ^^^ BitVec.ofInt 32 (y.toNat : Int)).toNat : Int) = _
  rw [ofInt32, ofInt32]
  exact wrap_u32 _ (x ^^^ y).isLt
theorem half32 (x : BitVec 32) : (x.toNat : Int) / (2 : Int) = ((x >>> 1).toNat : Int) := by
  rw [BitVec.toNat_ushiftRight, Nat.shiftRight_eq_div_pow]; omega
theorem odd32 (x : BitVec 32) : x.getLsbD 0 = decide (x.toNat % 2 = 1) := by
  rw [BitVec.getLsbD, Nat.testBit_zero]
theorem step_odd (x : BitVec 32) (h : x.toNat % 2 = 1) : bits .xor .u32 ((x.toNat : Int) / (2 : Int)) 2197175160 = ((stB x).toNat : Int) := by
  rw [half32]
  have := xor32 (x >>> 1) polyB
  have e : ((polyB).toNat : Int) = 2197175160 := by decide
  rw [e] at this
  rw [this]
  unfold stB
  rw [if_pos (by rw [odd32]; simp [h])]
theorem step_even (x : BitVec 32) (h : x.toNat % 2 = 0) : (x.toNat : Int) / (2 : Int) = ((stB x).toNat : Int) := by
  rw [half32]
  unfold stB
  rw [if_neg (by rw [odd32]; simp [h])]
theorem and_one32 (x : BitVec 32) : bits .and .u32 (x.toNat : Int) 1 = (x.toNat : Int) % 2 := by
  show IntKind.u32.wrap ((BitVec.ofInt 32 (x.toNat : Int) &&& BitVec.ofInt 32 1).toNat : Int) = _
  rw [ofInt32, BitVec.toNat_and]
  have e : (BitVec.ofInt 32 1).toNat = 1 := by decide
  rw [e, Nat.and_one_is_mod, wrap_u32 _ (by omega)]
  omega
def elN (i : Nat) : BitVec 32 := elB (BitVec.ofNat 32 i)
def tcells (k : Nat) : Array Value := ((List.range 256).map fun i => if i < k then Value.int .u32 ((elN i).toNat : Int) else Value.int .u32 0).toArray
theorem tcells_size (k : Nat) : (tcells k).size = 256 := by simp [tcells]
theorem tcells_get (k i : Nat) (h : i < 256) : (tcells k)[i]? = some (if i < k then Value.int .u32 ((elN i).toNat : Int) else Value.int .u32 0) := by
  simp [tcells, h]
theorem tcells_set (k : Nat) (h : k < 256) : (tcells k).setIfInBounds k (Value.int .u32 ((elN k).toNat : Int)) = tcells (k + 1) := by
  apply Array.ext_getElem?
  intro i
  rw [Array.getElem?_setIfInBounds]
  by_cases hi : i < 256
  · rw [tcells_get _ _ hi, tcells_get _ _ hi]
    by_cases he : k = i
    · subst he; simp [tcells_size, h]
    · rw [if_neg he]
      by_cases hk : i < k
      · rw [if_pos hk, if_pos (by omega)]
      · rw [if_neg hk, if_neg (by omega)]
  · have a : (tcells k)[i]? = none := Array.getElem?_eq_none (by rw [tcells_size]; omega)
    have b : (tcells (k + 1))[i]? = none := Array.getElem?_eq_none (by rw [tcells_size]; omega)
    rw [a, b, if_neg (by omega)]
theorem tcells_one (k : Nat) : (tcells k).all (·.oneCell') = true := by
  rw [Array.all_eq_true_iff_forall_mem]
  intro x hx
  simp only [tcells, List.mem_toArray, List.mem_map] at hx
  obtain ⟨i, _, rfl⟩ := hx
  split <;> rfl
def TabRet (w : World) (e : Ending) (w' : World) : Prop := e = .returned (.agg (tcells 256)) ∧ Ext w w'
theorem ext_setRow {W w : World} {g : Nat} (h : Below W.heap.size W w) (hg : W.heap.size ≤ g) (cs : Array Value) : Below W.heap.size W (w.setRow g cs) := by
  refine ⟨h.os, h.tape, h.output, ?_, fun k hk => ?_⟩
  · show W.heap.size ≤ (w.heap.modify g _).size
    rw [Array.size_modify]; exact h.size
  · show (w.heap.modify g _)[k]? = _
    rw [Array.getElem?_modify, if_neg (by omega)]; exact h.block k hk
def CrcRet (x : BitVec 32) (w : World) (e : Ending) (w' : World) : Prop := e = .returned (.int .u32 (x.toNat : Int)) ∧ Ext w w'
theorem runB_take (c : BitVec 32) {l : List Nat} {k : Nat} (h : k < l.length) : runB c (l.take (k + 1)) = updB (runB c (l.take k)) (l.getD k 0) := by
  rw [take_succ h, runB_append]; rfl
theorem not32 (x : BitVec 32) : bits .xor .u32 IntKind.u32.max (x.toNat : Int) = ((~~~x).toNat : Int) := by
  have h := xor32 (BitVec.allOnes 32) x
  have e : (((BitVec.allOnes 32).toNat : Nat) : Int) = IntKind.u32.max := by decide
  rw [e, BitVec.allOnes_xor] at h
  exact h
theorem and32 (x y : BitVec 32) : bits .and .u32 (x.toNat : Int) (y.toNat : Int) = ((x &&& y).toNat : Int) := by
  show IntKind.u32.wrap ((BitVec.ofInt 32 (x.toNat : Int) &&& BitVec.ofInt 32 (y.toNat : Int)).toNat : Int) = _
  rw [ofInt32, ofInt32]
  exact wrap_u32 _ (x &&& y).isLt
theorem xor8 (a b : Nat) (ha : a < 256) (hb : b < 256) : bits .xor .u8 (a : Int) (b : Int) = ((a ^^^ b : Nat) : Int) := by
  show IntKind.u8.wrap ((BitVec.ofInt 8 (a : Int) ^^^ BitVec.ofInt 8 (b : Int)).toNat : Int) = _
  rw [BitVec.toNat_xor]
  have e1 : (BitVec.ofInt 8 (a : Int)).toNat = a := by rw [BitVec.toNat_ofInt]; omega
  have e2 : (BitVec.ofInt 8 (b : Int)).toNat = b := by rw [BitVec.toNat_ofInt]; omega
  rw [e1, e2]
  have : a ^^^ b < 2 ^ 8 := Nat.xor_lt_two_pow (by omega) (by omega)
  simp [IntKind.wrap, IntKind.bits, IntKind.signed]; omega
theorem byte_ix (x : BitVec 32) (v : Nat) (hv : v < 256) : (x ^^^ BitVec.ofNat 32 v) &&& 255#32 = BitVec.ofNat 32 ((x.toNat % 256) ^^^ v) := by
  apply BitVec.eq_of_toNat_eq
  rw [low_byte x v hv, BitVec.toNat_ofNat]
  have : (x.toNat % 256) ^^^ v < 2 ^ 8 := Nat.xor_lt_two_pow (by omega) (by omega)
  omega
theorem crc_step (x : BitVec 32) (v : Nat) (hv : v < 256) : bits .xor .u32 ((elN ((x.toNat % 256) ^^^ v)).toNat : Int) ((x.toNat : Int) / (256 : Int)) = ((updB x v).toNat : Int) := by
  have e : (x.toNat : Int) / (256 : Int) = ((x >>> 8).toNat : Int) := by
    rw [BitVec.toNat_ushiftRight, Nat.shiftRight_eq_div_pow]; omega
  rw [e, xor32]
  unfold updB elN
  rw [byte_ix x v hv]
def tailL (x : BitVec 32) : List Nat := [x.toNat % 256, x.toNat / 256 % 256, x.toNat / 65536 % 256, x.toNat / 16777216 % 256]
def tailK (x : BitVec 32) (k : Nat) : List Nat := (tailL x).take k ++ List.replicate (4 - k) 0
theorem tailL_b (x : BitVec 32) : IsB (tailL x) := by
  have := x.isLt
  intro y hy; simp [tailL] at hy; omega
theorem strOf_inj {l m : List Nat} (hl : IsB l) (hm : IsB m) : ((strOfNums (l.map fun x : Nat => (x : Int))).toList == (strOfNums (m.map fun x : Nat => (x : Int))).toList) = decide (l = m) := by
  by_cases h : l = m
  · subst h; simp
  · rw [decide_eq_false h, beq_eq_false_iff_ne]
    intro e1
    apply h
    rw [ByteArray.toList_eq, ByteArray.toList_eq, strOfNums_data, strOfNums_data, List.map_map, List.map_map] at e1
    have back : ∀ (l : List Nat), IsB l → (l.map ((fun n : Int => UInt8.ofNat n.toNat) ∘ fun x : Nat => (x : Int))).map (·.toNat) = l := by
      intro l hl
      rw [List.map_map]
      conv => rhs; rw [← List.map_id l]
      apply List.map_congr_left
      intro x hx
      have := hl x hx
      simp; omega
    have e2 := congrArg (List.map (·.toNat)) e1
    rw [back l hl, back m hm] at e2
    exact e2
theorem conv_str {w : World} {A : Option Addr} {l : List Nat} (h : BytesAt w A l) (n cap : Nat) (hn : l.length = n) : (convert 29 9 (.slice A n cap)).run Try.prog w = .ok (.string (strOfNums (l.map fun x : Nat => (x : Int)))) w := by
  rcases Nat.eq_zero_or_pos l.length with h0 | h0
  · obtain rfl : l = [] := List.length_eq_zero_iff.1 h0
    subst hn
    exact Go.Proofs.run_convert_bytes_zero w 29 5 Try.underlying29 Try.underlying5 A cap 9 Try.underlying9
  · obtain ⟨b, off, rfl, hb, hc⟩ := h.2.2 h0
    refine run_convert_bytes_arg w 29 5 Try.underlying29 Try.underlying5 b off n cap _ (by simp [hn]) (fun i hi => ?_) 9 Try.underlying9
    rw [hc i (by omega)]
    simp [List.getD_eq_getElem?_getD, show i < l.length by omega]
theorem p_equal (A A' : Option Addr) (n n' cap cap' : Nat) (l m : List Nat) (w : World) (hl : BytesAt w A l) (hm : BytesAt w A' m) (hn : l.length = n) (hn' : m.length = n') (v : Bool) (hv : decide (l = m) = v) :
    Calls Try.prog 48 #[.slice A n cap, .slice A' n' cap'] w (RetSame (.bool v) w) := by
  have c1 := conv_str hl n cap hn
  have c2 := conv_str hm n' cap' hn'
  have e := strOf_inj hl.1 hm.1
  rw [hv] at e
  generalize strOfNums (l.map fun x : Nat => (x : Int)) = s1 at c1 e
  generalize strOfNums (m.map fun x : Nat => (x : Int)) = s2 at c2 e
  clear hv hn hn' hl hm
  go_enter Try.func48, Try.ntmps48
  go_wp2_with fail
  go_ret
  exact ⟨by rw [← e]; rfl, rfl⟩
def chk (l : List Nat) : Bool := decide (4 ≤ l.length) && decide (l.drop (l.length - 4) = tailL (crcB 0#32 (l.take (l.length - 4))))
/-- A number with its least significant byte first. -/
def valLE : List Nat → Nat
  | [] => 0
  | b :: l => b + 256 * valLE l
theorem valLE_lt : ∀ (l : List Nat), IsB l → valLE l < 256 ^ l.length
  | [], _ => by simp [valLE]
  | b :: l, h => by
    have h1 := valLE_lt l (fun x hx => h x (List.mem_cons_of_mem _ hx))
    have h2 := h b List.mem_cons_self
    simp only [valLE, List.length_cons, Nat.pow_succ]
    omega
theorem valLE_drop {l : List Nat} {k : Nat} (h : k < l.length) : valLE (l.drop k) = l.getD k 0 + 256 * valLE (l.drop (k + 1)) := by
  rw [List.drop_eq_getElem_cons h, getD_lt h]; rfl
theorem valLE_tail (x : BitVec 32) : valLE (tailL x) = x.toNat := by
  have := x.isLt
  simp [tailL, valLE]; omega
theorem valLE_inj : ∀ (l m : List Nat), IsB l → IsB m → l.length = m.length → valLE l = valLE m → l = m
  | [], [], _, _, _, _ => rfl
  | b :: l, c :: m, h, k, e, v => by
    have h1 := h b List.mem_cons_self
    have h2 := k c List.mem_cons_self
    simp only [valLE] at v
    have e1 : b = c := by omega
    have e2 : valLE l = valLE m := by omega
    rw [e1, valLE_inj l m (fun x hx => h x (List.mem_cons_of_mem _ hx)) (fun x hx => k x (List.mem_cons_of_mem _ hx)) (by simpa using e) e2]
theorem pow256 {n k : Nat} (h1 : n ≤ 7) (h : k < 256 ^ n) : k ≤ 72057594037927935 := by
  have : 256 ^ n ≤ 256 ^ 7 := Nat.pow_le_pow_right (by omega) h1
  omega
def numL (v : Nat) : Nat → List Nat
  | 0 => []
  | n + 1 => numL v n ++ [v / 256 ^ n % 256]
theorem numL_b (v n : Nat) : IsB (numL v n) := by
  induction n with
  | zero => exact IsB.nil
  | succ n ih => exact ih.app (IsB.one (by omega))
theorem numL_len (v n : Nat) : (numL v n).length = n := by
  induction n with
  | zero => rfl
  | succ n ih => simp [numL, ih]
theorem numL_tail (x : BitVec 32) : numL x.toNat 4 = tailL x := by simp [numL, tailL]
def GrowRet (W : World) (e : Ending) (w' : World) : Prop := ∃ v, e = .returned v ∧ OwnB W.heap.size w' v [] ∧ Below W.heap.size W w'
def szAt (c d k : Nat) : Nat := if k = 0 then 0 else if k = 1 then c else c + d
def catAt (l m : List Nat) (k : Nat) : List Nat := if k = 0 then [] else if k = 1 then l else l ++ m
end Go.Proofs.Ytjmigglibidbdaa
