/- Part 2 of what these claims stand on: contracts of the program's and the reference's functions, and plain facts. Conditions: each states its own. -/
import Derived.Test.YtmgkcgnnfgdapaaPru1
import Derived.Maps.OwnIn
import Derived.RangeFuncNested
import Derived.RangeFuncBound
import Derived.RangeFuncCalls
import Derived.RangeFuncLeaves
import Derived.Shelf.Abstract
import Derived.Shelf.RegionOpen
import Derived.WalkKit
import Derived.OwnWalkIn
import Derived.TacticsInMore
import Derived.LoopNIn
import Derived.LoopIn
import Derived.Lib.LazyBuf
import Derived.Lib.QuietBelow
import Derived.Deep.RegionHeld3
import Derived.Deep.RegionLaw
import Derived.Deep.Slices
import Derived.Shelf.Strconv.Itoa0
import Derived.Shelf.Bytes.SlEqualAll
import Derived.Lib.AppendZerosOnto
namespace Go.Proofs.Ytmgkcgnnfgdapaa
set_option linter.unusedVariables false
set_option linter.unusedSimpArgs false
section
open Go Go.RowKit Go.Sort
def endB (n : Nat) (size : Int) (fl : List Int) (i pl : Nat) : Bool := (decide (i + 1 = n) || decide ((pl : Int) = size)) || decide (((i : Int) + 1) ∈ fl)
def cuS (l : List (Int × Int)) (size : Int) (fl : List Int) : Nat → List (List (Int × Int)) × List (Int × Int)
  | 0 => ([], [])
  | k + 1 => if endB l.length size fl k ((cuS l size fl k).2.length + 1) = true then ((cuS l size fl k).1 ++ [(cuS l size fl k).2 ++ [l.getD k (0, 0)]], []) else ((cuS l size fl k).1, (cuS l size fl k).2 ++ [l.getD k (0, 0)])
def cutL (l : List (Int × Int)) (size : Int) (fl : List Int) : List (List (Int × Int)) := if size < 1 then [] else (cuS l size fl l.length).1
theorem cuS_len (l : List (Int × Int)) (size : Int) (fl : List Int) : ∀ k, (cuS l size fl k).1.length ≤ k ∧ (cuS l size fl k).2.length ≤ k
  | 0 => by simp [cuS]
  | k + 1 => by
    have := cuS_len l size fl k
    rw [cuS]
    split
    · simp; omega
    · simp; omega
def CutPost (ps : List (List (Int × Int))) (W : World) (e : Ending) (w' : World) : Prop := ∃ v vs, e = .returned v ∧ OwnV W.heap.size w' v vs ∧ PartsAt W.heap.size w' vs ps ∧ Ext W w'
theorem idxN (b off N cap j : Nat) (h : j < N) (w : World) : (Instr.indexAt 24 (.slice (some ⟨b, off, none⟩) N cap) (.int .i64 (j : Int))).run Try.prog w = .ok (.pointer (some ⟨b, off + j, none⟩)) w := by
  have hz := Try.sizeOf3
  have he : Try.prog.elem 24 = 3 := by kernel_rfl
  have hr := run_indexAt_slice (P := Try.prog) (w := w) 24 ⟨b, off, none⟩ N cap .i64 (j : Int) (by kernel_rfl)
  rw [hr, if_pos ⟨by omega, by omega⟩, he, hz]
  simp [Result.andThen, add_at]
set_option maxHeartbeats 6400000 in
set_option maxRecDepth 100000 in
theorem r_cutS (A AF : Option Addr) (n c nf cf : Nat) (l : List (Int × Int)) (size : Int) (fl : List Int) (W : World) (hl : SampsAt W A l) (hn : l.length = n) (hn2 : n ≤ 8796093022000) (hsz : I64 size) (hf : TimesAt W AF fl) (hfn : fl.length = nf) :
    Calls Try.prog 22 #[.slice A n c, .int .i64 size, .slice AF nf cf] W (CutPost (cutL l size fl) W) := by
  have hnf63 : nf ≤ 9223372036854775807 := by have := hf.2.1; omega
  by_cases hs0 : size < 1
  · have e : cutL l size fl = [] := if_pos hs0
    rw [e]
    have d0 : decide (size < 1) = true := decide_eq_true hs0
    clear hl hn hf hfn e hs0
    go_enter Try.func22, Try.ntmps22
    go_wp2_with fail
    go_ret
    exact ⟨_, [], rfl, OwnV.nil_ _ _, ⟨rfl, fun i hi => by simp at hi⟩, Ext.refl _⟩
  · have d0 : decide (size < 1) = false := decide_eq_false hs0
    have e : cutL l size fl = (cuS l size fl n).1 := by rw [cutL, if_neg hs0, hn]
    rw [e]
    have HL := hide hl
    have Hn := hide hn
    have Hs := hide hl.1
    have HF := hide hf
    have Hfn := hide hfn
    have HlenS := hide (cuS_len l size fl)
    have S0 : Hid (Cs W W (.slice none 0 0) [] [] (.slice none 0 0) []) := hide ⟨Ext.refl _, OwnV.nil_ _ _, OwnS.nil_ _ _, ⟨rfl, fun i hi => by simp at hi⟩, fun g e => (by cases e), fun i hi => by simp at hi⟩
    clear hl hn hf hfn e hs0
    go_enter Try.func22, Try.ntmps22
    go_wp2_with fail
    go_loopw [7, 8, 9] (fun ov pv iv wr => ∃ (i : Nat) (vs : List Value), i ≤ n ∧ iv = .int .i64 (i : Int) ∧ Hid (Cs W wr ov vs (cuS l size fl i).1 pv (cuS l size fl i).2)) (fun _ _ iv _ => n - (intOf iv).toNat)
    case atStart => exact ⟨0, [], by omega, rfl, S0⟩
    case round =>
      clear S0
      obtain ⟨i, vs, hi, rfl, S1⟩ := hrel
      by_cases hlt : i < n
      · have d1 : decide ((i : Int) < (n : Int)) = true := decide_eq_true (by omega)
        have hil : i < l.length := by rw [Hn.out]; exact hlt
        obtain ⟨bm, om, rfl, _, hc⟩ := (HL.out.ext S1.out.e).2.2 (by omega)
        have ct := (hc i hil).1
        have cv := (hc i hil).2
        rw [← Nat.add_assoc] at cv
        have ix := fun w => idxS bm om n c i hlt w
        have hj := Hs.out.get i
        have hln := HlenS.out i
        have hst : cuS l size fl (i + 1) = if endB n size fl i ((cuS l size fl i).2.length + 1) = true then ((cuS l size fl i).1 ++ [(cuS l size fl i).2 ++ [l.getD i (0, 0)]], []) else ((cuS l size fl i).1, (cuS l size fl i).2 ++ [l.getD i (0, 0)]) := by rw [cuS, Hn.out]
        obtain ⟨pt, hpt⟩ : ∃ z, (l.getD i (0, 0)).1 = z := ⟨_, rfl⟩
        obtain ⟨pw, hpw⟩ : ∃ z, (l.getD i (0, 0)).2 = z := ⟨_, rfl⟩
        have hpp : l.getD i (0, 0) = (pt, pw) := by rw [← hpt, ← hpw]
        rw [hpp] at hst
        rw [hpt] at ct hj
        rw [hpw] at cv hj
        obtain ⟨ps, hps⟩ : ∃ ps, (cuS l size fl i).1 = ps := ⟨_, rfl⟩
        obtain ⟨p, hp⟩ : ∃ p, (cuS l size fl i).2 = p := ⟨_, rfl⟩
        rw [hps, hp] at S1 hst hln
        have S3 := hide (S1.out.ext (ext_alloc wr (.cells #[Value.int .i64 pt, Value.int .i64 pw] 47)))
        have hone := hide (one_atS wr pt pw hj.1 hj.2)
        have hle : p.length + [(pt, pw)].length ≤ 8796093022208 := by simp; omega
        obtain ⟨pl, hpl⟩ : ∃ pl, (p ++ [(pt, pw)]).length = pl := ⟨_, rfl⟩
        have hpl2 : p.length + 1 = pl := by rw [← hpl]; simp
        rw [hpl2] at hst
        have Hst := hide hst
        have hvl : vs.length ≤ i := by have := S1.out.ps.1; omega
        clear hc hil hpt hpw hpp hps hp hst hpl2 S1
        go_upto_region 9 with (at_builtin; refine wl_appendS rfl (.tmp 20) (.tmp 25) rfl W.heap.size _ p [(pt, pw)] rfl S3.out.p _ 1 1 rfl hone.out rfl hle S3.out.e.size ?_; intro v6 w6 hO6 hG6 hA6; have S6 := hide (S3.out.growP hO6 hG6 hA6); clear hO6 hG6 hA6 S3 hone)
        obtain ⟨Ap, cp, rfl, _, _, _⟩ := S6.out.p.at_
        rw [hpl] at ⊢
        obtain ⟨e0, he0⟩ : ∃ e0, (decide (i + 1 = n) || decide ((pl : Int) = size)) = e0 := ⟨_, rfl⟩
        have d2 : ((i : Int) + 1 == (n : Int)) = decide (i + 1 = n) := by
          by_cases h : i + 1 = n
          · rw [decide_eq_true h, beq_iff_eq]; omega
          · rw [decide_eq_false h, beq_eq_false_iff_ne]; omega
        have d3 : ((pl : Int) == size) = decide ((pl : Int) = size) := by
          by_cases h : (pl : Int) = size
          · rw [decide_eq_true h, beq_iff_eq]; exact h
          · rw [decide_eq_false h, beq_eq_false_iff_ne]; exact h
        --LOOP
        have S6 := hide (show Cs W w6 _ vs ps (.slice Ap pl cp) (p ++ [(pt, pw)]) by have := S6.out; rw [hpl] at this; exact this)
        clear hpl ct cv ix hj hln hle
        by_cases h1 : i + 1 = n
        · rw [decide_eq_true h1] at he0 d2
          have d4 : True := trivial
          have d5 : True := trivial
          obtain rfl : true = e0 := by rw [← he0]; rfl
          go_upto_region 10 with fail
          have Hm : Hid (∀ b : Bool, ((true || decide (((i : Int) + 1) ∈ fl)) = b) → endB n size fl i pl = b) := hide (fun b hb => by rw [← hb]; simp [endB, h1])
          clear d2 d3 d4 d5 he0
          go_wp2_with fail
          go_loopw [10, 11] (fun bv kv w => ∃ (j : Nat) (bb : Bool), j ≤ nf ∧ kv = .int .i64 (j : Int) ∧ bv = .bool bb ∧ Hid ((true || decide (((i : Int) + 1) ∈ fl.take j)) = bb) ∧ w6 = w) (fun _ kv _ => nf - (intOf kv).toNat)
          case atStart => exact ⟨0, true, by omega, rfl, rfl, hide (by simp), rfl⟩
          case round =>
            obtain ⟨j, bb, hj2, rfl, rfl, HB, rfl⟩ := hrel
            by_cases hlj : j < nf
            · have d6 : decide ((j : Int) < (nf : Int)) = true := decide_eq_true (by omega)
              have hjl : j < fl.length := by rw [Hfn.out]; exact hlj
              have hmem : ((i : Int) + 1 ∈ fl.take (j + 1)) ↔ ((i : Int) + 1 ∈ fl.take j ∨ fl.getD j 0 = (i : Int) + 1) := by
                rw [takeT_succ hjl, List.mem_append, List.mem_singleton]
                exact or_congr Iff.rfl eq_comm
              cases bb with
              | true =>
                have HB2 : Hid ((true || decide (((i : Int) + 1) ∈ fl.take (j + 1))) = true) := hide (by
                  have := HB.out
                  rw [Bool.or_eq_true, decide_eq_true_iff] at this ⊢
                  rcases this with h | h
                  · exact Or.inl h
                  · exact Or.inr (hmem.2 (Or.inl h)))
                clear HB hmem hjl
                go_wp2_with fail
                go_roundw
                case rel => exact ⟨j + 1, true, by omega, by go_num, rfl, HB2, trivial⟩
                case measure => simp [intOf]; omega
              | false =>
                obtain ⟨bf, of_, rfl, _, hcf⟩ := (HF.out.ext S6.out.e).2.2 (by omega)
                have cfx := hcf j hjl
                obtain ⟨x, hx⟩ : ∃ x, fl.getD j 0 = x := ⟨_, rfl⟩
                rw [hx] at cfx hmem
                have ixf := fun w => idxN bf of_ nf cf j hlj w
                have hb0 := HB.out
                rw [Bool.or_eq_false_iff, decide_eq_false_iff_not] at hb0
                by_cases hxi : x = (i : Int) + 1
                · have d7 : (x == (i : Int) + 1) = true := by rw [beq_iff_eq]; exact hxi
                  have HB2 : Hid ((true || decide (((i : Int) + 1) ∈ fl.take (j + 1))) = true) := hide (by
                    rw [Bool.or_eq_true, decide_eq_true_iff]; exact Or.inr (hmem.2 (Or.inr hxi)))
                  clear HB hmem hjl hcf hx hb0 hxi
                  go_wp2_with fail
                  go_roundw
                  case rel => exact ⟨j + 1, true, by omega, by go_num, rfl, HB2, trivial⟩
                  case measure => simp [intOf]; omega
                · have d7 : (x == (i : Int) + 1) = false := by rw [beq_eq_false_iff_ne]; exact hxi
                  have HB2 : Hid ((true || decide (((i : Int) + 1) ∈ fl.take (j + 1))) = false) := hide (by
                    rw [Bool.or_eq_false_iff, decide_eq_false_iff_not]
                    exact ⟨hb0.1, fun h => (hmem.1 h).elim hb0.2 hxi⟩)
                  clear HB hmem hjl hcf hx hb0 hxi
                  go_wp2_with fail
                  go_roundw
                  case rel => exact ⟨j + 1, false, by omega, by go_num, rfl, HB2, trivial⟩
                  case measure => simp [intOf]; omega
            · obtain rfl : j = nf := by omega
              have d6 : decide ((j : Int) < (j : Int)) = false := decide_eq_false (by omega)
              have hB := HB.out
              rw [List.take_of_length_le (by rw [Hfn.out]; omega)] at hB
              have hE2 := Hm.out bb hB
              have hst2 := Hst.out
              rw [hE2] at hst2
              clear hB HB Hm Hst hE2
              cases bb with
              | true =>
                rw [if_pos rfl] at hst2
                have Hst2 := hide hst2
                have S7 := hide (S6.out.ext (ext_alloc w6 (.cells #[Value.slice Ap pl cp] 22)))
                have hcell : (w6.alloc (.cells #[Value.slice Ap pl cp] 22)).cell? ⟨w6.heap.size, 0, none⟩ = some (Value.slice Ap pl cp) := by rw [World.cell?_alloc_at _ _ _ _ rfl]; rfl
                have Hcell := hide hcell
                have hle2 : vs.length + 1 ≤ 9382499223000 := by omega
                clear hst2 hcell
                go_wp2_with (at_builtin; refine wl_appendV rfl (.tmp 55) (.tmp 57) rfl W.heap.size _ vs rfl S7.out.o w6.heap.size rfl (Value.slice Ap pl cp) Hcell.out rfl hle2 S7.out.e.size ?_; intro v8 w8 hO8 hG8 hA8; have S8 := hide (S7.out.growO hO8 hG8 hA8); clear hO8 hG8 hA8 S7)
                go_roundw
                case rel => exact ⟨i + 1, vs ++ [Value.slice Ap pl cp], by omega, by go_num, by rw [Hst2.out]; exact S8⟩
                case measure => simp [intOf]; omega
              | false =>
                rw [if_neg (by decide)] at hst2
                have Hst2 := hide hst2
                clear hst2
                go_wp2_with fail
                go_roundw
                case rel => exact ⟨i + 1, vs, by omega, by go_num, by rw [Hst2.out]; exact S6⟩
                case measure => simp [intOf]; omega
        · rw [decide_eq_false h1] at he0 d2
          by_cases h2 : (pl : Int) = size
          · rw [decide_eq_true h2] at he0 d3
            have d4 : True := trivial
            have d5 : True := trivial
            obtain rfl : true = e0 := by rw [← he0]; rfl
            go_upto_region 10 with fail
            have Hm : Hid (∀ b : Bool, ((true || decide (((i : Int) + 1) ∈ fl)) = b) → endB n size fl i pl = b) := hide (fun b hb => by rw [← hb]; simp [endB, h1, h2])
            clear d2 d3 d4 d5 he0
            go_wp2_with fail
            go_loopw [10, 11] (fun bv kv w => ∃ (j : Nat) (bb : Bool), j ≤ nf ∧ kv = .int .i64 (j : Int) ∧ bv = .bool bb ∧ Hid ((true || decide (((i : Int) + 1) ∈ fl.take j)) = bb) ∧ w6 = w) (fun _ kv _ => nf - (intOf kv).toNat)
            case atStart => exact ⟨0, true, by omega, rfl, rfl, hide (by simp), rfl⟩
            case round =>
              obtain ⟨j, bb, hj2, rfl, rfl, HB, rfl⟩ := hrel
              by_cases hlj : j < nf
              · have d6 : decide ((j : Int) < (nf : Int)) = true := decide_eq_true (by omega)
                have hjl : j < fl.length := by rw [Hfn.out]; exact hlj
                have hmem : ((i : Int) + 1 ∈ fl.take (j + 1)) ↔ ((i : Int) + 1 ∈ fl.take j ∨ fl.getD j 0 = (i : Int) + 1) := by
                  rw [takeT_succ hjl, List.mem_append, List.mem_singleton]
                  exact or_congr Iff.rfl eq_comm
                cases bb with
                | true =>
                  have HB2 : Hid ((true || decide (((i : Int) + 1) ∈ fl.take (j + 1))) = true) := hide (by
                    have := HB.out
                    rw [Bool.or_eq_true, decide_eq_true_iff] at this ⊢
                    rcases this with h | h
                    · exact Or.inl h
                    · exact Or.inr (hmem.2 (Or.inl h)))
                  clear HB hmem hjl
                  go_wp2_with fail
                  go_roundw
                  case rel => exact ⟨j + 1, true, by omega, by go_num, rfl, HB2, trivial⟩
                  case measure => simp [intOf]; omega
                | false =>
                  obtain ⟨bf, of_, rfl, _, hcf⟩ := (HF.out.ext S6.out.e).2.2 (by omega)
                  have cfx := hcf j hjl
                  obtain ⟨x, hx⟩ : ∃ x, fl.getD j 0 = x := ⟨_, rfl⟩
                  rw [hx] at cfx hmem
                  have ixf := fun w => idxN bf of_ nf cf j hlj w
                  have hb0 := HB.out
                  rw [Bool.or_eq_false_iff, decide_eq_false_iff_not] at hb0
                  by_cases hxi : x = (i : Int) + 1
                  · have d7 : (x == (i : Int) + 1) = true := by rw [beq_iff_eq]; exact hxi
                    have HB2 : Hid ((true || decide (((i : Int) + 1) ∈ fl.take (j + 1))) = true) := hide (by
                      rw [Bool.or_eq_true, decide_eq_true_iff]; exact Or.inr (hmem.2 (Or.inr hxi)))
                    clear HB hmem hjl hcf hx hb0 hxi
                    go_wp2_with fail
                    go_roundw
                    case rel => exact ⟨j + 1, true, by omega, by go_num, rfl, HB2, trivial⟩
                    case measure => simp [intOf]; omega
                  · have d7 : (x == (i : Int) + 1) = false := by rw [beq_eq_false_iff_ne]; exact hxi
                    have HB2 : Hid ((true || decide (((i : Int) + 1) ∈ fl.take (j + 1))) = false) := hide (by
                      rw [Bool.or_eq_false_iff, decide_eq_false_iff_not]
                      exact ⟨hb0.1, fun h => (hmem.1 h).elim hb0.2 hxi⟩)
                    clear HB hmem hjl hcf hx hb0 hxi
                    go_wp2_with fail
                    go_roundw
                    case rel => exact ⟨j + 1, false, by omega, by go_num, rfl, HB2, trivial⟩
                    case measure => simp [intOf]; omega
              · obtain rfl : j = nf := by omega
                have d6 : decide ((j : Int) < (j : Int)) = false := decide_eq_false (by omega)
                have hB := HB.out
                rw [List.take_of_length_le (by rw [Hfn.out]; omega)] at hB
                have hE2 := Hm.out bb hB
                have hst2 := Hst.out
                rw [hE2] at hst2
                clear hB HB Hm Hst hE2
                cases bb with
                | true =>
                  rw [if_pos rfl] at hst2
                  have Hst2 := hide hst2
                  have S7 := hide (S6.out.ext (ext_alloc w6 (.cells #[Value.slice Ap pl cp] 22)))
                  have hcell : (w6.alloc (.cells #[Value.slice Ap pl cp] 22)).cell? ⟨w6.heap.size, 0, none⟩ = some (Value.slice Ap pl cp) := by rw [World.cell?_alloc_at _ _ _ _ rfl]; rfl
                  have Hcell := hide hcell
                  have hle2 : vs.length + 1 ≤ 9382499223000 := by omega
                  clear hst2 hcell
                  go_wp2_with (at_builtin; refine wl_appendV rfl (.tmp 55) (.tmp 57) rfl W.heap.size _ vs rfl S7.out.o w6.heap.size rfl (Value.slice Ap pl cp) Hcell.out rfl hle2 S7.out.e.size ?_; intro v8 w8 hO8 hG8 hA8; have S8 := hide (S7.out.growO hO8 hG8 hA8); clear hO8 hG8 hA8 S7)
                  go_roundw
                  case rel => exact ⟨i + 1, vs ++ [Value.slice Ap pl cp], by omega, by go_num, by rw [Hst2.out]; exact S8⟩
                  case measure => simp [intOf]; omega
                | false =>
                  rw [if_neg (by decide)] at hst2
                  have Hst2 := hide hst2
                  clear hst2
                  go_wp2_with fail
                  go_roundw
                  case rel => exact ⟨i + 1, vs, by omega, by go_num, by rw [Hst2.out]; exact S6⟩
                  case measure => simp [intOf]; omega
          · rw [decide_eq_false h2] at he0 d3
            have d4 : True := trivial
            have d5 : True := trivial
            obtain rfl : false = e0 := by rw [← he0]; rfl
            go_upto_region 10 with fail
            have Hm : Hid (∀ b : Bool, ((false || decide (((i : Int) + 1) ∈ fl)) = b) → endB n size fl i pl = b) := hide (fun b hb => by rw [← hb]; simp [endB, h1, h2])
            clear d2 d3 d4 d5 he0
            go_wp2_with fail
            go_loopw [10, 11] (fun bv kv w => ∃ (j : Nat) (bb : Bool), j ≤ nf ∧ kv = .int .i64 (j : Int) ∧ bv = .bool bb ∧ Hid ((false || decide (((i : Int) + 1) ∈ fl.take j)) = bb) ∧ w6 = w) (fun _ kv _ => nf - (intOf kv).toNat)
            case atStart => exact ⟨0, false, by omega, rfl, rfl, hide (by simp), rfl⟩
            case round =>
              obtain ⟨j, bb, hj2, rfl, rfl, HB, rfl⟩ := hrel
              by_cases hlj : j < nf
              · have d6 : decide ((j : Int) < (nf : Int)) = true := decide_eq_true (by omega)
                have hjl : j < fl.length := by rw [Hfn.out]; exact hlj
                have hmem : ((i : Int) + 1 ∈ fl.take (j + 1)) ↔ ((i : Int) + 1 ∈ fl.take j ∨ fl.getD j 0 = (i : Int) + 1) := by
                  rw [takeT_succ hjl, List.mem_append, List.mem_singleton]
                  exact or_congr Iff.rfl eq_comm
                cases bb with
                | true =>
                  have HB2 : Hid ((false || decide (((i : Int) + 1) ∈ fl.take (j + 1))) = true) := hide (by
                    have := HB.out
                    rw [Bool.or_eq_true, decide_eq_true_iff] at this ⊢
                    rcases this with h | h
                    · exact Or.inl h
                    · exact Or.inr (hmem.2 (Or.inl h)))
                  clear HB hmem hjl
                  go_wp2_with fail
                  go_roundw
                  case rel => exact ⟨j + 1, true, by omega, by go_num, rfl, HB2, trivial⟩
                  case measure => simp [intOf]; omega
                | false =>
                  obtain ⟨bf, of_, rfl, _, hcf⟩ := (HF.out.ext S6.out.e).2.2 (by omega)
                  have cfx := hcf j hjl
                  obtain ⟨x, hx⟩ : ∃ x, fl.getD j 0 = x := ⟨_, rfl⟩
                  rw [hx] at cfx hmem
                  have ixf := fun w => idxN bf of_ nf cf j hlj w
                  have hb0 := HB.out
                  rw [Bool.or_eq_false_iff, decide_eq_false_iff_not] at hb0
                  by_cases hxi : x = (i : Int) + 1
                  · have d7 : (x == (i : Int) + 1) = true := by rw [beq_iff_eq]; exact hxi
                    have HB2 : Hid ((false || decide (((i : Int) + 1) ∈ fl.take (j + 1))) = true) := hide (by
                      rw [Bool.or_eq_true, decide_eq_true_iff]; exact Or.inr (hmem.2 (Or.inr hxi)))
                    clear HB hmem hjl hcf hx hb0 hxi
                    go_wp2_with fail
                    go_roundw
                    case rel => exact ⟨j + 1, true, by omega, by go_num, rfl, HB2, trivial⟩
                    case measure => simp [intOf]; omega
                  · have d7 : (x == (i : Int) + 1) = false := by rw [beq_eq_false_iff_ne]; exact hxi
                    have HB2 : Hid ((false || decide (((i : Int) + 1) ∈ fl.take (j + 1))) = false) := hide (by
                      rw [Bool.or_eq_false_iff, decide_eq_false_iff_not]
                      exact ⟨hb0.1, fun h => (hmem.1 h).elim hb0.2 hxi⟩)
                    clear HB hmem hjl hcf hx hb0 hxi
                    go_wp2_with fail
                    go_roundw
                    case rel => exact ⟨j + 1, false, by omega, by go_num, rfl, HB2, trivial⟩
                    case measure => simp [intOf]; omega
              · obtain rfl : j = nf := by omega
                have d6 : decide ((j : Int) < (j : Int)) = false := decide_eq_false (by omega)
                have hB := HB.out
                rw [List.take_of_length_le (by rw [Hfn.out]; omega)] at hB
                have hE2 := Hm.out bb hB
                have hst2 := Hst.out
                rw [hE2] at hst2
                clear hB HB Hm Hst hE2
                cases bb with
                | true =>
                  rw [if_pos rfl] at hst2
                  have Hst2 := hide hst2
                  have S7 := hide (S6.out.ext (ext_alloc w6 (.cells #[Value.slice Ap pl cp] 22)))
                  have hcell : (w6.alloc (.cells #[Value.slice Ap pl cp] 22)).cell? ⟨w6.heap.size, 0, none⟩ = some (Value.slice Ap pl cp) := by rw [World.cell?_alloc_at _ _ _ _ rfl]; rfl
                  have Hcell := hide hcell
                  have hle2 : vs.length + 1 ≤ 9382499223000 := by omega
                  clear hst2 hcell
                  go_wp2_with (at_builtin; refine wl_appendV rfl (.tmp 55) (.tmp 57) rfl W.heap.size _ vs rfl S7.out.o w6.heap.size rfl (Value.slice Ap pl cp) Hcell.out rfl hle2 S7.out.e.size ?_; intro v8 w8 hO8 hG8 hA8; have S8 := hide (S7.out.growO hO8 hG8 hA8); clear hO8 hG8 hA8 S7)
                  go_roundw
                  case rel => exact ⟨i + 1, vs ++ [Value.slice Ap pl cp], by omega, by go_num, by rw [Hst2.out]; exact S8⟩
                  case measure => simp [intOf]; omega
                | false =>
                  rw [if_neg (by decide)] at hst2
                  have Hst2 := hide hst2
                  clear hst2
                  go_wp2_with fail
                  go_roundw
                  case rel => exact ⟨i + 1, vs, by omega, by go_num, by rw [Hst2.out]; exact S6⟩
                  case measure => simp [intOf]; omega
      · obtain rfl : i = n := by omega
        have d1 : decide ((i : Int) < (i : Int)) = false := decide_eq_false (by omega)
        go_wp2_with fail
        go_ret
        exact ⟨_, vs, rfl, S1.out.o, S1.out.ps, S1.out.e⟩
end
section
open Go Go.RowKit
/-- Samples are returned: they read as l. -/
def SmGet (l : List (Int × Int)) (W : World) (e : Ending) (w' : World) : Prop := ∃ A c, e = .returned (.slice A l.length c) ∧ SampsAt w' A l ∧ Ext W w'
def TmGet (l : List Int) (W : World) (e : Ending) (w' : World) : Prop := ∃ A c, e = .returned (.slice A l.length c) ∧ TimesAt w' A l ∧ Ext W w'
/-- At A the parts ps lie: slices that read as samples. -/
def PtsAt (w : World) (A : Option Addr) (ps : List (List (Int × Int))) : Prop :=
  0 < ps.length → ∃ g off, A = some ⟨g, off, none⟩ ∧ g < w.heap.size ∧ ∀ j, j < ps.length → ∃ A' c', w.cell? ⟨g, off + j, none⟩ = some (.slice A' (ps.getD j []).length c') ∧ SampsAt w A' (ps.getD j [])
def PtGet (ps : List (List (Int × Int))) (W : World) (e : Ending) (w' : World) : Prop := ∃ A c, e = .returned (.slice A ps.length c) ∧ ps.length ≤ 9223372036854775807 ∧ PtsAt w' A ps ∧ Ext W w'
theorem PtsAt.ext {w w' : World} {A : Option Addr} {ps : List (List (Int × Int))} (h : PtsAt w A ps) (e : Ext w w') : PtsAt w' A ps := fun hp => by
  obtain ⟨g, off, hA, hg, hc⟩ := h hp
  refine ⟨g, off, hA, Nat.lt_of_lt_of_le hg e.size, fun j hj => ?_⟩
  obtain ⟨A', c', h1, h2⟩ := hc j hj
  exact ⟨A', c', (e.cell (p := ⟨g, off + j, none⟩) hg).trans h1, h2.ext e⟩
theorem sm_get {l : List (Int × Int)} {W w' : World} {B : Nat} {v : Value} (h : OwnS B w' v l) (e : Ext W w') : SmGet l W (.returned v) w' := by
  obtain ⟨A, c, rfl, _, _, hs⟩ := h.at_
  exact ⟨A, c, rfl, hs, e⟩
theorem tm_get {l : List Int} {W w' : World} {e : Ending} (h : OwnRetT l W e w') : TmGet l W e w' := by
  obtain ⟨v, rfl, ho, hE⟩ := h
  obtain ⟨A, c, rfl, _, _, hs⟩ := ho.at_
  exact ⟨A, c, rfl, hs, hE⟩
theorem pt_get {ps : List (List (Int × Int))} {W w' : World} {e : Ending} (h : CutPost ps W e w') : PtGet ps W e w' := by
  obtain ⟨v, vs, rfl, hV, hP, hE⟩ := h
  obtain ⟨A, cap, rfl, h1, h2, h3⟩ := hV.at_
  refine ⟨A, cap, by rw [hP.1], by have := hP.1; omega, fun hp => ?_, hE⟩
  obtain ⟨g, rfl, _, hg, hc⟩ := h3 (by rw [hP.1]; exact hp)
  refine ⟨g, 0, rfl, hg, fun j hj => ?_⟩
  have hj' : j < vs.length := by rw [hP.1]; exact hj
  obtain ⟨A', c', hv, _, _, hs⟩ := (hP.2 j hj').at_
  refine ⟨A', c', ?_, hs⟩
  have := hc j (vs.getD j (.slice none 0 0)) (by simp [List.getD_eq_getElem?_getD, hj'])
  rw [Nat.zero_add, this, hv]
end
section
open Go Go.RowKit
theorem info_n64 : (Try.prog.info? 3).map (fun i => (i.zero, i.size, i.bytes)) = some (some (.int .i64 0), 1, 8) := by kernel_rfl
/-- The slice v owns the words l: it is nil, or begins at the head of a block from B on. -/
def OwnN (B : Nat) (w : World) (v : Value) (l : List Int) : Prop := w.ownsRow B 3 1 v l.length (t8s l) ∧ IsT l
theorem OwnN.at_ {B : Nat} {w : World} {v : Value} {l : List Int} (h : OwnN B w v l) : ∃ A cap, v = .slice A l.length cap ∧ l.length ≤ cap ∧ cap ≤ 9223372036854775807 ∧ TimesAt w A l := by
  rcases h.1.2 with ⟨rfl, h0⟩ | ⟨g, cap, cur, rfl, hg, hh, hnc, hcp, hcs, htake⟩
  · obtain rfl : l = [] := List.length_eq_zero_iff.1 h0
    exact ⟨none, 0, rfl, Nat.le_refl _, by omega, TimesAt.nil _ _⟩
  · unfold maxLen at hcp
    refine ⟨_, cap, rfl, hnc, hcp, h.2, by omega, fun _ => ⟨g, 0, rfl, (Array.getElem?_eq_some_iff.1 hh).1, fun j hj => ?_⟩⟩
    have := h.1.cells (g := g) rfl j (Value.int .i64 (l.getD j 0)) (by rw [getDT hj]; simp [t8s, hj])
    have e : (⟨g, 0, none⟩ : Addr).add j = ⟨g, 0 + j, none⟩ := by unfold Addr.add; split <;> simp_all
    rw [e] at this
    exact this
theorem OwnN.kept {B : Nat} {w w' : World} {v : Value} {l : List Int} (h : OwnN B w v l) {row : Option Nat} (hg : w.grownBy w' row) (hne : v.ownBlock = none ∨ v.ownBlock ≠ row) : OwnN B w' v l := ⟨h.1.kept hg hne, h.2⟩
theorem OwnN.alloc {B : Nat} {w : World} {v : Value} {l : List Int} (h : OwnN B w v l) (o : Obj) : OwnN B (w.alloc o) v l := ⟨h.1.alloc o, h.2⟩
theorem OwnN.drew {B : Nat} {w : World} {v : Value} {l : List Int} (h : OwnN B w v l) : OwnN B w.drew v l := h
theorem OwnN.nil_ (B : Nat) (w : World) : OwnN B w (.slice none 0 0) [] := ⟨World.ownsRow_nil _ _ _ _, IsT.nil⟩
theorem OwnN.keep {B : Nat} {w w' : World} {v : Value} {l : List Int} (h : OwnN B w v l) (hs : w.heap.size ≤ w'.heap.size) (e : ∀ g, v.ownBlock = some g → w'.heap[g]? = w.heap[g]?) : OwnN B w' v l := by
  refine ⟨?_, h.2⟩
  obtain ⟨h1, h2 | ⟨g, cap, cur, hv, hg, hh, r⟩⟩ := h.1
  · exact ⟨h1, Or.inl h2⟩
  · exact ⟨h1, Or.inr ⟨g, cap, cur, hv, hg, by rw [e g (by rw [hv]; rfl)]; exact hh, r⟩⟩
theorem OwnN.ext {B : Nat} {w w' : World} {v : Value} {l : List Int} (h : OwnN B w v l) (e : Ext w w') : OwnN B w' v l := by
  refine ⟨?_, h.2⟩
  obtain ⟨h1, h2 | ⟨g, cap, cur, hv, hg, hh, r⟩⟩ := h.1
  · exact ⟨h1, Or.inl h2⟩
  · exact ⟨h1, Or.inr ⟨g, cap, cur, hv, hg, by rw [e.block g (Array.getElem?_eq_some_iff.1 hh).1]; exact hh, r⟩⟩
theorem OwnN.less {B B' : Nat} {w : World} {v : Value} {l : List Int} (h : OwnN B w v l) (hB : B' ≤ B) : OwnN B' w v l := by
  refine ⟨?_, h.2⟩
  obtain ⟨h1, h2 | ⟨g, cap, cur, hv, hg, r⟩⟩ := h.1
  · exact ⟨h1, Or.inl h2⟩
  · exact ⟨h1, Or.inr ⟨g, cap, cur, hv, by omega, r⟩⟩
theorem run_appendN (B : Nat) (w : World) (ty : TypeId) (v : Value) (l0 l : List Int) (hown : OwnN B w v l0) (A : Option Addr) (m c : Nat) (hb : TimesAt w A l) (hm : l.length = m) (hlen : l0.length + l.length ≤ 17592186044416) (hbase : B ≤ w.heap.size) :
    ∃ v' w', (Builtin.append_ #[24, 24] ty #[v, .slice A m c]).run Try.prog w = .ok v' w' ∧ OwnN B w' v' (l0 ++ l) ∧ w.grownBy w' v.ownBlock ∧ (v'.ownBlock = v.ownBlock ∨ v'.ownBlock = some w.heap.size) := by
  subst hm
  obtain ⟨i0, hi0, hz0, hz1, hz2⟩ := info_parts info_n64
  have h63 : l0.length + l.length ≤ maxLen := by unfold maxLen; omega
  rcases A with _ | ad
  · have h0 : l = [] := by
      rcases Nat.eq_zero_or_pos l.length with h | h
      · exact List.length_eq_zero_iff.1 h
      · obtain ⟨b, off, h', _⟩ := hb.2.2 h
        cases h'
    subst h0
    refine ⟨v, w, ?_, by rw [List.append_nil]; exact hown, World.grownBy.refl w _, .inl rfl⟩
    rcases hown.1.2 with ⟨rfl, _⟩ | ⟨g, cap, cur, rfl, _, _, hnc, _⟩
    · simp [Builtin.append_, run_underlying Try.underlying24, sizeOf, typeInfo, hi0, Builtin.lenOf, Builtin.firstCells]
    · simp [Builtin.append_, run_underlying Try.underlying24, sizeOf, typeInfo, hi0, Builtin.lenOf, Builtin.firstCells, hnc, storeCells]
  · have hcells : ∀ j u, (t8s l)[j]? = some u → w.cell? (ad.add j) = some u := by
      intro j u hu
      have hj : j < l.length := by
        rcases Nat.lt_or_ge j (t8s l).length with h | h
        · rwa [t8s_len] at h
        · rw [List.getElem?_eq_none h] at hu; cases hu
      obtain ⟨b, off, h', _, hc⟩ := hb.2.2 (by omega)
      obtain rfl : ad = ⟨b, off, none⟩ := Option.some.inj h'
      rw [add_at, hc j hj, ← hu, getDT hj]
      simp [t8s, hj]
    obtain ⟨v', w', hrun, h2, h3, _, h5⟩ := run_append_own_at (P := Try.prog) w B 24 ty 3 i0 _ 1 8 Try.underlying24 hi0 hz0 hz1 hz2 rfl (by omega) v l0.length (t8s l0) hown.1 ad l.length c (t8s l) (by rw [t8s_len]; omega) hcells (t8s_one l) h63 (by omega) hbase
    refine ⟨v', w', hrun, ⟨?_, hown.2.app hb.1⟩, h3, h5⟩
    rw [t8s_app, List.length_append]
    exact h2
theorem wl_appendN {ops : Array Oper} {rest : List Oper} {o : Oper} {a : Act} {Q : Exit → Act → World → Prop} {w : World} (hgd : o.guard = none) (s x : Operand)
    (ho : o.op = .call { callee := .builtin .append, args := #[s, x], argTypes := #[24, 24] })
    (B : Nat) (v : Value) (l0 l : List Int) (hs : a.eval s = v) (hown : OwnN B w v l0) (A : Option Addr) (m c : Nat) (hx : a.eval x = .slice A m c) (hb : TimesAt w A l) (hm : l.length = m) (hlen : l0.length + l.length ≤ 17592186044416) (hbase : B ≤ w.heap.size)
    (h : ∀ v' w', OwnN B w' v' (l0 ++ l) → w.grownBy w' v.ownBlock → (v'.ownBlock = v.ownBlock ∨ v'.ownBlock = some w.heap.size) → wpList Try.prog ops Q rest (a.put o.dst v') w') : wpList Try.prog ops Q (o :: rest) a w :=
  wpList_plain hgd fun _ hK => by
    obtain ⟨v', w', hrun, h2, h3, h4⟩ := run_appendN B w o.type v l0 l hown A m c hb hm hlen hbase
    unfold Oper.wp execOp
    simp only [ho, resolve, invoke, builtin, Sem.run_bind, Sem.run_pure, Result.andThen_ok, List.map_toArray, List.map_cons, List.map_nil, hs, hx, hrun]
    exact hK _ _ (h v' w' h2 h3 h4)
/-- The element that append lays down first. -/
theorem one_atN (w : World) (x : Int) (hx : I64 x) (u : Value) (hu : u = .int .i64 x) : TimesAt (w.alloc (.cells #[u] 3)) (some ⟨w.heap.size, 0, none⟩) [x] := by
  subst hu
  refine ⟨IsT.one hx, by simp, fun _ => ⟨w.heap.size, 0, rfl, by simp, fun j hj => ?_⟩⟩
  obtain rfl : j = 0 := by simpa using hj
  rw [World.cell?_alloc_at _ _ _ _ rfl]; rfl
theorem OwnN.upd {B b : Nat} {w w' : World} {v : Value} {l : List Int} (h : OwnN B w v l) (u : Upd b w w') (hb : b < B) : OwnN B w' v l := by
  refine ⟨?_, h.2⟩
  obtain ⟨h1, h2 | ⟨g, cap, cur, hv, hg, hh, r⟩⟩ := h.1
  · exact ⟨h1, Or.inl h2⟩
  · exact ⟨h1, Or.inr ⟨g, cap, cur, hv, hg, by rw [u.2.2.2.2 g (Array.getElem?_eq_some_iff.1 hh).1 (by omega)]; exact hh, r⟩⟩
theorem own_nums {w : World} {A : Option Addr} {c cap B : Nat} {l : List Int} (h : OwnN B w (.slice A c cap) l) : TimesAt w A l := by
  obtain ⟨A', cap', he, _, _, hw⟩ := h.at_
  cases he
  exact hw
/-- Places of flushes that the tape gives: owned, at most four. -/
def FlPost (B b : Nat) (W : World) (e : Ending) (w' : World) : Prop := ∃ A m cap l, e = .returned (.slice A m cap) ∧ l.length = m ∧ m ≤ 4 ∧ OwnN W.heap.size w' (.slice A m cap) l ∧ TapeOk B w' b ∧ Upd b W w'
set_option maxHeartbeats 1600000 in
set_option maxRecDepth 100000 in
theorem t_flushes (n B b : Nat) (hn : n ≤ 1000) (W : World) (hT : TapeOk B W b) : Calls Try.prog 19 #[.pointer (some ⟨b, 0, none⟩), .int .i64 (n : Int)] W (FlPost B b W) := by
  have hbW := hT.2.1
  have i5 : I64 5 := ⟨by omega, by omega⟩
  have in3 : I64 ((n : Int) + 3) := ⟨by omega, by omega⟩
  have HT := hide hT
  clear hT
  go_enter Try.func19, Try.ntmps19
  go_wp2_with (go_at_call 10; (with_reducible refine (t_next B b 5 _ i5 HT.out).mono ?_); rintro e w1 ⟨s, rfl, hs, T1, u1⟩; obtain ⟨q, rfl⟩ := Int.eq_ofNat_of_zero_le hs.1; have hq : q ≤ 4 := (by have := hs.2.1 (by omega); omega); have T1 := hide T1; have U1 := hide u1; clear hs u1)
  go_loopw [5, 6] (fun lv iv wr => ∃ (i : Nat) (ll : List Int), iv = .int .i64 (i : Int) ∧ ll.length + i ≤ 4 ∧ Hid (OwnN W.heap.size wr lv ll) ∧ Hid (TapeOk B wr b) ∧ Hid (Upd b W wr)) (fun _ iv _ => (intOf iv).toNat)
  case atStart => exact ⟨q, [], rfl, by simp; omega, hide (OwnN.nil_ _ _), T1, U1⟩
  case round =>
    clear T1 U1 HT
    obtain ⟨i, ll, rfl, hli, HO, HT, HU⟩ := hrel
    by_cases h0 : 0 < i
    · have d0 : decide ((0 : Int) < (i : Int)) = true := decide_eq_true (by omega)
      have KN := hide (t_next B b ((n : Int) + 3) _ in3 HT.out)
      go_wp2_with (first
        | (go_at_call 10; (with_reducible refine (KN.out).mono ?_); rintro e w3 ⟨u, rfl, hu, T3, u3⟩; have hu0 := hu.1; have hu1 := hu.2.1 (by omega); obtain ⟨x, rfl⟩ : ∃ x, u = x + 1 := ⟨u - 1, by omega⟩; have x1 : -1 ≤ x := (by omega); have x2 : x ≤ 2000 := (by omega); have ix : I64 x := ⟨by omega, by omega⟩; have O3 := hide ((HO.out.upd u3 hbW).alloc (.cells #[Value.int .i64 x] 3)); have U3 := hide ((HU.out.trans u3).trans (Ext.upd (ext_alloc w3 (.cells #[Value.int .i64 x] 3)) b)); have hone := hide (one_atN w3 x ix _ rfl); have T3 := hide (T3.alloc (.cells #[Value.int .i64 x] 3)); have hsz : W.heap.size ≤ (w3.alloc (.cells #[Value.int .i64 x] 3)).heap.size := U3.out.2.2.2.1; have hle : ll.length + [x].length ≤ 17592186044416 := (by simp; omega); clear hu u3 hu0 hu1)
        | (at_builtin; refine wl_appendN rfl (.tmp 13) (.tmp 19) rfl W.heap.size _ ll [x] rfl O3.out _ 1 1 rfl hone.out rfl hle hsz ?_; intro v6 w6 hO6 hG6 hA6))
      have hG := O3.out.1.lt
      have O6 := hide hO6
      have T6 := hide (T3.out.below (grown_below hG6 (b + 1) (by omega) (fun k hk => by have := (hG k hk).1; omega)))
      have U6 := hide (upd_grown U3.out hG6 (fun k hk => (hG k hk).1))
      clear hO6 hG6 hA6 hG O3 T3 U3 hone
      go_roundw
      case rel => exact ⟨i - 1, ll ++ [x], by go_num, by simp; omega, O6, T6, U6⟩
      case measure => simp [intOf]; omega
    · obtain rfl : i = 0 := by omega
      obtain ⟨A, c, rfl, _, _, _⟩ := HO.out.at_
      have d0 : decide ((0 : Int) < ((0 : Nat) : Int)) = false := by decide
      go_wp2_with fail
      go_ret
      exact ⟨A, _, c, ll, rfl, rfl, by omega, HO.out, HT.out, HU.out⟩
end
section
open Go Go.RowKit
theorem mp_succ {α : Type} (l : List α) (pr : α → Int) (d : α) {j : Nat} (h : j < l.length) : (l.take (j + 1)).map pr = (l.take j).map pr ++ [pr (l.getD j d)] := by
  rw [List.take_succ_eq_append_getElem h, List.map_append]
  simp [List.getD_eq_getElem?_getD, h]
set_option maxHeartbeats 3200000 in
set_option maxRecDepth 100000 in
theorem p_coll (f : Nat) (pr : Int × Int → Int) (hpr : ∀ x y, I64 x → I64 y → I64 (pr (x, y))) (hK : ∀ x y w, I64 x → I64 y → Calls Try.prog f #[.agg #[.int .i64 x, .int .i64 y]] w (Ret (.int .i64 (pr (x, y))) w)) (hen : ∀ a w, (callFunc f a).run Try.prog w = .ok (.enter f a) w)
    (A : Option Addr) (n c : Nat) (l : List (Int × Int)) (W : World) (hl : SampsAt W A l) (hn : l.length = n) (hn2 : n ≤ 8796093022000) :
    Calls Try.prog 41 #[.slice A n c, .func (.func f) #[] #[]] W (TmGet (l.map pr) W) := by
  have Hs := hide hl.1
  have M1 := hide hl
  have Hm := hide hn
  have HP := hide hpr
  have HK := hide hK
  have hmk := run_mkT n n (Nat.le_refl _) (by omega)
  rw [show List.replicate n 0 = tst [] n from rfl] at hmk
  have E1 := hide (ext_alloc W (.cells (t8s (tst [] n)).toArray 2))
  have B1 := hide (Blk.new W 2 (t8s (tst [] n)).toArray)
  obtain ⟨b, hb⟩ : ∃ b, W.heap.size = b := ⟨_, rfl⟩
  have Hb := hide hb
  clear hl hn hpr hK
  go_enter Try.func41, Try.ntmps41
  go_wp2_with fail
  obtain ⟨w1, hw1⟩ : ∃ w1, W.alloc (.cells (t8s (tst [] n)).toArray 2) = w1 := ⟨_, rfl⟩
  rw [hw1] at E1 B1 ⊢
  rw [hb] at B1
  have B1 : Hid (Blk w1 b 2 (t8s (tst ((l.take 0).map pr) (n - 0))).toArray) := B1
  clear hw1 hmk hb
  go_loopw [6, 7, 13] (fun _ _ iv wr => ∃ j : Nat, j ≤ n ∧ iv = .int .i64 (j : Int) ∧ Hid (Blk wr b 2 (t8s (tst ((l.take j).map pr) (n - j))).toArray) ∧ Hid (Ext W wr)) (fun _ _ iv _ => n - (intOf iv).toNat)
  case atStart => exact ⟨0, by omega, rfl, B1, E1⟩
  case round =>
    clear B1 E1
    obtain ⟨j, hj, rfl, HB, HE⟩ := hrel
    by_cases hlt : j < n
    · have d0 : decide ((j : Int) < (n : Int)) = true := decide_eq_true (by omega)
      have him : j < l.length := by rw [Hm.out]; exact hlt
      obtain ⟨bm, om, rfl, _, hc⟩ := (M1.out.ext HE.out).2.2 (by omega)
      have ct := (hc j him).1
      have cv := (hc j him).2
      rw [← Nat.add_assoc] at cv
      have ix := fun w => idxS bm om n c j hlt w
      have iy := fun w => idxTB b n n j hlt w
      have hj := Hs.out.get j
      have htk := mp_succ l pr (0, 0) him
      obtain ⟨pt, hpt⟩ : ∃ z, (l.getD j (0, 0)).1 = z := ⟨_, rfl⟩
      obtain ⟨pv, hpv⟩ : ∃ z, (l.getD j (0, 0)).2 = z := ⟨_, rfl⟩
      have hpp : l.getD j (0, 0) = (pt, pv) := by rw [← hpt, ← hpv]
      rw [hpp] at htk
      rw [hpt] at ct hj
      rw [hpv] at cv hj
      have KC := hide (fun w => HK.out pt pv w hj.1 hj.2)
      obtain ⟨q, hq⟩ : ∃ q, pr (pt, pv) = q := ⟨_, rfl⟩
      rw [hq] at KC htk
      have hll : ((l.take j).map pr).length = j := by rw [List.length_map, List.length_take]; omega
      have hnj : n - j = (n - (j + 1)) + 1 := by omega
      obtain ⟨T, hT⟩ : ∃ T, (l.take j).map pr = T := ⟨_, rfl⟩
      rw [hT] at HB htk hll
      rw [hnj] at HB
      have HBs := hide (fun q => tst_set T (n - (j + 1)) q j hll)
      have Htk := hide htk
      have cx := HB.out.cell j
      rw [tst_get T (n - (j + 1)) j hll] at cx
      have fx := HB.out.frozen j
      have cx2 := ((ext_alloc wr (.cells #[.int .i64 pt, .int .i64 pv] 47)).cell (p := ⟨b, j, none⟩) HB.out.lt).trans cx
      have B2 := hide (HB.out.alloc (.cells #[.int .i64 pt, .int .i64 pv] 47))
      have E2 := hide (Ext.trans HE.out (ext_alloc wr (.cells #[.int .i64 pt, .int .i64 pv] 47)))
      clear hc him hpt hpv hpp hT htk hnj hll HB HE
      go_wp2_with fail
      (with_reducible refine (KC.out _).mono ?_)
      rintro e w3 ⟨rfl, hE3⟩
      have cx3 := (hE3.cell (p := ⟨b, j, none⟩) B2.out.lt).trans cx2
      have B3 := B2.out.ext hE3
      have fx3 := B3.frozen j
      have B4 := B3.set_ j (.int .i64 q)
      rw [HBs.out q, ← Htk.out] at B4
      have B4 := hide B4
      have E4 := hide (Below.setCell (Ext.trans E2.out hE3) (p := ⟨b, j, none⟩) (by rw [← Hb.out]; exact Nat.le_refl _) (.int .i64 q))
      clear B2 B3 E2 hE3 cx cx2 fx
      go_wp2_with fail
      go_roundw
      case rel => exact ⟨j + 1, by omega, by go_num, B4, E4⟩
      case measure => simp [intOf]; omega
    · obtain rfl : j = n := by omega
      have d0 : decide ((j : Int) < (j : Int)) = false := decide_eq_false (by omega)
      have hB := HB.out
      rw [List.take_of_length_le (by rw [Hm.out]; omega), show j - j = 0 by omega] at hB
      have hB := hide hB
      go_wp2_with fail
      go_ret
      have hB3 : Blk wr b 2 (t8s (List.map pr l ++ [])).toArray := by have := hB.out; simpa [tst] using this
      have hO := own_ofT (cap := j) (m := []) (Nat.le_refl b) hB3 (by rw [List.length_map]; exact Hm.out) rfl (by omega) (fun x hx => by
        obtain ⟨y, hy, rfl⟩ := List.mem_map.1 hx
        exact HP.out _ _ (Hs.out y hy).1 (Hs.out y hy).2)
      obtain ⟨A1, c1, e1, _, _, hs⟩ := hO.at_
      exact ⟨A1, c1, by rw [← e1]; rfl, hs, HE.out⟩
theorem p_timesF (x y : Int) (w : World) : Calls Try.prog 42 #[.agg #[.int .i64 x, .int .i64 y]] w (Ret (.int .i64 x) w) := by
  go_enter Try.func42, Try.ntmps42
  go_wp2_with fail
  go_ret
  exact ⟨rfl, ext_alloc _ _⟩
theorem p_valuesF (x y : Int) (w : World) : Calls Try.prog 43 #[.agg #[.int .i64 x, .int .i64 y]] w (Ret (.int .i64 y) w) := by
  go_enter Try.func43, Try.ntmps43
  go_wp2_with fail
  go_ret
  exact ⟨rfl, ext_alloc _ _⟩
theorem p_timesS (A : Option Addr) (n c : Nat) (l : List (Int × Int)) (W : World) (hl : SampsAt W A l) (hn : l.length = n) (hn2 : n ≤ 8796093022000) :
    Calls Try.prog 30 #[.slice A n c] W (TmGet (l.map Prod.fst) W) := by
  have K := hide (p_coll 42 Prod.fst (fun x y h _ => h) (fun x y w _ _ => p_timesF x y w) (fun a w => by go_simp) A n c l W hl hn hn2)
  clear hl hn
  go_enter Try.func30, Try.ntmps30
  go_wp2_with (go_at_call 41; (with_reducible refine (K.out).mono ?_); rintro e w1 ⟨A1, c1, rfl, h1, hE⟩)
  go_ret
  exact ⟨A1, c1, by rw [List.length_map]; rfl, h1, hE⟩
theorem p_valsS (A : Option Addr) (n c : Nat) (l : List (Int × Int)) (W : World) (hl : SampsAt W A l) (hn : l.length = n) (hn2 : n ≤ 8796093022000) :
    Calls Try.prog 31 #[.slice A n c] W (TmGet (l.map Prod.snd) W) := by
  have K := hide (p_coll 43 Prod.snd (fun x y _ h => h) (fun x y w _ _ => p_valuesF x y w) (fun a w => by go_simp) A n c l W hl hn hn2)
  clear hl hn
  go_enter Try.func31, Try.ntmps31
  go_wp2_with (go_at_call 41; (with_reducible refine (K.out).mono ?_); rintro e w1 ⟨A1, c1, rfl, h1, hE⟩)
  go_ret
  exact ⟨A1, c1, by rw [List.length_map]; rfl, h1, hE⟩
theorem p_checkS (A : Option Addr) (n c : Nat) (l : List (Int × Int)) (W : World) (hl : SampsAt W A l) (hn : l.length = n) (hn2 : n ≤ 8796093022000) (v : Nat) (hv : chkS l = v) :
    Calls Try.prog 27 #[.slice A n c] W (Ret (.int .i64 (v : Int)) W) := by
  have KT : Hid (Calls Try.prog 30 #[.slice A n c] W fun e w' => ∃ A1 c1, e = .returned (.slice A1 n c1) ∧ TimesAt w' A1 (l.map Prod.fst) ∧ Ext W w') := hide ((p_timesS A n c l W hl hn hn2).mono fun e w' h => by
    obtain ⟨A1, c1, rfl, hw, hE⟩ := h
    exact ⟨A1, c1, by rw [List.length_map, hn], hw, hE⟩)
  have KI : Hid (∀ A1 c1 w, TimesAt w A1 (l.map Prod.fst) → Calls Try.prog 39 #[.slice A1 n c1] w (Ret (.bool (incB (l.map Prod.fst))) w)) := hide (fun A1 c1 w h => p_inc A1 n c1 (l.map Prod.fst) w h (by rw [List.length_map]; exact hn) _ rfl)
  unfold chkS at hv
  obtain ⟨i, hi⟩ : ∃ i, incB (l.map Prod.fst) = i := ⟨_, rfl⟩
  rw [hi] at hv KI
  clear hl hn hi
  cases i with
  | true =>
    rw [if_pos rfl] at hv
    subst hv
    go_enter Try.func27, Try.ntmps27
    go_wp2_with (first
      | (go_at_call 30; (with_reducible refine (KT.out).mono ?_); rintro e w1 ⟨A1, c1, rfl, h1, hE1⟩; have K2 := hide (KI.out A1 c1 w1 h1); have E1 := hide hE1; clear h1 hE1)
      | (go_at_call 39; (with_reducible refine (K2.out).mono ?_); rintro e w2 ⟨rfl, hE2⟩))
    go_ret
    exact ⟨rfl, E1.out.trans hE2⟩
  | false =>
    rw [if_neg (by simp)] at hv
    subst hv
    go_enter Try.func27, Try.ntmps27
    go_wp2_with (first
      | (go_at_call 30; (with_reducible refine (KT.out).mono ?_); rintro e w1 ⟨A1, c1, rfl, h1, hE1⟩; have K2 := hide (KI.out A1 c1 w1 h1); have E1 := hide hE1; clear h1 hE1)
      | (go_at_call 39; (with_reducible refine (K2.out).mono ?_); rintro e w2 ⟨rfl, hE2⟩))
    go_ret
    exact ⟨rfl, E1.out.trans hE2⟩
end
section
open Go Go.RowKit Go.Sort
def ssq (acc : List (Int × Int)) (m : Nat) : List (Int × Int) := acc ++ List.replicate m (0, 0)
theorem ssq_set (acc : List (Int × Int)) (m : Nat) (x y : Int) (k : Nat) (hk : acc.length = k) : ((s8s (ssq acc (m + 1))).toArray.setIfInBounds (2 * k) (.int .i64 x)).setIfInBounds (2 * k + 1) (.int .i64 y) = (s8s (ssq (acc ++ [(x, y)]) m)).toArray := by
  subst hk
  unfold ssq
  rw [List.replicate_succ, s8s_app, s8s_app, s8s_app]
  have h1 : s8s ((0, 0) :: List.replicate m (0, 0)) = .int .i64 0 :: .int .i64 0 :: s8s (List.replicate m (0, 0)) := rfl
  have h2 : s8s [(x, y)] = [.int .i64 x, .int .i64 y] := rfl
  have hl := s8s_len acc
  rw [h1, h2, Nat.mul_comm 2, ← hl]
  simp
theorem ssq_get (acc : List (Int × Int)) (m k : Nat) (hk : acc.length = k) : (s8s (ssq acc (m + 1))).toArray[2 * k]? = some (.int .i64 0) ∧ (s8s (ssq acc (m + 1))).toArray[2 * k + 1]? = some (.int .i64 0) := by
  subst hk
  unfold ssq
  rw [List.replicate_succ, s8s_app]
  have h1 : s8s ((0, 0) :: List.replicate m (0, 0)) = .int .i64 0 :: .int .i64 0 :: s8s (List.replicate m (0, 0)) := rfl
  have hl := s8s_len acc
  rw [h1, Nat.mul_comm 2, ← hl]
  simp
theorem made_s (m : Nat) : madeCells (Value.agg #[.int .i64 0, .int .i64 0]).cells (m * 2) = (s8s (List.replicate m (0, 0))).toArray := by
  apply Array.toList_inj.1
  simp only [madeCells, Value.cells]
  induction m with
  | zero => simp [s8s]
  | succ m ih =>
    rw [List.replicate_succ', s8s_app, ← ih, Nat.add_mul, Nat.one_mul]
    have e : Array.range (m * 2 + 2) = ((Array.range (m * 2)).push (m * 2)).push (m * 2 + 1) := by simp [Array.range_succ]
    rw [e]
    have h1 : m * 2 % 2 = 0 := by omega
    have h2 : (m * 2 + 1) % 2 = 1 := by omega
    simp [s8s, h1, h2]
theorem run_mkS (n : Nat) (hm : n ≤ 8796093022000) (w : World) : (Instr.makeSlice 22 (.int .i64 (n : Int)) (.int .i64 (n : Int))).run Try.prog w = .ok (.slice (some ⟨w.heap.size, 0, none⟩) n n) (w.alloc (.cells (s8s (ssq [] n)).toArray 47)) := by
  obtain ⟨i0, hi0, hz0, hz1, hz2⟩ := info_parts2 info_sm
  have := run_make (P := Try.prog) w 22 47 i0 (.agg #[.int .i64 0, .int .i64 0]) Try.underlying22 hi0 hz0 .i64 .i64 (n : Int) (n : Int) (by omega) (by omega) (by rw [hz2]; omega) (by omega)
  rw [this, hz1, Int.toNat_natCast, made_s]
  rfl
theorem own_mkS {B : Nat} {w : World} {g n : Nat} {l : List (Int × Int)} (hB : B ≤ g) (hh : Blk w g 47 (s8s l).toArray) (hn : l.length = n) (hm : n ≤ 9223372036854775807) (hs : IsS l) : OwnS B w (.slice (some ⟨g, 0, none⟩) n n) l := by
  subst hn
  refine ⟨⟨s8s_len l, Or.inr ⟨g, l.length, _, rfl, hB, hh, Nat.le_refl _, by unfold maxLen; omega, ?_, ?_⟩⟩, hs⟩
  · simp [s8s_len]
  · rw [show l.length * 2 = (s8s l).length from (s8s_len l).symm]; simp
theorem zip_isS {x y : List Int} (hx : IsT x) (hy : IsT y) : IsS (x.zip y) := fun p hp => ⟨hx _ (List.of_mem_zip (b := p.2) hp).1, hy _ (List.of_mem_zip (a := p.1) hp).2⟩
set_option maxHeartbeats 3200000 in
set_option maxRecDepth 100000 in
theorem p_joinS (A A2 : Option Addr) (n n2 c c2 : Nat) (x y : List Int) (W : World) (hx : TimesAt W A x) (hxn : x.length = n) (hy : TimesAt W A2 y) (hyn : y.length = n2) (hn2 : n ≤ 1048576) :
    Calls Try.prog 11 #[.slice A n c, .slice A2 n2 c2] W (SmRet (jnL x y) W) := by
  have hn263 : n2 ≤ 9223372036854775807 := by have := hy.2.1; omega
  by_cases hne : n = n2
  · subst hne
    have d0 : ((n : Int) != (n : Int)) = false := by simp
    have e : jnL x y = some (x.zip y) := if_pos (by omega)
    rw [e]
    have HX := hide hx
    have HY := hide hy
    have Hxn := hide hxn
    have Hyn := hide hyn
    have Hx1 := hide hx.1
    have Hy1 := hide hy.1
    have hmk := run_mkS n (by omega)
    have E1 := hide (ext_alloc W (.cells (s8s (ssq [] n)).toArray 47))
    have B1 := hide (Blk.new W 47 (s8s (ssq [] n)).toArray)
    obtain ⟨b, hb⟩ : ∃ b, W.heap.size = b := ⟨_, rfl⟩
    have Hb := hide hb
    clear hx hy hxn hyn e
    go_enter Try.func11, Try.ntmps11
    go_wp2_with fail
    obtain ⟨w1, hw1⟩ : ∃ w1, W.alloc (.cells (s8s (ssq [] n)).toArray 47) = w1 := ⟨_, rfl⟩
    rw [hw1] at E1 B1 ⊢
    rw [hb] at B1
    have B1 : Hid (Blk w1 b 47 (s8s (ssq ((x.zip y).take 0) (n - 0))).toArray) := B1
    clear hw1 hmk hb
    go_loopw [7, 8, 19] (fun _ _ iv wr => ∃ i : Nat, i ≤ n ∧ iv = .int .i64 (i : Int) ∧ Hid (Blk wr b 47 (s8s (ssq ((x.zip y).take i) (n - i))).toArray) ∧ Hid (Ext W wr)) (fun _ _ iv _ => n - (intOf iv).toNat)
    case atStart => exact ⟨0, by omega, rfl, B1, E1⟩
    case round =>
      clear E1 B1
      obtain ⟨i, hi, rfl, HB, HE⟩ := hrel
      by_cases hlt : i < n
      · have d1 : decide ((i : Int) < (n : Int)) = true := decide_eq_true (by omega)
        have hix : i < x.length := by rw [Hxn.out]; exact hlt
        have hiy : i < y.length := by rw [Hyn.out]; exact hlt
        obtain ⟨b1, o1, rfl, _, hc1⟩ := (HX.out.ext HE.out).2.2 (by omega)
        obtain ⟨b2, o2, rfl, _, hc2⟩ := (HY.out.ext HE.out).2.2 (by omega)
        have c1 := hc1 i hix
        have c2' := hc2 i hiy
        have hst := zip_take hix hiy
        obtain ⟨p, hp⟩ : ∃ p, x.getD i 0 = p := ⟨_, rfl⟩
        obtain ⟨q, hq⟩ : ∃ q, y.getD i 0 = q := ⟨_, rfl⟩
        rw [hp] at c1 hst
        rw [hq] at c2' hst
        have ixa := fun w => idxT b1 o1 n c i hlt w
        have ixb := fun w => idxT b2 o2 n c2 i hlt w
        have ixs := fun w => idxS b 0 n n i hlt w
        rw [Nat.zero_add] at ixs
        obtain ⟨T, hT⟩ : ∃ T, (x.zip y).take i = T := ⟨_, rfl⟩
        have hTl : T.length = i := by rw [← hT, List.length_take, List.length_zip]; omega
        rw [hT] at HB hst
        rw [show n - i = (n - (i + 1)) + 1 by omega] at HB
        have HS := hide (fun x y => ssq_set T (n - (i + 1)) x y i hTl)
        obtain ⟨s1, s2⟩ := ssq_get T (n - (i + 1)) i hTl
        have k1 := HB.out.cell (2 * i)
        have k2 := HB.out.cell (2 * i + 1)
        rw [s1] at k1
        rw [s2] at k2
        have f1 := HB.out.frozen (2 * i)
        have f2 := HB.out.frozen (2 * i + 1)
        have Hst := hide hst
        clear hc1 hc2 hp hq hst hT hix hiy hTl s1 s2
        have B2 := (HB.out.set_ (2 * i) (.int .i64 p)).set_ (2 * i + 1) (.int .i64 q)
        rw [HS.out p q, ← Hst.out] at B2
        have B2 := hide B2
        have hbb : W.heap.size ≤ b := by rw [← Hb.out]; exact Nat.le_refl _
        have E2 := hide (Below.setCell (Below.setCell HE.out (p := ⟨b, 2 * i, none⟩) hbb (.int .i64 p)) (p := ⟨b, 2 * i + 1, none⟩) hbb (.int .i64 q))
        clear hbb HB HE HS
        go_wp2_with fail
        go_roundw
        case rel => exact ⟨i + 1, by omega, by go_num, B2, E2⟩
        case measure => simp [intOf]; omega
      · obtain rfl : i = n := by omega
        have d1 : decide ((i : Int) < (i : Int)) = false := decide_eq_false (by omega)
        have hB := HB.out
        rw [List.take_of_length_le (by rw [List.length_zip, Hxn.out, Hyn.out]; omega), show i - i = 0 by omega] at hB
        have hB := hide hB
        go_wp2_with fail
        go_ret2
        have hB3 : Blk wr b 47 (s8s (x.zip y)).toArray := by have := hB.out; simpa [ssq] using this
        exact ⟨_, rfl, own_mkS (by rw [← Hb.out]; exact Nat.le_refl _) hB3 (by rw [show (some (x.zip y)).getD [] = x.zip y from rfl, List.length_zip, Hxn.out, Hyn.out]; omega) (by omega) (zip_isS Hx1.out Hy1.out), HE.out⟩
  · have d0 : ((n : Int) != (n2 : Int)) = true := by rw [bne_iff_ne]; omega
    have e : jnL x y = none := if_neg (by omega)
    rw [e]
    clear hx hy hxn hyn e hne
    go_enter Try.func11, Try.ntmps11
    go_wp2_with fail
    go_ret2
    exact ⟨_, rfl, OwnS.nil_ _ _, Ext.refl _⟩
end
section
open Go Go.RowKit Go.Sort
set_option maxHeartbeats 3200000 in
set_option maxRecDepth 100000 in
theorem p_rangeS (A : Option Addr) (n c : Nat) (l : List (Int × Int)) (f t : Int) (W : World) (hl : SampsAt W A l) (hn : l.length = n) (hn2 : n ≤ 8796093022000) (hf : I64 f) (ht : I64 t) :
    Calls Try.prog 25 #[.slice A n c, .int .i64 f, .int .i64 t] W (SmGet (rgL l f t) W) := by
  have Hs := hide hl.1
  have M1 := hide hl
  have Hm := hide hn
  have E1 : Hid (Ext W W) := Ext.refl _
  clear hl hn
  go_enter Try.func25, Try.ntmps25
  go_wp2_with fail
  go_loopw [7, 9, 12] (fun lv _ iv wr => ∃ i : Nat, i ≤ n ∧ iv = .int .i64 (i : Int) ∧ Hid (OwnS W.heap.size wr lv (rgL (l.take i) f t)) ∧ Hid (Ext W wr)) (fun _ _ iv _ => n - (intOf iv).toNat)
  case atStart => exact ⟨0, by omega, rfl, hide (OwnS.nil_ _ _), E1⟩
  case round =>
    clear E1
    obtain ⟨i, hi, rfl, HO, HE⟩ := hrel
    by_cases hlt : i < n
    · have d0 : decide ((i : Int) < (n : Int)) = true := decide_eq_true (by omega)
      have him : i < l.length := by rw [Hm.out]; exact hlt
      obtain ⟨bm, om, rfl, _, hc⟩ := (M1.out.ext HE.out).2.2 (by omega)
      have ct := (hc i him).1
      have cv := (hc i him).2
      rw [← Nat.add_assoc] at cv
      have ix := fun w => idxS bm om n c i hlt w
      have hst := rgL_take l f t him
      have hj := Hs.out.get i
      have hTl : (rgL (l.take i) f t).length ≤ i := Nat.le_trans (rgL_len _ _ _) (by rw [List.length_take]; omega)
      obtain ⟨pt, hpt⟩ : ∃ z, (l.getD i (0, 0)).1 = z := ⟨_, rfl⟩
      obtain ⟨pv, hpv⟩ : ∃ z, (l.getD i (0, 0)).2 = z := ⟨_, rfl⟩
      have hpp : l.getD i (0, 0) = (pt, pv) := by rw [← hpt, ← hpv]
      rw [hpt, hpp] at hst
      rw [hpt] at ct hj
      rw [hpv] at cv hj
      obtain ⟨T, hT⟩ : ∃ T, rgL (l.take i) f t = T := ⟨_, rfl⟩
      rw [hT] at HO hst hTl
      have E0 := hide (Ext.trans HE.out (ext_alloc wr (.cells #[Value.int .i64 pt, Value.int .i64 pv] 47)))
      have O0 := hide (HO.out.alloc (.cells #[Value.int .i64 pt, Value.int .i64 pv] 47))
      clear hc him hpt hpv hpp hT HE HO
      by_cases h1 : f ≤ pt
      · have d1 : decide (f ≤ pt) = true := decide_eq_true h1
        by_cases h2 : pt ≤ t
        · have d2 : decide (pt ≤ t) = true := decide_eq_true h2
          rw [if_pos ⟨h1, h2⟩] at hst
          have Hst := hide hst
          have O3 := hide (O0.out.alloc (.cells #[Value.int .i64 pt, Value.int .i64 pv] 47))
          have hone := one_atS (wr.alloc (.cells #[Value.int .i64 pt, Value.int .i64 pv] 47)) pt pv hj.1 hj.2
          rw [World.size_alloc] at hone
          have hone := hide hone
          have E3 := hide (Ext.trans E0.out (ext_alloc _ (.cells #[Value.int .i64 pt, Value.int .i64 pv] 47)))
          have hle : T.length + [(pt, pv)].length ≤ 8796093022208 := by simp; omega
          clear hst h1 h2 O0 E0
          go_wp2_with (at_builtin; refine wl_appendS rfl (.tmp 26) (.tmp 28) rfl W.heap.size _ T [(pt, pv)] rfl O3.out _ 1 1 rfl hone.out rfl hle E3.out.size ?_; intro v6 w6 hO6 hG6 hA6)
          have O6 : Hid (OwnS W.heap.size w6 v6 (rgL (l.take (i + 1)) f t)) := by show OwnS _ _ _ _; rw [Hst.out]; exact hO6
          have E6 := hide (below_grownS E3.out (Nat.le_refl _) O3.out hG6)
          clear hO6 hG6 hA6 O3 E3
          go_roundw
          case rel => exact ⟨i + 1, by omega, by go_num, O6, E6⟩
          case measure => simp [intOf]; omega
        · have d2 : decide (pt ≤ t) = false := decide_eq_false h2
          rw [if_neg (fun h => h2 h.2), List.append_nil] at hst
          have O6 := hide (show OwnS W.heap.size _ _ (rgL (l.take (i + 1)) f t) by rw [hst]; exact O0.out)
          clear hst h1 h2
          go_wp2_with fail
          go_roundw
          case rel => exact ⟨i + 1, by omega, by go_num, O6, E0⟩
          case measure => simp [intOf]; omega
      · have d1 : decide (f ≤ pt) = false := decide_eq_false h1
        rw [if_neg (fun h => h1 h.1), List.append_nil] at hst
        have O6 := hide (show OwnS W.heap.size _ _ (rgL (l.take (i + 1)) f t) by rw [hst]; exact O0.out)
        clear hst h1
        go_wp2_with fail
        go_roundw
        case rel => exact ⟨i + 1, by omega, by go_num, O6, E0⟩
        case measure => simp [intOf]; omega
    · obtain rfl : i = n := by omega
      have d0 : decide ((i : Int) < (i : Int)) = false := decide_eq_false (by omega)
      have hO := HO.out
      rw [List.take_of_length_le (by rw [Hm.out]; omega)] at hO
      have hO := hide hO
      go_wp2_with fail
      go_ret
      exact sm_get hO.out HE.out
theorem p_nearS (a b e : Int) (W : World) (ha : I64 a) (hb : I64 b) (he : I64 e) (v : Bool) (hv : nearV a b e = v) :
    Calls Try.prog 46 #[.int .i64 a, .int .i64 b, .int .i64 e] W (RetSame (.bool v) W) := by
  unfold nearV at hv
  have K := hide (fun w => p_dist a b w ha hb)
  obtain ⟨d, hd⟩ : ∃ d, (a - b).natAbs = d := ⟨_, rfl⟩
  rw [hd] at K hv
  by_cases h0 : 0 ≤ e
  · have d0 : decide ((0 : Int) ≤ e) = true := decide_eq_true h0
    have ec : IntKind.u64.wrap e = e := by rw [wrap_u64']; unfold I64 at he; omega
    have d1 : decide ((d : Int) ≤ e) = v := by rw [← hv]; simp [h0]
    have Hv := hide d1
    clear hv ha hb hd
    go_enter Try.func46, Try.ntmps46
    go_wp2_with (go_at_call 49; (with_reducible refine (K.out _).mono ?_); rintro e w3 ⟨rfl, rfl⟩)
    go_ret
    exact ⟨rfl, rfl⟩
  · have d0 : decide ((0 : Int) ≤ e) = false := decide_eq_false h0
    have ev : v = false := by rw [← hv]; simp [h0]
    subst ev
    clear hv ha hb hd K
    go_enter Try.func46, Try.ntmps46
    go_wp2_with fail
    go_ret
    exact ⟨rfl, rfl⟩
/-- The test that Within hands on: the closure's cell holds the tolerance. -/
theorem p_withinF (g : Nat) (xt xv yt yv ep : Int) (w : World) (h1 : I64 xt) (h2 : I64 xv) (h3 : I64 yt) (h4 : I64 yv) (he : I64 ep) (h : Blk w g 2 #[.int .i64 ep]) (v : Bool) (hv : (decide (xt = yt) && nearV xv yv ep) = v) :
    Calls Try.prog 45 #[.agg #[.int .i64 xt, .int .i64 xv], .agg #[.int .i64 yt, .int .i64 yv], .pointer (some ⟨g, 0, none⟩)] w (Ret (.bool v) w) := by
  have c0 : w.cell? ⟨g, 0, none⟩ = some (.int .i64 ep) := h.cell 0
  obtain ⟨nv, hnv⟩ : ∃ nv, nearV xv yv ep = nv := ⟨_, rfl⟩
  have KN := hide (fun w => p_nearS xv yv ep w h2 h4 he nv hnv)
  rw [hnv] at hv
  have hg := h.lt
  have c1 : ∀ o1 o2, ((w.alloc o1).alloc o2).cell? ⟨g, 0, none⟩ = some (.int .i64 ep) := fun o1 o2 => (((ext_alloc w o1).trans (ext_alloc _ o2)).cell (p := ⟨g, 0, none⟩) hg).trans c0
  clear hnv h hg c0
  by_cases ht : xt = yt
  · have d1 : (xt == yt) = true := by subst ht; simp
    rw [decide_eq_true ht, Bool.true_and] at hv
    subst hv
    clear ht
    go_enter Try.func45, Try.ntmps45
    go_wp2_with (go_at_call 46; (with_reducible refine (KN.out _).mono ?_); rintro e w1 ⟨rfl, rfl⟩)
    go_ret
    exact ⟨rfl, (ext_alloc _ _).trans (ext_alloc _ _)⟩
  · have d1 : (xt == yt) = false := by simp [ht]
    rw [decide_eq_false ht, Bool.false_and] at hv
    subst hv
    clear ht
    go_enter Try.func45, Try.ntmps45
    go_wp2_with (go_at_call 46; (with_reducible refine (KN.out _).mono ?_); rintro e w1 ⟨rfl, rfl⟩)
    go_ret
    exact ⟨rfl, (ext_alloc _ _).trans (ext_alloc _ _)⟩
set_option maxHeartbeats 3200000 in
set_option maxRecDepth 100000 in
theorem p_eqfS (A A2 : Option Addr) (n n2 c c2 g : Nat) (x y : List (Int × Int)) (ep : Int) (W : World) (hx : SampsAt W A x) (hxn : x.length = n) (hy : SampsAt W A2 y) (hyn : y.length = n2) (hep : I64 ep) (hg : Blk W g 2 #[.int .i64 ep]) (v : Bool) (hv : wiB x y ep = v) :
    Calls Try.prog 44 #[.slice A n c, .slice A2 n2 c2, .func (.func 45) #[] #[.pointer (some ⟨g, 0, none⟩)]] W (Ret (.bool v) W) := by
  have hn63 : n ≤ 9223372036854775807 := by have := hx.2.1; omega
  have hn263 : n2 ≤ 9223372036854775807 := by have := hy.2.1; omega
  by_cases hne : n = n2
  · subst hne
    have d0 : ((n : Int) != (n : Int)) = false := by simp
    have hen : ∀ a w, (callFunc 45 a).run Try.prog w = .ok (.enter 45 a) w := fun a w => by go_simp
    have HX := hide hx
    have HY := hide hy
    have Hxn := hide hxn
    have Hyn := hide hyn
    have Hx1 := hide hx.1
    have Hy1 := hide hy.1
    have Hv := hide hv
    have HG := hide hg
    have KF := hide (fun xt xv yt yv w h1 h2 h3 h4 h v hv => p_withinF g xt xv yt yv ep w h1 h2 h3 h4 hep h v hv)
    have E1 : Hid (Ext W W) := Ext.refl _
    clear hx hy hxn hyn hv hg
    go_enter Try.func44, Try.ntmps44
    go_wp2_with fail
    go_loopw [7, 8, 9, 17] (fun _ _ _ iv wr => ∃ i : Nat, i ≤ n ∧ iv = .int .i64 (i : Int) ∧ Hid (Ext W wr) ∧ Hid (∀ j, j < i → (x.getD j (0, 0)).1 = (y.getD j (0, 0)).1 ∧ nearV (x.getD j (0, 0)).2 (y.getD j (0, 0)).2 ep = true)) (fun _ _ _ iv _ => n - (intOf iv).toNat)
    case atStart => exact ⟨0, by omega, rfl, E1, hide (fun j hj => by omega)⟩
    case round =>
      clear E1
      obtain ⟨i, hi, rfl, HE, HT⟩ := hrel
      by_cases hlt : i < n
      · have d1 : decide ((i : Int) < (n : Int)) = true := decide_eq_true (by omega)
        have hix : i < x.length := by rw [Hxn.out]; exact hlt
        have hiy : i < y.length := by rw [Hyn.out]; exact hlt
        obtain ⟨b1, o1, rfl, hb1, hc1⟩ := (HX.out.ext HE.out).2.2 (by omega)
        obtain ⟨b2, o2, rfl, hb2, hc2⟩ := (HY.out.ext HE.out).2.2 (by omega)
        have p1 := (hc1 i hix).1
        have p2 := (hc1 i hix).2
        have q1 := (hc2 i hiy).1
        have q2 := (hc2 i hiy).2
        rw [← Nat.add_assoc] at p2 q2
        have j1 := Hx1.out.get i
        have j2 := Hy1.out.get i
        have ixa := fun w => idxS b1 o1 n c i hlt w
        have ixb := fun w => idxS b2 o2 n c2 i hlt w
        have hs : Hid ((x.getD i (0, 0)).1 = (y.getD i (0, 0)).1 → nearV (x.getD i (0, 0)).2 (y.getD i (0, 0)).2 ep = true → ∀ j, j < i + 1 → (x.getD j (0, 0)).1 = (y.getD j (0, 0)).1 ∧ nearV (x.getD j (0, 0)).2 (y.getD j (0, 0)).2 ep = true) := hide (fun h1 h2 j hj => by
          by_cases e : j = i
          · subst e; exact ⟨h1, h2⟩
          · exact HT.out j (by omega))
        have hn : Hid (¬ ((x.getD i (0, 0)).1 = (y.getD i (0, 0)).1 ∧ nearV (x.getD i (0, 0)).2 (y.getD i (0, 0)).2 ep = true) → wiB x y ep = false) := hide (fun h => by
          unfold wiB
          exact decide_eq_false (fun q => h (q.2 i hix)))
        obtain ⟨xt, hxt⟩ : ∃ z, (x.getD i (0, 0)).1 = z := ⟨_, rfl⟩
        obtain ⟨xv, hxv⟩ : ∃ z, (x.getD i (0, 0)).2 = z := ⟨_, rfl⟩
        obtain ⟨yt, hyt⟩ : ∃ z, (y.getD i (0, 0)).1 = z := ⟨_, rfl⟩
        obtain ⟨yv, hyv⟩ : ∃ z, (y.getD i (0, 0)).2 = z := ⟨_, rfl⟩
        rw [hxt] at p1 hs hn
        rw [hxv] at p2 hs hn
        rw [hyt] at q1 hs hn
        rw [hyv] at q2 hs hn
        rw [hxt, hxv] at j1
        rw [hyt, hyv] at j2
        have X1 := ext_alloc wr (.cells #[Value.int .i64 xt, Value.int .i64 xv] 47)
        have r1 := (X1.cell (p := ⟨b2, o2 + 2 * i, none⟩) hb2).trans q1
        have r2 := (X1.cell (p := ⟨b2, o2 + 2 * i + 1, none⟩) hb2).trans q2
        have X2 := ext_alloc (wr.alloc (.cells #[Value.int .i64 xt, Value.int .i64 xv] 47)) (.cells #[Value.int .i64 yt, Value.int .i64 yv] 47)
        have E3 := hide ((HE.out.trans X1).trans X2)
        have hG3 := HG.out.ext E3.out
        obtain ⟨nv, hnv⟩ : ∃ nv, (decide (xt = yt) && nearV xv yv ep) = nv := ⟨_, rfl⟩
        have KF1 := hide (KF.out xt xv yt yv _ j1.1 j1.2 j2.1 j2.2 hG3 nv hnv)
        clear hc1 hc2 hxt hxv hyt hyv hix hiy X1 X2 q1 q2 hG3 hb1 hb2
        cases nv with
        | true =>
          rw [Bool.and_eq_true, decide_eq_true_eq] at hnv
          have hs2 := hide (hs.out hnv.1 hnv.2)
          clear hnv hs hn
          go_wp2_with fail
          (with_reducible refine (KF1.out).mono ?_)
          rintro e w3 ⟨rfl, hE3⟩
          have E4 := hide (E3.out.trans hE3)
          clear hE3 E3
          go_wp2_with fail
          go_roundw
          case rel => exact ⟨i + 1, by omega, by go_num, E4, hs2⟩
          case measure => simp [intOf]; omega
        | false =>
          have hf := hide (hn.out (fun h => by rw [decide_eq_true h.1, h.2] at hnv; exact absurd hnv (by simp)))
          clear hnv hs hn
          go_wp2_with fail
          (with_reducible refine (KF1.out).mono ?_)
          rintro e w3 ⟨rfl, hE3⟩
          go_wp2_with fail
          go_ret
          exact ⟨by rw [← Hv.out, hf.out]; rfl, E3.out.trans hE3⟩
      · obtain rfl : i = n := by omega
        have d1 : decide ((i : Int) < (i : Int)) = false := decide_eq_false (by omega)
        have ht : wiB x y ep = true := decide_eq_true ⟨by rw [Hxn.out, Hyn.out], fun j hj => HT.out j (by rw [Hxn.out] at hj; exact hj)⟩
        have Ht := hide ht
        clear ht
        go_wp2_with fail
        go_ret
        exact ⟨by rw [← Hv.out, Ht.out]; rfl, HE.out⟩
  · have d0 : ((n : Int) != (n2 : Int)) = true := by rw [bne_iff_ne]; omega
    have e : wiB x y ep = false := decide_eq_false (fun h => hne (by rw [← hxn, ← hyn]; exact h.1))
    have ev : v = false := by rw [← hv, e]
    subst ev
    clear hx hy hxn hyn e hne hv hg
    go_enter Try.func44, Try.ntmps44
    go_wp2_with fail
    go_ret
    exact ⟨rfl, Ext.refl _⟩
theorem p_withinS (A A2 : Option Addr) (n n2 c c2 : Nat) (x y : List (Int × Int)) (ep : Int) (W : World) (hx : SampsAt W A x) (hxn : x.length = n) (hy : SampsAt W A2 y) (hyn : y.length = n2) (hep : I64 ep) (v : Bool) (hv : wiB x y ep = v) :
    Calls Try.prog 32 #[.slice A n c, .slice A2 n2 c2, .int .i64 ep] W (Ret (.bool v) W) := by
  have hmf : ∀ (fn : Fn) (first cap : Array Value) (w : World), (Instr.makeFunc fn first cap).run Try.prog w = .ok (.func fn first cap) w := fun _ _ _ _ => rfl
  have E1 := ext_alloc W (.cells #[Value.int .i64 ep] 2)
  have K := hide (p_eqfS A A2 n n2 c c2 W.heap.size x y ep _ (hx.ext E1) hxn (hy.ext E1) hyn hep (Blk.new W 2 #[.int .i64 ep]) v hv)
  have E1 := hide E1
  clear hx hy hxn hyn hv hep
  go_enter Try.func32, Try.ntmps32
  go_wp2_with (go_at_call 44; (with_reducible refine (K.out).mono ?_); rintro e w1 ⟨rfl, hE⟩)
  go_ret
  exact ⟨rfl, E1.out.trans hE⟩
end
section
open Go Go.RowKit Go.Sort
abbrev DU := DataW Unit
def setD (fl : List Int) : DU := fl.foldl (fun D x => D.put (.int .i64 x) (.lit (.bool true))) (.map [])
theorem setD_snoc (fl : List Int) (x : Int) : setD (fl ++ [x]) = (setD fl).put (.int .i64 x) (.lit (.bool true)) := by simp [setD]
/-- Block b is a map that has just the numbers fl. -/
def SetAt (w : World) (b : Nat) (fl : List Int) : Prop := w.ownsMap Try.prog 3 (plainElem (H := Unit) Try.prog 4) b fl.length (setD fl)
theorem setK : Maps.Keyed Try.prog 3 := Maps.int_keyed Try.underlying3
theorem wf_i64 {x : Int} (h : I64 x) : (Lit.int .i64 x).wf = true := by
  unfold I64 at h
  have h1 : IntKind.i64.min = -9223372036854775808 := by decide
  have h2 : IntKind.i64.max = 9223372036854775807 := by decide
  show (decide (IntKind.i64.min ≤ x) && decide (x ≤ IntKind.i64.max)) = true
  rw [h1, h2, decide_eq_true (by omega), decide_eq_true (by omega)]; rfl
theorem isMap_put {D : DU} (h : Maps.IsMap D) (k : Lit) (d : DU) : Maps.IsMap (D.put k d) := by
  obtain ⟨es, rfl⟩ := h
  exact ⟨_, DataW.put_eq ..⟩
theorem at_fold (x : Int) : ∀ (fl : List Int) (D : DU), Maps.IsMap D → (fl.foldl (fun D x => D.put (.int .i64 x) (.lit (.bool true))) D).atKey (.int .i64 x) (.lit (.bool false)) = if x ∈ fl then .lit (.bool true) else D.atKey (.int .i64 x) (.lit (.bool false))
  | [], D, _ => by simp
  | y :: fl, D, hD => by
    rw [List.foldl_cons, at_fold x fl _ (isMap_put hD _ _)]
    by_cases h : x ∈ fl
    · rw [if_pos h, if_pos (List.mem_cons_of_mem _ h)]
    · rw [if_neg h]
      by_cases e : x = y
      · subst e
        rw [if_pos List.mem_cons_self, Maps.atKey_put_same hD (show WideAt.IsKeyLit (.int .i64 x) from trivial)]
      · rw [if_neg (fun k => (List.mem_cons.1 k).elim e h), Maps.atKey_put_other (fun k => e (by injection k))]
theorem at_setD (fl : List Int) (x : Int) : (setD fl).atKey (.int .i64 x) (.lit (.bool false)) = .lit (.bool (decide (x ∈ fl))) := by
  unfold setD
  rw [at_fold x fl _ ⟨[], rfl⟩]
  by_cases h : x ∈ fl
  · rw [if_pos h, decide_eq_true h]
  · rw [if_neg h, decide_eq_false h]; rfl
theorem SetAt.ext {w w' : World} {b : Nat} {fl : List Int} (h : SetAt w b fl) (e : Ext w w') : SetAt w' b fl := by
  have hlt := World.ownsMap.lt h
  obtain ⟨es, ck, hb, F, hs, hD⟩ := h
  exact ⟨es, ck, (e.block b hlt).trans hb, F, hs, hD⟩
theorem SetAt.lt {w : World} {b : Nat} {fl : List Int} (h : SetAt w b fl) : b < w.heap.size := World.ownsMap.lt h
theorem SetAt.look {w : World} {b : Nat} {fl : List Int} (h : SetAt w b fl) (x : Int) (hx : I64 x) (v : Bool) (hv : decide (x ∈ fl) = v) : (Instr.lookup 63 (.map (some b)) (.int .i64 x) false).run Try.prog w = .ok (.bool v) w := by
  obtain ⟨v1, ps, hrun, hv1⟩ := World.ownsMap.lookup h setK Try.underlying63 (z := .bool false) (Try.zeroValue4 w) (plainElem_bool Try.underlying4 false) (Maps.keyOf_int_mk Try.underlying3 (wf_i64 hx))
  rw [at_setD, hv] at hv1
  rw [hrun]
  congr 1
  cases v1 <;> simp [plainElem, Try.underlying4] at hv1
  rw [hv1.1]
set_option maxHeartbeats 3200000 in
set_option maxRecDepth 100000 in
theorem p_setOf (A : Option Addr) (n c : Nat) (fl : List Int) (W : World) (hl : TimesAt W A fl) (hn : fl.length = n) :
    Calls Try.prog 37 #[.slice A n c] W fun e w' => ∃ b, e = .returned (.map (some b)) ∧ W.heap.size ≤ b ∧ SetAt w' b fl ∧ Ext W w' := by
  have hn63 : n ≤ 9223372036854775807 := by have := hl.2.1; omega
  have hmm := @run_makeMap Try.prog
  have Hs := hide hl.1
  have M1 := hide hl
  have Hm := hide hn
  have E1 := hide (ext_alloc W (.map #[] 0))
  have S1 : Hid (SetAt (W.alloc (.map #[] 0)) W.heap.size []) := hide (World.ownsMap_made W Try.prog 3 (plainElem (H := Unit) Try.prog 4))
  obtain ⟨b, hb⟩ : ∃ b, W.heap.size = b := ⟨_, rfl⟩
  have Hb := hide hb
  clear hl hn
  go_enter Try.func37, Try.ntmps37
  go_wp2_with fail
  obtain ⟨w1, hw1⟩ : ∃ w1, W.alloc (.map #[] 0) = w1 := ⟨_, rfl⟩
  rw [hw1] at E1 S1 ⊢
  rw [hb] at S1
  have S1 : Hid (SetAt w1 b (fl.take 0)) := S1
  clear hw1 hb
  go_loopw [5, 9] (fun _ iv wr => ∃ j : Nat, j ≤ n ∧ iv = .int .i64 (j : Int) ∧ Hid (SetAt wr b (fl.take j)) ∧ Hid (Ext W wr)) (fun _ iv _ => n - (intOf iv).toNat)
  case atStart => exact ⟨0, by omega, rfl, S1, E1⟩
  case round =>
    clear S1 E1
    obtain ⟨j, hj, rfl, HS, HE⟩ := hrel
    by_cases hlt : j < n
    · have d0 : decide ((j : Int) < (n : Int)) = true := decide_eq_true (by omega)
      have him : j < fl.length := by rw [Hm.out]; exact hlt
      obtain ⟨bm, om, rfl, _, hc⟩ := (M1.out.ext HE.out).2.2 (by omega)
      have ct := hc j him
      have ix := fun w => idxT bm om n c j hlt w
      have hj := Hs.out.get j
      have htk : fl.take (j + 1) = fl.take j ++ [fl.getD j 0] := by
        rw [List.take_succ_eq_append_getElem him]; simp [List.getD_eq_getElem?_getD, him]
      obtain ⟨q, hq⟩ : ∃ q, fl.getD j 0 = q := ⟨_, rfl⟩
      rw [hq] at ct hj htk
      obtain ⟨T, hT⟩ : ∃ T, fl.take j = T := ⟨_, rfl⟩
      have hTl : T.length < maxLen := by rw [← hT, List.length_take]; unfold maxLen; omega
      rw [hT] at HS htk
      have Htk := hide htk
      have hkey := Maps.keyOf_int_mk Try.underlying3 (wf_i64 hj)
      clear hc him hq hT htk
      go_wp2_with (at_mapUpdate; refine wpList_mapUpdate_own _ rfl _ _ _ 63 rfl 3 4 setK Try.underlying63 _ b T.length _ rfl HS.out hTl _ _ _ rfl rfl hkey _ [] (plainElem_bool Try.underlying4 true) ?_; intro w3 hS3 hG3)
      have S3 : Hid (SetAt w3 b (fl.take (j + 1))) := hide (by show World.ownsMap _ _ _ _ _ _ _; rw [Htk.out, setD_snoc, List.length_append]; exact hS3)
      have E3 : Hid (Ext W w3) := hide (HE.out.grown hG3 HE.out.size (fun k e => by cases e; rw [← Hb.out]; exact Nat.le_refl _))
      clear hS3 hG3 HS HE
      go_roundw
      case rel => exact ⟨j + 1, by omega, by go_num, S3, E3⟩
      case measure => simp [intOf]; omega
    · obtain rfl : j = n := by omega
      have d0 : decide ((j : Int) < (j : Int)) = false := decide_eq_false (by omega)
      have hS := HS.out
      rw [List.take_of_length_le (by rw [Hm.out]; omega)] at hS
      have hS := hide hS
      go_wp2_with fail
      go_ret
      exact ⟨b, rfl, by rw [← Hb.out]; exact Nat.le_refl _, hS.out, HE.out⟩
end
section
open Go Go.RowKit Go.Shelf
/-- A part of a sequence of n samples: from where, up to where. -/
abbrev Seg (n : Nat) := { p : Nat × Nat // p.1 < p.2 ∧ p.2 ≤ n }
def segL {n : Nat} (l : List (Int × Int)) (p : Seg n) : List (Int × Int) := (l.drop p.1.1).take (p.1.2 - p.1.1)
theorem run_part (bm om n a e c : Nat) (hk : a ≤ e) (he : e ≤ c) (hac : a < c) (w : World) : (Instr.slice 22 (.slice (some ⟨bm, om, none⟩) n c) (some (.int .i64 (a : Int))) (some (.int .i64 (e : Int))) none).run Try.prog w = .ok (.slice (some ⟨bm, om + 2 * a, none⟩) (e - a) (c - a)) w := by
  have hE : Try.prog.elem 22 = 47 := by kernel_rfl
  have hz := Try.sizeOf47
  rw [run_slice_lh w 22 (some ⟨bm, om, none⟩) n c (by kernel_rfl) .i64 .i64 a e (by omega) (by omega) (by omega), hE, hz]
  have hne : ¬ c = a := by omega
  simp only [Result.andThen, sliced, hne, Addr.add, if_false, Option.map_some]
  by_cases h0 : a = 0
  · subst h0; simp
  · have h1 : ¬ a * 2 = 0 := by omega
    simp [h1, hne, Nat.mul_comm]
/-- Only block g, of what lay below m, may have changed. -/
def KpB (m g : Nat) (A B : World) : Prop := A.heap.size ≤ B.heap.size ∧ ∀ k, k < m → k ≠ g → B.heap[k]? = A.heap[k]?
theorem kpB_t {m g : Nat} {A B C : World} (h : KpB m g A B) (k : KpB m g B C) : KpB m g A C := ⟨Nat.le_trans h.1 k.1, fun i hi hn => (k.2 i hi hn).trans (h.2 i hi hn)⟩
theorem seg_step (l : List (Int × Int)) (size : Int) (fl : List Int) {k b : Nat} (hk : k < l.length) (hb : b ≤ k) (hp : (l.drop b).take (k - b) = (cuS l size fl k).2) (hlt : (k : Int) - b < size) :
    (decide ((k : Int) + 1 - b < size) = true → decide (k + 1 < l.length) = true → decide (((k : Int) + 1) ∈ fl) = false → (cuS l size fl (k + 1)).1 = (cuS l size fl k).1 ∧ (l.drop b).take (k + 1 - b) = (cuS l size fl (k + 1)).2) ∧
    (decide ((k : Int) + 1 - b < size) = false ∨ decide (k + 1 < l.length) = false ∨ decide (((k : Int) + 1) ∈ fl) = true → (cuS l size fl (k + 1)).1 = (cuS l size fl k).1 ++ [(l.drop b).take (k + 1 - b)] ∧ (cuS l size fl (k + 1)).2 = []) := by
  have hst : (l.drop b).take (k + 1 - b) = (cuS l size fl k).2 ++ [l.getD k (0, 0)] := by
    rw [← hp, show k + 1 - b = (k - b) + 1 by omega, List.take_succ_eq_append_getElem (by rw [List.length_drop]; omega)]
    congr 2
    simp [List.getD_eq_getElem?_getD, show b + (k - b) = k by omega, hk]
  have hpl : (cuS l size fl k).2.length = k - b := by rw [← hp, List.length_take, List.length_drop]; omega
  have hE : endB l.length size fl k ((cuS l size fl k).2.length + 1) = true ↔ (k + 1 = l.length ∨ (k : Int) + 1 - b = size) ∨ ((k : Int) + 1) ∈ fl := by
    unfold endB
    rw [hpl]
    simp only [Bool.or_eq_true, decide_eq_true_eq]
    have : ((k - b + 1 : Nat) : Int) = (k : Int) + 1 - b := by omega
    rw [this]
  constructor
  · intro h1 h2 h3
    rw [decide_eq_true_eq] at h1 h2
    rw [decide_eq_false_iff_not] at h3
    have hn : ¬ endB l.length size fl k ((cuS l size fl k).2.length + 1) = true := by
      rw [hE]; rintro ((h | h) | h)
      · omega
      · omega
      · exact h3 h
    rw [cuS, if_neg hn, hst]
    exact ⟨rfl, rfl⟩
  · intro h
    have hy : endB l.length size fl k ((cuS l size fl k).2.length + 1) = true := by
      rw [hE]
      rcases h with h | h | h
      · rw [decide_eq_false_iff_not] at h; exact Or.inl (Or.inr (by omega))
      · rw [decide_eq_false_iff_not] at h; exact Or.inl (Or.inl (by omega))
      · rw [decide_eq_true_eq] at h; exact Or.inr h
    rw [cuS, if_pos hy, hst]
    exact ⟨rfl, rfl⟩
attribute [local go_sem] Oper.semAt_some
set_option maxHeartbeats 6400000 in
set_option maxRecDepth 100000 in
theorem p_parts1 (F : Fence) (nd : Nat) (hF : F.fn 48) (hro : F.round = none) (hnd : 1 ≤ nd) (g A : Option Addr) (n c : Nat) (l : List (Int × Int)) (size : Int) (fl : List Int) (bm om m go Bl Bs Bm bM : Nat) (hn : l.length = n) (hnc : n ≤ c) (hc : c ≤ 9223372036854775807) (hn2 : n ≤ 8796093022000) (hs1 : 1 ≤ size) (hs2 : I64 size)
    (hA : 0 < n → A = some ⟨bm, om, none⟩) (lw : Nat) (J Jx : List (Seg n) → World → Prop)
    (hY : ∀ pre x W, J pre W → pre.length < n → YieldAt F (nd - 1) Try.prog lw #[.slice (some ⟨bm, om + 2 * x.1.1, none⟩) (x.1.2 - x.1.1) (c - x.1.1)] W fun e W' =>
      (e = .returned (.bool true) ∧ J (pre ++ [x]) W' ∧ KpB m go W W') ∨ (e = .returned (.bool false) ∧ Jx (pre ++ [x]) W'))
    (W : World) (hl : Bl < m ∧ Bl ≠ go ∧ W.cell? ⟨Bl, 0, none⟩ = some (.slice A n c)) (hz : Bs < m ∧ Bs ≠ go ∧ W.cell? ⟨Bs, 0, none⟩ = some (.int .i64 size)) (hm : Bm < m ∧ Bm ≠ go ∧ W.cell? ⟨Bm, 0, none⟩ = some (.map (some bM))) (hM : bM < m ∧ bM ≠ go ∧ SetAt W bM fl) (h0 : J [] W) :
    CallsIn F nd Try.prog 48 #[.func (.yield lw) #[] #[], .pointer (some ⟨Bl, 0, none⟩), .pointer (some ⟨Bs, 0, none⟩), .pointer (some ⟨Bm, 0, none⟩)] W fun e W' => (∃ v, e = .returned v) ∧
      ((∃ ys, ys.map (segL l) = (cuS l size fl n).1 ∧ J ys W') ∨ (∃ pre, True ∧ Jx pre W')) := by
  have H1 := hide hl
  have H2 := hide hz
  have H3 := hide hm
  have H4 := hide hM
  have HY := hide hY
  have HJ := hide h0
  have Hn := hide hn
  have HA := hide hA
  have cl := hl.2.2
  clear hl hz hm hM hY h0 hn hA
  refine callsIn_of_wp Try.func48 rfl hF ?_ hro
  simp only [Try.ntmps48, List.size_toArray, List.length_cons, List.length_nil, Nat.reduceAdd, Nat.reduceSub, Array.replicate_succ, Array.replicate_zero, List.push_toArray, List.append_toArray, List.nil_append, List.cons_append]
  gi_wp2
  gi_loopw [5, 6, 7, 10] (fun bv _ _ iv wr => ∃ (k b : Nat) (xs : List (Seg n)), k ≤ n ∧ b ≤ k ∧ bv = .int .i64 (b : Int) ∧ iv = .int .i64 (k : Int) ∧ xs.length ≤ k ∧ (k : Int) - b < size ∧ Hid (xs.map (segL l) = (cuS l size fl k).1) ∧ Hid ((l.drop b).take (k - b) = (cuS l size fl k).2) ∧ Hid (J xs wr) ∧ Hid (KpB m go W wr)) (fun _ _ _ iv _ => n - (intOf iv).toNat)
  case atStart => exact ⟨0, 0, [], by omega, by omega, rfl, rfl, by simp, by omega, hide (by simp [cuS]), hide (by simp [cuS]), HJ, hide ⟨Nat.le_refl _, fun _ _ _ => rfl⟩⟩
  case round =>
    obtain ⟨k, b, xs, hk, hb, rfl, rfl, hxl, hlt, HX, HP, HJ, HK⟩ := hrel
    have kc : ∀ B v, (B < m ∧ B ≠ go ∧ W.cell? ⟨B, 0, none⟩ = some v) → wr.cell? ⟨B, 0, none⟩ = some v := fun B v h => by
      have := HK.out.2 B h.1 h.2.1
      have e := h.2.2
      unfold World.cell? at e ⊢
      rw [this]; exact e
    have c1 := kc Bl _ H1.out
    have c2 := kc Bs _ H2.out
    have c3 := kc Bm _ H3.out
    have hS : SetAt wr bM fl := by
      obtain ⟨es, ck, hbb, F', hs', hD⟩ := H4.out.2.2
      exact ⟨es, ck, (HK.out.2 bM H4.out.1 H4.out.2.1).trans hbb, F', hs', hD⟩
    clear kc
    by_cases hkn : k < n
    · have d0 : decide ((k : Int) < (n : Int)) = true := decide_eq_true (by omega)
      obtain rfl := HA.out (by omega)
      obtain ⟨q1, q2⟩ := seg_step l size fl (k := k) (b := b) (by rw [Hn.out]; exact hkn) hb HP.out hlt
      rw [Hn.out] at q1 q2
      have Q1 := hide q1
      have Q2 := hide q2
      have hi64 : I64 ((k : Int) + 1) := ⟨by omega, by omega⟩
      have hlk := fun v hv => hS.look ((k : Int) + 1) hi64 v hv
      obtain ⟨fn, tmps, assign, body, hy, hR⟩ := HY.out xs ⟨(b, k + 1), by omega, by omega⟩ wr HJ.out (by omega)
      dsimp only at hy
      have hR := hide hR
      have hsl := fun w => run_part bm om n b (k + 1) c (by omega) (by omega) (by omega) w
      have ek : ((k + 1 : Nat) : Int) = (k : Int) + 1 := by omega
      rw [ek] at hsl
      have hxl2 : xs.length + 1 ≤ k + 1 := by omega
      clear q1 q2 hi64 ek hS
      by_cases t1 : (k : Int) + 1 - b < size
      · have d1 : decide ((k : Int) + 1 - b < size) = true := decide_eq_true t1
        by_cases t2 : k + 1 < n
        · have d2 : decide ((k : Int) + 1 < (n : Int)) = true := decide_eq_true (by omega)
          have d2' : decide (k + 1 < n) = true := decide_eq_true t2
          by_cases t3 : ((k : Int) + 1) ∈ fl
          · have d3 := hlk true (decide_eq_true t3)
            have Z := hide (Q2.out (Or.inr (Or.inr (decide_eq_true t3))))
            clear t1 t2 t3 hlk Q1 Q2
            gi_wp2
            refine hR.out.mono ?_
            rintro e W3 (⟨rfl, hJ3, hK3⟩ | ⟨rfl, hJx3⟩)
            · have J3 := hide hJ3
              have K3 := hide (kpB_t HK.out hK3)
              have X3 : Hid ((xs ++ [(⟨(b, k + 1), by omega, by omega⟩ : Seg n)]).map (segL l) = (cuS l size fl (k + 1)).1) := hide (by rw [Z.out.1, List.map_append, HX.out]; rfl)
              have P3 : Hid ((l.drop (k + 1)).take (k + 1 - (k + 1)) = (cuS l size fl (k + 1)).2) := hide (by rw [Z.out.2]; simp)
              clear hJ3 hK3 hR c1 c2 c3
              gi_wp2
              go_roundw
              case rel => exact ⟨k + 1, k + 1, _, by omega, Nat.le_refl _, by go_num, by go_num, by rw [List.length_append]; exact hxl2, by omega, X3, P3, J3, K3⟩
              case measure => simp [intOf]; omega
            · have J3 := hide hJx3
              clear hJx3 hR c1 c2 c3
              gi_wp2
              refine bodyPost_ret (results_none rfl _ _ _) rfl ?_
              exact ⟨⟨_, rfl⟩, .inr ⟨_, trivial, J3.out⟩⟩
          · have d3 := hlk false (decide_eq_false t3)
            have Z := hide (Q1.out d1 d2' (decide_eq_false t3))
            clear t2 t3 hlk Q1 Q2
            gi_wp2
            clear hR c1 c2 c3
            go_roundw
            case rel => exact ⟨k + 1, b, xs, by omega, by omega, rfl, by go_num, by omega, by omega, hide (HX.out.trans Z.out.1.symm), hide Z.out.2, HJ, HK⟩
            case measure => simp [intOf]; omega
        · have d2 : decide ((k : Int) + 1 < (n : Int)) = false := decide_eq_false (by omega)
          have Z := hide (Q2.out (Or.inr (Or.inl (decide_eq_false t2))))
          clear t1 t2 hlk Q1 Q2
          gi_wp2
          refine hR.out.mono ?_
          rintro e W3 (⟨rfl, hJ3, hK3⟩ | ⟨rfl, hJx3⟩)
          · have J3 := hide hJ3
            have K3 := hide (kpB_t HK.out hK3)
            have X3 : Hid ((xs ++ [(⟨(b, k + 1), by omega, by omega⟩ : Seg n)]).map (segL l) = (cuS l size fl (k + 1)).1) := hide (by rw [Z.out.1, List.map_append, HX.out]; rfl)
            have P3 : Hid ((l.drop (k + 1)).take (k + 1 - (k + 1)) = (cuS l size fl (k + 1)).2) := hide (by rw [Z.out.2]; simp)
            clear hJ3 hK3 hR c1 c2 c3
            gi_wp2
            go_roundw
            case rel => exact ⟨k + 1, k + 1, _, by omega, Nat.le_refl _, by go_num, by go_num, by rw [List.length_append]; exact hxl2, by omega, X3, P3, J3, K3⟩
            case measure => simp [intOf]; omega
          · have J3 := hide hJx3
            clear hJx3 hR c1 c2 c3
            gi_wp2
            refine bodyPost_ret (results_none rfl _ _ _) rfl ?_
            exact ⟨⟨_, rfl⟩, .inr ⟨_, trivial, J3.out⟩⟩
      · have d1 : decide ((k : Int) + 1 - b < size) = false := decide_eq_false t1
        have Z := hide (Q2.out (Or.inl (decide_eq_false t1)))
        clear t1 hlk Q1 Q2
        gi_wp2
        refine hR.out.mono ?_
        rintro e W3 (⟨rfl, hJ3, hK3⟩ | ⟨rfl, hJx3⟩)
        · have J3 := hide hJ3
          have K3 := hide (kpB_t HK.out hK3)
          have X3 : Hid ((xs ++ [(⟨(b, k + 1), by omega, by omega⟩ : Seg n)]).map (segL l) = (cuS l size fl (k + 1)).1) := hide (by rw [Z.out.1, List.map_append, HX.out]; rfl)
          have P3 : Hid ((l.drop (k + 1)).take (k + 1 - (k + 1)) = (cuS l size fl (k + 1)).2) := hide (by rw [Z.out.2]; simp)
          clear hJ3 hK3 hR c1 c2 c3
          gi_wp2
          go_roundw
          case rel => exact ⟨k + 1, k + 1, _, by omega, Nat.le_refl _, by go_num, by go_num, by rw [List.length_append]; exact hxl2, by omega, X3, P3, J3, K3⟩
          case measure => simp [intOf]; omega
        · have J3 := hide hJx3
          clear hJx3 hR c1 c2 c3
          gi_wp2
          refine bodyPost_ret (results_none rfl _ _ _) rfl ?_
          exact ⟨⟨_, rfl⟩, .inr ⟨_, trivial, J3.out⟩⟩
    · obtain rfl : k = n := by omega
      have d0 : decide ((k : Int) < (k : Int)) = false := decide_eq_false (by omega)
      gi_wp2
      go_end0
      exact ⟨⟨_, rfl⟩, .inl ⟨xs, HX.out, HJ.out⟩⟩
end
section
open Go Go.RowKit Go.Shelf
theorem own_mkS0 {B : Nat} {w : World} {g : Nat} (hB : B ≤ g) (hh : Blk w g 47 #[]) : OwnS B w (.slice (some ⟨g, 0, none⟩) 0 0) [] := by
  refine ⟨⟨rfl, Or.inr ⟨g, 0, _, rfl, hB, hh, Nat.le_refl _, by unfold maxLen; omega, ?_, ?_⟩⟩, IsS.nil⟩
  · rfl
  · rfl
set_option maxRecDepth 100000 in
theorem p_cloneS (bm om n c : Nat) (l : List (Int × Int)) (W : World) (hl : SampsAt W (some ⟨bm, om, none⟩) l) (hn : l.length = n) (hn2 : n ≤ 8796093022000) :
    Calls Try.prog 38 #[.slice (some ⟨bm, om, none⟩) n c] W fun e w' => ∃ v, e = .returned v ∧ OwnS W.heap.size w' v l ∧ Ext W w' := by
  have E3 := ext_alloc W (.cells #[] 47)
  have O3 := hide (own_mkS0 (B := W.heap.size) (Nat.le_refl _) (Blk.new W 47 #[]))
  have l3 := hide (hl.ext E3)
  have E3 := hide E3
  have hs3 := E3.out.size
  have hle : ([] : List (Int × Int)).length + l.length ≤ 8796093022208 := by rw [hn]; simp; omega
  have Hn := hide hn
  have hnl : (binOp .eql 22 (.slice (some ⟨bm, om, none⟩) n c) (.slice none 0 0)).run Try.prog W = .ok (.bool false) W := run_eql_slice_nil W 22 47 (some ⟨bm, om, none⟩) n c Try.underlying22
  clear hl hn
  go_enter Try.func38, Try.ntmps38
  go_wp2_with (at_builtin; refine wl_appendS rfl (.tmp 5) (.tmp 6) rfl W.heap.size _ [] l rfl O3.out (some ⟨bm, om, none⟩) n c rfl l3.out Hn.out hle hs3 ?_; intro v4 w4 hO4 hG4 hA4; have O4 := hide hO4; have E4 := hide (below_grownS E3.out (Nat.le_refl _) O3.out hG4); clear hO4 hG4 hA4)
  go_ret
  exact ⟨_, rfl, O4.out, E4.out⟩
theorem p_partsS (A : Option Addr) (n c : Nat) (size : Int) (bM : Nat) (w : World) :
    Calls Try.prog 36 #[.slice A n c, .int .i64 size, .map (some bM)] w fun e w' => e = .returned (.func (.func 48) #[] #[.pointer (some ⟨w.heap.size, 0, none⟩), .pointer (some ⟨w.heap.size + 1, 0, none⟩), .pointer (some ⟨w.heap.size + 1 + 1, 0, none⟩)]) ∧ w' = ((w.alloc (.cells #[.slice A n c] 22)).alloc (.cells #[.int .i64 size] 3)).alloc (.cells #[.map (some bM)] 63) := by
  have hmf : ∀ (fn : Fn) (first cap : Array Value) (w : World), (Instr.makeFunc fn first cap).run Try.prog w = .ok (.func fn first cap) w := fun _ _ _ _ => rfl
  go_enter Try.func36, Try.ntmps36
  go_wp2_with fail
  go_ret
  exact ⟨rfl, rfl⟩
theorem samps_seg {w : World} {bm om : Nat} {l : List (Int × Int)} (h : SampsAt w (some ⟨bm, om, none⟩) l) (a e : Nat) : SampsAt w (some ⟨bm, om + 2 * a, none⟩) ((l.drop a).take (e - a)) := by
  refine ⟨(h.1.drop a).take _, by rw [List.length_take, List.length_drop]; have := h.2.1; omega, fun hp => ?_⟩
  rw [List.length_take, List.length_drop] at hp
  obtain ⟨b, off, hA, hb, hc⟩ := h.2.2 (by omega)
  cases hA
  refine ⟨bm, om + 2 * a, rfl, hb, fun j hj => ?_⟩
  rw [List.length_take, List.length_drop] at hj
  have e1 : ((l.drop a).take (e - a)).getD j (0, 0) = l.getD (a + j) (0, 0) := by
    simp [List.getD_eq_getElem?_getD, List.getElem?_take, List.getElem?_drop, show j < e - a by omega]
  have := hc (a + j) (by omega)
  rw [e1]
  rw [show om + 2 * a + 2 * j = om + 2 * (a + j) by omega]
  refine ⟨this.1, ?_⟩
  rw [show om + 2 * a + (2 * j + 1) = om + (2 * (a + j) + 1) by omega]
  exact this.2
theorem row_cells {W : World} {B : Nat} {e : TypeId} {size k : Nat} {u : Value} {xs : List Value} (h : W.ownsRow B e size u k xs) {row : Option Nat} (hr : ∀ r, row = some r → ∃ o : Obj, W.heap[r]? = some o ∧ o.isCells = false) : u.ownBlock = none ∨ u.ownBlock ≠ row := by
  rcases h.2 with ⟨rfl, _⟩ | ⟨g, cap, cur, rfl, _, hgb, _⟩
  · exact .inl rfl
  · refine .inr fun e' => ?_
    obtain ⟨o, ho, hc⟩ := hr g (by simpa [Value.ownBlock] using e'.symm)
    rw [hgb] at ho; cases ho; cases hc
theorem rows_apart {W : World} {B B' : Nat} {u v : Value} {p : List (Int × Int)} {vs : List Value} (h : OwnS B W u p) (k : OwnV B' W v vs) : u.ownBlock = none ∨ u.ownBlock ≠ v.ownBlock := by
  rcases h.1.2 with ⟨rfl, _⟩ | ⟨g, cap, cur, rfl, _, hgb, _⟩
  · exact .inl rfl
  · rcases k.1.2 with ⟨rfl, _⟩ | ⟨g', cap', cur', rfl, _, hgb', _⟩
    · refine .inr fun e => ?_; simp [Value.ownBlock] at e
    · refine .inr fun e => ?_
      obtain rfl : g = g' := by simpa [Value.ownBlock] using e
      rw [hgb] at hgb'
      simp at hgb'
/-- What Cut keeps between two rounds. -/
def CutI {n : Nat} (W0 : World) (m Bo : Nat) (l : List (Int × Int)) (pre : List (Seg n)) (W : World) : Prop := ∃ v vs, Boxed W Bo 40 v ∧ OwnV m W v vs ∧ PartsAt m W vs (pre.map (segL l)) ∧ Ext W0 W ∧ m ≤ W.heap.size
theorem cutI_own {n : Nat} {W0 : World} {m Bo : Nat} {l : List (Int × Int)} (hm : W0.heap.size ≤ m) : OwnFrom m (CutI (n := n) W0 m Bo l) := by
  rintro s W W' row ⟨v, vs, hv, hO, hP, hE, hs⟩ hg hr
  have hr' : ∀ r, row = some r → ∃ o : Obj, W.heap[r]? = some o ∧ o.isCells = false := fun r e => (hr r e).2
  refine ⟨v, vs, hv.kept hg (fun e => ?_), hO.kept hg (row_cells hO.1 hr'), ⟨hP.1, fun i hi => (hP.2 i hi).kept hg (row_cells (hP.2 i hi).1 hr')⟩, hE.grown hg hE.size (fun k e => Nat.le_trans hm (hr k e).1), Nat.le_trans hs hg.size⟩
  obtain ⟨o, ho, hc⟩ := hr' Bo e.symm
  rw [show W.heap[Bo]? = _ from hv] at ho; cases ho; cases hc
theorem cut_step {n : Nat} {W0 W w1 w2 : World} {m Bo : Nat} {l : List (Int × Int)} {pre : List (Seg n)} {x : Seg n} {v v' u : Value} {vs : List Value} {tmp : Obj} (hB0 : W0.heap.size ≤ Bo) (hBm : Bo < m)
    (hv : Boxed W Bo 40 v) (hO : OwnV m W v vs) (hP : PartsAt m W vs (pre.map (segL l))) (hE : Ext W0 W) (hs : m ≤ W.heap.size)
    (hE1 : Ext W w1) (hU : OwnS W.heap.size w1 u (segL l x)) (hO2 : OwnV m w2 v' (vs ++ [u])) (hG : (w1.alloc tmp).grownBy w2 v.ownBlock) :
    KeepsFrom m W (w2.setCell ⟨Bo, 0, none⟩ v') ∧ KpB m Bo W (w2.setCell ⟨Bo, 0, none⟩ v') ∧ CutI W0 m Bo l (pre ++ [x]) (w2.setCell ⟨Bo, 0, none⟩ v') := by
  have hEt : Ext W (w1.alloc tmp) := hE1.trans (ext_alloc _ _)
  have hne : ∀ g, v.ownBlock = some g → m ≤ g ∧ g < W.heap.size := fun g e => hO.1.lt g e
  have hOt := hO.ext hEt
  have hv1 : Boxed (w1.alloc tmp) Bo 40 v := (hEt.block Bo hv.lt).trans hv
  have hv2 : Boxed w2 Bo 40 v := hv1.kept hG (fun e => by have := (hne Bo e.symm).1; omega)
  have hGs := grownBy_setCell' w2 Bo v'
  have hsz : W.heap.size ≤ w2.heap.size := Nat.le_trans hEt.size hG.size
  have ns : ∀ {B : Nat} {w : World} {e : TypeId} {sz k : Nat} {y : Value} {ys : List Value}, w.ownsRow B e sz y k ys → Bo < B → y.ownBlock = none ∨ y.ownBlock ≠ some Bo := fun h hb => ne_row fun g e q => by
    injection q with q; subst q; have := (h.lt _ e).1; omega
  refine ⟨?_, ⟨Nat.le_trans hsz hGs.size, fun k hk hn => ?_⟩, v', vs ++ [u], hv2.set v', hO2.kept hGs (ns hO2.1 hBm), ⟨by simp [hP.1], fun i hi => ?_⟩, ?_, ?_⟩
  · refine KeepsOthers.from ?_ m
    refine KeepsOthers.trans ⟨hEt.size, fun k o hk ho => (hEt.block k (Array.getElem?_eq_some_iff.1 hk).1).trans hk⟩ ?_
    refine KeepsOthers.trans (KeepsOthers.of_grownBy hG fun j o ej hj => ?_) (KeepsOthers.setCell _ _ _)
    rcases hOt.1.2 with ⟨rfl, _⟩ | ⟨g, cap, cur, rfl, _, hgb, _⟩
    · simp [Value.ownBlock] at ej
    · obtain rfl : g = j := by simpa [Value.ownBlock] using ej
      rw [hgb] at hj; cases hj; rfl
  · rw [Below.heap_setCell _ _ _ _ hn, hG.block k (by have := hEt.size; omega) (fun e => by have := (hne k e.symm).1; omega), hEt.block k (by omega)]
  · by_cases h : i < vs.length
    · have h2 : i < (pre.map (segL l)).length := by rw [← hP.1]; exact h
      rw [List.map_append]
      have e1 : (vs ++ [u]).getD i (.slice none 0 0) = vs.getD i (.slice none 0 0) := by simp [List.getD_eq_getElem?_getD, List.getElem?_append_left h]
      have e2 : (pre.map (segL l) ++ [x].map (segL l)).getD i [] = (pre.map (segL l)).getD i [] := by rw [List.getD_eq_getElem?_getD, List.getElem?_append_left h2, ← List.getD_eq_getElem?_getD]
      rw [e1, e2]
      have h3 := (hP.2 i h).ext hEt
      have h4 := h3.kept hG (rows_apart h3 hOt)
      exact h4.kept hGs (ns h4.1 hBm)
    · obtain rfl : i = vs.length := by simp at hi; omega
      have e1 : (vs ++ [u]).getD vs.length (.slice none 0 0) = u := by simp [List.getD_eq_getElem?_getD]
      have e2 : ((pre ++ [x]).map (segL l)).getD vs.length [] = segL l x := by rw [List.map_append, hP.1]; simp [List.getD_eq_getElem?_getD]
      rw [e1, e2]
      have h3 := hU.alloc tmp
      have h4 := h3.kept hG (rows_apart h3 hOt)
      exact (h4.kept hGs (ns h4.1 (by omega))).less hs
  · exact Below.setCell ((hE.trans hEt).grown hG (hE.trans hEt).size (fun k e => by have := (hne k e).1; omega)) (p := ⟨Bo, 0, none⟩) hB0 v'
  · exact Nat.le_trans hs (Nat.le_trans hsz hGs.size)
theorem box_app {W w1 w2 : World} {m Bo : Nat} {v : Value} {vs : List Value} {tmp : Obj} (hv : Boxed W Bo 40 v) (hO : OwnV m W v vs) (hBm : Bo < m) (hE1 : Ext W w1) (hG : (w1.alloc tmp).grownBy w2 v.ownBlock) : Boxed w2 Bo 40 v := by
  have hv1 : Boxed (w1.alloc tmp) Bo 40 v := ((hE1.trans (ext_alloc _ _)).block Bo hv.lt).trans hv
  exact hv1.kept hG (fun e => by have := (hO.1.lt Bo e.symm).1; omega)
theorem kpB_b {m g : Nat} {w : World} (hm : m ≤ w.heap.size) (W : World) (l : Nat) (o o' : Obj) (hl : w.heap.size ≤ l) (_ : W.heap[l]? = some o) (_ : o.isCells = false) (_ : o.isWalk = false) : KpB m g W (W.putObj l o') :=
  ⟨(grownBy_putObj' W l o').size, fun k hk _ => World.putObj_heap_other (by omega)⟩
theorem stepIn_appendV {F : Fence} {nd : Nat} {ops : Array Oper} {o : Oper} {a : Act} {K : Act → World → Prop} {Q : Exit → Act → World → Prop} {w : World} {E : Prop} (hgd : o.guard = none) (s x : Operand)
    (ho : o.op = .call { callee := .builtin .append, args := #[s, x], argTypes := #[40, 40] })
    (B : Nat) (v : Value) (l0 : List Value) (hs : a.eval s = v) (hown : OwnV B w v l0) (g : Nat) (hx : a.eval x = .slice (some ⟨g, 0, none⟩) 1 1) (u : Value) (hu : w.cell? ⟨g, 0, none⟩ = some u) (hu1 : u.oneCell' = true) (hlen : l0.length + 1 ≤ 9382499223000) (hbase : B ≤ w.heap.size)
    (h : ∀ v' w', OwnV B w' v' (l0 ++ [u]) → w.grownBy w' v.ownBlock → K (a.put o.dst v') w') :
    if Region.wanted o (yielded ops a.tmps) = true then Oper.wpIn F nd Try.prog o a w K Q else E := by
  have hw : Region.wanted o (yielded ops a.tmps) = true := by simp [Region.wanted, hgd]
  rw [if_pos hw]
  obtain ⟨v', w', hrun, h2, h3, h4⟩ := run_appendVw B w o.type v l0 hown g u hu hu1 hlen hbase
  unfold Oper.wpIn
  refine ⟨?_, ?_⟩
  · simp [Oper.about, ho, resolve, Target.leads, Sem.run_pure]
  · rw [Oper.semAt_plain F _ _ (by rw [ho]; intro c hc'; cases hc')]
    simp [execOp, ho, resolve, invoke, builtin, hs, hx, hrun, Result.andThen]
    exact h v' w' h2 h3
attribute [local go_sem] Oper.semAt_some
set_option maxHeartbeats 6400000 in
set_option maxRecDepth 100000 in
theorem p_cutS (A AF : Option Addr) (n c nf cf : Nat) (l : List (Int × Int)) (size : Int) (fl : List Int) (W : World) (hl : SampsAt W A l) (hn : l.length = n) (hnc : n ≤ c) (hc : c ≤ 9223372036854775807) (hn2 : n ≤ 8796093022000) (hsz : I64 size) (hf : TimesAt W AF fl) (hfn : fl.length = nf) :
    Calls Try.prog 21 #[.slice A n c, .int .i64 size, .slice AF nf cf] W (PtGet (cutL l size fl) W) := by
  by_cases hs0 : size < 1
  · have e : cutL l size fl = [] := if_pos hs0
    rw [e]
    have d0 : decide (size < 1) = true := decide_eq_true hs0
    clear hl hn hf hfn e hs0
    go_enter Try.func21, Try.ntmps21
    go_wp2_with fail
    go_ret
    exact pt_get ⟨_, [], rfl, OwnV.nil_ _ _, ⟨rfl, fun i hi => by simp at hi⟩, Ext.refl _⟩
  · have d0 : decide (size < 1) = false := decide_eq_false hs0
    have e : cutL l size fl = (cuS l size fl n).1 := by rw [cutL, if_neg hs0, hn]
    rw [e]
    have E1 := ext_alloc W (.cells #[.slice none 0 0] 40)
    have B1 := Boxed.new W 40 (.slice none 0 0)
    have KS := hide (p_setOf AF nf cf fl _ (hf.ext E1) hfn)
    have HL := hide hl
    have Hn := hide hn
    have hsz0 := hsz
    have E1 := hide E1
    have B1 := hide B1
    clear hl hf hfn e hn
    refine (callsIn_wide (n := 4)).1 ?_
    refine callsIn_of_wp_marks Try.func21 rfl trivial ?_ rfl
    simp only [Try.ntmps21, List.size_toArray, List.length_cons, List.length_nil, Nat.reduceAdd, Nat.reduceSub, Array.replicate_succ, Array.replicate_zero, List.push_toArray, List.append_toArray, List.nil_append, List.cons_append]
    gi_wp2_with (first
      | (refine ⟨trivial, ?_⟩; gi_at_call 37; refine (callsIn_wide.2 KS.out).mono ?_; rintro e w1 ⟨bM, rfl, hbM, hS, hE⟩; have hbM := hide hbM; have HS := hide hS; have E2 := hide hE; clear hS hE)
      | (refine ⟨trivial, ?_⟩; gi_at_call 36; refine (callsIn_wide.2 (p_partsS A n c size bM w1)).mono ?_; rintro e w2 ⟨rfl, rfl⟩))
    obtain ⟨bm, om, hA⟩ : ∃ bm om, 0 < n → A = some ⟨bm, om, none⟩ := by
      by_cases h0 : 0 < l.length
      · obtain ⟨b, o, hA, _⟩ := HL.out.2.2 h0
        exact ⟨b, o, fun _ => hA⟩
      · exact ⟨0, 0, fun h => absurd (Hn.out ▸ h) h0⟩
    have X1 := ext_alloc w1 (.cells #[.slice A n c] 22)
    have X2 := ext_alloc (w1.alloc (.cells #[.slice A n c] 22)) (.cells #[.int .i64 size] 3)
    have X3 := ext_alloc ((w1.alloc (.cells #[.slice A n c] 22)).alloc (.cells #[.int .i64 size] 3)) (.cells #[.map (some bM)] 63)
    have N1 := Boxed.new w1 22 (.slice A n c)
    have N2 := Boxed.new (w1.alloc (.cells #[.slice A n c] 22)) 3 (.int .i64 size)
    have N3 := Boxed.new ((w1.alloc (.cells #[.slice A n c] 22)).alloc (.cells #[.int .i64 size] 3)) 63 (.map (some bM))
    have hb2 := (hbM.out)
    have hw1 := E2.out.size
    rw [World.size_alloc] at hb2 hw1
    simp only [World.size_alloc] at N2 N3
    have K1 := ((N1.alloc (.cells #[.int .i64 size] 3)).alloc (.cells #[.map (some bM)] 63))
    have K2 := N2.alloc (.cells #[.map (some bM)] 63)
    have EW := E1.out.trans (E2.out.trans (X1.trans (X2.trans X3)))
    have SW := (HS.out.ext (X1.trans (X2.trans X3)))
    have BW := (((E2.out.trans (X1.trans (X2.trans X3))).block W.heap.size B1.out.lt).trans B1.out)
    have hbl := HS.out.lt
    have hsz : (((w1.alloc (.cells #[.slice A n c] 22)).alloc (.cells #[.int .i64 size] 3)).alloc (.cells #[.map (some bM)] 63)).heap.size = w1.heap.size + 1 + 1 + 1 := by simp only [World.size_alloc]
    clear X1 X2 X3 N1 N2
    obtain ⟨Wl, hWl⟩ : ∃ Wl, ((w1.alloc (.cells #[.slice A n c] 22)).alloc (.cells #[.int .i64 size] 3)).alloc (.cells #[.map (some bM)] 63) = Wl := ⟨_, rfl⟩
    rw [hWl] at K1 K2 N3 EW SW BW hsz ⊢
    clear hWl
    obtain ⟨m, hm⟩ : ∃ m, Wl.heap.size = m := ⟨_, rfl⟩
    rw [hm] at hsz
    have hst : SeqStopsK Fence.wide (4 - 1) Try.prog 48 #[.pointer (some ⟨w1.heap.size, 0, none⟩), .pointer (some ⟨w1.heap.size + 1, 0, none⟩), .pointer (some ⟨w1.heap.size + 1 + 1, 0, none⟩)] (fun x : Seg n => #[.slice (some ⟨bm, om + 2 * x.1.1, none⟩) (x.1.2 - x.1.1) (c - x.1.1)]) (KpB m W.heap.size) (fun ys => ys.map (segL l) = (cuS l size fl n).1) (fun _ => True) n Wl := fun lw J Jx W' hW _ _ hY h0 =>
      p_parts1 Fence.wide (4 - 1) trivial rfl (by decide) none A n c l size fl bm om m W.heap.size w1.heap.size (w1.heap.size + 1) (w1.heap.size + 1 + 1) bM Hn.out hnc hc hn2 (by omega) hsz0 hA lw J Jx hY W'
        ⟨by omega, by omega, (hW.cell (p := ⟨w1.heap.size, 0, none⟩) (by rw [hm]; show w1.heap.size < m; omega)).trans K1.cell⟩
        ⟨by omega, by omega, (hW.cell (p := ⟨w1.heap.size + 1, 0, none⟩) (by rw [hm]; show w1.heap.size + 1 < m; omega)).trans K2.cell⟩
        ⟨by omega, by omega, (hW.cell (p := ⟨w1.heap.size + 1 + 1, 0, none⟩) (by rw [hm]; show w1.heap.size + 1 + 1 < m; omega)).trans N3.cell⟩
        ⟨by omega, by omega, SW.ext hW⟩ h0
    have hWm : W.heap.size < m := by omega
    have Hst := hide hst
    have SWl := hide EW
    have BWl := hide BW
    clear hst KS E1 B1 HS E2 hbM K1 K2 N3 EW SW BW hsz hb2 hw1 hbl
    obtain ⟨q1, hq1⟩ : ∃ q, w1.heap.size = q := ⟨_, rfl⟩
    rw [hq1] at Hst ⊢
    clear hq1
    refine wpIn_rangeFunc_ownG rfl (by decide) (gf := 48) (lb := #[.pointer (some ⟨q1, 0, none⟩), .pointer (some ⟨q1 + 1, 0, none⟩), .pointer (some ⟨q1 + 1 + 1, 0, none⟩)]) rfl trivial (enters_of Try.func48 (by kernel_rfl) rfl)
      Hst.out kpB_t (kpB_b (by omega)) (Below.refl _ _) (fun _ => rfl)
      (CutI W m W.heap.size l) (fun _ _ _ => False) (by rw [hm]; exact cutI_own (by omega)) (fun _ _ _ _ _ hs _ _ => hs)
      ⟨.slice none 0 0, [], BWl.out, OwnV.nil_ _ _, ⟨rfl, fun i hi => by simp at hi⟩, SWl.out, by omega⟩
      (fun x => { tmps := #[.slice A n c, .int .i64 size, .slice AF nf cf, undef, undef, undef, .slice none 0 0, .pointer (some ⟨W.heap.size, 0, none⟩), .slice (some ⟨bm, om + 2 * x.1.1, none⟩) (x.1.2 - x.1.1) (c - x.1.1), .int .i64 size, .bool false, .slice A n c, .int .i64 size, .slice AF nf cf, .map (some bM), .func (.func 48) #[] #[.pointer (some ⟨q1, 0, none⟩), .pointer (some ⟨q1 + 1, 0, none⟩), .pointer (some ⟨q1 + 1 + 1, 0, none⟩)], .slice (some ⟨bm, om + 2 * x.1.1, none⟩) (x.1.2 - x.1.1) (c - x.1.1), undef, undef, undef, undef, undef, undef], defers := [] }) ?assign ?body ?done ?stop
    case assign =>
      intro lw x W' K hK
      gi_wp2
      exact hK
    case body =>
      rintro lw pre x W' ⟨v, vs, hv, hO, hP, hE, hs⟩ hlt
      obtain ⟨⟨a, e⟩, h1, h2⟩ := x
      dsimp only at h1 h2 ⊢
      obtain rfl := hA (by omega)
      have hvl : vs.length + 1 ≤ 9382499223000 := by rw [hP.1, List.length_map]; omega
      have KC := p_cloneS bm (om + 2 * a) (e - a) (c - a) ((l.drop a).take (e - a)) W'.drew (samps_seg (HL.out.ext (hE.trans (ext_drew W'))) a e) (by rw [List.length_take, List.length_drop, Hn.out]; omega) (by omega)
      have hpl : ((l.drop a).take (e - a)).length = e - a := by rw [List.length_take, List.length_drop, Hn.out]; omega
      obtain ⟨p, hp⟩ : ∃ p, (l.drop a).take (e - a) = p := ⟨_, rfl⟩
      rw [hp] at KC
      have Hp := hide hp
      have KC := hide KC
      clear hp hpl
      have Hv := hide hv
      have HO := hide hO
      have HP := hide hP
      have HE := hide hE
      have cB : W'.drew.cell? ⟨W.heap.size, 0, none⟩ = some v := hv.cell
      obtain ⟨A0, c0, rfl, _, _, _⟩ := hO.at_
      clear hv hO hP hE
      gi_wp2
      refine wpIn_region_any (by kernel_rfl) ?_
      try (change wpAnyIn _ _ _ _ _ _ _ _ _ (World.drew _))
      refine wpAnyIn_ready (rs := [0, 1]) (by kernel_rfl) (by simp) ?_
      refine AllReadyIn.cons rfl (fun K hK => ?_) ?_
      · go_simp
        refine hK _ _ ?_
        clear hK K
        refine wpAnyIn_ready (rs := [1]) (by kernel_rfl) (by simp) ?_
        refine AllReadyIn.cons rfl (fun K hK => ?_) ?_
        · go_simp
          refine hK _ _ ?_
          clear hK K
          refine wpAnyIn_ready (rs := [2]) (by kernel_rfl) (by simp) ?_
          refine AllReadyIn.cons rfl (fun K hK => ?_) ?_
          · go_simp
            gi_wp2_with (refine ⟨trivial, ?_⟩; gi_at_call 38; refine (CallsIn.inRound lw (callsIn_wide.2 KC.out)).mono ?_; rintro e3 w3 ⟨u, rfl, hU, hE3⟩; obtain ⟨A3, c3, rfl, _, _, _⟩ := hU.at_; have U3 := hide hU; have E3 := hide ((ext_drew W').trans hE3); have cB3 := (E3.out.cell (p := ⟨W.heap.size, 0, none⟩) Hv.out.lt).trans Hv.out.cell; have cB4 := ((ext_alloc w3 (.cells #[.slice A3 p.length c3] 22)).cell (p := ⟨W.heap.size, 0, none⟩) (Nat.lt_of_lt_of_le Hv.out.lt E3.out.size)).trans cB3; clear hU hE3)
            refine wpAnyIn_ready (rs := [3]) (by kernel_rfl) (by simp) ?_
            refine AllReadyIn.cons rfl (fun K hK => ?_) ?_
            · go_simp
              refine hK _ _ ?_
              clear hK K
              refine wpAnyIn_ready (rs := [4]) (by kernel_rfl) (by simp) ?_
              refine AllReadyIn.cons rfl (fun K hK => ?_) ?_
              · refine stepIn_appendV rfl (.tmp 17) (.tmp 20) rfl m _ vs rfl ((HO.out.ext E3.out).alloc _) w3.heap.size rfl (.slice A3 p.length c3) ((Blk.new w3 _ _).cell 0) rfl hvl (by have := E3.out.size; rw [World.size_alloc]; omega) ?_
                intro v4 w4 hO4 hG4
                refine hK _ _ ?_
                clear hK K
                obtain ⟨hk1, hk2, hk3⟩ := cut_step (x := ⟨(a, e), h1, h2⟩) (Nat.le_refl _) hWm Hv.out HO.out HP.out HE.out hs E3.out (show OwnS _ _ _ ((l.drop a).take (e - a)) by rw [Hp.out]; exact U3.out) hO4 hG4
                obtain ⟨A4, c4, rfl, _, _, _⟩ := hO4.at_
                have hv4 := box_app Hv.out HO.out hWm E3.out hG4
                have cB5 := hv4.cell
                have fB5 := hv4.frozen
                have K6 := hide (And.intro hk1 (And.intro hk2 hk3))
                clear hk1 hk2 hk3 hO4 hG4 hv4
                refine wpAnyIn_ready (rs := [5]) (by kernel_rfl) (by simp) ?_
                refine AllReadyIn.cons rfl (fun K hK => ?_) ?_
                · go_simp
                  refine hK _ _ ?_
                  clear hK K
                  refine wpAnyIn_done (by kernel_rfl) ?_ _
                  have hh := K6.out
                  simp only [List.length_append, List.length_cons, List.length_nil, Nat.zero_add] at hh
                  exact ⟨by rw [hm]; exact hh.1, hh.2.1, hh.2.2⟩
                exact AllReadyIn.nil
              exact AllReadyIn.nil
            exact AllReadyIn.nil
          exact AllReadyIn.nil
        exact AllReadyIn.nil
      refine AllReadyIn.cons rfl (fun K hK => ?_) ?_
      · go_simp
        refine hK _ _ ?_
        clear hK K
        refine wpAnyIn_ready (rs := [0, 2]) (by kernel_rfl) (by simp) ?_
        refine AllReadyIn.cons rfl (fun K hK => ?_) ?_
        · go_simp
          refine hK _ _ ?_
          clear hK K
          refine wpAnyIn_ready (rs := [2]) (by kernel_rfl) (by simp) ?_
          refine AllReadyIn.cons rfl (fun K hK => ?_) ?_
          · go_simp
            gi_wp2_with (refine ⟨trivial, ?_⟩; gi_at_call 38; refine (CallsIn.inRound lw (callsIn_wide.2 KC.out)).mono ?_; rintro e3 w3 ⟨u, rfl, hU, hE3⟩; obtain ⟨A3, c3, rfl, _, _, _⟩ := hU.at_; have U3 := hide hU; have E3 := hide ((ext_drew W').trans hE3); have cB3 := (E3.out.cell (p := ⟨W.heap.size, 0, none⟩) Hv.out.lt).trans Hv.out.cell; have cB4 := ((ext_alloc w3 (.cells #[.slice A3 p.length c3] 22)).cell (p := ⟨W.heap.size, 0, none⟩) (Nat.lt_of_lt_of_le Hv.out.lt E3.out.size)).trans cB3; clear hU hE3)
            refine wpAnyIn_ready (rs := [3]) (by kernel_rfl) (by simp) ?_
            refine AllReadyIn.cons rfl (fun K hK => ?_) ?_
            · go_simp
              refine hK _ _ ?_
              clear hK K
              refine wpAnyIn_ready (rs := [4]) (by kernel_rfl) (by simp) ?_
              refine AllReadyIn.cons rfl (fun K hK => ?_) ?_
              · refine stepIn_appendV rfl (.tmp 17) (.tmp 20) rfl m _ vs rfl ((HO.out.ext E3.out).alloc _) w3.heap.size rfl (.slice A3 p.length c3) ((Blk.new w3 _ _).cell 0) rfl hvl (by have := E3.out.size; rw [World.size_alloc]; omega) ?_
                intro v4 w4 hO4 hG4
                refine hK _ _ ?_
                clear hK K
                obtain ⟨hk1, hk2, hk3⟩ := cut_step (x := ⟨(a, e), h1, h2⟩) (Nat.le_refl _) hWm Hv.out HO.out HP.out HE.out hs E3.out (show OwnS _ _ _ ((l.drop a).take (e - a)) by rw [Hp.out]; exact U3.out) hO4 hG4
                obtain ⟨A4, c4, rfl, _, _, _⟩ := hO4.at_
                have hv4 := box_app Hv.out HO.out hWm E3.out hG4
                have cB5 := hv4.cell
                have fB5 := hv4.frozen
                have K6 := hide (And.intro hk1 (And.intro hk2 hk3))
                clear hk1 hk2 hk3 hO4 hG4 hv4
                refine wpAnyIn_ready (rs := [5]) (by kernel_rfl) (by simp) ?_
                refine AllReadyIn.cons rfl (fun K hK => ?_) ?_
                · go_simp
                  refine hK _ _ ?_
                  clear hK K
                  refine wpAnyIn_done (by kernel_rfl) ?_ _
                  have hh := K6.out
                  simp only [List.length_append, List.length_cons, List.length_nil, Nat.zero_add] at hh
                  exact ⟨by rw [hm]; exact hh.1, hh.2.1, hh.2.2⟩
                exact AllReadyIn.nil
              exact AllReadyIn.nil
            exact AllReadyIn.nil
          exact AllReadyIn.nil
        refine AllReadyIn.cons rfl (fun K hK => ?_) ?_
        · go_simp
          gi_wp2_with (refine ⟨trivial, ?_⟩; gi_at_call 38; refine (CallsIn.inRound lw (callsIn_wide.2 KC.out)).mono ?_; rintro e3 w3 ⟨u, rfl, hU, hE3⟩; obtain ⟨A3, c3, rfl, _, _, _⟩ := hU.at_; have U3 := hide hU; have E3 := hide ((ext_drew W').trans hE3); have cB3 := (E3.out.cell (p := ⟨W.heap.size, 0, none⟩) Hv.out.lt).trans Hv.out.cell; have cB4 := ((ext_alloc w3 (.cells #[.slice A3 p.length c3] 22)).cell (p := ⟨W.heap.size, 0, none⟩) (Nat.lt_of_lt_of_le Hv.out.lt E3.out.size)).trans cB3; clear hU hE3)
          refine wpAnyIn_ready (rs := [0, 3]) (by kernel_rfl) (by simp) ?_
          refine AllReadyIn.cons rfl (fun K hK => ?_) ?_
          · go_simp
            refine hK _ _ ?_
            clear hK K
            refine wpAnyIn_ready (rs := [3]) (by kernel_rfl) (by simp) ?_
            refine AllReadyIn.cons rfl (fun K hK => ?_) ?_
            · go_simp
              refine hK _ _ ?_
              clear hK K
              refine wpAnyIn_ready (rs := [4]) (by kernel_rfl) (by simp) ?_
              refine AllReadyIn.cons rfl (fun K hK => ?_) ?_
              · refine stepIn_appendV rfl (.tmp 17) (.tmp 20) rfl m _ vs rfl ((HO.out.ext E3.out).alloc _) w3.heap.size rfl (.slice A3 p.length c3) ((Blk.new w3 _ _).cell 0) rfl hvl (by have := E3.out.size; rw [World.size_alloc]; omega) ?_
                intro v4 w4 hO4 hG4
                refine hK _ _ ?_
                clear hK K
                obtain ⟨hk1, hk2, hk3⟩ := cut_step (x := ⟨(a, e), h1, h2⟩) (Nat.le_refl _) hWm Hv.out HO.out HP.out HE.out hs E3.out (show OwnS _ _ _ ((l.drop a).take (e - a)) by rw [Hp.out]; exact U3.out) hO4 hG4
                obtain ⟨A4, c4, rfl, _, _, _⟩ := hO4.at_
                have hv4 := box_app Hv.out HO.out hWm E3.out hG4
                have cB5 := hv4.cell
                have fB5 := hv4.frozen
                have K6 := hide (And.intro hk1 (And.intro hk2 hk3))
                clear hk1 hk2 hk3 hO4 hG4 hv4
                refine wpAnyIn_ready (rs := [5]) (by kernel_rfl) (by simp) ?_
                refine AllReadyIn.cons rfl (fun K hK => ?_) ?_
                · go_simp
                  refine hK _ _ ?_
                  clear hK K
                  refine wpAnyIn_done (by kernel_rfl) ?_ _
                  have hh := K6.out
                  simp only [List.length_append, List.length_cons, List.length_nil, Nat.zero_add] at hh
                  exact ⟨by rw [hm]; exact hh.1, hh.2.1, hh.2.2⟩
                exact AllReadyIn.nil
              exact AllReadyIn.nil
            exact AllReadyIn.nil
          refine AllReadyIn.cons rfl (fun K hK => ?_) ?_
          · go_simp
            refine hK _ _ ?_
            clear hK K
            refine wpAnyIn_ready (rs := [0]) (by kernel_rfl) (by simp) ?_
            refine AllReadyIn.cons rfl (fun K hK => ?_) ?_
            · go_simp
              refine hK _ _ ?_
              clear hK K
              refine wpAnyIn_ready (rs := [4]) (by kernel_rfl) (by simp) ?_
              refine AllReadyIn.cons rfl (fun K hK => ?_) ?_
              · refine stepIn_appendV rfl (.tmp 17) (.tmp 20) rfl m _ vs rfl ((HO.out.ext E3.out).alloc _) w3.heap.size rfl (.slice A3 p.length c3) ((Blk.new w3 _ _).cell 0) rfl hvl (by have := E3.out.size; rw [World.size_alloc]; omega) ?_
                intro v4 w4 hO4 hG4
                refine hK _ _ ?_
                clear hK K
                obtain ⟨hk1, hk2, hk3⟩ := cut_step (x := ⟨(a, e), h1, h2⟩) (Nat.le_refl _) hWm Hv.out HO.out HP.out HE.out hs E3.out (show OwnS _ _ _ ((l.drop a).take (e - a)) by rw [Hp.out]; exact U3.out) hO4 hG4
                obtain ⟨A4, c4, rfl, _, _, _⟩ := hO4.at_
                have hv4 := box_app Hv.out HO.out hWm E3.out hG4
                have cB5 := hv4.cell
                have fB5 := hv4.frozen
                have K6 := hide (And.intro hk1 (And.intro hk2 hk3))
                clear hk1 hk2 hk3 hO4 hG4 hv4
                refine wpAnyIn_ready (rs := [5]) (by kernel_rfl) (by simp) ?_
                refine AllReadyIn.cons rfl (fun K hK => ?_) ?_
                · go_simp
                  refine hK _ _ ?_
                  clear hK K
                  refine wpAnyIn_done (by kernel_rfl) ?_ _
                  have hh := K6.out
                  simp only [List.length_append, List.length_cons, List.length_nil, Nat.zero_add] at hh
                  exact ⟨by rw [hm]; exact hh.1, hh.2.1, hh.2.2⟩
                exact AllReadyIn.nil
              exact AllReadyIn.nil
            exact AllReadyIn.nil
          exact AllReadyIn.nil
        exact AllReadyIn.nil
      exact AllReadyIn.nil
    case done =>
      rintro D ys W' hD hys ⟨v, vs, hv, hO, hP, hE, hs⟩ hK
      have hc1 := hv.cell
      have Hcut : Hid (PtGet (cuS l size fl n).1 W (.returned v) (W'.putObj D (.deferred none))) := hide (by
        have hr : ∀ r, some D = some r → ∃ o : Obj, W'.heap[r]? = some o ∧ o.isCells = false := fun r e => by cases e; exact ⟨_, hK, rfl⟩
        refine pt_get ⟨v, vs, rfl, (hO.kept (grownBy_putObj' _ D _) (row_cells hO.1 hr)).less (by omega), ⟨by rw [← hys]; exact hP.1, fun i hi => ?_⟩, hE.grown (grownBy_putObj' _ D _) hE.size (fun k e => by cases e; omega)⟩
        rw [← hys]
        exact ((hP.2 i hi).kept (grownBy_putObj' _ D _) (row_cells (hP.2 i hi).1 hr)).less (by omega))
      obtain ⟨A0, c0, rfl, _, _, _⟩ := hO.at_
      clear hv hO hP hE hs hys
      gi_wp2
      refine ⟨by simp, .inl ⟨_, _, rfl, run_takeDeferred hK, ?_⟩⟩
      refine ⟨_, results_tmp rfl _ _ _, ?_⟩
      exact Hcut.out
    case stop =>
      rintro D c' pre W' _ _ h _
      exact h.elim
end
section
open Go Go.RowKit Go.Sort
theorem idxP (b off N cap j : Nat) (h : j < N) (w : World) : (Instr.indexAt 40 (.slice (some ⟨b, off, none⟩) N cap) (.int .i64 (j : Int))).run Try.prog w = .ok (.pointer (some ⟨b, off + j, none⟩)) w := by
  have hz := Try.sizeOf22
  have he : Try.prog.elem 40 = 22 := by kernel_rfl
  have hr := run_indexAt_slice (P := Try.prog) (w := w) 40 ⟨b, off, none⟩ N cap .i64 (j : Int) (by kernel_rfl)
  rw [hr, if_pos ⟨by omega, by omega⟩, he, hz]
  simp [Result.andThen, add_at]
set_option maxHeartbeats 1600000 in
set_option maxRecDepth 100000 in
theorem l_same12 (A A2 : Option Addr) (m c c2 : Nat) (ps : List (List (Int × Int))) (W : World) (hm : ps.length = m) (hm2 : m ≤ 9223372036854775807) (hx : PtsAt W A ps) (hy : PtsAt W A2 ps) :
    Calls Try.prog 20 #[.slice A m c, .slice A2 m c2] W (Ret (.bool true) W) := by
  have HX := hide hx
  have HY := hide hy
  have Hm := hide hm
  have E0 := hide (Ext.refl W)
  have dn : ((m : Int) != (m : Int)) = false := by simp
  clear hx hy hm
  go_enter Try.func20, Try.ntmps20
  go_wp2_with fail
  go_loopw [5] (fun iv wr => ∃ j : Nat, j ≤ m ∧ iv = .int .i64 (j : Int) ∧ Hid (Ext W wr)) (fun iv _ => m - (intOf iv).toNat)
  case atStart => exact ⟨0, by omega, rfl, E0⟩
  case round =>
    clear E0
    obtain ⟨j, hj, rfl, HE⟩ := hrel
    by_cases hlt : j < m
    · have d0 : decide ((j : Int) < (m : Int)) = true := decide_eq_true (by omega)
      have hjp : j < ps.length := by rw [Hm.out]; exact hlt
      obtain ⟨g, off, rfl, hg, hc⟩ := (HX.out.ext HE.out) (by omega)
      obtain ⟨g2, off2, rfl, hg2, hc2⟩ := (HY.out.ext HE.out) (by omega)
      obtain ⟨A1, c1, h1, s1⟩ := hc j hjp
      obtain ⟨A3, c3, h3, s3⟩ := hc2 j hjp
      obtain ⟨p, hp⟩ : ∃ p, ps.getD j [] = p := ⟨_, rfl⟩
      rw [hp] at h1 s1 h3 s3
      obtain ⟨q, hq⟩ : ∃ q, p.length = q := ⟨_, rfl⟩
      rw [hq] at h1 h3
      have hq2 : q ≤ 9223372036854775807 := by have := s1.2.1; omega
      have KS := hide (fun w (h : Ext wr w) => r_sameS A1 A3 q q c1 c3 p p w (s1.ext h) hq (s3.ext h) hq true (wiB_self p))
      have ix := fun w => idxP g off m c j hlt w
      have ix2 := fun w => idxP g2 off2 m c2 j hlt w
      have cq := fun d os => cell_regrown h1 d os
      have cq2 := fun d os => cell_regrown h3 d os
      clear hc hc2 s1 s3 hp hq hjp hg hg2
      go_upto_region 6 with fail
      refine wp_region_quiet_below (by kernel_rfl) (by kernel_rfl) ?_
      repeat (first | go_big_quiet_step (with_reducible exact quiet_ret (KS.out _ (ext_regrown _ _ _))) | quiet_step (with_reducible exact quiet_ret (KS.out _ (ext_regrown _ _ _))))
      refine wpQuiet_nil ?_
      intro _ hw'
      obtain ⟨⟨dq, osq⟩, hw''⟩ := hw'
      subst hw''
      have X6 := hide (HE.out.trans (ext_regrown _ dq osq))
      obtain ⟨z6, hz6⟩ : ∃ w, grow (redrawn wr dq) osq = w := ⟨_, rfl⟩
      rw [hz6] at X6 ⊢
      clear hz6
      go_wp2_with fail
      go_roundw
      case rel => exact ⟨j + 1, by omega, by go_num, X6⟩
      case measure => simp [intOf]; omega
    · obtain rfl : j = m := by omega
      have d0 : decide ((j : Int) < (j : Int)) = false := decide_eq_false (by omega)
      go_wp2_with fail
      go_ret
      exact ⟨rfl, HE.out⟩
set_option maxHeartbeats 1600000 in
set_option maxRecDepth 100000 in
theorem l_alike12 (A A2 : Option Addr) (n m c c2 : Nat) (x y : List (Int × Int)) (ep f t : Int) (W : World) (hx : SampsAt W A x) (hn : x.length = n) (hn2 : n ≤ 8796093022000) (hy : SampsAt W A2 y) (hm : y.length = m) (hep : I64 ep) (hf : I64 f) (ht : I64 t) :
    Calls Try.prog 16 #[.slice A n c, .slice A2 m c2, .int .i64 ep, .int .i64 f, .int .i64 t] W (Ret (.bool true) W) := by
  obtain ⟨v, hv⟩ : ∃ v, chkS x = v := ⟨_, rfl⟩
  obtain ⟨b, hb⟩ : ∃ b, wiB x y ep = b := ⟨_, rfl⟩
  obtain ⟨r, hr⟩ : ∃ r, rgL x f t = r := ⟨_, rfl⟩
  obtain ⟨rn, hrn⟩ : ∃ rn, r.length = rn := ⟨_, rfl⟩
  have hmf : (x.map Prod.fst).length = n := by rw [List.length_map, hn]
  have hms : (x.map Prod.snd).length = n := by rw [List.length_map, hn]
  have K1 := hide (fun w (h : Ext W w) => p_checkS A n c x w (hx.ext h) hn hn2 v hv)
  have K2 := hide (fun w (h : Ext W w) => r_checkS A n c x w (hx.ext h) hn hn2 v hv)
  have T1 : Hid (∀ w, Ext W w → Calls Try.prog 30 #[.slice A n c] w fun e w' => ∃ B1 d1, e = .returned (.slice B1 n d1) ∧ TimesAt w' B1 (x.map Prod.fst) ∧ Ext w w') := hide (fun w h => (p_timesS A n c x w (hx.ext h) hn hn2).mono fun e w' h => by obtain ⟨B1, d1, rfl, h1, h2⟩ := h; exact ⟨B1, d1, by rw [hmf], h1, h2⟩)
  have T2 : Hid (∀ w, Ext W w → Calls Try.prog 13 #[.slice A n c] w fun e w' => ∃ B1 d1, e = .returned (.slice B1 n d1) ∧ TimesAt w' B1 (x.map Prod.fst) ∧ Ext w w') := hide (fun w h => (r_timesS A n c x w (hx.ext h) hn hn2).mono fun e w' h => by obtain ⟨B1, d1, rfl, h1, h2⟩ := tm_get h; exact ⟨B1, d1, by rw [hmf], h1, h2⟩)
  have V1 : Hid (∀ w, Ext W w → Calls Try.prog 31 #[.slice A n c] w fun e w' => ∃ B1 d1, e = .returned (.slice B1 n d1) ∧ TimesAt w' B1 (x.map Prod.snd) ∧ Ext w w') := hide (fun w h => (p_valsS A n c x w (hx.ext h) hn hn2).mono fun e w' h => by obtain ⟨B1, d1, rfl, h1, h2⟩ := h; exact ⟨B1, d1, by rw [hms], h1, h2⟩)
  have V2 : Hid (∀ w, Ext W w → Calls Try.prog 14 #[.slice A n c] w fun e w' => ∃ B1 d1, e = .returned (.slice B1 n d1) ∧ TimesAt w' B1 (x.map Prod.snd) ∧ Ext w w') := hide (fun w h => (r_valsS A n c x w (hx.ext h) hn hn2).mono fun e w' h => by obtain ⟨B1, d1, rfl, h1, h2⟩ := tm_get h; exact ⟨B1, d1, by rw [hms], h1, h2⟩)
  have ST : Hid (∀ B1 B2 d1 d2 w, TimesAt w B1 (x.map Prod.fst) → TimesAt w B2 (x.map Prod.fst) → Calls Try.prog 29 #[.slice B1 n d1, .slice B2 n d2] w (Ret (.bool true) w)) := hide (fun B1 B2 d1 d2 w h1 h2 => t_same B1 B2 n n d1 d2 _ _ w h1 h2 hmf hmf true (by simp))
  have SV : Hid (∀ B1 B2 d1 d2 w, TimesAt w B1 (x.map Prod.snd) → TimesAt w B2 (x.map Prod.snd) → Calls Try.prog 29 #[.slice B1 n d1, .slice B2 n d2] w (Ret (.bool true) w)) := hide (fun B1 B2 d1 d2 w h1 h2 => t_same B1 B2 n n d1 d2 _ _ w h1 h2 hms hms true (by simp))
  have W1 := hide (fun w (h : Ext W w) => p_withinS A A2 n m c c2 x y ep w (hx.ext h) hn (hy.ext h) hm hep b hb)
  have W2 := hide (fun w (h : Ext W w) => r_withinS A A2 n m c c2 x y ep w (hx.ext h) hn (hy.ext h) hm hep b hb)
  have R1 : Hid (∀ w, Ext W w → Calls Try.prog 25 #[.slice A n c, .int .i64 f, .int .i64 t] w fun e w' => ∃ B1 d1, e = .returned (.slice B1 rn d1) ∧ SampsAt w' B1 r ∧ Ext w w') := hide (fun w h => (p_rangeS A n c x f t w (hx.ext h) hn hn2 hf ht).mono fun e w' h => by obtain ⟨B1, d1, rfl, h1, h2⟩ := h; exact ⟨B1, d1, by rw [hr, hrn], by rw [← hr]; exact h1, h2⟩)
  have R2 : Hid (∀ w, Ext W w → Calls Try.prog 34 #[.slice A n c, .int .i64 f, .int .i64 t] w fun e w' => ∃ B1 d1, e = .returned (.slice B1 rn d1) ∧ SampsAt w' B1 r ∧ Ext w w') := hide (fun w h => (r_rangeS A n c x f t w (hx.ext h) hn hn2).mono fun e w' h => by obtain ⟨v, rfl, ho, hE⟩ := h; obtain ⟨B1, d1, h0, h1, h2⟩ := sm_get ho hE; exact ⟨B1, d1, by rw [h0, hr, hrn], by rw [← hr]; exact h1, h2⟩)
  have SR : Hid (∀ B1 B2 d1 d2 w, SampsAt w B1 r → SampsAt w B2 r → Calls Try.prog 18 #[.slice B1 rn d1, .slice B2 rn d2] w (Ret (.bool true) w)) := hide (fun B1 B2 d1 d2 w h1 h2 => r_sameS B1 B2 rn rn d1 d2 r r w h1 hrn h2 hrn true (wiB_self r))
  have E0 := hide (Ext.refl W)
  have dv : ((v : Int) == (v : Int)) = true := by simp
  have db : (b == b) = true := by simp
  obtain ⟨xt, hxt⟩ : ∃ xt, x.map Prod.fst = xt := ⟨_, rfl⟩
  obtain ⟨xv, hxv⟩ : ∃ xv, x.map Prod.snd = xv := ⟨_, rfl⟩
  rw [hxt] at T1 T2 ST
  rw [hxv] at V1 V2 SV
  clear hx hn hy hm hv hb hr hrn hmf hms hxt hxv hn2
  go_enter Try.func16, Try.ntmps16
  go_wp2_with (first
    | (go_at_call 27; (with_reducible refine (K1.out _ E0.out).mono ?_); rintro e w1 ⟨rfl, hE⟩; have E1 := hide (E0.out.trans hE); clear hE)
    | (go_at_call 28; (with_reducible refine (K2.out _ E1.out).mono ?_); rintro e w2 ⟨rfl, hE⟩; have E2 := hide (E1.out.trans hE); clear hE)
    | (go_at_call 30; (with_reducible refine (T1.out _ E2.out).mono ?_); rintro e w3 ⟨B1, d1, rfl, h1, hE⟩; have E3 := hide (E2.out.trans hE); have b1 := hide h1; clear hE h1)
    | (go_at_call 13; (with_reducible refine (T2.out _ E3.out).mono ?_); rintro e w4 ⟨B2, d2, rfl, h2, hE⟩; have E4 := hide (E3.out.trans hE); have k1 := hide (ST.out B1 B2 d1 d2 w4 (b1.out.ext hE) h2); clear hE h2 b1)
    | (go_at_call 29; (with_reducible refine (k1.out).mono ?_); rintro e w5 ⟨rfl, hE⟩; have E5 := hide (E4.out.trans hE); clear hE k1)
    | (go_at_call 31; (with_reducible refine (V1.out _ E5.out).mono ?_); rintro e w6 ⟨B3, d3, rfl, h1, hE⟩; have E6 := hide (E5.out.trans hE); have b3 := hide h1; clear hE h1)
    | (go_at_call 14; (with_reducible refine (V2.out _ E6.out).mono ?_); rintro e w7 ⟨B4, d4, rfl, h2, hE⟩; have E7 := hide (E6.out.trans hE); have k2 := hide (SV.out B3 B4 d3 d4 w7 (b3.out.ext hE) h2); clear hE h2 b3)
    | (go_at_call 29; (with_reducible refine (k2.out).mono ?_); rintro e w8 ⟨rfl, hE⟩; have E8 := hide (E7.out.trans hE); clear hE k2)
    | (go_at_call 32; (with_reducible refine (W1.out _ E8.out).mono ?_); rintro e w9 ⟨rfl, hE⟩; have E9 := hide (E8.out.trans hE); clear hE)
    | (go_at_call 33; (with_reducible refine (W2.out _ E9.out).mono ?_); rintro e w10 ⟨rfl, hE⟩; have E10 := hide (E9.out.trans hE); clear hE)
    | (go_at_call 25; (with_reducible refine (R1.out _ E10.out).mono ?_); rintro e w11 ⟨B5, d5, rfl, h1, hE⟩; have E11 := hide (E10.out.trans hE); have b5 := hide h1; clear hE h1)
    | (go_at_call 34; (with_reducible refine (R2.out _ E11.out).mono ?_); rintro e w12 ⟨B6, d6, rfl, h2, hE⟩; have E12 := hide (E11.out.trans hE); have k3 := hide (SR.out B5 B6 d5 d6 w12 (b5.out.ext hE) h2); clear hE h2 b5)
    | (go_at_call 18; (with_reducible refine (k3.out).mono ?_); rintro e w13 ⟨rfl, hE⟩; have E13 := hide (E12.out.trans hE); clear hE k3))
  go_ret
  exact ⟨rfl, E13.out⟩
end
section
open Go Go.RowKit Go.Sort
theorem inc_pairwise {l : List (Int × Int)} (h : incB (l.map Prod.fst) = true) : l.Pairwise fun p q => p.1 < q.1 := by
  rw [incB_iff] at h
  rw [List.pairwise_iff_getElem]
  intro i j hi hj hij
  obtain ⟨d, rfl⟩ : ∃ d, j = i + 1 + d := ⟨j - i - 1, by omega⟩
  have step : ∀ k (hk : k + 1 < l.length), (l[k]'(by omega)).1 < (l[k + 1]'hk).1 := fun k hk => by
    have := h k (by rw [List.length_map]; exact hk)
    simpa [List.getD_eq_getElem?_getD, show k < l.length by omega, hk] using this
  induction d with
  | zero => exact step i hj
  | succ d ih =>
    have h1 := ih (by omega) (by omega)
    have h2 := step (i + 1 + d) hj
    exact Int.lt_trans (h1 step) h2
theorem rg_none {l : List (Int × Int)} {f t : Int} (h : ∀ p ∈ l, ¬ (f ≤ p.1 ∧ p.1 ≤ t)) : rgL l f t = [] := by
  unfold rgL
  rw [List.filter_eq_nil_iff]
  intro p hp
  have := h p hp
  simp only [Bool.and_eq_true, decide_eq_true_eq]
  exact this
theorem rg_cons_in {p : Int × Int} {l : List (Int × Int)} {f t : Int} (h : f ≤ p.1 ∧ p.1 ≤ t) : rgL (p :: l) f t = p :: rgL l f t := by
  unfold rgL
  rw [List.filter_cons_of_pos (by simp [h.1, h.2])]
theorem rg_cons_out {p : Int × Int} {l : List (Int × Int)} {f t : Int} (h : ¬ (f ≤ p.1 ∧ p.1 ≤ t)) : rgL (p :: l) f t = rgL l f t := by
  unfold rgL
  rw [List.filter_cons_of_neg (by simp only [Bool.and_eq_true, decide_eq_true_eq]; exact h)]
/-- The ranges before, from and behind two times divide a sequence. -/
theorem rg_split {lo hi f t : Int} (hft : f ≤ t) : ∀ l : List (Int × Int), l.Pairwise (fun p q => p.1 < q.1) → (∀ p ∈ l, lo ≤ p.1 ∧ p.1 ≤ hi) → rgL l lo (f - 1) ++ rgL l f t ++ rgL l (t + 1) hi = l
  | [], _, _ => rfl
  | p :: l, hp, hb => by
    rw [List.pairwise_cons] at hp
    have hpb := hb p (List.mem_cons_self ..)
    have ih := rg_split (lo := lo) (hi := hi) hft l hp.2 (fun q hq => hb q (List.mem_cons_of_mem _ hq))
    by_cases h1 : p.1 < f
    · rw [rg_cons_in (f := lo) ⟨hpb.1, by omega⟩, rg_cons_out (f := f) (by omega), rg_cons_out (f := t + 1) (by omega), List.cons_append, List.cons_append, ih]
    · have e1 : rgL l lo (f - 1) = [] := rg_none (fun q hq => by have := hp.1 q hq; omega)
      by_cases h2 : p.1 ≤ t
      · rw [e1, List.nil_append] at ih
        rw [rg_cons_out (f := lo) (by omega), e1, List.nil_append, rg_cons_in (f := f) ⟨by omega, h2⟩, rg_cons_out (f := t + 1) (by omega), List.cons_append, ih]
      · have e2 : rgL l f t = [] := rg_none (fun q hq => by have := hp.1 q hq; omega)
        rw [e1, e2, List.nil_append, List.nil_append] at ih
        rw [rg_cons_out (f := lo) (by omega), e1, rg_cons_out (f := f) (by omega), e2, List.nil_append, List.nil_append, rg_cons_in (f := t + 1) ⟨by omega, hpb.2⟩, ih]
/-- What holds of the parts: none is empty or too long, and a shorter one ends at a flush or with the sequence. -/
def goodP (n : Nat) (size : Int) (fl : List Int) (ps : List (List (Int × Int))) : Prop :=
  ∀ i, i < ps.length → 1 ≤ (ps.getD i []).length ∧ ((ps.getD i []).length : Int) ≤ size ∧ (((ps.getD i []).length : Int) < size → ((ps.take (i + 1)).flatten.length = n ∨ (((ps.take (i + 1)).flatten.length : Nat) : Int) ∈ fl))
theorem cuS_ok (l : List (Int × Int)) {size : Int} (hs : 1 ≤ size) (fl : List Int) : ∀ k, k ≤ l.length → (cuS l size fl k).1.flatten ++ (cuS l size fl k).2 = l.take k ∧ goodP l.length size fl (cuS l size fl k).1 ∧ ((cuS l size fl k).2.length : Int) < size ∧ (k = l.length → (cuS l size fl k).2 = [])
  | 0, _ => ⟨by simp [cuS], fun i hi => by simp [cuS] at hi, by simp [cuS]; omega, fun h => by simp [cuS]⟩
  | k + 1, hk => by
    obtain ⟨h1, h2, h3, h4⟩ := cuS_ok l hs fl k (by omega)
    have hkl : k < l.length := by omega
    have e : l.getD k (0, 0) = l[k] := by simp [List.getD_eq_getElem?_getD, hkl]
    obtain ⟨o, ho⟩ : ∃ o, (cuS l size fl k).1 = o := ⟨_, rfl⟩
    obtain ⟨p, hp⟩ : ∃ p, (cuS l size fl k).2 = p := ⟨_, rfl⟩
    have hstep : cuS l size fl (k + 1) = if endB l.length size fl k (p.length + 1) = true then (o ++ [p ++ [l.getD k (0, 0)]], []) else (o, p ++ [l.getD k (0, 0)]) := by rw [cuS, ho, hp]
    rw [ho, hp] at h1
    rw [ho] at h2
    rw [hp] at h3
    have htk : l.take (k + 1) = l.take k ++ [l.getD k (0, 0)] := by rw [e, List.take_succ_eq_append_getElem hkl]
    rw [hstep, htk, ← h1]
    have hlen : (o.flatten ++ p).length = k := by rw [h1, List.length_take]; omega
    by_cases he : endB l.length size fl k (p.length + 1) = true
    · rw [if_pos he]
      refine ⟨by simp, ?_, by simp; omega, fun _ => rfl⟩
      intro i hi
      by_cases hio : i < o.length
      · have e1 : (o ++ [p ++ [l.getD k (0, 0)]]).getD i [] = o.getD i [] := by simp [List.getD_eq_getElem?_getD, List.getElem?_append_left hio]
        have e2 : (o ++ [p ++ [l.getD k (0, 0)]]).take (i + 1) = o.take (i + 1) := List.take_append_of_le_length (by omega)
        rw [e1, e2]
        exact h2 i hio
      · have hi2 : i = o.length := by simp at hi; omega
        subst hi2
        have e1 : (o ++ [p ++ [l.getD k (0, 0)]]).getD o.length [] = p ++ [l.getD k (0, 0)] := by simp [List.getD_eq_getElem?_getD]
        have e2 : (o ++ [p ++ [l.getD k (0, 0)]]).take (o.length + 1) = o ++ [p ++ [l.getD k (0, 0)]] := List.take_of_length_le (by simp)
        have e3 : (o ++ [p ++ [l.getD k (0, 0)]]).flatten.length = k + 1 := by
          rw [List.length_append] at hlen
          simp only [List.flatten_append, List.flatten_cons, List.flatten_nil, List.append_nil, List.length_append, List.length_singleton]
          omega
        rw [e1, e2, e3, List.length_append, List.length_singleton]
        refine ⟨by omega, by omega, fun hlt => ?_⟩
        unfold endB at he
        rw [Bool.or_eq_true, Bool.or_eq_true, decide_eq_true_iff, decide_eq_true_iff, decide_eq_true_iff] at he
        rcases he with (h | h) | h
        · exact Or.inl h
        · omega
        · exact Or.inr (by rw [show ((k + 1 : Nat) : Int) = (k : Int) + 1 by omega]; exact h)
    · rw [if_neg he]
      unfold endB at he
      rw [Bool.or_eq_true, Bool.or_eq_true, decide_eq_true_iff, decide_eq_true_iff, decide_eq_true_iff, not_or, not_or] at he
      refine ⟨by simp, h2, ?_, fun h => absurd h he.1.1⟩
      have := he.1.2
      rw [List.length_append, List.length_singleton]
      omega
/-- The parts, joined, are the sequence. -/
theorem cut_ok (l : List (Int × Int)) {size : Int} (hs : 1 ≤ size) (fl : List Int) : (cutL l size fl).flatten = l ∧ goodP l.length size fl (cutL l size fl) := by
  obtain ⟨h1, h2, _, h4⟩ := cuS_ok l hs fl l.length (Nat.le_refl _)
  rw [h4 rfl, List.append_nil, List.take_length] at h1
  unfold cutL
  rw [if_neg (by omega)]
  exact ⟨h1, h2⟩
end
section
open Go Go.RowKit Go.Sort
theorem eqS2 (a b a' b' : Int) (w : World) : (binOp .eql 47 (.agg #[.int .i64 a, .int .i64 b]) (.agg #[.int .i64 a', .int .i64 b'])).run Try.prog w = .ok (.bool (a == a' && b == b')) w := by
  have hS : Try.prog.underlying 47 = some (.struct (Try.prog.fieldsOf 47)) := by kernel_rfl
  have hp : Try.prog.stoodInHeld 47 = false := by kernel_rfl
  have u := Try.underlying2
  have z := Try.sizeOf2
  rw [run_eql_struct, show (10000 : Nat) = 9999 + 1 from rfl, run_equalIn_agg w 9999 47 _ _ hS hp]
  simp only [Program.fieldsOf, Try.underlying47]
  have he : ∀ (x y : Int) (w : World), (Op.equalIn 9999 2 (.int .i64 x) (.int .i64 y)).run Try.prog w = .ok (x == y) w := fun x y w => run_equalIn_int w 9998 2 .i64 .i64 x y u
  simp [Op.eqFields, Go.part, isAgg, run_underlying u, u, z, he]
  by_cases h0 : a = a' <;> by_cases h1 : b = b' <;> simp [h0, h1]
theorem new_atS (w : World) (l : List (Int × Int)) (hl : IsS l) (hm : l.length ≤ 9223372036854775807) (cs : Array Value) (hc : cs = (s8s l).toArray) : SampsAt (w.alloc (.cells cs 47)) (some ⟨w.heap.size, 0, none⟩) l := by
  subst hc
  refine ⟨hl, hm, fun _ => ⟨w.heap.size, 0, rfl, by simp, fun j hj => ?_⟩⟩
  have h := heap_alloc_new w (.cells (s8s l).toArray 47)
  have g := s8s_get l j hj
  rw [cell_of_row _ _ _ _ _ _ h, cell_of_row _ _ _ _ _ _ h]
  simpa using g
def kS : List (Int × Int) := [(1, 5), (2, 6), (3, 7)]
theorem kS_s : IsS kS := by
  intro x hx
  simp [kS] at hx
  unfold I64
  rcases hx with rfl | rfl | rfl <;> exact ⟨by omega, by omega⟩
theorem kS_cut : cutL kS 2 [] = [[(1, 5), (2, 6)], [(3, 7)]] := by decide +kernel
theorem kS_rg : rgL kS 2 3 = [(2, 6), (3, 7)] := by decide +kernel
theorem kS_chk : chkS kS = 0 := by decide +kernel
theorem kO_chk : chkS [(1, 0), (1, 0)] = 7 := by decide +kernel
set_option maxHeartbeats 6400000 in
set_option maxRecDepth 100000 in
theorem l_known12 (W : World) : Calls Try.prog 15 #[] W (Ret (.bool true) W) := by
  have E0 := ext_alloc W (.cells #[.int .i64 1, .int .i64 5, .int .i64 2, .int .i64 6, .int .i64 3, .int .i64 7] 47)
  have H0 := new_atS W kS kS_s (by simp [kS]) #[.int .i64 1, .int .i64 5, .int .i64 2, .int .i64 6, .int .i64 3, .int .i64 7] rfl
  have B0 := Blk.new W 47 #[.int .i64 1, .int .i64 5, .int .i64 2, .int .i64 6, .int .i64 3, .int .i64 7]
  obtain ⟨W1, hW1⟩ : ∃ w, W.alloc (.cells #[.int .i64 1, .int .i64 5, .int .i64 2, .int .i64 6, .int .i64 3, .int .i64 7] 47) = w := ⟨_, rfl⟩
  obtain ⟨g, hg⟩ : ∃ g, W.heap.size = g := ⟨_, rfl⟩
  rw [hW1] at E0 H0 B0
  rw [hg] at H0 B0
  have KC : Hid (Calls Try.prog 21 #[.slice (some ⟨g, 0, none⟩) 3 3, .int .i64 2, .slice none 0 0] W1 fun e w' => ∃ g2 o2 c2 g3 o3 c3, e = .returned (.slice (some ⟨g2, o2, none⟩) 2 c2) ∧ g2 < w'.heap.size ∧ g3 < w'.heap.size ∧ w'.cell? ⟨g2, o2 + 1, none⟩ = some (.slice (some ⟨g3, o3, none⟩) 1 c3) ∧ w'.cell? ⟨g3, o3, none⟩ = some (.int .i64 3) ∧ w'.cell? ⟨g3, o3 + 1, none⟩ = some (.int .i64 7) ∧ Ext W1 w') := hide ((p_cutS (some ⟨g, 0, none⟩) none 3 3 0 0 kS 2 [] W1 H0 rfl (by omega) (by omega) (by omega) ⟨by omega, by omega⟩ (TimesAt.nil _ _) rfl).mono fun e w' h => by
    rw [kS_cut] at h
    obtain ⟨A, c, rfl, _, hp, hE⟩ := h
    obtain ⟨g2, o2, rfl, hg2, hc⟩ := hp (by simp)
    obtain ⟨A', c', h1, h2⟩ := hc 1 (by simp)
    obtain ⟨g3, o3, hA', hg3, hc3⟩ := h2.2.2 (by simp)
    have h1 : w'.cell? ⟨g2, o2 + 1, none⟩ = some (.slice A' 1 c') := h1
    rw [hA'] at h1
    obtain ⟨h3, h4⟩ := hc3 0 (by simp)
    exact ⟨g2, o2, c, g3, o3, c', rfl, hg2, hg3, h1, h3, h4, hE⟩)
  have K1 : Hid (∀ w, Ext W1 w → Calls Try.prog 27 #[.slice (some ⟨g, 0, none⟩) 3 3] w (Ret (.int .i64 0) w)) := hide (fun w (h : Ext W1 w) => p_checkS (some ⟨g, 0, none⟩) 3 3 kS w (H0.ext h) rfl (by omega) 0 kS_chk)
  have K2 : Hid (∀ A w, SampsAt w A [(1, 0), (1, 0)] → Calls Try.prog 27 #[.slice A 2 2] w (Ret (.int .i64 7) w)) := hide (fun A w h => p_checkS A 2 2 _ w h rfl (by omega) 7 kO_chk)
  have K3 : Hid (∀ w, Ext W1 w → Calls Try.prog 25 #[.slice (some ⟨g, 0, none⟩) 3 3, .int .i64 2, .int .i64 3] w fun e w' => ∃ A c, e = .returned (.slice A 2 c) ∧ Ext w w') := hide (fun w h => (p_rangeS (some ⟨g, 0, none⟩) 3 3 kS 2 3 w (H0.ext h) rfl (by omega) ⟨by omega, by omega⟩ ⟨by omega, by omega⟩).mono fun e w' h => by
    rw [kS_rg] at h
    obtain ⟨A, c, rfl, _, hE⟩ := h
    exact ⟨A, c, rfl, hE⟩)
  have HN : Hid (∀ w : World, SampsAt (w.alloc (.cells #[.int .i64 1, .int .i64 0, .int .i64 1, .int .i64 0] 47)) (some ⟨w.heap.size, 0, none⟩) [(1, 0), (1, 0)]) := hide (fun w => new_atS w [(1, 0), (1, 0)] (by intro x hx; simp at hx; subst hx; exact ⟨⟨by omega, by omega⟩, ⟨by omega, by omega⟩⟩) (by simp) _ rfl)
  have B1 := hide B0
  have e2 := eqS2 3 7 3 7
  have HW1 := hide hW1
  have Hg := hide hg
  have X1 := hide E0
  clear hW1 hg E0 H0 B0
  go_enter Try.func15, Try.ntmps15
  go_upto_region 2 with fail
  rw [HW1.out, Hg.out]
  go_upto_region 3 with (go_at_call 21; (with_reducible refine (KC.out).mono ?_); rintro e w2 ⟨g2, o2, c2, g3, o3, c3, rfl, hg2, hg3, h1, h3, h4, hE⟩; have G2 := hide hg2; have G3 := hide hg3; have C1 := hide h1; have C3 := hide h3; have C4 := hide h4; have X2 := hide hE; clear hg2 hg3 hE)
  have ixp : ∀ w : World, (Instr.indexAt 40 (.slice (some ⟨g2, o2, none⟩) 2 c2) (.int .i64 1)).run Try.prog w = .ok (.pointer (some ⟨g2, o2 + 1, none⟩)) w := fun w => idxP g2 o2 2 c2 1 (by omega) w
  have ixs : ∀ w : World, (Instr.indexAt 22 (.slice (some ⟨g3, o3, none⟩) 1 c3) (.int .i64 0)).run Try.prog w = .ok (.pointer (some ⟨g3, o3, none⟩)) w := fun w => idxS g3 o3 1 c3 0 (by omega) w
  have ixl : ∀ w : World, (Instr.indexAt 22 (.slice (some ⟨g, 0, none⟩) 3 3) (.int .i64 2)).run Try.prog w = .ok (.pointer (some ⟨g, 4, none⟩)) w := fun w => idxS g 0 3 3 2 (by omega) w
  have B2 := hide (B1.out.ext X2.out)
  have p0 : w2.cell? ⟨g, 4, none⟩ = some (.int .i64 3) := B2.out.cell 4
  have p1 : w2.cell? ⟨g, 5, none⟩ = some (.int .i64 7) := B2.out.cell 5
  have EE := hide (Ext.refl w2)
  have F : Hid (∀ w, Ext w2 w → w.cell? ⟨g2, o2 + 1, none⟩ = some (.slice (some ⟨g3, o3, none⟩) 1 c3) ∧ w.cell? ⟨g3, o3, none⟩ = some (.int .i64 3) ∧ w.cell? ⟨g3, o3 + 1, none⟩ = some (.int .i64 7) ∧ w.cell? ⟨g, 4, none⟩ = some (.int .i64 3) ∧ w.cell? ⟨g, 5, none⟩ = some (.int .i64 7)) := hide (fun w h =>
    ⟨(h.cell (p := ⟨g2, o2 + 1, none⟩) G2.out).trans C1.out, (h.cell (p := ⟨g3, o3, none⟩) G3.out).trans C3.out, (h.cell (p := ⟨g3, o3 + 1, none⟩) G3.out).trans C4.out, (B2.out.ext h).cell 4, (B2.out.ext h).cell 5⟩)
  clear B1 KC
  go_region_held3 (fun w' => w'.cell? ⟨g2, o2 + 1, none⟩ = some (.slice (some ⟨g3, o3, none⟩) 1 c3) ∧ w'.cell? ⟨g3, o3, none⟩ = some (.int .i64 3) ∧ w'.cell? ⟨g3, o3 + 1, none⟩ = some (.int .i64 7) ∧ w'.cell? ⟨g, 4, none⟩ = some (.int .i64 3) ∧ w'.cell? ⟨g, 5, none⟩ = some (.int .i64 7)) (first | (with_reducible exact ⟨h1, h3, h4, p0, p1⟩) | go_keep) (first
    | (go_at_call 27; (with_reducible refine (K1.out _ (by first | exact X2.out.trans EE.out | exact (X2.out.trans EE.out).trans (ext_drew _))).mono ?_); rintro e z1 ⟨rfl, hE⟩; have EE : Hid (Ext w2 z1) := (by first | exact hide (EE.out.trans hE) | exact hide ((EE.out.trans (ext_drew _)).trans hE)); obtain ⟨h1, h3, h4, p0, p1⟩ := F.out z1 EE.out; clear hE)
    | (go_at_call 27; (with_reducible refine (K2.out _ _ (by first | exact HN.out _ | exact (HN.out _).ext (ext_drew _))).mono ?_); rintro e z2 ⟨rfl, hE⟩; have EE : Hid (Ext w2 z2) := (by first | exact hide ((EE.out.trans (ext_alloc _ _)).trans hE) | exact hide (((EE.out.trans (ext_drew _)).trans (ext_alloc _ _)).trans hE) | exact hide (((EE.out.trans (ext_alloc _ _)).trans (ext_drew _)).trans hE)); obtain ⟨h1, h3, h4, p0, p1⟩ := F.out z2 EE.out; clear hE)
    | (go_at_call 25; (with_reducible refine (K3.out _ (by first | exact X2.out.trans EE.out | exact (X2.out.trans EE.out).trans (ext_drew _))).mono ?_); rintro e z3 ⟨A3, d3, rfl, hE⟩; have EE : Hid (Ext w2 z3) := (by first | exact hide (EE.out.trans hE) | exact hide ((EE.out.trans (ext_drew _)).trans hE)); obtain ⟨h1, h3, h4, p0, p1⟩ := F.out z3 EE.out; clear hE))
  all_goals go_wp2_with fail
  all_goals go_ret
  all_goals exact ⟨rfl, X1.out.trans (X2.out.trans EE.out)⟩
end
section
open Go Go.RowKit Go.Sort
theorem own_ofS {B : Nat} {w : World} {g n cap : Nat} {l : List (Int × Int)} {m : List Value} (hB : B ≤ g) (hh : Blk w g 47 (s8s l ++ m).toArray) (hn : l.length = n) (hnc : n ≤ cap) (hc : cap * 2 = n * 2 + m.length) (hm : cap ≤ 9223372036854775807) (hs : IsS l) : OwnS B w (.slice (some ⟨g, 0, none⟩) n cap) l := by
  subst hn
  refine ⟨⟨s8s_len l, Or.inr ⟨g, cap, _, rfl, hB, hh, hnc, by unfold maxLen; omega, ?_, ?_⟩⟩, hs⟩
  · simp [s8s_len]; omega
  · rw [show l.length * 2 = (s8s l).length from (s8s_len l).symm]; simp
theorem own_blockS {B : Nat} {w : World} {A : Option Addr} {c cap : Nat} {l : List (Int × Int)} (h : OwnS B w (.slice A c cap) l) (hc : 0 < c) : ∃ g m, A = some ⟨g, 0, none⟩ ∧ B ≤ g ∧ c ≤ cap ∧ cap ≤ 9223372036854775807 ∧ cap * 2 = c * 2 + m.length ∧ Blk w g 47 (s8s l ++ m).toArray := by
  rcases h.1.2 with ⟨h0, _⟩ | ⟨g, cap', cur, hv, hg, hh, hnc, hcp, hcs, htake⟩
  · injection h0 with _ h2 _; omega
  · injection hv with h1 h2 h3
    subst h2 h3
    unfold maxLen at hcp
    refine ⟨g, cur.toList.drop (l.length * 2), h1, hg, hnc, hcp, ?_, ?_⟩
    · have : cur.toList.length = cap * 2 := by rw [Array.length_toList]; exact hcs
      rw [List.length_drop, this]; omega
    · unfold Blk
      rw [hh, ← htake, List.take_append_drop]
theorem s8s_setV : ∀ (l : List (Int × Int)) (j : Nat) (y : Int), j < l.length → (s8s l).set (2 * j + 1) (.int .i64 y) = s8s (l.set j ((l.getD j (0, 0)).1, y))
  | p :: l, 0, y, _ => by simp [s8s]
  | p :: l, j + 1, y, h => by
    have := s8s_setV l j y (by simpa using h)
    rw [show 2 * (j + 1) + 1 = 2 * j + 1 + 1 + 1 by omega]
    simpa [s8s] using this
theorem s8s_setT : ∀ (l : List (Int × Int)) (j : Nat) (y : Int), j < l.length → (s8s l).set (2 * j) (.int .i64 y) = s8s (l.set j (y, (l.getD j (0, 0)).2))
  | p :: l, 0, y, _ => by simp [s8s]
  | p :: l, j + 1, y, h => by
    have := s8s_setT l j y (by simpa using h)
    rw [show 2 * (j + 1) = 2 * j + 1 + 1 by omega]
    simpa [s8s] using this
theorem blk_setSV {w : World} {g : Nat} {l : List (Int × Int)} {m : List Value} {j : Nat} (h : Blk w g 47 (s8s l ++ m).toArray) (hj : j < l.length) (y : Int) : Blk (w.setCell ⟨g, 2 * j + 1, none⟩ (.int .i64 y)) g 47 (s8s (l.set j ((l.getD j (0, 0)).1, y)) ++ m).toArray := by
  have := h.set_ (2 * j + 1) (.int .i64 y)
  rw [List.setIfInBounds_toArray, List.set_append_left _ _ (by rw [s8s_len]; omega), s8s_setV l j y hj] at this
  exact this
theorem blk_setST {w : World} {g : Nat} {l : List (Int × Int)} {m : List Value} {j : Nat} (h : Blk w g 47 (s8s l ++ m).toArray) (hj : j < l.length) (y : Int) : Blk (w.setCell ⟨g, 2 * j, none⟩ (.int .i64 y)) g 47 (s8s (l.set j (y, (l.getD j (0, 0)).2)) ++ m).toArray := by
  have := h.set_ (2 * j) (.int .i64 y)
  rw [List.setIfInBounds_toArray, List.set_append_left _ _ (by rw [s8s_len]; omega), s8s_setT l j y hj] at this
  exact this
theorem blk_cellS {w : World} {g : Nat} {l : List (Int × Int)} {m : List Value} {j : Nat} (h : Blk w g 47 (s8s l ++ m).toArray) (hj : j < l.length) : w.cell? ⟨g, 2 * j, none⟩ = some (.int .i64 (l.getD j (0, 0)).1) ∧ w.cell? ⟨g, 2 * j + 1, none⟩ = some (.int .i64 (l.getD j (0, 0)).2) := by
  have hs := s8s_get l j hj
  have hl := s8s_len l
  rw [h.cell, h.cell]
  refine ⟨?_, ?_⟩
  · rw [List.getElem?_toArray, List.getElem?_append_left (by omega)]; exact hs.1
  · rw [List.getElem?_toArray, List.getElem?_append_left (by omega)]; exact hs.2
theorem IsS.set {l : List (Int × Int)} (h : IsS l) (j : Nat) {x y : Int} (hx : I64 x) (hy : I64 y) : IsS (l.set j (x, y)) := by
  intro p hp
  rcases List.mem_or_eq_of_mem_set hp with h1 | h1
  · exact h p h1
  · subst h1; exact ⟨hx, hy⟩
theorem Blk.updS {w w' : World} {g b : Nat} {t : TypeId} {cs : Array Value} (h : Blk w g t cs) (u : Upd b w w') (hb : g ≠ b) : Blk w' g t cs := (u.2.2.2.2 g h.lt hb).trans h
/-- Samples as many as before: owned. -/
def ShPost (n B b : Nat) (W : World) (e : Ending) (w' : World) : Prop := ∃ A c l, e = .returned (.slice A n c) ∧ l.length = n ∧ OwnS W.heap.size w' (.slice A n c) l ∧ TapeOk B w' b ∧ Upd b W w'
set_option maxHeartbeats 6400000 in
set_option maxRecDepth 100000 in
theorem l_shaken (A : Option Addr) (n c B b : Nat) (l : List (Int × Int)) (W : World) (hl : SampsAt W A l) (hn : l.length = n) (hn2 : n ≤ 1000) (hT : TapeOk B W b) :
    Calls Try.prog 9 #[.pointer (some ⟨b, 0, none⟩), .slice A n c] W (ShPost n B b W) := by
  have hbW := hT.2.1
  have hs := hl.1
  have E3 := ext_alloc W (.cells #[] 47)
  have O3 := hide (own_ofS (B := W.heap.size) (w := W.alloc (.cells #[] 47)) (g := W.heap.size) (n := 0) (cap := 0) (l := []) (m := []) (Nat.le_refl _) (Blk.new W _ _) rfl (by omega) rfl (by omega) IsS.nil)
  have l3 := hide (hl.ext E3)
  have E3 := hide E3
  have hs3 := E3.out.size
  have Hn := hide hn
  have hle : ([] : List (Int × Int)).length + l.length ≤ 8796093022208 := by rw [hn]; simp; omega
  have T0 := hide hT
  clear hl hn hT
  go_enter Try.func9, Try.ntmps9
  go_upto_region 2 with (at_builtin; refine wl_appendS rfl (.tmp 7) (.tmp 8) rfl W.heap.size _ [] l rfl O3.out A n c rfl l3.out Hn.out hle hs3 ?_; intro v4 w4 hO4 hG4 hA4; have E4 := hide (below_grownS E3.out (Nat.le_refl _) O3.out hG4); have O4 := hide hO4; clear hO4 hG4 hA4)
  obtain ⟨A4, c4, rfl, hlc4, hlc42, -⟩ := O4.out.at_
  rw [List.nil_append] at O4 hlc4 ⊢
  rw [Hn.out] at O4 hlc4 ⊢
  have T4 := hide (T0.out.ext E4.out)
  have U4 := hide (Ext.upd E4.out b)
  clear E3 O3 l3 E4 hs3 hle
  by_cases h0 : n = 0
  · subst h0
    have O4 := O4
    go_wp2_with fail
    go_loopw [6] (fun iv wr => iv = .int .i64 0 ∧ Hid (OwnS W.heap.size wr (.slice A4 0 c4) l) ∧ Hid (TapeOk B wr b) ∧ Hid (Upd b W wr)) (fun iv _ => 0)
    case atStart => exact ⟨rfl, O4, T4, U4⟩
    case round =>
      clear O4 T4 U4
      obtain ⟨rfl, HO, HT, HU⟩ := hrel
      go_wp2_with fail
      go_ret
      exact ⟨A4, c4, l, rfl, Hn.out, HO.out, HT.out, HU.out⟩
  · obtain ⟨g, mr, rfl, hg, hnc, hcm, hcl, hB4⟩ := own_blockS O4.out (by omega)
    have B4 := hide hB4
    have hgb : g ≠ b := Nat.ne_of_gt (Nat.lt_of_lt_of_le hbW hg)
    have i7 : I64 7 := ⟨by omega, by omega⟩
    have Hs := hide hs
    have HOf : Hid (∀ w ll, Blk w g 47 (s8s ll ++ mr).toArray → ll.length = n → IsS ll → OwnS W.heap.size w (.slice (some ⟨g, 0, none⟩) n c4) ll) := hide (fun w ll hb hl hs => own_ofS hg hb hl hnc hcl hcm hs)
    clear O4 hB4 hs hcl
    go_wp2_with fail
    go_loopw [6] (fun iv wr => ∃ (i : Nat) (ll : List (Int × Int)), i ≤ n ∧ iv = .int .i64 (i : Int) ∧ ll.length = n ∧ Hid (IsS ll) ∧ Hid (Blk wr g 47 (s8s ll ++ mr).toArray) ∧ Hid (TapeOk B wr b) ∧ Hid (Upd b W wr)) (fun iv _ => n - (intOf iv).toNat)
    case atStart => exact ⟨0, l, by omega, rfl, Hn.out, Hs, B4, T4, U4⟩
    case round =>
      clear B4 T4 U4 Hs
      obtain ⟨i, ll, hi, rfl, hll, HS, HB, HT, HU⟩ := hrel
      by_cases hlt : i < n
      · have d0 : decide ((i : Int) < (n : Int)) = true := decide_eq_true (by omega)
        have d1 : decide (i < n) = true := decide_eq_true hlt
        have hil : i < ll.length := by rw [hll]; exact hlt
        obtain ⟨x0, hx⟩ : ∃ x, (ll.getD i (0, 0)).2 = x := ⟨_, rfl⟩
        obtain ⟨t0, ht⟩ : ∃ x, (ll.getD i (0, 0)).1 = x := ⟨_, rfl⟩
        have ix := (HS.out.get i).2
        have it := (HS.out.get i).1
        rw [hx] at ix
        rw [ht] at it
        have ixi : ∀ w : World, (Instr.indexAt 22 (.slice (some ⟨g, 0, none⟩) n c4) (.int .i64 (i : Int))).run Try.prog w = .ok (.pointer (some ⟨g, 2 * i, none⟩)) w := fun w => by have := idxS g 0 n c4 i hlt w; rwa [Nat.zero_add] at this
        obtain ⟨w5, hw5⟩ : ∃ w, wr.drew = w := ⟨_, rfl⟩
        have T5 := HT.out.ext (ext_drew wr)
        have U5 := HU.out.trans (Ext.upd (ext_drew wr) b)
        have B5 := HB.out.drew
        rw [hw5] at T5 U5 B5
        have ct5 : wr.drew.cell? ⟨g, 2 * i + 1, none⟩ = some (.int .i64 x0) := by rw [hw5, ← hx]; exact (blk_cellS B5 hil).2
        have KN := hide (t_next B b 7 w5 i7 T5)
        have B5 := hide B5
        have U5 := hide U5
        have Hw5 := hide hw5
        have Hx := hide hx
        have Ht := hide ht
        clear hx ht hw5 HB HT HU T5
        go_upto_region 5 with fail
        go_region_law (go_simp; rw [Hw5.out]; go_at_call 10; (with_reducible refine (KN.out).mono ?_); rintro e w6 ⟨s, rfl, hs, T6, u6⟩; obtain ⟨x, rfl⟩ := Int.eq_ofNat_of_zero_le hs.1; have hx7 : x < 7 := (by have := hs.2.1 (by omega); omega); have HB6 := hide (B5.out.updS u6 hgb); have T6 := hide T6; have U6 := hide (U5.out.trans u6); have ct6 : w6.cell? ⟨g, 2 * i + 1, none⟩ = some (.int .i64 x0) := (by rw [← Hx.out]; exact (blk_cellS HB6.out hil).2); have f6 := HB6.out.frozen (2 * i + 1); clear hs u6)
        all_goals
          have i9 : I64 (IntKind.i64.wrap (x0 + IntKind.i64.wrap ((x : Int) - 3))) := by rw [IntKind.wrap_i64]; exact ⟨by omega, by omega⟩
          obtain ⟨yy, hyy⟩ : ∃ yy, IntKind.i64.wrap (x0 + IntKind.i64.wrap ((x : Int) - 3)) = yy := ⟨_, rfl⟩
          rw [hyy] at i9 ⊢
          have B9 := hide (blk_setSV HB6.out hil yy)
          have S9 := hide (HS.out.set i (x := t0) it i9)
          rw [Ht.out] at B9
          have T9 := hide (T6.out.store (g := g) (k := 2 * i + 1) (Nat.lt_of_lt_of_le hbW hg) (.int .i64 yy))
          have U9 := hide (U6.out.store (g := g) (k := 2 * i + 1) hg (.int .i64 yy))
          have hl9 : (ll.set i (t0, yy)).length = n := by rw [List.length_set]; exact hll
          obtain ⟨w9, hw9⟩ : ∃ w, w6.setCell ⟨g, 2 * i + 1, none⟩ (.int .i64 yy) = w := ⟨_, rfl⟩
          rw [hw9] at B9 T9 U9 ⊢
          clear hw9 hyy i9 HB6 T6 U6 ct6 f6 ct5 Hw5 B5 U5 KN
          go_wp2_with fail
          go_roundw
          case rel => exact ⟨i + 1, _, by omega, by go_num, hl9, S9, B9, T9, U9⟩
          case measure => simp [intOf]; omega
      · obtain rfl : i = n := by omega
        have d0 : decide ((i : Int) < (i : Int)) = false := decide_eq_false (by omega)
        have d2 : decide ((0 : Int) < (i : Int)) = true := decide_eq_true (by omega)
        have d3 : decide (0 < i) = true := decide_eq_true (by omega)
        have ini : I64 (i : Int) := ⟨by omega, by omega⟩
        go_upto_if 33 with (go_at_call 24; (with_reducible refine (t_boolN B b 6 _ _ (by omega) (by omega) HT.out (Upd.refl _ _)).mono ?_); rintro e w6 ⟨v, rfl, T6, u6⟩; have HB6 := hide (HB.out.updS u6 hgb); have T6 := hide T6; have U6 := hide (HU.out.trans u6); clear u6 HB HU HT)
        cases v with
        | false =>
          go_wp2_with fail
          go_ret
          exact ⟨_, c4, ll, rfl, hll, HOf.out _ ll HB6.out hll HS.out, T6.out, U6.out⟩
        | true =>
          have KN := hide (t_next B b (i : Int) w6 ini T6.out)
          go_wp2_with (go_at_call 10; (with_reducible refine (KN.out).mono ?_); rintro e w7 ⟨s, rfl, hs, T7, u7⟩; obtain ⟨j, rfl⟩ := Int.eq_ofNat_of_zero_le hs.1; have hj : j < i := (by have := hs.2.1 (by omega); omega); have hjl : j < ll.length := (by rw [hll]; exact hj); have HB7 := hide (HB6.out.updS u7 hgb); have T7 := hide T7; have U7 := hide (U6.out.trans u7); have ixj : ∀ w : World, (Instr.indexAt 22 (.slice (some ⟨g, 0, none⟩) i c4) (.int .i64 (j : Int))).run Try.prog w = .ok (.pointer (some ⟨g, 2 * j, none⟩)) w := (fun w => by have := idxS g 0 i c4 j hj w; rwa [Nat.zero_add] at this); obtain ⟨x0, hx⟩ : ∃ x, (ll.getD j (0, 0)).1 = x := ⟨_, rfl⟩; have ct7 : w7.cell? ⟨g, 2 * j, none⟩ = some (.int .i64 x0) := (by rw [← hx]; exact (blk_cellS HB7.out hjl).1); have f7 := HB7.out.frozen (2 * j); have it7 := (HS.out.get j).1; rw [hx] at it7; have Hx := hide hx; clear hs u7 hx)
          go_ret
          exact ⟨_, c4, _, rfl, by rw [List.length_set]; exact hll, HOf.out _ _ (blk_setST HB7.out hjl (wrap64 (x0 + 1))) (by rw [List.length_set]; exact hll) (HS.out.set j (wrap64_64 _) (HS.out.get j).2), T7.out.store (Nat.lt_of_lt_of_le hbW hg) _, U7.out.store hg _⟩
end
section
open Go Go.RowKit Go.Sort
/-- What is kept: the tape, and samples that the law owns. -/
structure Fk (W : World) (B : Nat) (os : List (Value × List (Int × Int))) (w : World) : Prop where
  e : Ext W w
  t : TapeOk W.heap.size w W.heap.size
  gb : W.heap.size < B
  bw : B ≤ w.heap.size
  o : ∀ p ∈ os, OwnS B w p.1 p.2
section
variable {W : World} {B : Nat} {os : List (Value × List (Int × Int))} {w w' : World}
theorem Fk.ext (s : Fk W B os w) (k : Ext w w') : Fk W B os w' := ⟨s.e.trans k, s.t.ext k, s.gb, Nat.le_trans s.bw k.size, fun p hp => (s.o p hp).ext k⟩
theorem Fk.upd (s : Fk W B os w) (u : Upd W.heap.size w w') (t : TapeOk W.heap.size w' W.heap.size) : Fk W B os w' := ⟨Upd.ext u s.e (Nat.le_refl _), t, s.gb, Nat.le_trans s.bw u.2.2.2.1, fun p hp => (s.o p hp).upd u s.gb⟩
theorem Fk.add (s : Fk W B os w) {v : Value} {l : List (Int × Int)} (h : OwnS B w v l) : Fk W B (os ++ [(v, l)]) w := ⟨s.e, s.t, s.gb, s.bw, fun p hp => by
  rcases List.mem_append.1 hp with h1 | h1
  · exact s.o p h1
  · simp only [List.mem_singleton] at h1; subst h1; exact h⟩
end
theorem jn_self (c : List (Int × Int)) : jnL (c.map Prod.fst) (c.map Prod.snd) = some c := by
  unfold jnL
  rw [if_pos (by rw [List.length_map, List.length_map])]
  congr 1
  induction c with
  | nil => rfl
  | cons p c ih => simp [ih]
theorem jn_len (x y : List Int) : ((jnL x y).getD []).length ≤ x.length := by
  unfold jnL
  split
  · simp; omega
  · simp
set_option maxRecDepth 100000 in
set_option maxHeartbeats 6400000 in
theorem law_sforms (A1 A2 A3 A4 : Option Addr) (n1 c1 n2 c2 n3 c3 n4 c4 : Nat) (a b : List (Int × Int)) (x z : List Int) (ep f t : Int) (y : Option Addr) (len cap : Nat) (W : World)
    (ha : SampsAt W A1 a) (han : a.length = n1) (hn1 : n1 ≤ 8796093022000) (hb : SampsAt W A2 b) (hbn : b.length = n2) (hn2 : n2 ≤ 8796093022000) (hx : TimesAt W A3 x) (hxn : x.length = n3) (hn3 : n3 ≤ 1048576) (hz : TimesAt W A4 z) (hzn : z.length = n4) (hep : I64 ep) (hf : I64 f) (ht : I64 t) (hL : IsList W y len cap) :
    Calls Try.prog 3 #[.slice A1 n1 c1, .slice A2 n2 c2, .slice A3 n3 c3, .slice A4 n4 c4, .int .i64 ep, .int .i64 f, .int .i64 t, .slice y len cap] W (Ret (.bool true) W) := by
  have KN : Hid (Calls Try.prog 7 #[.slice y len cap] W (NewPost W)) := t_new W y len cap hL
  have KL : Hid (∀ w, TapeOk W.heap.size w W.heap.size → Calls Try.prog 8 #[.pointer (some ⟨W.heap.size, 0, none⟩), .int .i64 20] w (SampsPost 20 W.heap.size W.heap.size w)) := hide (fun w h => t_samples 20 W.heap.size W.heap.size (by omega) w h)
  have KK := hide (fun w => l_known12 w)
  have i5 : I64 5 := ⟨by omega, by omega⟩
  obtain ⟨jo, hjo⟩ : ∃ jo, jnL x z = jo := ⟨_, rfl⟩
  obtain ⟨ob, hob⟩ : ∃ ob, jo.isSome = ob := ⟨_, rfl⟩
  obtain ⟨pl, hpl⟩ : ∃ pl, jo.getD [] = pl := ⟨_, rfl⟩
  obtain ⟨m, hm⟩ : ∃ m, pl.length = m := ⟨_, rfl⟩
  have hm2 : m ≤ 1048576 := by have := jn_len x z; rw [hjo, hpl, hm] at this; omega
  have KJ : Hid (∀ w, Ext W w → Calls Try.prog 11 #[.slice A3 n3 c3, .slice A4 n4 c4] w fun e w' => ∃ A' k', e = .returned (.tuple #[.slice A' m k', .bool ob]) ∧ OwnS w.heap.size w' (.slice A' m k') pl ∧ Ext w w') := hide (fun w h => (p_joinS A3 A4 n3 n4 c3 c4 x z w (hx.ext h) hxn (hz.ext h) hzn hn3).mono fun e w' h => by
    obtain ⟨v, rfl, ho, hE⟩ := h
    rw [hjo] at ho ⊢
    rw [hpl] at ho
    obtain ⟨A', k', rfl, _, _, _⟩ := ho.at_
    rw [hm] at ho ⊢
    exact ⟨A', k', by rw [hob], ho, hE⟩)
  have KR : Hid (∀ w, Ext W w → Calls Try.prog 12 #[.slice A3 n3 c3, .slice A4 n4 c4] w fun e w' => ∃ A' k', e = .returned (.tuple #[.slice A' m k', .bool ob]) ∧ OwnS w.heap.size w' (.slice A' m k') pl ∧ Ext w w') := hide (fun w h => (r_joinS A3 A4 n3 n4 c3 c4 x z w (hx.ext h) hxn (hz.ext h) hzn (by omega)).mono fun e w' h => by
    obtain ⟨v, rfl, ho, hE⟩ := h
    rw [hjo] at ho ⊢
    rw [hpl] at ho
    obtain ⟨A', k', rfl, _, _, _⟩ := ho.at_
    rw [hm] at ho ⊢
    exact ⟨A', k', by rw [hob], ho, hE⟩)
  have KA := hide (fun w (h : Ext W w) => l_alike12 A1 A2 n1 n2 c1 c2 a b ep f t w (ha.ext h) han hn1 (hb.ext h) hbn hep hf ht)
  have SP : Hid (∀ B1 B2 d1 d2 w, SampsAt w B1 pl → SampsAt w B2 pl → Calls Try.prog 18 #[.slice B1 m d1, .slice B2 m d2] w (Ret (.bool true) w)) := hide (fun B1 B2 d1 d2 w h1 h2 => r_sameS B1 B2 m m d1 d2 pl pl w h1 hm h2 hm true (wiB_self pl))
  have dob : (ob == ob) = true := by simp
  clear ha han hb hbn hx hxn hz hzn hL hjo hob hpl hm
  go_enter Try.func3, Try.ntmps3
  go_upto_region 3 with (first
    | (go_at_call 7; (with_reducible refine (KN.out).mono ?_); rintro e w1 ⟨rfl, hT, hE⟩; have T1 := hide hT; have E1 := hide hE; have kl := hide (KL.out w1 hT); clear hT hE)
    | (go_at_call 8; (with_reducible refine (kl.out).mono ?_); rintro e w2 ⟨Ac, n, kc, c, rfl, hn, hn20, hnc, hnc2, -, hO, hT2, hU2⟩; have hB2 : w1.heap.size ≤ w2.heap.size := hU2.2.2.2.1; have S2 : Hid (Fk W w1.heap.size [(.slice Ac n kc, c)] w2) := hide ⟨Upd.ext hU2 E1.out (Nat.le_refl _), hT2, T1.out.2.1, hB2, fun p hp => by simp only [List.mem_singleton] at hp; subst hp; exact hO⟩; have Hn := hide hn; clear hO hT2 hU2 hnc hnc2 hn))
  obtain ⟨B, hB⟩ : ∃ B, w1.heap.size = B := ⟨_, rfl⟩
  rw [hB] at S2 hB2
  have hc2 := own_samps (S2.out.o _ (List.mem_singleton_self _))
  have KS := hide (l_shaken Ac n kc W.heap.size W.heap.size c w2 hc2 Hn.out (by omega) S2.out.t)
  have RT : Hid (∀ w, SampsAt w Ac c → Calls Try.prog 13 #[.slice Ac n kc] w fun e w' => ∃ A' k', e = .returned (.slice A' n k') ∧ TimesAt w' A' (c.map Prod.fst) ∧ Ext w w') := hide (fun w h => (r_timesS Ac n kc c w h Hn.out (by omega)).mono fun e w' h => by obtain ⟨A', k', rfl, h1, h2⟩ := tm_get h; exact ⟨A', k', by rw [List.length_map, Hn.out], h1, h2⟩)
  have RV : Hid (∀ w, SampsAt w Ac c → Calls Try.prog 14 #[.slice Ac n kc] w fun e w' => ∃ A' k', e = .returned (.slice A' n k') ∧ TimesAt w' A' (c.map Prod.snd) ∧ Ext w w') := hide (fun w h => (r_valsS Ac n kc c w h Hn.out (by omega)).mono fun e w' h => by obtain ⟨A', k', rfl, h1, h2⟩ := tm_get h; exact ⟨A', k', by rw [List.length_map, Hn.out], h1, h2⟩)
  have PJ : Hid (∀ B1 B2 d1 d2 w, TimesAt w B1 (c.map Prod.fst) → TimesAt w B2 (c.map Prod.snd) → Calls Try.prog 11 #[.slice B1 n d1, .slice B2 n d2] w fun e w' => ∃ A' k', e = .returned (.tuple #[.slice A' n k', .bool true]) ∧ OwnS w.heap.size w' (.slice A' n k') c ∧ Ext w w') := hide (fun B1 B2 d1 d2 w h1 h2 => (p_joinS B1 B2 n n d1 d2 _ _ w h1 (by rw [List.length_map, Hn.out]) h2 (by rw [List.length_map, Hn.out]) (by omega)).mono fun e w' h => by
    rw [jn_self] at h
    obtain ⟨v, rfl, ho, hE⟩ := h
    have ho : OwnS w.heap.size w' v c := ho
    obtain ⟨A', k', rfl, _, _, _⟩ := ho.at_
    rw [Hn.out] at ho ⊢
    exact ⟨A', k', rfl, ho, hE⟩)
  have SC : Hid (∀ B1 B2 d1 d2 w, SampsAt w B1 c → SampsAt w B2 c → Calls Try.prog 18 #[.slice B1 n d1, .slice B2 n d2] w (Ret (.bool true) w)) := hide (fun B1 B2 d1 d2 w h1 h2 => r_sameS B1 B2 n n d1 d2 c c w h1 Hn.out h2 Hn.out true (wiB_self c))
  clear KN KL kl T1 E1 hB hc2
  go_upto_region 4 with (go_at_call 9; (with_reducible refine (KS.out).mono ?_); rintro e w3 ⟨Ad, kd, d, rfl, hdn, hO, hT3, hU3⟩; have S3 := hide ((S2.out.upd hU3 hT3).add (hO.less hB2)); have Hdn := hide hdn; clear hO hT3 hU3 hdn)
  have hB3 := S3.out.bw
  clear S2 KS
  go_upto_region 5 with (go_at_call 10; (with_reducible refine (t_next W.heap.size W.heap.size 5 w3 i5 S3.out.t).mono ?_); rintro e w4 ⟨s, rfl, hs, hT4, hU4⟩; have is : I64 s := ⟨by have := hs.1; omega, by have := hs.2.1 (by omega); omega⟩; have S4 := hide (S3.out.upd hU4 hT4); clear hs hT4 hU4)
  clear S3
  go_upto_region 7 with (first
    | (go_at_call 11; (with_reducible refine (KJ.out _ S4.out.e).mono ?_); rintro e w5 ⟨Ap, kp, rfl, hO, hE⟩; have S5 := hide ((S4.out.ext hE).add (hO.less S4.out.bw)); clear hO hE)
    | (go_at_call 12; (with_reducible refine (KR.out _ S5.out.e).mono ?_); rintro e w6 ⟨Aq, kq, rfl, hO, hE⟩; have S6 := hide ((S5.out.ext hE).add (hO.less S5.out.bw)); clear hO hE))
  clear S4 S5 KJ KR
  have hc6 := hide (fun w (s : Fk W B (([(Value.slice Ac n kc, c)] ++ [(Value.slice Ad n kd, d)] ++ [(Value.slice Ap m kp, pl)]) ++ [(Value.slice Aq m kq, pl)]) w) => own_samps (s.o (Value.slice Ac n kc, c) (by simp)))
  have rt := hide (RT.out w6 (hc6.out w6 S6.out))
  go_upto_region 8 with (first
    | (go_at_call 13; (with_reducible refine (rt.out).mono ?_); rintro e w7 ⟨B1, d1, rfl, h1, hE⟩; have S7 := hide (S6.out.ext hE); have b1 := hide h1; have rv := hide (RV.out w7 (hc6.out w7 S7.out)); clear h1 hE)
    | (go_at_call 14; (with_reducible refine (rv.out).mono ?_); rintro e w8 ⟨B2, d2, rfl, h2, hE⟩; have S8 := hide (S7.out.ext hE); have pj := hide (PJ.out B1 B2 d1 d2 w8 (b1.out.ext hE) h2); clear h2 hE)
    | (go_at_call 11; (with_reducible refine (pj.out).mono ?_); rintro e w9 ⟨Ar, kr, rfl, hO, hE⟩; have S9 := hide ((S8.out.ext hE).add (hO.less S8.out.bw)); clear hO hE))
  clear S6 S7 S8 rt rv pj b1 hc6 RT RV PJ
  obtain ⟨os, hos⟩ : ∃ os, ([(Value.slice Ac n kc, c)] ++ [(Value.slice Ad n kd, d)] ++ [(Value.slice Ap m kp, pl)] ++ [(Value.slice Aq m kq, pl)] ++ [(Value.slice Ar n kr, c)]) = os := ⟨_, rfl⟩
  rw [hos] at S9
  have gc := hide (fun w (s : Fk W B os w) => own_samps (s.o (Value.slice Ac n kc, c) (by rw [← hos]; simp)))
  have gd := hide (fun w (s : Fk W B os w) => own_samps (s.o (Value.slice Ad n kd, d) (by rw [← hos]; simp)))
  have gp := hide (fun w (s : Fk W B os w) => own_samps (s.o (Value.slice Ap m kp, pl) (by rw [← hos]; simp)))
  have gq := hide (fun w (s : Fk W B os w) => own_samps (s.o (Value.slice Aq m kq, pl) (by rw [← hos]; simp)))
  have gr := hide (fun w (s : Fk W B os w) => own_samps (s.o (Value.slice Ar n kr, c) (by rw [← hos]; simp)))
  have KA1 := hide (fun w (h : Fk W B os w) (u v : Int) (hu : I64 u) (hv : I64 v) => l_alike12 Ac Ad n n kc kd c d s u v w (gc.out w h) Hn.out (by omega) (gd.out w h) Hdn.out is hu hv)
  have KA2 := hide (fun w (h : Fk W B os w) => l_alike12 Ad Ac n n kd kc d c s f t w (gd.out w h) Hdn.out (by omega) (gc.out w h) Hn.out is hf ht)
  have KI := hide (fun w (h : Fk W B os w) => t_int W.heap.size W.heap.size w w h.t (Upd.refl _ _))
  have kp2 := hide (fun w (h : Fk W B os w) => SP.out Ap Aq kp kq w (gp.out w h) (gq.out w h))
  have kr2 := hide (fun w (h : Fk W B os w) => SC.out Ar Ac kr kc w (gr.out w h) (gc.out w h))
  clear hos SP SC gc gd gp gq gr
  go_wp2_with (first
    | (go_at_call 15; (with_reducible refine (KK.out _).mono ?_); rintro e w10 ⟨rfl, hE⟩; have S10 := hide (S9.out.ext hE); clear hE)
    | (go_at_call 16; (with_reducible refine (KA.out _ S10.out.e).mono ?_); rintro e w11 ⟨rfl, hE⟩; have S11 := hide (S10.out.ext hE); clear hE)
    | (go_at_call 17; (with_reducible refine (KI.out _ S11.out).mono ?_); rintro e w12 ⟨v1, rfl, iv1, hT, hU⟩; have S12 := hide (S11.out.upd hU hT); clear hT hU)
    | (go_at_call 17; (with_reducible refine (KI.out _ S12.out).mono ?_); rintro e w13 ⟨v2, rfl, iv2, hT, hU⟩; have S13 := hide (S12.out.upd hU hT); have ka := hide (KA1.out _ S13.out v1 v2 iv1 iv2); clear hT hU)
    | (go_at_call 16; (with_reducible refine (ka.out).mono ?_); rintro e w14 ⟨rfl, hE⟩; have S14 := hide (S13.out.ext hE); clear hE)
    | (go_at_call 16; (with_reducible refine (KA2.out _ S14.out).mono ?_); rintro e w15 ⟨rfl, hE⟩; have S15 := hide (S14.out.ext hE); clear hE)
    | (go_at_call 18; (with_reducible refine (kp2.out _ S15.out).mono ?_); rintro e w16 ⟨rfl, hE⟩; have S16 := hide (S15.out.ext hE); clear hE)
    | (go_at_call 18; (with_reducible refine (kr2.out _ S16.out).mono ?_); rintro e w17 ⟨rfl, hE⟩; have S17 := hide (S16.out.ext hE); clear hE))
  go_ret
  exact ⟨rfl, S17.out.e⟩
end
section
open Go Go.RowKit Go.Sort
theorem cutL_len (l : List (Int × Int)) (sz : Int) (fl : List Int) : (cutL l sz fl).length ≤ l.length := by
  unfold cutL
  split
  · simp
  · exact (cuS_len l sz fl l.length).1
theorem list_times {W : World} {a : Option Addr} {len cap : Nat} (h : IsList W a len cap) : ∃ fl : List Int, fl.length = len ∧ TimesAt W a fl := by
  obtain ⟨h1, h2⟩ := h
  rcases h2 with rfl | ⟨b, off, rfl, hb, hlc, hc⟩
  · exact ⟨[], rfl, TimesAt.nil _ _⟩
  · obtain ⟨q, hq⟩ := Go.Deep.choose_lt hc
    refine ⟨(List.range len).map q, by simp, ?_, by simp; omega, fun _ => ⟨b, off, rfl, hb, fun j hj => ?_⟩⟩
    · intro x hx
      simp only [List.mem_map, List.mem_range] at hx
      obtain ⟨i, hi, rfl⟩ := hx
      exact (hq i hi).1
    · have hj : j < len := by simpa using hj
      rw [(hq j hj).2]
      simp [List.getD_eq_getElem?_getD, hj]
set_option maxRecDepth 100000 in
set_option maxHeartbeats 6400000 in
theorem law_scuts (A1 AF : Option Addr) (n1 c1 nf cf : Nat) (a : List (Int × Int)) (size : Int) (y : Option Addr) (len cap : Nat) (W : World)
    (ha : SampsAt W A1 a) (han : a.length = n1) (hnc1 : n1 ≤ c1) (hc1 : c1 ≤ 8796093022000) (hsz : I64 size) (hF : IsList W AF nf cf) (hL : IsList W y len cap) :
    Calls Try.prog 4 #[.slice A1 n1 c1, .int .i64 size, .slice AF nf cf, .slice y len cap] W (Ret (.bool true) W) := by
  have KN : Hid (Calls Try.prog 7 #[.slice y len cap] W (NewPost W)) := t_new W y len cap hL
  have KL : Hid (∀ w, TapeOk W.heap.size w W.heap.size → Calls Try.prog 8 #[.pointer (some ⟨W.heap.size, 0, none⟩), .int .i64 25] w (SampsPost 25 W.heap.size W.heap.size w)) := hide (fun w h => t_samples 25 W.heap.size W.heap.size (by omega) w h)
  have KK := hide (fun w => l_known12 w)
  have i8 : I64 8 := ⟨by omega, by omega⟩
  obtain ⟨fl, hfl, hft⟩ := list_times hF
  have KS : Hid (∀ (ps : List (List (Int × Int))) (m : Nat) B1 B2 d1 d2 w, ps.length = m → m ≤ 9223372036854775807 → PtsAt w B1 ps → PtsAt w B2 ps → Calls Try.prog 20 #[.slice B1 m d1, .slice B2 m d2] w (Ret (.bool true) w)) := hide (fun ps m B1 B2 d1 d2 w h1 h2 h3 h4 => l_same12 B1 B2 m d1 d2 ps w h1 h2 h3 h4)
  have KP : Hid (∀ A n c (l : List (Int × Int)) (sz : Int) AF nf cf (fl : List Int) (W0 : World), SampsAt W0 A l → l.length = n → n ≤ c → c ≤ 9223372036854775807 → n ≤ 8796093022000 → I64 sz → TimesAt W0 AF fl → fl.length = nf → ∃ m ps, ps.length = m ∧ m ≤ 9223372036854775807 ∧
      (∀ w, Ext W0 w → Calls Try.prog 21 #[.slice A n c, .int .i64 sz, .slice AF nf cf] w fun e w' => ∃ B1 d1, e = .returned (.slice B1 m d1) ∧ PtsAt w' B1 ps ∧ Ext w w') ∧
      (∀ w, Ext W0 w → Calls Try.prog 22 #[.slice A n c, .int .i64 sz, .slice AF nf cf] w fun e w' => ∃ B1 d1, e = .returned (.slice B1 m d1) ∧ PtsAt w' B1 ps ∧ Ext w w')) := hide (fun A n c l sz AF nf cf fl W0 h1 h2 h3 h4 h4b h5 h6 h7 => by
    have hcl := cutL_len l sz fl
    refine ⟨(cutL l sz fl).length, cutL l sz fl, rfl, by omega, fun w hw => ?_, fun w hw => ?_⟩
    · exact (p_cutS A AF n c nf cf l sz fl w (h1.ext hw) h2 h3 h4 h4b h5 (h6.ext hw) h7).mono fun e w' h => by
        obtain ⟨B1, d1, rfl, _, hp, hE⟩ := h
        exact ⟨B1, d1, rfl, hp, hE⟩
    · exact (r_cutS A AF n c nf cf l sz fl w (h1.ext hw) h2 h4b h5 (h6.ext hw) h7).mono fun e w' h => by
        obtain ⟨B1, d1, rfl, _, hp, hE⟩ := pt_get h
        exact ⟨B1, d1, rfl, hp, hE⟩)
  obtain ⟨m1, ps1, hm1, hm1b, K1, K2⟩ := KP.out A1 n1 c1 a size AF nf cf fl W ha han hnc1 (by omega) (by omega) hsz hft hfl
  have K1 := hide K1
  have K2 := hide K2
  have S1 := hide (fun B1 B2 d1 d2 w h3 h4 => KS.out ps1 m1 B1 B2 d1 d2 w hm1 hm1b h3 h4)
  have HF := hide hft
  have Hfl := hide hfl
  clear ha han hF hL hm1 hfl hft
  go_enter Try.func4, Try.ntmps4
  go_upto_region 3 with (first
    | (go_at_call 7; (with_reducible refine (KN.out).mono ?_); rintro e w1 ⟨rfl, hT, hE⟩; have T1 := hide hT; have E1 := hide hE; have kl := hide (KL.out w1 hT); clear hT hE)
    | (go_at_call 8; (with_reducible refine (kl.out).mono ?_); rintro e w2 ⟨Ac, n, kc, c, rfl, hn, hn20, hnc, hnc2, -, hO, hT2, hU2⟩; have hB2 : w1.heap.size ≤ w2.heap.size := hU2.2.2.2.1; have S2 : Hid (Fk W w1.heap.size [(.slice Ac n kc, c)] w2) := hide ⟨Upd.ext hU2 E1.out (Nat.le_refl _), hT2, T1.out.2.1, hB2, fun p hp => by simp only [List.mem_singleton] at hp; subst hp; exact hO⟩; have Hn := hide hn; clear hO hT2 hU2 hn))
  obtain ⟨B, hB⟩ : ∃ B, w1.heap.size = B := ⟨_, rfl⟩
  rw [hB] at S2 hB2
  have KF := hide (t_flushes n W.heap.size W.heap.size (by omega) w2 S2.out.t)
  clear KN KL kl T1 E1 hB
  go_upto_region 4 with (go_at_call 19; (with_reducible refine (KF.out).mono ?_); rintro e w3 ⟨Ag, ng, kg, gl, rfl, hgl, hg4, hO, hT3, hU3⟩; have S3 := hide (S2.out.upd hU3 hT3); have G3 := hide (hO.less hB2); have Hgl := hide hgl; clear hO hT3 hU3 hgl)
  clear S2 KF
  go_upto_region 5 with (go_at_call 10; (with_reducible refine (t_next W.heap.size W.heap.size 8 w3 i8 S3.out.t).mono ?_); rintro e w4 ⟨s, rfl, hs, hT4, hU4⟩; have hs1 := hs.1; have hs2 := hs.2.1 (by omega); have S4 := hide (S3.out.upd hU4 hT4); have G4 := hide (G3.out.upd hU4 S3.out.gb); clear hs hT4 hU4)
  clear S3 G3
  have is : I64 (1 + s) := ⟨by omega, by omega⟩
  have hc4 := own_samps (S4.out.o _ (List.mem_singleton_self _))
  have hg4' := own_nums G4.out
  obtain ⟨m2, ps2, hm2, hm2b, K3, K4⟩ := KP.out Ac n kc c (1 + s) Ag ng kg gl w4 hc4 Hn.out hnc hnc2 (by omega) is hg4' Hgl.out
  obtain ⟨m3, ps3, hm3, hm3b, K5, K6⟩ := KP.out Ac n kc c (1 + s) AF nf cf fl w4 hc4 Hn.out hnc hnc2 (by omega) is (HF.out.ext S4.out.e) Hfl.out
  have K3 := hide K3
  have K4 := hide K4
  have K5 := hide K5
  have K6 := hide K6
  have S2s := hide (fun B1 B2 d1 d2 w h3 h4 => KS.out ps2 m2 B1 B2 d1 d2 w hm2 hm2b h3 h4)
  have S3s := hide (fun B1 B2 d1 d2 w h3 h4 => KS.out ps3 m3 B1 B2 d1 d2 w hm3 hm3b h3 h4)
  have EW := hide S4.out.e
  clear hm2 hm3 hc4 hg4' KS KP S4 G4
  go_wp2_with (first
    | (go_at_call 15; (with_reducible refine (KK.out _).mono ?_); rintro e w5 ⟨rfl, hE⟩; have E5 := hide hE; have k1 := hide (K1.out w5 (EW.out.trans hE)); clear hE)
    | (go_at_call 21; (with_reducible refine (k1.out).mono ?_); rintro e w6 ⟨B1, d1, rfl, h1, hE⟩; have E6 := hide (E5.out.trans hE); have b1 := hide h1; have k2 := hide (K2.out w6 (EW.out.trans E6.out)); clear h1 hE)
    | (go_at_call 22; (with_reducible refine (k2.out).mono ?_); rintro e w7 ⟨B2, d2, rfl, h2, hE⟩; have E7 := hide (E6.out.trans hE); have q1 := hide (S1.out B1 B2 d1 d2 w7 (b1.out.ext hE) h2); clear h2 hE)
    | (go_at_call 20; (with_reducible refine (q1.out).mono ?_); rintro e w8 ⟨rfl, hE⟩; have E8 := hide (E7.out.trans hE); have k3 := hide (K3.out w8 E8.out); clear hE)
    | (go_at_call 21; (with_reducible refine (k3.out).mono ?_); rintro e w9 ⟨B3, d3, rfl, h1, hE⟩; have E9 := hide (E8.out.trans hE); have b3 := hide h1; have k4 := hide (K4.out w9 E9.out); clear h1 hE)
    | (go_at_call 22; (with_reducible refine (k4.out).mono ?_); rintro e w10 ⟨B4, d4, rfl, h2, hE⟩; have E10 := hide (E9.out.trans hE); have q2 := hide (S2s.out B3 B4 d3 d4 w10 (b3.out.ext hE) h2); clear h2 hE)
    | (go_at_call 20; (with_reducible refine (q2.out).mono ?_); rintro e w11 ⟨rfl, hE⟩; have E11 := hide (E10.out.trans hE); have k5 := hide (K5.out w11 E11.out); clear hE)
    | (go_at_call 21; (with_reducible refine (k5.out).mono ?_); rintro e w12 ⟨B5, d5, rfl, h1, hE⟩; have E12 := hide (E11.out.trans hE); have b5 := hide h1; have k6 := hide (K6.out w12 E12.out); clear h1 hE)
    | (go_at_call 22; (with_reducible refine (k6.out).mono ?_); rintro e w13 ⟨B6, d6, rfl, h2, hE⟩; have E13 := hide (E12.out.trans hE); have q3 := hide (S3s.out B5 B6 d5 d6 w13 (b5.out.ext hE) h2); clear h2 hE)
    | (go_at_call 20; (with_reducible refine (q3.out).mono ?_); rintro e w14 ⟨rfl, hE⟩; have E14 := hide (E13.out.trans hE); clear hE))
  go_ret
  exact ⟨rfl, EW.out.trans E14.out⟩
end
section
open Go Go.RowKit Go.Sort
theorem flat_take (ps : List (List (Int × Int))) {i : Nat} (h : i < ps.length) : (ps.take (i + 1)).flatten = (ps.take i).flatten ++ ps.getD i [] := by
  rw [List.take_succ_eq_append_getElem h, List.flatten_append]
  simp [List.getD_eq_getElem?_getD, h]
theorem mem_step (gl : List Int) (t : Int) {j : Nat} (h : j < gl.length) : decide (t ∈ gl.take (j + 1)) = (decide (t ∈ gl.take j) || (gl.getD j 0 == t)) := by
  rw [takeT_succ h, Bool.eq_iff_iff]
  obtain ⟨x, hx⟩ : ∃ x, gl.getD j 0 = x := ⟨_, rfl⟩
  rw [hx, Bool.or_eq_true, decide_eq_true_iff, decide_eq_true_iff, beq_iff_eq, List.mem_append, List.mem_singleton]
  constructor
  · rintro (h | h)
    · exact Or.inl h
    · exact Or.inr h.symm
  · rintro (h | h)
    · exact Or.inl h
    · exact Or.inr h.symm
theorem flat_le (ps : List (List (Int × Int))) (i : Nat) : (ps.take i).flatten.length ≤ ps.flatten.length := by
  have e : ps.flatten = (ps.take i).flatten ++ (ps.drop i).flatten := by rw [← List.flatten_append, List.take_append_drop]
  rw [e, List.length_append]; omega
set_option maxRecDepth 100000 in
set_option maxHeartbeats 6400000 in
theorem law_sparts (y : Option Addr) (len cap : Nat) (sz0 : Int) (W : World) (hL : IsList W y len cap) (hsz : I64 sz0) :
    Calls Try.prog 5 #[.slice y len cap, .int .i64 sz0] W (Ret (.bool true) W) := by
  have KN : Hid (Calls Try.prog 7 #[.slice y len cap] W (NewPost W)) := t_new W y len cap hL
  have KL : Hid (∀ w, TapeOk W.heap.size w W.heap.size → Calls Try.prog 8 #[.pointer (some ⟨W.heap.size, 0, none⟩), .int .i64 25] w (SampsPost 25 W.heap.size W.heap.size w)) := hide (fun w h => t_samples 25 W.heap.size W.heap.size (by omega) w h)
  have KK := hide (fun w => l_known12 w)
  have i9 : I64 9 := ⟨by omega, by omega⟩
  have KM := hide (fun w => t_modI sz0 9 w hsz i9)
  clear hL
  go_enter Try.func5, Try.ntmps5
  go_upto_region 3 with (first
    | (go_at_call 7; (with_reducible refine (KN.out).mono ?_); rintro e w1 ⟨rfl, hT, hE⟩; have T1 := hide hT; have E1 := hide hE; have kl := hide (KL.out w1 hT); clear hT hE)
    | (go_at_call 8; (with_reducible refine (kl.out).mono ?_); rintro e w2 ⟨Ac, n, kc, c, rfl, hn, hn20, hnc, hnc2, -, hO, hT2, hU2⟩; have hB2 : w1.heap.size ≤ w2.heap.size := hU2.2.2.2.1; have S2 : Hid (Fk W w1.heap.size [(.slice Ac n kc, c)] w2) := hide ⟨Upd.ext hU2 E1.out (Nat.le_refl _), hT2, T1.out.2.1, hB2, fun p hp => by simp only [List.mem_singleton] at hp; subst hp; exact hO⟩; have Hn := hide hn; clear hO hT2 hU2 hn))
  obtain ⟨B, hB⟩ : ∃ B, w1.heap.size = B := ⟨_, rfl⟩
  rw [hB] at S2 hB2
  have KF := hide (t_flushes n W.heap.size W.heap.size (by omega) w2 S2.out.t)
  clear KN KL kl T1 E1 hB
  go_upto_region 4 with (go_at_call 19; (with_reducible refine (KF.out).mono ?_); rintro e w3 ⟨Ag, ng, kg, gl, rfl, hgl, hg4, hO, hT3, hU3⟩; have S3 := hide (S2.out.upd hU3 hT3); have G3 := hide (hO.less hB2); have Hgl := hide hgl; clear hO hT3 hU3 hgl)
  clear S2 KF
  go_upto_region 5 with (go_at_call 23; (with_reducible refine (KM.out _).mono ?_); rintro e w4 ⟨s, rfl, hs, hw4⟩; have hs1 := hs.1; have hs2 := hs.2.1 (by omega); subst hw4; clear hs)
  obtain ⟨z, hz⟩ : ∃ z : Nat, 1 + s = (z : Int) := ⟨(1 + s).toNat, by omega⟩
  have hz1 : 1 ≤ z := by omega
  have hz9 : z ≤ 9 := by omega
  rw [hz]
  have hc3 := own_samps (S3.out.o _ (List.mem_singleton_self _))
  have hg3 := own_nums G3.out
  obtain ⟨ck1, ck2⟩ := cut_ok c (size := (z : Int)) (by omega) gl
  have ckl := cutL_len c (z : Int) gl
  obtain ⟨ps, hps⟩ : ∃ ps, cutL c (z : Int) gl = ps := ⟨_, rfl⟩
  obtain ⟨m, hm⟩ : ∃ m, ps.length = m := ⟨_, rfl⟩
  rw [hps] at ck1 ck2 ckl
  have KC : Hid (Calls Try.prog 21 #[.slice Ac n kc, .int .i64 (z : Int), .slice Ag ng kg] w3 fun e w' => ∃ B1 d1, e = .returned (.slice B1 m d1) ∧ PtsAt w' B1 ps ∧ Ext w3 w') := hide ((p_cutS Ac Ag n kc ng kg c (z : Int) gl w3 hc3 Hn.out hnc hnc2 (by omega) ⟨by omega, by omega⟩ hg3 Hgl.out).mono fun e w' h => by
    rw [hps] at h
    obtain ⟨B1, d1, rfl, _, hp, hE⟩ := h
    rw [hm] at *
    exact ⟨B1, d1, rfl, hp, hE⟩)
  have hm25 : m ≤ 25 := by have := Hn.out; omega
  have Hm := hide hm
  have CK1 := hide ck1
  have CK2 := hide ck2
  have EW := hide S3.out.e
  have HC := hide hc3
  have HG := hide hg3
  clear hz hs1 hs2 hc3 hg3 ck1 ck2 ckl hps hm S3 G3 KM
  go_upto_region 7 with (go_at_call 21; (with_reducible refine (KC.out).mono ?_); rintro e w5 ⟨B1, d1, rfl, h1, hE⟩; have P5 := hide h1; have E5 := hide hE; clear h1 hE)
  have O5 : Hid (OwnS w5.heap.size w5 (.slice none 0 0) (ps.take 0).flatten) := hide (OwnS.nil_ _ _)
  have X5 := hide (Ext.refl w5)
  clear KC
  go_wp2_with fail
  go_loopw [8, 10] (fun av iv wr => ∃ i : Nat, i ≤ m ∧ iv = .int .i64 (i : Int) ∧ Hid (OwnS w5.heap.size wr av (ps.take i).flatten) ∧ Hid (Ext w5 wr)) (fun _ iv _ => m - (intOf iv).toNat)
  case atStart => exact ⟨0, by omega, rfl, O5, X5⟩
  case round =>
    clear O5 X5
    obtain ⟨i, hi, rfl, HO, HE⟩ := hrel
    by_cases hlt : i < m
    · have d0 : decide ((i : Int) < (m : Int)) = true := decide_eq_true (by omega)
      have hip : i < ps.length := by rw [Hm.out]; exact hlt
      obtain ⟨g, off, rfl, hg, hc⟩ := P5.out (by omega)
      obtain ⟨A1, c1, h1, s1⟩ := hc i hip
      have hst := flat_take ps hip
      have hfl := flat_le ps (i + 1)
      rw [CK1.out, Hn.out] at hfl
      obtain ⟨gd1, gd2, gd3⟩ := CK2.out i hip
      obtain ⟨p, hp⟩ : ∃ p, ps.getD i [] = p := ⟨_, rfl⟩
      rw [hp] at h1 s1 hst gd1 gd2 gd3
      obtain ⟨T, hT⟩ : ∃ T, (ps.take i).flatten = T := ⟨_, rfl⟩
      obtain ⟨T2, hT2⟩ : ∃ T2, (ps.take (i + 1)).flatten = T2 := ⟨_, rfl⟩
      rw [hT] at hst HO
      rw [hT2] at hst hfl gd3
      obtain ⟨q, hq⟩ : ∃ q, p.length = q := ⟨_, rfl⟩
      obtain ⟨tn, htn⟩ : ∃ tn, T2.length = tn := ⟨_, rfl⟩
      rw [hq] at h1 gd1 gd2 gd3
      rw [htn] at hfl gd3
      rw [Hn.out] at gd3
      have hle : T.length + p.length ≤ 8796093022208 := by
        have : T2.length = T.length + p.length := by rw [hst, List.length_append]
        omega
      have ix := fun w => idxP g off m d1 i hlt w
      have Hst := hide hst
      have Hq := hide hq
      have Htn := hide htn
      have HT2 := hide hT2
      have hsz5 := HE.out.size
      have H1 := hide h1
      have Hg5 := hide hg
      have S1 := hide (s1.ext HE.out)
      have h1r := (HE.out.cell (p := ⟨g, off + i, none⟩) hg).trans h1
      clear hc s1 hp hst hq htn hT hT2 hip h1
      go_upto_region 11 with (at_builtin; refine wl_appendS rfl (.tmp 34) (.tmp 38) rfl w5.heap.size _ T p rfl HO.out A1 q c1 rfl S1.out Hq.out hle hsz5 ?_; intro v6 w6 hO6 hG6 hA6; have E6 := hide (below_grownS HE.out (Nat.le_refl _) HO.out hG6); have O6 := hide (show OwnS w5.heap.size w6 v6 T2 by rw [Hst.out]; exact hO6); clear hG6 hA6 hO6)
      obtain ⟨A6, k6, rfl, _, _, _⟩ := O6.out.at_
      rw [Htn.out] at O6 ⊢
      clear HO h1r
      have e0 : ((tn : Int) == (n : Int)) = decide (tn = n) := by
        by_cases h : tn = n
        · subst h; simp
        · rw [decide_eq_false h, beq_eq_false_iff_ne]; omega
      obtain ⟨b0, hb0⟩ : ∃ b0, decide (tn = n) = b0 := ⟨_, rfl⟩
      rw [hb0] at e0
      have Hb0 := hide hb0
      have HT6 := hide (HG.out.ext (E5.out.trans E6.out))
      clear hb0
      go_wp2_with fail
      go_loopw [11, 12] (fun ev jv wq => ∃ j : Nat, j ≤ ng ∧ jv = .int .i64 (j : Int) ∧ ev = .bool (b0 || decide ((tn : Int) ∈ gl.take j)) ∧ wq = w6) (fun _ jv _ => ng - (intOf jv).toNat)
      case atStart => exact ⟨0, by omega, rfl, by simp, rfl⟩
      case round =>
        obtain ⟨j, hj, rfl, rfl, rfl⟩ := hrel
        by_cases hlj : j < ng
        · have d1 : decide ((j : Int) < (ng : Int)) = true := decide_eq_true (by omega)
          have hjl : j < gl.length := by rw [Hgl.out]; exact hlj
          obtain ⟨gf, of, rfl, hgf, hcf⟩ := HT6.out.2.2 (by omega)
          have cf := hcf j hjl
          have ixf := fun w => idxN gf of ng kg j hlj w
          have hmem := mem_step gl (tn : Int) hjl
          obtain ⟨x, hx⟩ : ∃ x, gl.getD j 0 = x := ⟨_, rfl⟩
          rw [hx] at cf hmem
          obtain ⟨bj, hbj⟩ : ∃ bj, (b0 || decide ((tn : Int) ∈ gl.take j)) = bj := ⟨_, rfl⟩
          have hnext : (b0 || decide ((tn : Int) ∈ gl.take (j + 1))) = (bj || (x == (tn : Int))) := by rw [hmem, ← hbj, Bool.or_assoc]
          rw [hbj]
          have Hnext := hide hnext
          clear hmem hx hbj hnext hjl hcf
          cases bj with
          | true =>
            go_wp2_with fail
            go_roundw
            case rel => exact ⟨j + 1, by omega, by go_num, by rw [Hnext.out]; rfl, by first | rfl | trivial⟩
            case measure => simp [intOf]; omega
          | false =>
            obtain ⟨bx, hbx⟩ : ∃ bx, (x == (tn : Int)) = bx := ⟨_, rfl⟩
            have Hbx := hide hbx
            go_wp2_with fail
            go_roundw
            case rel => exact ⟨j + 1, by omega, by go_num, by rw [Hnext.out, Hbx.out]; rfl, by first | rfl | trivial⟩
            case measure => simp [intOf]; omega
        · obtain rfl : j = ng := by omega
          have d1 : decide ((j : Int) < (j : Int)) = false := decide_eq_false (by omega)
          obtain ⟨bb, hbb⟩ : ∃ bb, (b0 || decide ((tn : Int) ∈ gl.take j)) = bb := ⟨_, rfl⟩
          rw [hbb]
          have hh6 := (E6.out.cell (p := ⟨g, off + i, none⟩) Hg5.out).trans H1.out
          have hq0 : ((q : Int) == 0) = false := by rw [beq_eq_false_iff_ne]; omega
          have hqz : decide ((z : Int) < (q : Int)) = false := decide_eq_false (by omega)
          have hqz2 : decide (z < q) = false := decide_eq_false (by omega)
          have hall : q < z → bb = true := fun h => by
            rw [← hbb, List.take_of_length_le (by rw [Hgl.out]; exact Nat.le_refl _), ← Hb0.out, Bool.or_eq_true, decide_eq_true_iff, decide_eq_true_iff]
            exact gd3 (by omega)
          have O7 : Hid (OwnS w5.heap.size wr (.slice A6 tn k6) (ps.take (i + 1)).flatten) := hide (by rw [HT2.out]; exact O6.out)
          by_cases hqs : q < z
          · have h1 : decide ((q : Int) < (z : Int)) = true := decide_eq_true (by omega)
            have h2 : decide (q < z) = true := decide_eq_true hqs
            obtain rfl := hall hqs
            clear hbb hall gd1 gd2 gd3
            go_wp2_with fail
            go_roundw
            case rel => exact ⟨i + 1, by omega, by go_num, O7, E6⟩
            case measure => simp [intOf]; omega
          · have h1 : decide ((q : Int) < (z : Int)) = false := decide_eq_false (by omega)
            have h2 : decide (q < z) = false := decide_eq_false hqs
            clear hbb hall gd1 gd2 gd3
            go_wp2_with fail
            go_roundw
            case rel => exact ⟨i + 1, by omega, by go_num, O7, E6⟩
            case measure => simp [intOf]; omega
    · obtain rfl : i = m := by omega
      have d0 : decide ((i : Int) < (i : Int)) = false := decide_eq_false (by omega)
      have hO := HO.out
      rw [List.take_of_length_le (by rw [Hm.out]; exact Nat.le_refl _), CK1.out] at hO
      obtain ⟨A7, k7, rfl, _, _, h7⟩ := hO.at_
      rw [Hn.out]
      have EA := hide (EW.out.trans (E5.out.trans HE.out))
      have h7 := hide h7
      have KS := hide (fun w (h : Ext wr w) => r_sameS A7 Ac n n k7 kc c c w (h7.out.ext h) Hn.out (HC.out.ext (E5.out.trans (HE.out.trans h))) Hn.out true (wiB_self c))
      clear HO hO
      go_wp2_with (first
        | (go_at_call 15; (with_reducible refine (KK.out _).mono ?_); rintro e w8 ⟨rfl, hE⟩; have E8 := hide hE; have ks := hide (KS.out w8 hE); clear hE)
        | (go_at_call 18; (with_reducible refine (ks.out).mono ?_); rintro e w9 ⟨rfl, hE⟩; have E9 := hide (E8.out.trans hE); clear hE))
      go_ret
      exact ⟨rfl, EA.out.trans E9.out⟩
end
section
open Go Go.RowKit Go.Sort
set_option maxRecDepth 100000 in
set_option maxHeartbeats 6400000 in
theorem law_sranges (y : Option Addr) (len cap : Nat) (f0 t0 : Int) (W : World) (hL : IsList W y len cap) (hf0 : I64 f0) (ht0 : I64 t0) :
    Calls Try.prog 6 #[.slice y len cap, .int .i64 f0, .int .i64 t0] W (Ret (.bool true) W) := by
  have KN : Hid (Calls Try.prog 7 #[.slice y len cap] W (NewPost W)) := t_new W y len cap hL
  have KL : Hid (∀ w, TapeOk W.heap.size w W.heap.size → Calls Try.prog 8 #[.pointer (some ⟨W.heap.size, 0, none⟩), .int .i64 25] w (SampsPost 25 W.heap.size W.heap.size w)) := hide (fun w h => t_samples 25 W.heap.size W.heap.size (by omega) w h)
  have KK := hide (fun w => l_known12 w)
  clear hL
  go_enter Try.func6, Try.ntmps6
  go_upto_region 3 with (first
    | (go_at_call 7; (with_reducible refine (KN.out).mono ?_); rintro e w1 ⟨rfl, hT, hE⟩; have T1 := hide hT; have E1 := hide hE; have kl := hide (KL.out w1 hT); clear hT hE)
    | (go_at_call 8; (with_reducible refine (kl.out).mono ?_); rintro e w2 ⟨Ac, n, kc, c, rfl, hn, hn20, hnc, hnc2, hinc, hO, hT2, hU2⟩; have hB2 : w1.heap.size ≤ w2.heap.size := hU2.2.2.2.1; have S2 : Hid (Fk W w1.heap.size [(.slice Ac n kc, c)] w2) := hide ⟨Upd.ext hU2 E1.out (Nat.le_refl _), hT2, T1.out.2.1, hB2, fun p hp => by simp only [List.mem_singleton] at hp; subst hp; exact hO⟩; have Hn := hide hn; have Hinc := hide hinc; clear hO hT2 hU2 hn hinc))
  obtain ⟨B, hB⟩ : ∃ B, w1.heap.size = B := ⟨_, rfl⟩
  rw [hB] at S2 hB2
  clear KN KL kl T1 E1 hB
  go_cut [20] from 14 to 20 (fun bv wx => ∃ v : Bool, bv = .bool v ∧ Hid (v = true → 0 < n) ∧ Hid (Fk W B [(.slice Ac n kc, c)] wx))
  case first =>
    by_cases hn0 : n = 0
    · subst hn0
      go_wp2_with fail
      go_meet
      case rel => exact ⟨false, rfl, hide (fun h => by simp at h), S2⟩
    · have d0 : decide ((0 : Int) < (n : Int)) = true := decide_eq_true (by omega)
      have d1 : decide (0 < n) = true := decide_eq_true (by omega)
      go_wp2_with (go_at_call 24; (with_reducible refine (t_boolN W.heap.size W.heap.size 2 _ _ (by omega) (by omega) S2.out.t (Upd.refl _ _)).mono ?_); rintro e w3 ⟨v, rfl, hT, hU⟩; have S3 := hide (S2.out.upd hU hT); clear hT hU)
      go_meet
      case rel => exact ⟨v, rfl, hide (fun _ => by omega), S3⟩
  case rest =>
  clear S2 hB2
  obtain ⟨v, rfl, hv, S3⟩ := hcut
  go_upto_if 20 with fail
  go_cut [1, 2] from 21 to 36 (fun fv tv wx => ∃ f t : Int, fv = .int .i64 f ∧ tv = .int .i64 t ∧ I64 f ∧ I64 t ∧ Hid (Fk W B [(.slice Ac n kc, c)] wx))
  case first =>
    cases v with
    | false =>
      go_wp2_with fail
      go_meet
      case rel => exact ⟨f0, t0, rfl, rfl, hf0, ht0, S3⟩
    | true =>
      have hn0 := hv.out rfl
      have inn : I64 (n : Int) := ⟨by omega, by omega⟩
      obtain ⟨b, off, rfl, _, _⟩ := (own_samps (S3.out.o _ (List.mem_singleton_self _))).2.2 (by rw [Hn.out]; exact hn0)
      have KV : Hid (∀ w, Fk W B [(.slice (some ⟨b, off, none⟩) n kc, c)] w → ∀ j, j < n → w.cell? ⟨b, off + 2 * j, none⟩ = some (.int .i64 (c.getD j (0, 0)).1)) := hide (fun w h j hj => by
        obtain ⟨b', off', he, _, hc⟩ := (own_samps (h.o _ (List.mem_singleton_self _))).2.2 (by rw [Hn.out]; exact hn0)
        cases he
        exact (hc j (by rw [Hn.out]; exact hj)).1)
      have HI := hide (S3.out.o _ (List.mem_singleton_self _)).2
      have S5 := hide (S3.out.ext (ext_drew wc))
      obtain ⟨w5, hw5⟩ : ∃ w, wc.drew = w := ⟨_, rfl⟩
      have Hw5 := hide hw5
      rw [hw5] at S5
      have KA := hide (t_next W.heap.size W.heap.size (n : Int) w5 inn S5.out.t)
      have KB := hide (fun w (h : Fk W B [(.slice (some ⟨b, off, none⟩) n kc, c)] w) => t_next W.heap.size W.heap.size (n : Int) w inn h.t)
      clear hw5 S3
      go_upto_region 4 with fail
      go_region_law (first
        | (go_simp; rw [Hw5.out]; go_at_call 10; (with_reducible refine (KA.out).mono ?_); rintro e w6 ⟨s, rfl, hs, T6, u6⟩; obtain ⟨j, rfl⟩ := Int.eq_ofNat_of_zero_le hs.1; have hj : j < n := (by have := hs.2.1 (by omega); omega); have S6 := hide (S5.out.upd u6 T6); have ixj := (fun w => idxS b off n kc j hj w); have cj6 := KV.out w6 S6.out j hj; have kb := hide (KB.out w6 S6.out); clear hs u6 T6)
        | (go_simp; go_at_call 10; (with_reducible refine (kb.out).mono ?_); rintro e w7 ⟨s, rfl, hs, T7, u7⟩; obtain ⟨q, rfl⟩ := Int.eq_ofNat_of_zero_le hs.1; have hq : q < n := (by have := hs.2.1 (by omega); omega); have S7 := hide (S6.out.upd u7 T7); have ixq := (fun w => idxS b off n kc q hq w); have cj7 := KV.out w7 S7.out j hj; have cq7 := KV.out w7 S7.out q hq; clear hs u7 T7))
      all_goals go_wp2_with fail
      all_goals go_meet
      all_goals exact ⟨_, _, rfl, rfl, by have := (HI.out.get j).1; simpa [List.getD_eq_getElem?_getD] using this, by have := (HI.out.get q).1; simpa [List.getD_eq_getElem?_getD] using this, S7⟩
  case rest =>
  clear S3
  obtain ⟨f, t, rfl, rfl, hf, ht, S4⟩ := hcut
  obtain ⟨f1, hf1⟩ : ∃ f1, min f t = f1 := ⟨_, rfl⟩
  obtain ⟨t1, ht1⟩ : ∃ t1, max f t = t1 := ⟨_, rfl⟩
  have hft : f1 ≤ t1 := by omega
  have if1 : I64 f1 := by unfold I64 at *; omega
  have it1 : I64 t1 := by unfold I64 at *; omega
  go_upto_region 6 with fail
  clear hf1 ht1 hf ht hv
  by_cases he1 : f1 = -9223372036854775808
  · have d1 : (f1 == -9223372036854775808) = true := by rw [beq_iff_eq]; exact he1
    clear he1
    go_wp2_with (go_at_call 15; (with_reducible refine (KK.out _).mono ?_); rintro e w5 ⟨rfl, hE⟩; have S5 := hide (S4.out.ext hE); clear hE)
    go_ret
    exact ⟨rfl, S5.out.e⟩
  · have d1 : (f1 == -9223372036854775808) = false := by rw [beq_eq_false_iff_ne]; exact he1
    by_cases he2 : t1 = 9223372036854775807
    · have d2 : (t1 == 9223372036854775807) = true := by rw [beq_iff_eq]; exact he2
      clear he1 he2
      go_wp2_with (go_at_call 15; (with_reducible refine (KK.out _).mono ?_); rintro e w5 ⟨rfl, hE⟩; have S5 := hide (S4.out.ext hE); clear hE)
      go_ret
      exact ⟨rfl, S5.out.e⟩
    · have d2 : (t1 == 9223372036854775807) = false := by rw [beq_eq_false_iff_ne]; exact he2
      obtain ⟨b1, b2⟩ := if1
      obtain ⟨b3, b4⟩ := it1
      obtain ⟨fm, hfm⟩ : ∃ fm, f1 - 1 = fm := ⟨_, rfl⟩
      obtain ⟨tp, htp⟩ : ∃ tp, t1 + 1 = tp := ⟨_, rfl⟩
      have ifm : I64 fm := ⟨by omega, by omega⟩
      have itp : I64 tp := ⟨by omega, by omega⟩
      have ew1 : wrap64 (f1 - 1) = fm := by rw [hfm]; unfold I64 at ifm; simp only [wrap64]; omega
      have ew2 : wrap64 (t1 + 1) = tp := by rw [htp]; unfold I64 at itp; simp only [wrap64]; omega
      have hc4 := own_samps (S4.out.o _ (List.mem_singleton_self _))
      have hsplit : rgL c (-9223372036854775808) fm ++ rgL c f1 t1 ++ rgL c tp 9223372036854775807 = c := by
        rw [← hfm, ← htp]
        exact rg_split hft c (inc_pairwise Hinc.out) (fun p hp => (hc4.1 p hp).1)
      obtain ⟨r1, hr1⟩ : ∃ r, rgL c (-9223372036854775808) fm = r := ⟨_, rfl⟩
      obtain ⟨r2, hr2⟩ : ∃ r, rgL c f1 t1 = r := ⟨_, rfl⟩
      obtain ⟨r3, hr3⟩ : ∃ r, rgL c tp 9223372036854775807 = r := ⟨_, rfl⟩
      have hl1 := rgL_len c (-9223372036854775808) fm
      have hl2 := rgL_len c f1 t1
      have hl3 := rgL_len c tp 9223372036854775807
      rw [hr1, hr2, hr3] at hsplit
      rw [hr1, Hn.out] at hl1
      rw [hr2, Hn.out] at hl2
      rw [hr3, Hn.out] at hl3
      have HC := hide hc4
      have KR : Hid (∀ lo hi r w, rgL c lo hi = r → I64 lo → I64 hi → Ext wc w → Calls Try.prog 25 #[.slice Ac n kc, .int .i64 lo, .int .i64 hi] w (SmGet r w)) := hide (fun lo hi r w hr h1 h2 hE => by rw [← hr]; exact p_rangeS Ac n kc c lo hi w (HC.out.ext hE) Hn.out (by omega) h1 h2)
      have R1 := hide (fun w hE => KR.out (-9223372036854775808) fm r1 w hr1 ⟨by omega, by omega⟩ ifm hE)
      have R2 := hide (fun w hE => KR.out f1 t1 r2 w hr2 ⟨b1, b2⟩ ⟨b3, b4⟩ hE)
      have R3 := hide (fun w hE => KR.out tp 9223372036854775807 r3 w hr3 itp ⟨by omega, by omega⟩ hE)
      have E3 := hide (ext_alloc wc (.cells #[] 47))
      have O3 := hide (own_ofS (B := wc.heap.size) (w := wc.alloc (.cells #[] 47)) (g := wc.heap.size) (n := 0) (cap := 0) (l := []) (m := []) (Nat.le_refl _) (Blk.new wc _ _) rfl (by omega) rfl (by omega) IsS.nil)
      have hle1 : ([] : List (Int × Int)).length + r1.length ≤ 8796093022208 := by simp; omega
      have hle2 : ([] ++ r1).length + r2.length ≤ 8796093022208 := by simp; omega
      have hle3 : ([] ++ r1 ++ r2).length + r3.length ≤ 8796093022208 := by simp; omega
      have Hsp := hide hsplit
      have k1 := hide (R1.out _ E3.out)
      clear KR hr1 hr2 hr3 hsplit hc4 hfm htp he1 he2 hft
      go_upto_region 9 with (first
        | (go_at_call 25; (with_reducible refine (k1.out).mono ?_); rintro e w5 ⟨B1, d1, rfl, h1, hE⟩; have E5 := hide (Ext.trans E3.out hE); have O5 := hide (O3.out.ext hE); have q1 := hide h1; have hz5 := E5.out.size; clear h1 hE)
        | (at_builtin; refine wl_appendS rfl (.tmp 50) (.tmp 54) rfl wc.heap.size _ [] r1 rfl O5.out B1 _ d1 rfl q1.out rfl hle1 hz5 ?_; intro v6 w6 hO6 hG6 hA6; have E6 := hide (below_grownS E5.out (Nat.le_refl _) O5.out hG6); have O6 := hide hO6; have k2 := hide (R2.out w6 E6.out); clear hO6 hG6 hA6)
        | (go_at_call 25; (with_reducible refine (k2.out).mono ?_); rintro e w7 ⟨B2, d2, rfl, h1, hE⟩; have E7 := hide (Ext.trans E6.out hE); have O7 := hide (O6.out.ext hE); have q2 := hide h1; have hz7 := E7.out.size; clear h1 hE)
        | (at_builtin; refine wl_appendS rfl (.tmp 55) (.tmp 59) rfl wc.heap.size _ _ r2 rfl O7.out B2 _ d2 rfl q2.out rfl hle2 hz7 ?_; intro v8 w8 hO6 hG6 hA6; have E8 := hide (below_grownS E7.out (Nat.le_refl _) O7.out hG6); have O8 := hide hO6; have k3 := hide (R3.out w8 E8.out); clear hO6 hG6 hA6)
        | (go_at_call 25; (with_reducible refine (k3.out).mono ?_); rintro e w9 ⟨B3, d3, rfl, h1, hE⟩; have E9 := hide (Ext.trans E8.out hE); have O9 := hide (O8.out.ext hE); have q3 := hide h1; have hz9 := E9.out.size; clear h1 hE)
        | (at_builtin; refine wl_appendS rfl (.tmp 60) (.tmp 64) rfl wc.heap.size _ _ r3 rfl O9.out B3 _ d3 rfl q3.out rfl hle3 hz9 ?_; intro v10 w10 hO6 hG6 hA6; have E10 := hide (below_grownS E9.out (Nat.le_refl _) O9.out hG6); have O10 := hide hO6; clear hO6 hG6 hA6))
      have hO := O10.out
      rw [List.nil_append, Hsp.out] at hO
      obtain ⟨A7, k7, rfl, _, _, h7⟩ := hO.at_
      rw [Hn.out]
      have h7 := hide h7
      have EA := hide (Ext.trans S4.out.e E10.out)
      have KS := hide (fun w (h : Ext w10 w) => r_sameS A7 Ac n n k7 kc c c w (h7.out.ext h) Hn.out (HC.out.ext (Ext.trans E10.out h)) Hn.out true (wiB_self c))
      clear hO O10 O3 O5 O6 O7 O8 O9 E3 E5 E6 E7 E8 E9 k1 k2 k3 q1 q2 q3
      go_wp2_with (first
        | (go_at_call 15; (with_reducible refine (KK.out _).mono ?_); rintro e w11 ⟨rfl, hE⟩; have E11 := hide hE; have ks := hide (KS.out w11 hE); clear hE)
        | (go_at_call 18; (with_reducible refine (ks.out).mono ?_); rintro e w12 ⟨rfl, hE⟩; have E12 := hide (E11.out.trans hE); clear hE))
      go_ret
      exact ⟨rfl, EA.out.trans E12.out⟩
end
end Go.Proofs.Ytmgkcgnnfgdapaa
