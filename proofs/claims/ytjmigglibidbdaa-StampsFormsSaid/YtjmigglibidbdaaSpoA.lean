/- The tape's change of some bytes. Conditions: the slice reads as at most 2^47 - 8 bytes; the numbers of the tape lie in memory that was there. -/
import Derived.Test.YtjmigglibidbdaaByB
import Derived.Test.YtjmigglibidbdaaTapS
namespace Go.Proofs.Ytjmigglibidbdaa
set_option linter.unusedVariables false
set_option linter.unusedSimpArgs false
open Go Go.RowKit
theorem OwnB.upd {B b : Nat} {w w' : World} {v : Value} {l : List Nat} (h : OwnB B w v l) (u : Upd b w w') (hb : b < B) : OwnB B w' v l := by
  refine ⟨?_, h.2⟩
  obtain ⟨h1, h2 | ⟨g, cap, cur, hv, hg, hh, r⟩⟩ := h.1
  · exact ⟨h1, Or.inl h2⟩
  · exact ⟨h1, Or.inr ⟨g, cap, cur, hv, hg, by rw [u.2.2.2.2 g (Array.getElem?_eq_some_iff.1 hh).1 (by omega)]; exact hh, r⟩⟩
theorem BytesAt.upd {b : Nat} {w w' : World} {A : Option Addr} {l : List Nat} (h : BytesAt w A l) (u : Upd b w w') (hb : ∀ g off, A = some ⟨g, off, none⟩ → g ≠ b) : BytesAt w' A l :=
  h.keep u.2.2.2.1 fun g off hA hg => u.2.2.2.2 g hg (hb g off hA)
/-- What is returned lies in memory made since W (or there is none of it). -/
def SpoilPost (B b c : Nat) (W : World) (e : Ending) (w' : World) : Prop := ∃ A n cap l, e = .returned (.slice A n cap) ∧ l.length = n ∧ n ≤ cap ∧ cap ≤ 9223372036854775807 ∧ n ≤ c + 1 ∧ BytesAt w' A l ∧ (∀ g off, A = some ⟨g, off, none⟩ → W.heap.size ≤ g) ∧ TapeOk B w' b ∧ Upd b W w'
theorem spoil_own {B b c : Nat} {W w' : World} {v : Value} {l : List Nat} (h : OwnB W.heap.size w' v l) (hc : l.length ≤ c + 1) (hT : TapeOk B w' b) (hU : Upd b W w') : SpoilPost B b c W (.returned v) w' := by
  have hg : ∀ g, v.ownBlock = some g → W.heap.size ≤ g := fun g e => (h.1.lt g e).1
  obtain ⟨A, cap, rfl, h1, h2, h3⟩ := h.at_
  exact ⟨A, _, cap, l, rfl, rfl, h1, h2, hc, h3, fun g off e => hg g (by rw [e]; rfl), hT, hU⟩
theorem bytes_of_own {w : World} {A : Option Addr} {c cap B : Nat} {l : List Nat} (h : OwnB B w (.slice A c cap) l) (hc : l.length = c) : BytesAt w A l ∧ ∀ g off, A = some ⟨g, off, none⟩ → B ≤ g := by
  refine ⟨?_, fun g off e => (h.1.lt g (by rw [e]; rfl)).1⟩
  obtain ⟨A', cap', hv, _, _, hb⟩ := h.at_
  injection hv with h1 _ _
  rw [h1]; exact hb
theorem grown_below {w w' : World} {row : Option Nat} (h : w.grownBy w' row) (B : Nat) (hB : B ≤ w.heap.size) (hr : ∀ k, row = some k → B ≤ k) : Below B w w' := (Below.refl B w).grown h hB hr
theorem upd_grown {W w w' : World} {row : Option Nat} {b : Nat} (u : Upd b W w) (h : w.grownBy w' row) (hr : ∀ k, row = some k → W.heap.size ≤ k) : Upd b W w' :=
  ⟨h.os.trans u.1, h.tape.trans u.2.1, h.output.trans u.2.2.1, Nat.le_trans u.2.2.2.1 h.size, fun k hk hn => (h.block k (Nat.lt_of_lt_of_le hk u.2.2.2.1) (fun e => by have := hr k e.symm; omega)).trans (u.2.2.2.2 k hk hn)⟩
theorem upd_row {W w : World} {b g : Nat} (u : Upd b W w) (hg : W.heap.size ≤ g) (cs : Array Value) : Upd b W (w.setRow g cs) := by
  refine ⟨u.1, u.2.1, u.2.2.1, ?_, fun k hk hn => ?_⟩
  · show W.heap.size ≤ (w.heap.modify g _).size
    rw [Array.size_modify]; exact u.2.2.2.1
  · show (w.heap.modify g _)[k]? = _
    rw [Array.getElem?_modify, if_neg (by omega)]; exact u.2.2.2.2 k hk hn
theorem below_row (w : World) {B g : Nat} (hg : B ≤ g) (cs : Array Value) : Below B w (w.setRow g cs) := by
  refine ⟨rfl, rfl, rfl, ?_, fun k hk => ?_⟩
  · show w.heap.size ≤ (w.heap.modify g _).size
    rw [Array.size_modify]; exact Nat.le_refl _
  · show (w.heap.modify g _)[k]? = _
    rw [Array.getElem?_modify, if_neg (by omega)]
theorem row_new {w : World} {g : Nat} {t : TypeId} {cs ds : Array Value} (h : w.heap[g]? = some (.cells cs t (0, 0))) : (w.setRow g ds).heap[g]? = some (.cells ds t (0, 0)) := by
  simp [World.setRow, Array.getElem?_modify, h]
theorem step_append_run {P : Program} {ops : Array Oper} {o : Oper} {a : Act} {w : World} {K : Act → World → Prop} {Q : Exit → Act → World → Prop} {E : Prop}
    (hg : o.guard = none) (s x : Operand) (t : TypeId) (hop : o.op = Op.call { callee := Callee.builtin Builtin.append, args := #[s, x], argTypes := #[t, t] })
    (vs vx v' : Value) (w' : World) (hs : a.eval s = vs) (hx : a.eval x = vx) (hrun : ∀ ty, (Builtin.append_ #[t, t] ty #[vs, vx]).run P w = .ok v' w') (hK : K (a.put o.dst v') w') :
    if Region.wanted o (yielded ops a.tmps) = true then Oper.wp P o a w K Q else E := by
  have hw : Region.wanted o (yielded ops a.tmps) = true := by simp [Region.wanted, hg]
  rw [if_pos hw]
  unfold Oper.wp
  simp [execOp, hop, resolve, invoke, builtin, hs, hx, hrun, Result.andThen]
  exact hK
theorem xor_u8 (a b : Int) : ∃ k : Nat, bits .xor .u8 a b = (k : Int) ∧ k < 256 := by
  refine ⟨(BitVec.ofInt 8 a ^^^ BitVec.ofInt 8 b).toNat, ?_, (BitVec.ofInt 8 a ^^^ BitVec.ofInt 8 b).isLt⟩
  show IntKind.u8.wrap ((BitVec.ofInt 8 a ^^^ BitVec.ofInt 8 b).toNat : Int) = _
  have := (BitVec.ofInt 8 a ^^^ BitVec.ofInt 8 b).isLt
  generalize (BitVec.ofInt 8 a ^^^ BitVec.ofInt 8 b).toNat = n at this
  simp [IntKind.wrap, IntKind.bits, IntKind.signed]; omega
/-- Bytes that lie in a block of the call's own. -/
theorem own_block {B : Nat} {w : World} {A : Option Addr} {c cap : Nat} {l : List Nat} (h : OwnB B w (.slice A c cap) l) (hc : 0 < c) : ∃ g m, A = some ⟨g, 0, none⟩ ∧ B ≤ g ∧ w.heap[g]? = some (.cells (u8s l ++ m).toArray 5 (0, 0)) ∧ l.length = c ∧ cap = c + m.length ∧ cap ≤ 9223372036854775807 := by
  rcases h.1.2 with ⟨h0, _⟩ | ⟨g, cap', cur, hv, hg, hh, hnc, hcp, hcs, htake⟩
  · injection h0 with _ h2 _; omega
  · injection hv with h1 h2 h3
    subst h2 h3
    unfold maxLen at hcp
    rw [Nat.mul_one] at htake hcs
    refine ⟨g, cur.toList.drop l.length, h1, hg, ?_, rfl, ?_, hcp⟩
    · rw [hh, ← htake, List.take_append_drop]
    · have := Array.length_toList (xs := cur)
      simp only [List.length_drop]; omega
theorem cells_of_bytes {w : World} {a : Addr} {l : List Nat} (h : BytesAt w (some a) l) : ∀ j u, (u8s l)[j]? = some u → w.cell? (a.add j) = some u := by
  intro j u hu
  have hj : j < l.length := by
    rcases Nat.lt_or_ge j (u8s l).length with h | h
    · rwa [u8s_len] at h
    · rw [List.getElem?_eq_none h] at hu; cases hu
  obtain ⟨b, off, h', _, hc⟩ := h.2.2 (by omega)
  obtain rfl : a = ⟨b, off, none⟩ := Option.some.inj h'
  rw [add_at, hc j hj, ← hu, getD_lt hj]
  simp [u8s, hj]
set_option maxHeartbeats 1600000 in
set_option maxRecDepth 100000 in
theorem t_spoiled (B b : Nat) (A : Option Addr) (c cap : Nat) (l : List Nat) (W : World) (hT : TapeOk B W b) (hb : BytesAt W A l) (hc : l.length = c) (hlen : c ≤ 140737488355320) :
    Calls Try.prog 19 #[.pointer (some ⟨b, 0, none⟩), .slice A c cap] W (SpoilPost B b c W) := by
  have hbW := hT.2.1
  have O0 : OwnB W.heap.size (W.alloc (.cells #[] 5)) (.slice (some ⟨W.heap.size, 0, none⟩) 0 0) [] := own_of (m := []) (Nat.le_refl _) (heap_alloc_new W _) rfl rfl (by omega) IsB.nil
  have E0 := ext_alloc W (.cells #[] 5)
  have H0 := hb.ext E0
  have B0 : W.heap.size ≤ (W.alloc (.cells #[] 5)).heap.size := E0.size
  have L0 : ([] : List Nat).length + l.length ≤ 140737488355328 := by simp; omega
  have HT := hide hT
  have HC := hide hc
  have ic : I64 (c : Int) := ⟨by omega, by omega⟩
  have i6 : I64 6 := ⟨by omega, by omega⟩
  go_enter Try.func19, Try.ntmps19
  go_upto_region 2 with (at_builtin; refine wl_append8 rfl (.tmp 6) (.tmp 7) rfl W.heap.size _ [] l rfl O0 A c cap rfl H0 hc L0 B0 ?_; intro v1 w1 hO hG hA; have hE1 := hide (below_grown E0 (Nat.le_refl _) O0 hG); have hO := hide hO; clear hG hA)
  have hO : Hid (OwnB W.heap.size w1 v1 l) := hO
  have T1 := HT.out.below (Below.mono hE1.out hbW)
  have U1 := hide (Ext.upd hE1.out b)
  obtain ⟨A1, cap1, hv1, hle1, hcap1, _⟩ := hO.out.at_
  rw [HC.out] at hv1 hle1
  subst hv1
  clear O0 E0 H0 B0 L0 hT hb hc hE1
  go_upto_region 6 with (first
    | (go_at_call 10; (with_reducible refine (t_next B b (c : Int) _ ic T1).mono ?_); rintro e w2 ⟨at_, rfl, hat, T2, u2⟩; have O2 := hide (hO.out.upd u2 hbW); have U2 := hide (U1.out.trans u2); have at0 := hat.1; have at1 := hat.2.1; have at2 := hat.2.2; clear hat u2)
    | (go_at_call 10; (with_reducible refine (t_next B b 6 _ i6 T2).mono ?_); rintro e w3 ⟨r, rfl, hr, T3, u3⟩; have O3 := hide (O2.out.upd u3 hbW); have U3 := hide (U2.out.trans u3); have r0 := hr.1; have r1 := hr.2.1 (by omega); clear hr u3))
  clear O2 U1 U2 T1 T2 hO
  have hcases : r = 0 ∨ r = 1 ∨ r = 2 ∨ (3 ≤ r ∧ r < 6) := by omega
  rcases hcases with hr | hr | hr | hr
  · subst hr
    have ic1 : I64 ((c : Int) + 1) := ⟨by omega, by omega⟩
    go_wp2_with fail
    (with_reducible refine (t_next B b ((c : Int) + 1) _ ic1 T3).mono ?_)
    rintro e w4 ⟨u, rfl, hu, T4, u4⟩
    have u0 := hu.1
    have u1 := hu.2.1 (by omega)
    obtain ⟨k, rfl⟩ := Int.eq_ofNat_of_zero_le u0
    have hk : k ≤ c := by omega
    have hs := run_upto A1 c k cap1 (by omega)
    have hO4 := hide (O3.out.upd u4 hbW)
    have hU4 := hide (U3.out.trans u4)
    clear hu u0 u1 u4
    go_wp2_with fail
    go_ret
    have hb4 := bytes_of_own hO4.out HC.out
    exact ⟨A1, k, cap1, l.take k, rfl, by rw [List.length_take]; have := HC.out; omega, by omega, hcap1, by omega, hb4.1.take k, hb4.2, T4, hU4.out⟩
  · subst hr
    have i256 : I64 256 := ⟨by omega, by omega⟩
    have hle : l.length + ([0] : List Nat).length ≤ 140737488355328 := by have := HC.out; simp; omega
    go_wp2_with fail
    (with_reducible refine (t_next B b 256 _ i256 T3).mono ?_)
    rintro e w4 ⟨u, rfl, hu, T4, u4⟩
    have u0 := hu.1
    have u1 := hu.2.1 (by omega)
    obtain ⟨k, rfl⟩ := Int.eq_ofNat_of_zero_le u0
    have hk : k < 256 := by omega
    have hO4 := hide ((O3.out.upd u4 hbW).alloc (.cells #[Value.int .u8 (k : Int)] 5))
    have hU4 := hide ((U3.out.trans u4).trans (Ext.upd (ext_alloc w4 (.cells #[Value.int .u8 (k : Int)] 5)) b))
    have hone := hide (one_at w4 k hk _ rfl)
    have hsz : W.heap.size ≤ (w4.alloc (.cells #[Value.int .u8 (k : Int)] 5)).heap.size := hU4.out.2.2.2.1
    have T5 := T4.alloc (.cells #[Value.int .u8 (k : Int)] 5)
    have hle : l.length + [k].length ≤ 140737488355328 := hle
    clear hu u0 u1 u4
    go_wp2_with (at_builtin; refine wl_append8 rfl (.tmp 39) (.tmp 43) rfl W.heap.size _ l [k] rfl hO4.out _ 1 1 rfl hone.out rfl hle hsz ?_; intro v6 w6 hO6 hG6 hA6)
    have hG := hO4.out.1.lt
    go_ret
    refine spoil_own hO6 (by rw [List.length_append]; have := HC.out; simp; omega) (T5.below (grown_below hG6 (b + 1) (by omega) (fun k hk => by have := (hG k hk).1; omega))) (upd_grown hU4.out hG6 (fun k hk => (hG k hk).1))
  · subst hr
    by_cases h0 : c = 0
    · have q0 : ¬ (0 : Int) < (c : Int) := by omega
      have H0 := hide h0
      clear h0
      go_wp2_with fail
      go_ret
      show SpoilPost B b c W (.returned (.slice A1 c cap1)) w3
      exact spoil_own O3.out (by have := HC.out; omega) T3 U3.out
    · have q0 : (0 : Int) < (c : Int) := by omega
      obtain ⟨k, rfl⟩ := Int.eq_ofNat_of_zero_le at0
      have hk : k < c := by have := at1 (by omega); omega
      obtain ⟨g, m, rfl, hgW, hh, hlc, hcapm, hcap63⟩ := own_block O3.out (by omega)
      have hbl := bytes_of_own O3.out HC.out
      have hs1 := run_upto (some ⟨g, 0, none⟩) c k cap1 (by omega)
      have hs2 := run_from (some ⟨g, 0, none⟩) c (k + 1) cap1 (by omega)
      have hd := hbl.1.drop (k + 1) cap1 (by omega)
      obtain ⟨A2, hA2⟩ : ∃ A2, (if cap1 = k + 1 then some (⟨g, 0, none⟩ : Addr) else (some (⟨g, 0, none⟩ : Addr)).map (·.add ((k + 1) * 1))) = some A2 := by
        by_cases h : cap1 = k + 1
        · exact ⟨_, if_pos h⟩
        · exact ⟨_, if_neg h⟩
      rw [hA2] at hs2 hd
      obtain ⟨i0, hi0, hz0, hz1, hz2⟩ := info_parts info_u8
      have hrun : ∀ ty, (Builtin.append_ #[29, 29] ty #[.slice (some ⟨g, 0, none⟩) k cap1, .slice (some A2) (c - (k + 1)) (cap1 - (k + 1))]).run Try.prog w3.drew = .ok (.slice (some ⟨g, 0, none⟩) (k + (c - (k + 1))) cap1) (w3.drew.setRow g ((u8s l ++ m).toArray.toList.take (k * i0.size) ++ u8s (l.drop (k + 1)) ++ (u8s l ++ m).toArray.toList.drop (k * i0.size + (u8s (l.drop (k + 1))).length)).toArray) := fun ty =>
        run_append_room w3.drew 29 ty 5 i0 Try.underlying29 hi0 g k cap1 _ hh A2 (c - (k + 1)) (cap1 - (k + 1)) (u8s (l.drop (k + 1))) (by rw [u8s_len, List.length_drop, hz1]; omega) (cells_of_bytes hd) (u8s_one _) (by omega) (by rw [hz1, u8s_len, List.length_drop]; simp [u8s_len]; omega)
      rw [hz1] at hrun
      have e1 : (u8s l ++ m).toArray.toList.take (k * 1) = u8s (l.take k) := by
        simp [u8s, List.map_take, List.take_append_of_le_length (show k ≤ (l.map fun x : Nat => Value.int .u8 (x : Int)).length by simp; omega)]
      rw [e1, ← u8s_app] at hrun
      obtain ⟨R, hR⟩ : ∃ R, (u8s l ++ m).toArray.toList.drop (k * 1 + (u8s (l.drop (k + 1))).length) = R := ⟨_, rfl⟩
      have hRl : R.length = cap1 - (k + (c - (k + 1))) := by
        rw [← hR, List.length_drop, u8s_len, List.length_drop]; simp [u8s_len]; omega
      rw [hR] at hrun
      have hrow := row_new (w := w3.drew) (ds := (u8s (l.take k ++ l.drop (k + 1)) ++ R).toArray) hh
      obtain ⟨w4, hw4⟩ : ∃ w4, w3.drew.setRow g (u8s (l.take k ++ l.drop (k + 1)) ++ R).toArray = w4 := ⟨_, rfl⟩
      have T4 : TapeOk B w4 b := by rw [← hw4]; exact (T3.below ((Below.refl _ _).drew)).below (below_row _ (by omega) _)
      have U4 : Hid (Upd b W w4) := by rw [← hw4]; exact upd_row (U3.out.drew) hgW _
      rw [hw4] at hrun hrow
      have hrow := hide hrow
      have Hhl := hide hlc
      have HRl := hide hRl
      have hbI := hide (show IsB (l.take k ++ l.drop (k + 1)) from (hbl.1.1.take k).app (hbl.1.1.drop (k + 1)))
      have ek1 : ((k : Int) + 1) = ((k + 1 : Nat) : Int) := by omega
      rw [← ek1] at hs2
      have Hcapm := hide hcapm
      have hw1 : IntKind.i64.wrap ((k : Int) + 1) = (k : Int) + 1 := IntWalk.i64_in _ (by omega)
      clear hcapm hA2 hd hbl hh hw4 e1 hR hlc hRl ek1 O3 U3 T3 at0 at1 at2
      go_wp2_with fail
      go_region_law (refine step_append_run rfl (.tmp 52) (.tmp 56) 29 rfl _ _ _ _ (by simp [Act.eval, Act.put]) (by simp [Act.eval, Act.put]) hrun ?_)
      go_wp2_with fail
      go_ret
      have hcl : (l.take k ++ l.drop (k + 1)).length = k + (c - (k + 1)) := by
        have := Hhl.out
        rw [List.length_append, List.length_take, List.length_drop]; omega
      have hO : OwnB W.heap.size w4 (.slice (some ⟨g, 0, none⟩) (k + (c - (k + 1))) cap1) (l.take k ++ l.drop (k + 1)) := by
        refine ⟨⟨by rw [u8s_len]; omega, Or.inr ⟨g, cap1, _, ?_, hgW, hrow.out, by rw [hcl]; have := Hcapm.out; omega, by unfold maxLen; omega, ?_, ?_⟩⟩, hbI.out⟩
        · rw [hcl]
        · have := HRl.out
          have := Hcapm.out
          rw [List.size_toArray, List.length_append, u8s_len, hcl]; omega
        · rw [Nat.mul_one, ← u8s_len]; simp
      exact spoil_own hO (by omega) T4 U4.out
  · obtain ⟨hr3, hr6⟩ := hr
    have n0 : (r == 0) = false := beq_eq_false_iff_ne.2 (by omega)
    have n1 : (r == 1) = false := beq_eq_false_iff_ne.2 (by omega)
    have n2 : (r == 2) = false := beq_eq_false_iff_ne.2 (by omega)
    by_cases h0 : c = 0
    · have q0 : ¬ (0 : Int) < (c : Int) := by omega
      have H0 := hide h0
      clear h0
      go_wp2_with fail
      go_ret
      show SpoilPost B b c W (.returned (.slice A1 c cap1)) w3
      exact spoil_own O3.out (by have := HC.out; omega) T3 U3.out
    · have q0 : (0 : Int) < (c : Int) := by omega
      obtain ⟨k, rfl⟩ := Int.eq_ofNat_of_zero_le at0
      have hk : k < c := by have := at1 (by omega); omega
      obtain ⟨g, m, rfl, hgW, hh, hlc, hcapm, hcap63⟩ := own_block O3.out (by omega)
      have hkl : k < l.length := by omega
      have hcell : w3.cell? ⟨g, k, none⟩ = some (.int .u8 ((l.getD k 0 : Nat) : Int)) := by
        rw [cell_of_row w3 g k _ _ _ hh, getD_lt hkl]
        simp [u8s, hkl, List.getElem?_append_left]
      have hcf : w3.frozen? ⟨g, k, none⟩ = false := Blk.frozen (show Blk w3 g 5 (u8s l ++ m).toArray from hh) k
      have hgs : g < w3.heap.size := (Array.getElem?_eq_some_iff.1 hh).1
      have hgb : g ≠ b := by omega
      have T3d : TapeOk B w3.drew b := T3.below (Below.refl _ _).drew
      have i8 : I64 8 := ⟨by omega, by omega⟩
      have kc : (k : Int) < (c : Int) := by omega
      obtain ⟨x, hx⟩ : ∃ x, l.getD k 0 = x := ⟨_, rfl⟩
      rw [hx] at hcell
      have fin : Hid (∀ (w4 : World) (a b' : Int), w4.heap[g]? = some (.cells (u8s l ++ m).toArray 5 (0, 0)) → TapeOk B w4 b → Upd b W w4 → SpoilPost B b c W (.returned (.slice (some ⟨g, 0, none⟩) c cap1)) (w4.setCell ⟨g, k, none⟩ (.int .u8 (bits .xor .u8 a b')))) := fun w4 a b' h4 T4 U4 => by
        obtain ⟨y, hy, hy256⟩ := xor_u8 a b'
        rw [hy]
        have hset := Blk.set_ (show Blk w4 g 5 (u8s l ++ m).toArray from h4) k (.int .u8 (y : Int))
        have e : (u8s l ++ m).toArray.setIfInBounds k (.int .u8 (y : Int)) = (u8s (l.set k y) ++ m).toArray := by
          rw [List.setIfInBounds_toArray, List.set_append_left k _ (by rw [u8s_len]; exact hkl)]
          simp [u8s, List.map_set]
        rw [e] at hset
        have hO : OwnB W.heap.size (w4.setCell ⟨g, k, none⟩ (.int .u8 (y : Int))) (.slice (some ⟨g, 0, none⟩) c cap1) (l.set k y) := by
          refine ⟨⟨by rw [u8s_len]; simp, Or.inr ⟨g, cap1, _, by simp [hlc], hgW, hset, by simp; omega, by unfold maxLen; omega, by rw [List.size_toArray, List.length_append, u8s_len]; simp; omega, ?_⟩⟩, ?_⟩
          · rw [Nat.mul_one, ← u8s_len]; simp
          · intro z hz
            rcases List.mem_or_eq_of_mem_set hz with h | h
            · exact O3.out.2 z h
            · omega
        exact spoil_own hO (by simp; omega) (T4.store (by omega) _) (U4.store hgW _)
      have HH := hide hh
      have Hkl := hide hkl
      have Hcapm := hide hcapm
      have Hhl := hide hlc
      have HI := hide O3.out.2
      clear hh hkl hx hcapm hlc O3
      go_wp2_with fail
      go_region_with (go_at_call 10; (with_reducible refine (t_next B b 8 _ i8 T3d).mono ?_); rintro e w4 ⟨u, rfl, hu, T4, u4⟩; have hh4 := hide ((u4.2.2.2.2 g hgs hgb).trans HH.out); have c4 : w4.cell? ⟨g, k, none⟩ = some (.int .u8 (x : Int)) := (World.cell?_of_block (a := ⟨g, k, none⟩) (u4.2.2.2.2 g hgs hgb)).trans hcell; have f4 : w4.frozen? ⟨g, k, none⟩ = false := (World.frozen?_of_block (a := ⟨g, k, none⟩) (u4.2.2.2.2 g hgs hgb)).trans hcf; have U4 := hide (U3.out.drew.trans u4); have u0 := hu.1; have u1 := hu.2.1 (by omega); clear hu u4)
      all_goals go_wp2_with fail
      all_goals go_ret
      all_goals exact fin.out _ _ _ hh4.out T4 U4.out
end Go.Proofs.Ytjmigglibidbdaa
