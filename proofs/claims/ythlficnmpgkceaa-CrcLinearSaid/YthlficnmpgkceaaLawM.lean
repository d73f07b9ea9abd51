/- Layer 6: CrcLinear. Conditions: the slices read as bytes and numbers. -/
import Derived.Test.YthlficnmpgkceaaLawL
import Derived.Test.YthlficnmpgkceaaByC
namespace Go.Proofs.Ythlficnmpgkceaa
set_option linter.unusedVariables false
set_option linter.unusedSimpArgs false
open Go Go.RowKit Go.Sort
theorem cell_alloc_of {w : World} {p : Addr} {v : Value} {o : Obj} (h : w.cell? p = some v) : (w.alloc o).cell? p = some v := by
  rw [World.cell?_alloc_lt w o p (block_lt_of_cell h)]; exact h
/-- What the round's head knows. -/
structure Lin (W w2 : World) (g c : Nat) (l : List Nat) (vb vc vd : Value) (k : Nat) (wr : World) : Prop where
  ex : ∃ m n, m.length = k ∧ n.length = k ∧ OwnB w2.heap.size wr vb m ∧ OwnB w2.heap.size wr vc n ∧ OwnB w2.heap.size wr vd (xor3 (l.take k) m n) ∧ Apart2 vb vc ∧ Apart2 vb vd ∧ Apart2 vc vd
  tape : TapeOk W.heap.size wr g
  upd : Upd g w2 wr
set_option maxRecDepth 100000 in
set_option maxHeartbeats 8000000 in
theorem law_linear (A : Option Addr) (c cap : Nat) (l : List Nat) (y : Option Addr) (len cap2 : Nat) (W : World) (hb : BytesAt W A l) (hc : l.length = c) (hcap : c ≤ cap) (hcap2 : cap ≤ 140737488351232) (hL : IsList W y len cap2) :
    Calls Try.prog 13 #[.slice A c cap, .slice y len cap2] W (Ret (.bool true) W) := by
  have KN : Hid (Calls Try.prog 14 #[.slice y len cap2] W (NewPost W)) := t_new W y len cap2 hL
  obtain ⟨g, hg⟩ : ∃ g, W.heap.size = g := ⟨_, rfl⟩
  have HB := hide hb
  have HC := hide hc
  have Hg := hide hg
  clear hb hc hg hL
  have i256 : I64 256 := ⟨by omega, by omega⟩
  go_enter Try.func13, Try.ntmps13
  go_wp2_with (go_at_call 14; (with_reducible refine (KN.out).mono ?_); rintro e w2 ⟨rfl, hT2, hE2⟩; have hT2 := hide hT2; have hE2 := hide hE2; rw [Hg.out])
  go_loopw [6, 7, 8, 9] (fun vb vc vd i wr => ∃ k : Nat, k ≤ c ∧ i = .int .i64 k ∧ Hid (Lin W w2 g c l vb vc vd k wr)) (fun _ _ _ i _ => c - (intOf i).toNat)
  case atStart =>
    refine ⟨0, by omega, rfl, hide ⟨⟨[], [], rfl, rfl, OwnB.nil_ _ _, OwnB.nil_ _ _, OwnB.nil_ _ _, Or.inl rfl, Or.inl rfl, Or.inl rfl⟩, ?_, Upd.refl _ _⟩⟩
    have := hT2.out
    rw [Hg.out] at this ⊢
    exact this
  case round =>
    obtain ⟨k, hk, rfl, HR⟩ := hrel
    by_cases hlt : k < c
    · obtain ⟨⟨m, n, hm, hn, O1, O2, O3, a12, a13, a23⟩, T, U⟩ := HR.out
      have hgw2 : g < w2.heap.size := by have := hT2.out.2.1; rw [Hg.out] at this; exact this
      have hO1 := hide O1
      have hO2 := hide O2
      have hO3 := hide O3
      have hm := hide hm
      have hn := hide hn
      have hU := hide U
      have hA12 := hide a12
      have hA13 := hide a13
      have hA23 := hide a23
      clear O1 O2 O3 a12 a13 a23 HR U
      go_wp2_with fail
      (with_reducible refine (t_next _ _ _ _ i256 T).mono ?_)
      rintro e w3 ⟨u, rfl, hu, T3, u3⟩
      have u0 := hu.1
      have u1 := hu.2.1 (by omega)
      obtain ⟨p, rfl⟩ := Int.eq_ofNat_of_zero_le u0
      have hp : p < 256 := by omega
      clear hu u0 u1
      have P1 := hide ((hO1.out.upd u3 hgw2).alloc (.cells #[Value.int .u8 (p : Int)] 5))
      have P2 := hide ((hO2.out.upd u3 hgw2).alloc (.cells #[Value.int .u8 (p : Int)] 5))
      have P3 := hide ((hO3.out.upd u3 hgw2).alloc (.cells #[Value.int .u8 (p : Int)] 5))
      have U3 := hide ((hU.out.trans u3).trans (Ext.upd (ext_alloc w3 (.cells #[Value.int .u8 (p : Int)] 5)) g))
      have T4 := hide (T3.alloc (.cells #[Value.int .u8 (p : Int)] 5))
      have hone := hide (one_at w3 p hp _ rfl)
      have hsz : w2.heap.size ≤ (w3.alloc (.cells #[Value.int .u8 (p : Int)] 5)).heap.size := U3.out.2.2.2.1
      have hle : m.length + [p].length ≤ 140737488355328 := by have := hm.out; simp; omega
      clear hO1 hO2 hO3 hU u3 T3 T
      go_wp2_with (at_builtin; refine wl_append8 rfl (.tmp 18) (.tmp 22) rfl w2.heap.size u6 m [p] rfl P1.out _ 1 1 rfl hone.out rfl hle hsz ?_; intro v4 w4 hO4 hG4 hA4)
      have r4 := fun k hk => (P1.out.1.lt k hk).1
      have Q1 := hide hO4
      have Q2 := hide (P2.out.kept hG4 hA12.out.symm)
      have Q3 := hide (P3.out.kept hG4 hA13.out.symm)
      have B12 := hide (hA12.out.symm.moved P2.out hA4)
      have B13 := hide (hA13.out.symm.moved P3.out hA4)
      have U4 := hide (upd_grown U3.out hG4 r4)
      have T5 := T4.out.below (grown_below hG4 (g + 1) (by have := U3.out.2.2.2.1; omega) (fun k hk => by have := r4 k hk; omega))
      clear P1 P2 P3 U3 T4 hone hsz hle hO4 hG4 hA4 hA12 hA13 r4
      go_wp2_with fail
      (with_reducible refine (t_next _ _ _ _ i256 T5).mono ?_)
      rintro e w5 ⟨u, rfl, hu, T6, u5⟩
      have u0 := hu.1
      have u1 := hu.2.1 (by omega)
      obtain ⟨q, rfl⟩ := Int.eq_ofNat_of_zero_le u0
      have hq : q < 256 := by omega
      clear hu u0 u1
      have P1 := hide ((Q1.out.upd u5 hgw2).alloc (.cells #[Value.int .u8 (q : Int)] 5))
      have P2 := hide ((Q2.out.upd u5 hgw2).alloc (.cells #[Value.int .u8 (q : Int)] 5))
      have P3 := hide ((Q3.out.upd u5 hgw2).alloc (.cells #[Value.int .u8 (q : Int)] 5))
      have U5 := hide ((U4.out.trans u5).trans (Ext.upd (ext_alloc w5 (.cells #[Value.int .u8 (q : Int)] 5)) g))
      have T7 := hide (T6.alloc (.cells #[Value.int .u8 (q : Int)] 5))
      have hone := hide (one_at w5 q hq _ rfl)
      have hsz : w2.heap.size ≤ (w5.alloc (.cells #[Value.int .u8 (q : Int)] 5)).heap.size := U5.out.2.2.2.1
      have hle : n.length + [q].length ≤ 140737488355328 := by have := hn.out; simp; omega
      clear Q1 Q2 Q3 U4 u5 T6 T5
      go_wp2_with (at_builtin; refine wl_append8 rfl (.tmp 24) (.tmp 28) rfl w2.heap.size u7 n [q] rfl P2.out _ 1 1 rfl hone.out rfl hle hsz ?_; intro v6 w6 hO6 hG6 hA6)
      have r6 := fun k hk => (P2.out.1.lt k hk).1
      have Q1 := hide (P1.out.kept hG6 B12.out.symm)
      have Q2 := hide hO6
      have Q3 := hide (P3.out.kept hG6 hA23.out.symm)
      have C12 := hide (B12.out.symm.moved P1.out hA6)
      have C23 := hide (hA23.out.symm.moved P3.out hA6)
      have U6 := hide (upd_grown U5.out hG6 r6)
      have T8 := hide (T7.out.below (grown_below hG6 (g + 1) (by have := U5.out.2.2.2.1; omega) (fun k hk => by have := r6 k hk; omega)))
      clear P1 P2 P3 U5 T7 hone hsz hle hO6 hG6 hA6 hA23 r6 B12
      have lm : (m ++ [p]).length = k + 1 := by rw [List.length_append, hm.out]; rfl
      have ln : (n ++ [q]).length = k + 1 := by rw [List.length_append, hn.out]; rfl
      have E6 : Ext W w6 := Upd.ext U6.out hE2.out (by rw [Hg.out]; exact Nat.le_refl _)
      obtain ⟨A4, cap4, hv4, _, _, hb4⟩ := Q1.out.at_
      obtain ⟨A6, cap6, hv6, _, _, hb6⟩ := Q2.out.at_
      rw [lm] at hv4
      rw [ln] at hv6
      subst hv4 hv6
      obtain ⟨gb, ob, rfl, _, cb⟩ := hb4.2.2 (by omega)
      obtain ⟨gc, oc, rfl, _, cc⟩ := hb6.2.2 (by omega)
      have hkl : k < l.length := by rw [HC.out]; exact hlt
      obtain ⟨ga, oa, rfl, hga, ca0⟩ := HB.out.2.2 (by omega)
      have ca := fun j hj => (E6.cell (p := ⟨ga, oa + j, none⟩) hga).trans (ca0 j hj)
      have d1 := ca k hkl
      have d2 := cb k (by omega)
      have d3 := cc k (by omega)
      have e2 : (m ++ [p]).getD k 0 = p := by rw [← hm.out]; simp [List.getD_eq_getElem?_getD]
      have e3 : (n ++ [q]).getD k 0 = q := by rw [← hn.out]; simp [List.getD_eq_getElem?_getD]
      rw [e2] at d2
      rw [e3] at d3
      obtain ⟨x, hx⟩ : ∃ x, l.getD k 0 = x := ⟨_, rfl⟩
      rw [hx] at d1
      have hx256 : x < 256 := by rw [← hx]; exact HB.out.1.get k
      have q1 := xor8 x p hx256 hp
      have q2 := xor8 (x ^^^ p) q (xor_b hx256 hp) hq
      have hz256 := xor_b (xor_b hx256 hp) hq
      have hst : Hid (xor3 (l.take (k + 1)) (m ++ [p]) (n ++ [q]) = xor3 (l.take k) m n ++ [(x ^^^ p) ^^^ q]) := by
        rw [take_succ hkl, hx]
        exact xor3_snoc _ _ _ _ _ _ (by rw [List.length_take, hm.out]; omega) (by rw [List.length_take, hn.out]; omega)
      obtain ⟨z1, hz1⟩ : ∃ z, x ^^^ p = z := ⟨_, rfl⟩
      rw [hz1] at q1 q2 hst hz256
      obtain ⟨z2, hz2⟩ : ∃ z, z1 ^^^ q = z := ⟨_, rfl⟩
      rw [hz2] at q2 hst hz256
      have hl3 : (xor3 (l.take k) m n).length = k := by rw [xor3_len _ _ _ (by rw [List.length_take, hm.out]; omega) (by rw [List.length_take, hn.out]; omega), List.length_take]; omega
      have hm1 := hide lm
      have hn1 := hide ln
      have hl3 := hide hl3
      have kc : (k : Int) < (c : Int) := by omega
      have kk : (k : Int) < (k : Int) + 1 := by omega
      clear hz1 hz2 hx e2 e3 ca ca0 cb cc hb4 hb6 lm ln hkl hm hn
      have hle : (xor3 (l.take k) m n).length + [z2].length ≤ 140737488355328 := by rw [hl3.out]; simp; omega
      have hlt2 : ∀ g0, u8.ownBlock = some g0 → w2.heap.size ≤ g0 ∧ g0 < w6.heap.size := fun g0 e => Q3.out.1.lt g0 e
      have ne1 : some ga ≠ u8.ownBlock := fun e => by have h1 := (hlt2 ga e.symm).1; have h2 := hE2.out.size; omega
      have ne2 : some gb ≠ u8.ownBlock := fun e => by
        rcases B13.out with h | h
        · rw [h] at e; cases e
        · exact h e.symm
      have ne3 : some gc ≠ u8.ownBlock := fun e => by
        rcases C23.out with h | h
        · rw [h] at e; cases e
        · exact h e.symm
      have HLT := hide hlt2
      clear hlt2
      go_wp2_with fail
      go_region_held3 (fun w' => w'.cell? ⟨ga, oa + k, none⟩ = some (.int .u8 (x : Int)) ∧ w'.cell? ⟨gb, ob + k, none⟩ = some (.int .u8 (p : Int)) ∧ w'.cell? ⟨gc, oc + k, none⟩ = some (.int .u8 (q : Int))) (first | (with_reducible exact ⟨d1, d2, d3⟩) | go_keep | exact ⟨hG8.cell (cell_alloc_of d1) ne1, hG8.cell (cell_alloc_of d2) ne2, hG8.cell (cell_alloc_of d3) ne3⟩) (first | (refine step_append8 rfl (.tmp 30) (.tmp 45) rfl w2.heap.size u8 _ [z2] rfl _ 1 1 rfl (Q3.out.drew.alloc _) (one_at _ _ hz256 _ rfl) rfl hle (by have := U6.out.2.2.2.1; simp; omega) ?_; intro v8 w8 hO8 hG8 hA8))
      have hP3 : OwnB w2.heap.size (w6.drew.alloc (.cells #[Value.int .u8 (z2 : Int)] 5)) u8 (xor3 (l.take k) m n) := Q3.out.drew.alloc _
      have rr := fun k hk => (hP3.1.lt k hk).1
      have hP1 : OwnB w2.heap.size (w6.drew.alloc (.cells #[Value.int .u8 (z2 : Int)] 5)) (.slice (some ⟨gb, ob, none⟩) (k + 1) cap4) (m ++ [p]) := Q1.out.drew.alloc _
      have hP2 : OwnB w2.heap.size (w6.drew.alloc (.cells #[Value.int .u8 (z2 : Int)] 5)) (.slice (some ⟨gc, oc, none⟩) (k + 1) cap6) (n ++ [q]) := Q2.out.drew.alloc _
      have UU : Upd g w2 (w6.drew.alloc (.cells #[Value.int .u8 (z2 : Int)] 5)) := U6.out.drew.trans (Ext.upd (ext_alloc _ _) g)
      have TT : TapeOk W.heap.size (w6.drew.alloc (.cells #[Value.int .u8 (z2 : Int)] 5)) g := (T8.out.below (Below.refl _ _).drew).alloc _
      have N : Lin W w2 g c l (.slice (some ⟨gb, ob, none⟩) (k + 1) cap4) (.slice (some ⟨gc, oc, none⟩) (k + 1) cap6) v8 (k + 1) w8 := by
        refine ⟨⟨m ++ [p], n ++ [q], hm1.out, hn1.out, hP1.kept hG8 B13.out.symm, hP2.kept hG8 C23.out.symm, by rw [hst.out]; exact hO8, C12.out, B13.out.symm.moved hP1 hA8, C23.out.symm.moved hP2 hA8⟩, ?_, upd_grown UU hG8 rr⟩
        exact TT.below (grown_below hG8 (g + 1) (Nat.le_trans hgw2 UU.2.2.2.1) (fun k hk => Nat.le_trans hgw2 (rr k hk)))
      have N := hide N
      clear hP3 hP1 hP2 UU TT rr hO8 hG8 hA8 Q1 Q2 Q3 B13 C12 C23 U6 T8
      go_wp2_with fail
      go_roundw
      case rel => exact ⟨k + 1, by omega, by go_num, N⟩
      case measure => simp [intOf]; omega
    · obtain rfl : k = c := by omega
      obtain ⟨⟨m, n, hm, hn, O1, O2, O3, a12, a13, a23⟩, T, U⟩ := HR.out
      have E6 : Ext W wr := Upd.ext U hE2.out (by rw [Hg.out]; exact Nat.le_refl _)
      have tk : l.take k = l := List.take_of_length_le (by rw [HC.out]; exact Nat.le_refl _)
      rw [tk] at O3
      have e1 := crcB_xor3 l m n HB.out.1 O1.2 O2.2 (by rw [hm]; exact HC.out) (by rw [hn]; exact HC.out)
      obtain ⟨A1, c1, rfl, _, _, b1⟩ := O1.at_
      obtain ⟨A2, c2, rfl, _, _, b2⟩ := O2.at_
      obtain ⟨A3, c3, rfl, _, _, b3⟩ := O3.at_
      have b0 := HB.out.ext E6
      have K0 : Hid (∀ w, Calls Try.prog 41 #[] w (Ret (.bool true) w)) := fun w => l_known6 w
      have KD : Hid (∀ w, Ext wr w → Calls Try.prog 44 #[.slice A3 (xor3 l m n).length c3] w (Ret (.int .u32 ((crcB 0#32 (xor3 l m n)).toNat : Int)) w)) := fun w e => p_sum A3 c3 _ w (b3.ext e)
      have KA : Hid (∀ w, Ext wr w → Calls Try.prog 44 #[.slice A k cap] w (Ret (.int .u32 ((crcB 0#32 l).toNat : Int)) w)) := fun w e => by have := p_sum A cap l w (b0.ext e); rw [HC.out] at this; exact this
      have KB : Hid (∀ w, Ext wr w → Calls Try.prog 44 #[.slice A1 m.length c1] w (Ret (.int .u32 ((crcB 0#32 m).toNat : Int)) w)) := fun w e => p_sum A1 c1 _ w (b1.ext e)
      have KC : Hid (∀ w, Ext wr w → Calls Try.prog 44 #[.slice A2 n.length c2] w (Ret (.int .u32 ((crcB 0#32 n).toNat : Int)) w)) := fun w e => p_sum A2 c2 _ w (b2.ext e)
      rw [e1] at KD
      obtain ⟨x1, hx1⟩ : ∃ x, crcB 0#32 l = x := ⟨_, rfl⟩
      obtain ⟨x2, hx2⟩ : ∃ x, crcB 0#32 m = x := ⟨_, rfl⟩
      obtain ⟨x3, hx3⟩ : ∃ x, crcB 0#32 n = x := ⟨_, rfl⟩
      rw [hx1, hx2, hx3] at KD
      rw [hx1] at KA
      rw [hx2] at KB
      rw [hx3] at KC
      have q1 := xor32 x1 x2
      have q2 := xor32 (x1 ^^^ x2) x3
      obtain ⟨y1, hy1⟩ : ∃ y, x1 ^^^ x2 = y := ⟨_, rfl⟩
      rw [hy1] at KD q1 q2
      obtain ⟨y2, hy2⟩ : ∃ y, y1 ^^^ x3 = y := ⟨_, rfl⟩
      rw [hy2] at KD q2
      obtain ⟨ld, hld⟩ : ∃ j, (xor3 l m n).length = j := ⟨_, rfl⟩
      obtain ⟨lm, hlm⟩ : ∃ j, m.length = j := ⟨_, rfl⟩
      obtain ⟨ln, hln⟩ : ∃ j, n.length = j := ⟨_, rfl⟩
      rw [hld] at KD ⊢
      rw [hlm] at KB ⊢
      rw [hln] at KC ⊢
      have E6 := hide E6
      have EE : Hid (Ext wr wr) := Ext.refl _
      clear e1 hx1 hx2 hx3 hy1 hy2 hld hlm hln b0 b1 b2 b3 tk hm hn T U O1 O2 O3 HR
      go_wp2_with (first
        | (go_at_call 41; (with_reducible refine (K0.out _).mono ?_); rintro e w4 ⟨rfl, hE⟩; have EE := hide (EE.out.trans hE); clear hE)
        | (go_at_call 44; (with_reducible refine (KD.out _ EE.out).mono ?_); rintro e w5 ⟨rfl, hE⟩; have EE := hide (EE.out.trans hE); clear hE)
        | (go_at_call 44; (with_reducible refine (KA.out _ EE.out).mono ?_); rintro e w6 ⟨rfl, hE⟩; have EE := hide (EE.out.trans hE); clear hE)
        | (go_at_call 44; (with_reducible refine (KB.out _ EE.out).mono ?_); rintro e w7 ⟨rfl, hE⟩; have EE := hide (EE.out.trans hE); clear hE)
        | (go_at_call 44; (with_reducible refine (KC.out _ EE.out).mono ?_); rintro e w8 ⟨rfl, hE⟩; have EE := hide (EE.out.trans hE); clear hE))
      go_ret
      exact ⟨rfl, E6.out.trans EE.out⟩
end Go.Proofs.Ythlficnmpgkceaa
