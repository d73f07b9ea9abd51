/- Layer 5: VarintBack. Conditions: the slices read as bytes and numbers; their lengths are small. -/
import Derived.Test.YthlficnmpgkceaaVarQ
import Derived.Test.YthlficnmpgkceaaVarL
import Derived.Test.YthlficnmpgkceaaTapeC
import Derived.Test.YthlficnmpgkceaaTapS
import Derived.Deep.RegionHeld3
namespace Go.Proofs.Ythlficnmpgkceaa
set_option linter.unusedVariables false
set_option linter.unusedSimpArgs false
open Go Go.RowKit
theorem eq_agg (s : Bool) (a b c d : Int) (w : World) : (binOp .eql 26 (.agg #[.bool s, .int .u64 a, .int .u64 b, .int .u64 c, .int .u64 d]) (.agg #[.bool s, .int .u64 a, .int .u64 b, .int .u64 c, .int .u64 d])).run Try.prog w = .ok (.bool true) w := by
  rw [eq5]; simp
set_option maxRecDepth 100000 in
set_option maxHeartbeats 8000000 in
theorem l_back (A0 : Option Addr) (cb capb : Nat) (lb : List Nat) (R : Option Addr) (cr capr : Nat) (lr : List Nat) (v : Nat) (sv : Int) (y : Option Addr) (len cap : Nat) (W : World)
    (hb : BytesAt W A0 lb) (hcb : lb.length = cb) (hcb2 : cb ≤ 1048576) (hr : BytesAt W R lr) (hcr : lr.length = cr) (hcr2 : cr ≤ 1048576) (hv : v < 18446744073709551616) (hsv : I64 sv) (hL : IsList W y len cap) :
    Calls Try.prog 5 #[.slice A0 cb capb, .slice R cr capr, .int .u64 (v : Int), .int .i64 sv, .slice y len cap] W (Ret (.bool true) W) := by
  have KN : Hid (Calls Try.prog 14 #[.slice y len cap] W (NewPost W)) := t_new W y len cap hL
  have KW : Hid (∀ w, Upd W.heap.size w w → TapeOk W.heap.size w W.heap.size → Calls Try.prog 24 #[.pointer (some ⟨W.heap.size, 0, none⟩)] w (TapeWide W.heap.size W.heap.size w)) := fun w u T => t_wide W.heap.size W.heap.size w w T u
  have K1 : Hid (∀ w, Ext W w → Calls Try.prog 18 #[.slice A0 cb capb, .int .u64 (v : Int)] w (OwnRet (lb ++ encB v) w)) := fun w h => p_vappend A0 cb capb v lb w (hb.ext h) hcb (by omega) hv
  have K2 : Hid (∀ w, Ext W w → Calls Try.prog 28 #[.slice A0 cb capb, .int .i64 sv] w (OwnRet (lb ++ encB (zig sv)) w)) := fun w h => p_asigned A0 cb capb sv lb w (hb.ext h) hcb (by omega) hsv
  have K3 : Hid (∀ w s a b c d z, Ext W w → IsW s a b c d z → Calls Try.prog 30 #[.slice A0 cb capb, .agg #[.bool s, .int .u64 (a : Int), .int .u64 (b : Int), .int .u64 (c : Int), .int .u64 (d : Int)]] w (OwnRet (lb ++ encB (cod z)) w)) := fun w s a b c d z h hz => p_wappend A0 cb capb lb s a b c d z w hz (hb.ext h) hcb (by omega)
  have KK : Hid (∀ w, Calls Try.prog 25 #[] w (Ret (.bool true) w)) := fun w => l_known5 w
  have KZ : Hid (∀ w, Calls Try.prog 20 #[.int .u64 (v : Int)] w (RetSame (.int .i64 ((encB v).length : Int)) w)) := fun w => p_size v w hv
  have m1 : (encB v).length ≤ 10 := encB_length_le v 9 (by omega)
  have m2 : (encB (zig sv)).length ≤ 10 := encB_length_le _ 9 (by have := zig_lt hsv.1 hsv.2; omega)
  have HR := hide hr
  have Hcb := hide hcb
  have Hcr := hide hcr
  have Hv := hide hv
  have Hs := hide hsv
  have q := eq_agg
  clear hb hcb hr hcr hv hsv hL
  go_enter Try.func5, Try.ntmps5
  go_upto_region 1 with fail
  go_upto_region 2 with (first
    | (go_at_call 14; (with_reducible refine (KN.out).mono ?_); rintro e w1 ⟨rfl, hT1, hE1⟩; have hT1 := hide hT1; have hE1 := hide hE1)
    | (go_at_call 24; (with_reducible refine (KW.out w1 (Upd.refl _ _) hT1.out).mono ?_); rintro e w2 ⟨s, a, b, c, d, z, rfl, hz, -, hU⟩; have hz := hide hz; have hU := hide hU))
  have E2 : Ext W w2 := Upd.ext hU.out hE1.out (Nat.le_refl _)
  have E3 : Ext W (w2.alloc (.cells #[.bool s, .int .u64 (a : Int), .int .u64 (b : Int), .int .u64 (c : Int), .int .u64 (d : Int)] 26)) := Ext.trans E2 (ext_alloc _ _)
  have P3 := Blk.new w2 26 #[.bool s, .int .u64 (a : Int), .int .u64 (b : Int), .int .u64 (c : Int), .int .u64 (d : Int)]
  obtain ⟨w3, hw3⟩ : ∃ w3, w2.alloc (.cells #[.bool s, .int .u64 (a : Int), .int .u64 (b : Int), .int .u64 (c : Int), .int .u64 (d : Int)] 26) = w3 := ⟨_, rfl⟩
  rw [hw3] at E3 P3 ⊢
  obtain ⟨g, hg⟩ : ∃ g, w2.heap.size = g := ⟨_, rfl⟩
  rw [hg] at P3 ⊢
  have E3 := hide E3
  have P3 := hide P3
  have m3 : (encB (cod z)).length ≤ 37 := encB_length_le (cod z) 36 (Nat.lt_trans (cod_lt hz.out.1) (by decide +kernel))
  have K3 : Hid (∀ w, Ext W w → Calls Try.prog 30 #[.slice A0 cb capb, .agg #[.bool s, .int .u64 (a : Int), .int .u64 (b : Int), .int .u64 (c : Int), .int .u64 (d : Int)]] w (OwnRet (lb ++ encB (cod z)) w)) := fun w h => K3.out w s a b c d z h hz.out.1
  clear hw3 hg E2 hT1 hE1 KN KW hU
  go_upto_region 3 with (first
    | (go_at_call 18; (with_reducible refine (K1.out _ E3.out).mono ?_); rintro e w4 ⟨va, rfl, hO, hE⟩; have Rb := hide (HR.out.ext (Ext.trans E3.out hE)); have hO := hide hO; have hE := hide hE; have hsz := hide hE.out.size)
    | (at_builtin; refine wl_append8 rfl (.tmp 29) (.tmp 30) rfl w3.heap.size va (lb ++ encB v) lr rfl hO.out R cr capr rfl Rb.out Hcr.out (by rw [List.length_append, Hcb.out, Hcr.out]; omega) hsz.out ?_; intro x1 w5 hO1 hG1 _; have E5 := hide (Ext.trans E3.out (below_grown hE.out (Nat.le_refl _) hO.out hG1)); have P5 := hide (P3.out.ext (below_grown hE.out (Nat.le_refl _) hO.out hG1)); have hO1 := hide hO1; clear hG1))
  clear Rb hO hE hsz
  go_upto_region 4 with (first
    | (go_at_call 28; (with_reducible refine (K2.out _ E5.out).mono ?_); rintro e w6 ⟨vb, rfl, hO, hE⟩; have Rb := hide (HR.out.ext (Ext.trans E5.out hE)); have hO := hide hO; have hE := hide hE; have hsz := hide hE.out.size)
    | (at_builtin; refine wl_append8 rfl (.tmp 34) (.tmp 35) rfl w5.heap.size vb (lb ++ encB (zig sv)) lr rfl hO.out R cr capr rfl Rb.out Hcr.out (by rw [List.length_append, Hcb.out, Hcr.out]; omega) hsz.out ?_; intro x2 w7 hO2 hG2 _; have E7 := hide (Ext.trans E5.out (below_grown hE.out (Nat.le_refl _) hO.out hG2)); have P7 := hide (P5.out.ext (below_grown hE.out (Nat.le_refl _) hO.out hG2)); have hO1 := hide (OwnB.ext hO1.out (below_grown hE.out (Nat.le_refl _) hO.out hG2)); have hO2 := hide hO2; clear hG2))
  clear Rb hO hE hsz
  go_upto_region 5 with (first
    | (refine wpList_load_row rfl 26 (.tmp 11) rfl g rfl 26 #[.bool s, .int .u64 (a : Int), .int .u64 (b : Int), .int .u64 (c : Int), .int .u64 (d : Int)] (0, 0) _ P7.out Try.underlying26 rfl (by rw [infoW]; rfl) ?_)
    | (go_at_call 30; (with_reducible refine (K3.out _ E7.out).mono ?_); rintro e w8 ⟨vc, rfl, hO, hE⟩; have Rb := hide (HR.out.ext (Ext.trans E7.out hE)); have hO := hide hO; have hE := hide hE; have hsz := hide hE.out.size)
    | (at_builtin; refine wl_append8 rfl (.tmp 39) (.tmp 40) rfl w7.heap.size vc (lb ++ encB (cod z)) lr rfl hO.out R cr capr rfl Rb.out Hcr.out (by rw [List.length_append, Hcb.out, Hcr.out]; omega) hsz.out ?_; intro x3 w9 hO3 hG3 _; have E9 := hide (Ext.trans E7.out (below_grown hE.out (Nat.le_refl _) hO.out hG3)); have P9 := hide (P7.out.ext (below_grown hE.out (Nat.le_refl _) hO.out hG3)); have hO1 := hide (OwnB.ext hO1.out (below_grown hE.out (Nat.le_refl _) hO.out hG3)); have hO2 := hide (OwnB.ext hO2.out (below_grown hE.out (Nat.le_refl _) hO.out hG3)); have hO3 := hide hO3; clear hG3))
  clear Rb hO hE hsz E7 P7 E5 P5 E3 P3 K1 K2 K3 HR
  obtain ⟨A1, cap1, rfl, le1, _, hb1⟩ := hO1.out.at_
  obtain ⟨A2, cap2, rfl, le2, _, hb2⟩ := hO2.out.at_
  obtain ⟨A3, cap3, rfl, le3, _, hb3⟩ := hO3.out.at_
  obtain ⟨e1, he1⟩ : ∃ k, (encB v).length = k := ⟨_, rfl⟩
  obtain ⟨e2, he2⟩ : ∃ k, (encB (zig sv)).length = k := ⟨_, rfl⟩
  obtain ⟨e3, he3⟩ : ∃ k, (encB (cod z)).length = k := ⟨_, rfl⟩
  have l1 : (lb ++ encB v ++ lr).length = cb + e1 + cr := by rw [List.length_append, List.length_append, Hcb.out, Hcr.out, he1]
  have l2 : (lb ++ encB (zig sv) ++ lr).length = cb + e2 + cr := by rw [List.length_append, List.length_append, Hcb.out, Hcr.out, he2]
  have l3 : (lb ++ encB (cod z) ++ lr).length = cb + e3 + cr := by rw [List.length_append, List.length_append, Hcb.out, Hcr.out, he3]
  rw [l1] at le1 ⊢
  rw [l2] at le2 ⊢
  rw [l3] at le3 ⊢
  rw [he1] at m1 KZ
  rw [he2] at m2
  rw [he3] at m3
  have R1 := rdV_enc lb lr v Hv.out
  have R2 := rdS_enc lb lr sv Hs.out
  have R3 := rd_enc lb lr (cod z) 257 37 (cod_lt hz.out.1) (by omega)
  rw [Hcb.out, he1] at R1
  rw [Hcb.out, he2] at R2
  rw [Hcb.out] at R3
  have KR1 : Hid (∀ w, Ext w9 w → Calls Try.prog 35 #[.slice A1 (cb + e1 + cr) cap1, .int .i64 (cb : Int)] w (RetSame (.tuple #[.int .u64 (v : Int), .int .i64 ((cb : Int) + (e1 : Int)), .int .i64 0]) w)) := fun w h => p_read A1 _ cap1 _ (cb : Int) w (hb1.ext h) l1 le1 (by omega) ⟨by omega, by omega⟩ _ _ _ R1
  have KR2 : Hid (∀ w, Ext w9 w → Calls Try.prog 36 #[.slice A2 (cb + e2 + cr) cap2, .int .i64 (cb : Int)] w (RetSame (.tuple #[.int .i64 sv, .int .i64 ((cb : Int) + (e2 : Int)), .int .i64 0]) w)) := fun w h => p_rsigned A2 _ cap2 _ (cb : Int) w (hb2.ext h) l2 le2 (by omega) ⟨by omega, by omega⟩ _ _ _ R2
  have KR3 : Hid (∀ w, Ext w9 w → Calls Try.prog 37 #[.slice A3 (cb + e3 + cr) cap3, .int .i64 (cb : Int)] w (Ret (.tuple #[.agg #[.bool s, .int .u64 (a : Int), .int .u64 (b : Int), .int .u64 (c : Int), .int .u64 (d : Int)], .int .i64 ((cb : Int) + (e3 : Int)), .int .i64 0]) w)) := fun w h => by
    have := p_rwide A3 _ cap3 _ cb _ w (hb3.ext h) l3 le3 (by omega) R3
    rw [decB_encB, he3, rw_cod hz.out] at this
    exact this
  have s1 : ((cb + e1 + cr : Nat) : Int) - (cr : Int) = (cb : Int) + (e1 : Int) := by omega
  have s2 : ((cb + e2 + cr : Nat) : Int) - (cr : Int) = (cb : Int) + (e2 : Int) := by omega
  have s3 : ((cb + e3 + cr : Nat) : Int) - (cr : Int) = (cb : Int) + (e3 : Int) := by omega
  obtain ⟨n1, hn1⟩ : ∃ k, cb + e1 + cr = k := ⟨_, rfl⟩
  obtain ⟨n2, hn2⟩ : ∃ k, cb + e2 + cr = k := ⟨_, rfl⟩
  obtain ⟨n3, hn3⟩ : ∃ k, cb + e3 + cr = k := ⟨_, rfl⟩
  rw [hn1] at KR1 s1 le1 ⊢
  rw [hn2] at KR2 s2 le2 ⊢
  rw [hn3] at KR3 s3 le3 ⊢
  have b1 : n1 ≤ 2097252 := by omega
  have b2 : n2 ≤ 2097252 := by omega
  have b3 : n3 ≤ 2097252 := by omega
  have hx0 := Hv.out
  clear hO1 hO2 hO3 hb1 hb2 hb3 R1 R2 R3 l1 l2 l3 he1 he2 he3 hn1 hn2 hn3 Hv Hs Hcb Hcr hz
  go_upto_region 6 with (go_at_call 35; (with_reducible refine (KR1.out _ (Ext.refl _)).mono ?_); rintro e w10 ⟨rfl, rfl⟩)
  go_upto_region 7 with (go_at_call 36; (with_reducible refine (KR2.out _ (Ext.refl _)).mono ?_); rintro e w11 ⟨rfl, rfl⟩)
  go_upto_region 8 with (go_at_call 37; (with_reducible refine (KR3.out _ (Ext.refl _)).mono ?_); rintro e w12 ⟨rfl, hE12⟩)
  have P13 := (P9.out.ext hE12).alloc (.cells #[.bool s, .int .u64 (a : Int), .int .u64 (b : Int), .int .u64 (c : Int), .int .u64 (d : Int)] 26)
  have Q13 := Blk.new w12 26 #[.bool s, .int .u64 (a : Int), .int .u64 (b : Int), .int .u64 (c : Int), .int .u64 (d : Int)]
  have E13 := Ext.trans (Ext.trans E9.out hE12) (ext_alloc w12 (.cells #[.bool s, .int .u64 (a : Int), .int .u64 (b : Int), .int .u64 (c : Int), .int .u64 (d : Int)] 26))
  obtain ⟨w13, hw13⟩ : ∃ w, w12.alloc (.cells #[.bool s, .int .u64 (a : Int), .int .u64 (b : Int), .int .u64 (c : Int), .int .u64 (d : Int)] 26) = w := ⟨_, rfl⟩
  rw [hw13] at P13 Q13 E13 ⊢
  obtain ⟨h, hh⟩ : ∃ h, w12.heap.size = h := ⟨_, rfl⟩
  rw [hh] at Q13 ⊢
  have P13 := hide P13
  have Q13 := hide Q13
  have E13 := hide E13
  clear hw13 hh hE12 KR1 KR2 KR3 P9 E9
  go_wp2_with (first
    | (go_at_call 25; (with_reducible refine (KK.out _).mono ?_); rintro e w14 ⟨rfl, hE14⟩; obtain ⟨c0, c1, c2, c3, c4, _⟩ := five_cells (show Box w14 g s a b c d from P13.out.ext hE14); obtain ⟨d0, d1, d2, d3, d4, _⟩ := five_cells (show Box w14 h s a b c d from Q13.out.ext hE14); have E14 := hide (Ext.trans E13.out hE14))
    | (go_at_call 20; (with_reducible refine (KZ.out _).mono ?_); rintro e w15 ⟨rfl, rfl⟩))
  go_ret
  exact ⟨rfl, E14.out⟩
end Go.Proofs.Ythlficnmpgkceaa
