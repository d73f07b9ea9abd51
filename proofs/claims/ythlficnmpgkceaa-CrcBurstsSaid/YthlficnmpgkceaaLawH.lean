/- Layer 6: CrcForms. Conditions: the slices read as bytes and numbers. -/
import Derived.Test.YthlficnmpgkceaaLawF
import Derived.Test.YthlficnmpgkceaaSpoA
import Derived.Test.YthlficnmpgkceaaSamA
import Derived.Test.YthlficnmpgkceaaCrcF
import Derived.Test.YthlficnmpgkceaaCrcG
import Derived.Test.YthlficnmpgkceaaCrcH
namespace Go.Proofs.Ythlficnmpgkceaa
set_option linter.unusedVariables false
set_option linter.unusedSimpArgs false
open Go Go.RowKit Go.Sort
theorem chk_short {l : List Nat} (h : l.length < 4) : chk l = false := by unfold chk; rw [decide_eq_false (by omega)]; rfl
theorem chk_long {l : List Nat} {k : Nat} (h : l.length = k + 4) : chk l = decide (l.drop k = tailL (crcB 0#32 (l.take k))) := by
  unfold chk; rw [decide_eq_true (by omega), h]; simp
theorem chk_app (l : List Nat) : chk (l ++ tailL (crcB 0#32 l)) = true := by
  rw [chk_long (k := l.length) (by simp [tailL])]
  simp
theorem p_check (A : Option Addr) (n cap : Nat) (l : List Nat) (W : World) (h : BytesAt W A l) (hn : l.length = n) (hcap : n ≤ cap) (v : Bool) (hv : chk l = v) : Calls Try.prog 47 #[.slice A n cap] W (Ret (.bool v) W) := by
  by_cases h4 : n < 4
  · rw [chk_short (by omega)] at hv
    subst hv
    exact p_check_short A cap n W h4
  · obtain ⟨k, rfl⟩ : ∃ k, n = k + 4 := ⟨n - 4, by omega⟩
    rw [chk_long hn] at hv
    exact p_check_long A cap k l W h hn (by omega) v hv
theorem r_check (A : Option Addr) (n cap : Nat) (l : List Nat) (W : World) (h : BytesAt W A l) (hn : l.length = n) (hcap : n ≤ cap) (v : Bool) (hv : chk l = v) : Calls Try.prog 48 #[.slice A n cap] W (Ret (.bool v) W) := by
  by_cases h4 : n < 4
  · rw [chk_short (by omega)] at hv
    subst hv
    exact r_check_short A cap n W h4
  · obtain ⟨k, rfl⟩ : ∃ k, n = k + 4 := ⟨n - 4, by omega⟩
    rw [chk_long hn] at hv
    exact r_check_long A cap k l W h hn (by omega) v hv
set_option maxRecDepth 100000 in
set_option maxHeartbeats 8000000 in
theorem law_cforms (A : Option Addr) (c cap : Nat) (l : List Nat) (crc : Nat) (y : Option Addr) (len cap2 : Nat) (W : World) (hb : BytesAt W A l) (hc : l.length = c) (hcap : c ≤ cap) (hcap2 : cap ≤ 140737488351232) (hcrc : crc < 4294967296) (hL : IsList W y len cap2) :
    Calls Try.prog 9 #[.slice A c cap, .int .u32 (crc : Int), .slice y len cap2] W (Ret (.bool true) W) := by
  obtain ⟨x, hx⟩ : ∃ x : BitVec 32, x.toNat = crc := ⟨BitVec.ofNat 32 crc, by rw [BitVec.toNat_ofNat]; omega⟩
  subst hx
  have KA : Hid (Calls Try.prog 40 #[.slice A c cap] W (OwnRet (l ++ tailL (crcB 0#32 l)) W)) := r_append A c cap l W hb hc (by omega)
  obtain ⟨la, hla⟩ : ∃ la, l ++ tailL (crcB 0#32 l) = la := ⟨_, rfl⟩
  have hlal : la.length = c + 4 := by rw [← hla, List.length_append, hc]; rfl
  have hchk : chk la = true := by rw [← hla]; exact chk_app l
  rw [hla] at KA
  go_enter Try.func9, Try.ntmps9
  go_upto_region 2 with (go_at_call 40; (with_reducible refine (KA.out).mono ?_); rintro e w1 ⟨v1, rfl, hO, hE1⟩)
  obtain ⟨A1, cap1, rfl, hle1, hcap1, hb1⟩ := hO.at_
  rw [hlal] at hle1 ⊢
  have KN : Hid (Calls Try.prog 14 #[.slice y len cap2] w1 (NewPost w1)) := t_new w1 y len cap2 (hL.ext hE1)
  have KS : Hid (∀ w2, Below w1.heap.size w1 w2 → TapeOk w1.heap.size w2 w1.heap.size → Calls Try.prog 33 #[.pointer (some ⟨w1.heap.size, 0, none⟩), .slice A1 (c + 4) cap1] w2 (SpoilPost w1.heap.size w1.heap.size (c + 4) w2)) := fun w2 e T => t_spoiled w1.heap.size w1.heap.size A1 (c + 4) cap1 la w2 T (hb1.ext e) hlal (by omega)
  have HB := hide hb
  have HB1 := hide hb1
  have HE1 := hide hE1
  have HC := hide hc
  have Hla := hide hla
  have Hlal := hide hlal
  have Hchk := hide hchk
  obtain ⟨g, hg⟩ : ∃ g, w1.heap.size = g := ⟨_, rfl⟩
  rw [hg] at KS
  have Hg := hide hg
  clear hg hb hb1 hE1 hc hla hlal hchk hO hL KA
  go_upto_region 3 with (first
    | (go_at_call 14; (with_reducible refine (KN.out).mono ?_); rintro e w2 ⟨rfl, hT2, hE2⟩; have hT2 := hide hT2; have hE2 := hide hE2; rw [Hg.out] at hT2 hE2; rw [Hg.out])
    | (go_at_call 33; (with_reducible refine (KS.out w2 hE2.out hT2.out).mono ?_); rintro e w3 ⟨A2, n2, cap3, l2, rfl, hl2, hn2, hcap3, hn2c, hb2, hap, hT3, hU3⟩))
  have E3 : Ext w1 w3 := by
    have h2 : Below w1.heap.size w1 w2 := by rw [Hg.out]; exact hE2.out
    exact Upd.ext (hU3) h2 (by rw [Hg.out]; exact Nat.le_refl _)
  have b0 := (HB.out.ext HE1.out).ext E3
  have b1 := HB1.out.ext E3
  have c4 : c + 4 ≤ cap1 := hle1
  have K1 : Hid (∀ w, Calls Try.prog 41 #[] w (Ret (.bool true) w)) := fun w => l_known6 w
  have K2 : Hid (∀ w, Ext w3 w → Calls Try.prog 42 #[.int .u32 (x.toNat : Int), .slice A c cap] w (Ret (.int .u32 ((crcB x l).toNat : Int)) w)) := fun w e => by have := p_update x A cap l w (b0.ext e); rw [HC.out] at this; exact this
  have K3 : Hid (∀ w, Ext w3 w → Calls Try.prog 43 #[.int .u32 (x.toNat : Int), .slice A c cap] w (Ret (.int .u32 ((crcB x l).toNat : Int)) w)) := fun w e => by have := r_update x A cap l w (b0.ext e); rw [HC.out] at this; exact this
  have K4 : Hid (∀ w, Ext w3 w → Calls Try.prog 44 #[.slice A c cap] w (Ret (.int .u32 ((crcB 0#32 l).toNat : Int)) w)) := fun w e => by have := p_sum A cap l w (b0.ext e); rw [HC.out] at this; exact this
  have K5 : Hid (∀ w, Ext w3 w → Calls Try.prog 45 #[.slice A c cap] w (Ret (.int .u32 ((crcB 0#32 l).toNat : Int)) w)) := fun w e => by have := r_sum A cap l w (b0.ext e); rw [HC.out] at this; exact this
  have K6 : Hid (∀ w, Ext w3 w → Calls Try.prog 46 #[.slice A c cap] w (OwnRet la w)) := fun w e => by have := p_append A c cap l w (b0.ext e) HC.out (by omega); rw [Hla.out] at this; exact this
  have K7 : Hid (∀ w A' c' cp, Ext w3 w → BytesAt w A' la → c' = c + 4 → Calls Try.prog 17 #[.slice A' c' cp, .slice A1 (c + 4) cap1] w (Ret (.bool true) w)) := fun w A' c' cp e h hc' => r_same A' A1 c' (c + 4) cp cap1 la la w h (b1.ext e) (by rw [Hlal.out, hc']) Hlal.out true (by simp)
  obtain ⟨v1, hv1⟩ : ∃ v, chk l = v := ⟨_, rfl⟩
  obtain ⟨v2, hv2⟩ : ∃ v, chk l2 = v := ⟨_, rfl⟩
  have K8 : Hid (∀ w, Ext w3 w → Calls Try.prog 47 #[.slice A c cap] w (Ret (.bool v1) w)) := fun w e => p_check A c cap l w (b0.ext e) HC.out hcap v1 hv1
  have K9 : Hid (∀ w, Ext w3 w → Calls Try.prog 48 #[.slice A c cap] w (Ret (.bool v1) w)) := fun w e => r_check A c cap l w (b0.ext e) HC.out hcap v1 hv1
  have K10 : Hid (∀ w, Ext w3 w → Calls Try.prog 47 #[.slice A1 (c + 4) cap1] w (Ret (.bool true) w)) := fun w e => p_check A1 (c + 4) cap1 la w (b1.ext e) Hlal.out c4 true Hchk.out
  have K11 : Hid (∀ w, Ext w3 w → Calls Try.prog 47 #[.slice A2 n2 cap3] w (Ret (.bool v2) w)) := fun w e => p_check A2 n2 cap3 l2 w (hb2.ext e) hl2 hn2 v2 hv2
  have K12 : Hid (∀ w, Ext w3 w → Calls Try.prog 48 #[.slice A2 n2 cap3] w (Ret (.bool v2) w)) := fun w e => r_check A2 n2 cap3 l2 w (hb2.ext e) hl2 hn2 v2 hv2
  have EE : Hid (Ext w3 w3) := Ext.refl _
  have Hl2 := hide hl2
  have fin := hide (HE1.out.trans E3)
  clear b0 b1 hv1 hv2 hb2 hl2 hap hT3 hU3 E3 hE2 hT2
  go_wp2_with (first
    | (go_at_call 41; (with_reducible refine (K1.out _).mono ?_); rintro e w4 ⟨rfl, hE⟩; have EE := hide (EE.out.trans hE); clear hE)
    | (go_at_call 42; (with_reducible refine (K2.out _ EE.out).mono ?_); rintro e w5 ⟨rfl, hE⟩; have EE := hide (EE.out.trans hE); clear hE)
    | (go_at_call 43; (with_reducible refine (K3.out _ EE.out).mono ?_); rintro e w6 ⟨rfl, hE⟩; have EE := hide (EE.out.trans hE); clear hE)
    | (go_at_call 44; (with_reducible refine (K4.out _ EE.out).mono ?_); rintro e w7 ⟨rfl, hE⟩; have EE := hide (EE.out.trans hE); clear hE)
    | (go_at_call 45; (with_reducible refine (K5.out _ EE.out).mono ?_); rintro e w8 ⟨rfl, hE⟩; have EE := hide (EE.out.trans hE); clear hE)
    | (go_at_call 46; (with_reducible refine (K6.out _ EE.out).mono ?_); rintro e w9 ⟨v, rfl, hO, hE⟩; have EE := hide (EE.out.trans hE); obtain ⟨A', cp, rfl, _, _, hbA⟩ := hO.at_; have k7 := hide (K7.out _ A' _ cp EE.out hbA Hlal.out); clear hE hO hbA)
    | (go_at_call 17; (with_reducible refine (k7.out).mono ?_); rintro e w10 ⟨rfl, hE⟩; have EE := hide (EE.out.trans hE); clear hE)
    | (go_at_call 47; (with_reducible refine (K8.out _ EE.out).mono ?_); rintro e w11 ⟨rfl, hE⟩; have EE := hide (EE.out.trans hE); clear hE)
    | (go_at_call 48; (with_reducible refine (K9.out _ EE.out).mono ?_); rintro e w12 ⟨rfl, hE⟩; have EE := hide (EE.out.trans hE); clear hE)
    | (go_at_call 47; (with_reducible refine (K10.out _ EE.out).mono ?_); rintro e w13 ⟨rfl, hE⟩; have EE := hide (EE.out.trans hE); clear hE)
    | (go_at_call 47; (with_reducible refine (K11.out _ EE.out).mono ?_); rintro e w14 ⟨rfl, hE⟩; have EE := hide (EE.out.trans hE); clear hE)
    | (go_at_call 48; (with_reducible refine (K12.out _ EE.out).mono ?_); rintro e w15 ⟨rfl, hE⟩; have EE := hide (EE.out.trans hE); clear hE))
  go_ret
  exact ⟨rfl, fin.out.trans EE.out⟩
end Go.Proofs.Ythlficnmpgkceaa
