/- Layer 7: FrameBack. Conditions: the slices read as bytes; their lengths are small. -/
import Derived.Test.YtdboaogdanahkaaFrmH
namespace Go.Proofs.Ytdboaogdanahkaa
set_option linter.unusedVariables false
set_option linter.unusedSimpArgs false
open Go Go.RowKit
set_option maxRecDepth 100000 in
set_option maxHeartbeats 6400000 in
theorem law_fback (kd : Nat) (A : Option Addr) (c cap : Nat) (l : List Nat) (A2 : Option Addr) (cu capu : Nat) (lu : List Nat) (A3 : Option Addr) (ct capt : Nat) (lt : List Nat) (W : World) (hk : kd < 256)
    (hb : BytesAt W A l) (hc : l.length = c) (hcap : c ≤ cap) (hc2 : c ≤ 1048576) (hbu : BytesAt W A2 lu) (hcu : lu.length = cu) (hcu2 : cu ≤ 1048576) (hbt : BytesAt W A3 lt) (hct : lt.length = ct) (hct2 : ct ≤ 1048576) :
    Calls Try.prog 7 #[.int .u8 (kd : Int), .slice A c cap, .slice A2 cu capu, .slice A3 ct capt] W (Ret (.bool true) W) := by
  have hmin : min (c : Int) 4194304 = (c : Int) := by omega
  have hs := run_upto A c c cap hcap
  have K1 : Hid (Calls Try.prog 25 #[.int .u8 (kd : Int), .slice A c cap] W (OwnE (frE kd l) 0 W)) := p_fencode kd A c cap l W hk hb hc (by omega) _ _ (by unfold frN; rw [if_neg (by omega)])
  have KK : Hid (∀ w, Calls Try.prog 27 #[] w (Ret (.bool true) w)) := fun w => l_known7 w
  have KS : Hid (∀ w, Calls Try.prog 28 #[.int .i64 (c : Int)] w (RetSame (.int .i64 ((c : Int) + 13)) w)) := fun w => by
    have := p_fsize (c : Int) w ⟨by omega, by omega⟩
    have e : fsz (c : Int) = (c : Int) + 13 := by unfold fsz; rw [if_neg (by omega), if_neg (by omega)]
    rw [e] at this
    exact this
  have HR : Hid (frR (lu ++ frE kd l ++ lt) (cu : Int) = (kd, l, (cu : Int) + ((c : Int) + 13), 0)) := by
    have := frR_enc kd l lu lt (by omega)
    rw [hcu, hc] at this
    rw [show ((c + 13 : Nat) : Int) = (c : Int) + 13 by omega] at this
    exact this
  have hFl : (frE kd l).length = c + 13 := by rw [frE_len, hc]
  obtain ⟨F, hF⟩ : ∃ F, frE kd l = F := ⟨_, rfl⟩
  rw [hF] at K1 HR hFl
  have HF := hide hFl
  have Hb := hide hb
  have Hu := hide hbu
  have Ht := hide hbt
  have Hc := hide hc
  have Hcu := hide hcu
  have Hct := hide hct
  clear hb hc hF hFl hbu hcu hbt hct
  go_enter Try.func7, Try.ntmps7
  go_upto_region 3 with (go_at_call 25; (with_reducible refine (K1.out).mono ?_); rintro en w1 ⟨v1, rfl, hO1, hE1⟩; obtain ⟨A1, c1, rfl, hle1, hcm1, hb1⟩ := hO1.at_; rw [HF.out] at hle1 ⊢)
  have E1 := hide hE1
  have E2 : Hid (Ext w1 (w1.alloc (.cells #[] 5))) := ext_alloc w1 _
  have O2 := hide (own_of (B := w1.heap.size) (w := w1.alloc (.cells #[] 5)) (g := w1.heap.size) (n := 0) (cap := 0) (l := []) (m := []) (Nat.le_refl _) (heap_alloc_new w1 _) rfl rfl (by omega) IsB.nil)
  have hbu2 := hide ((Hu.out.ext E1.out).ext E2.out)
  have hb1 := hide hb1
  have hs2 := hide E2.out.size
  have hle0 : ([] : List Nat).length + lu.length ≤ 140737488355328 := by rw [Hcu.out]; simp; omega
  have hle3 : ([] ++ lu : List Nat).length + F.length ≤ 140737488355328 := by rw [List.nil_append, Hcu.out, HF.out]; omega
  have hle4 : ([] ++ lu ++ F : List Nat).length + lt.length ≤ 140737488355328 := by rw [List.nil_append, List.length_append, Hcu.out, HF.out, Hct.out]; omega
  have H5 : Hid (([] ++ lu ++ F ++ lt).length = cu + (c + 13) + ct) := by show _ = _; rw [List.nil_append, List.length_append, List.length_append, Hcu.out, HF.out, Hct.out]
  clear hO1 hE1
  go_upto_region 4 with (first
    | (at_builtin; refine wl_append8 rfl (.tmp 26) (.tmp 27) rfl w1.heap.size (.slice (some ⟨w1.heap.size, 0, none⟩) 0 0) [] lu rfl O2.out A2 cu capu rfl hbu2.out Hcu.out hle0 hs2.out ?_; intro v3 w3 hO3 hG3 _; have E3 := hide (below_grown E2.out (Nat.le_refl _) O2.out hG3); have hO3 := hide hO3; have hs3 := hide E3.out.size; have hb3 := hide (hb1.out.ext E3.out); clear hG3)
    | (at_builtin; refine wl_append8 rfl (.tmp 28) (.tmp 29) rfl w1.heap.size v3 ([] ++ lu) F rfl hO3.out A1 (c + 13) c1 rfl hb3.out HF.out hle3 hs3.out ?_; intro v4 w4 hO4 hG4 _; have E4 := hide (below_grown E3.out (Nat.le_refl _) hO3.out hG4); have hO4 := hide hO4; have hs4 := hide E4.out.size; have hb4 := hide ((Ht.out.ext E1.out).ext E4.out); clear hG4)
    | (at_builtin; refine wl_append8 rfl (.tmp 30) (.tmp 31) rfl w1.heap.size v4 ([] ++ lu ++ F) lt rfl hO4.out A3 ct capt rfl hb4.out Hct.out hle4 hs4.out ?_; intro v5 w5 hO5 hG5 _; have E5 := hide (below_grown E4.out (Nat.le_refl _) hO4.out hG5); have hO5 := hide hO5; clear hG5))
  obtain ⟨A5, c5, rfl, hle5, -, hb5⟩ := hO5.out.at_
  rw [H5.out] at hle5 ⊢
  have KD : Hid (∀ w, Ext w5 w → Calls Try.prog 33 #[.slice A5 (cu + (c + 13) + ct) c5, .int .i64 (cu : Int)] w (FrmRet kd l ((cu : Int) + ((c : Int) + 13)) 0 w)) := fun w h => by
    have := p_fdec A5 (cu + (c + 13) + ct) c5 ([] ++ lu ++ F ++ lt) (cu : Int) w (hb5.ext h) H5.out hle5 (by omega) ⟨by omega, by omega⟩
    rw [List.nil_append, HR.out] at this
    exact this
  have E6 := hide (Ext.trans E1.out E5.out)
  clear hO3 hO4 hO5 E2 E3 E4 E5 hb1 hb3 hb4 hb5 hbu2 hs2 hs3 hs4 O2 hle0 hle3 hle4
  go_upto_region 5 with (go_at_call 33; (with_reducible refine (KD.out _ (Ext.refl _)).mono ?_); rintro en w6 ⟨v6, rfl, hO6, hE6⟩; obtain ⟨A6, c6, rfl, -, -, hb6⟩ := hO6.at_; rw [Hc.out])
  have hb7 := hide (hb6.ext (ext_alloc w6 (.cells #[.int .u8 (kd : Int), .slice A6 c c6] 56)))
  have Q7 := Blk.new w6 56 #[.int .u8 (kd : Int), .slice A6 c c6]
  have E7 := hide (Ext.trans (Ext.trans E6.out hE6) (ext_alloc w6 (.cells #[.int .u8 (kd : Int), .slice A6 c c6] 56)))
  obtain ⟨w7, hw7⟩ : ∃ w, w6.alloc (.cells #[.int .u8 (kd : Int), .slice A6 c c6] 56) = w := ⟨_, rfl⟩
  rw [hw7] at hb7 Q7 E7 ⊢
  obtain ⟨q7, hq7⟩ : ∃ q, w6.heap.size = q := ⟨_, rfl⟩
  rw [hq7] at Q7 ⊢
  have Q7 := hide Q7
  clear hw7 hq7 hO6 hE6 hb6 KD E6
  go_wp2_with (first
    | (go_at_call 27; (with_reducible refine (KK.out _).mono ?_); rintro en w8 ⟨rfl, hE8⟩; have Q8 := Q7.out.ext hE8; have c0 : w8.cell? ⟨q7, 0, none⟩ = some (.int .u8 (kd : Int)) := Q8.cell 0; have c1' : w8.cell? ⟨q7, 1, none⟩ = some (.slice A6 c c6) := Q8.cell 1; have km := hide (r_same A6 A c c c6 cap l l w8 (hb7.out.ext hE8) (Hb.out.ext (Ext.trans E7.out hE8)) Hc.out Hc.out true (by simp)); have E8 := hide (Ext.trans E7.out hE8))
    | (go_at_call 21; (with_reducible refine (km.out).mono ?_); rintro en w9 ⟨rfl, hE9⟩)
    | (go_at_call 28; (with_reducible refine (KS.out _).mono ?_); rintro en w10 ⟨rfl, rfl⟩))
  go_ret
  exact ⟨rfl, Ext.trans E8.out hE9⟩
end Go.Proofs.Ytdboaogdanahkaa
