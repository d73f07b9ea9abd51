/- The program's Encode of layer 7. Conditions: the slice reads as bytes. -/
import Derived.Test.YtdboaogdanahkaaFrmA
import Derived.Test.YtdboaogdanahkaaFrmB
namespace Go.Proofs.Ytdboaogdanahkaa
set_option linter.unusedVariables false
set_option linter.unusedSimpArgs false
open Go Go.RowKit
/-- What Encode returns, and the error. -/
def frN (k : Nat) (p : List Nat) : List Nat × Nat := if 4194304 < p.length then ([], 3) else (frE k p, 0)
theorem splice2 {α : Type} (Z X Y : List α) (k : Nat) (hk : X.length = k) (hZ : Z.length = k + Y.length) : splice (splice Z 0 X) k Y = X ++ Y := by
  subst hk
  have e1 : splice Z 0 X = X ++ Z.drop X.length := by simp [splice]
  rw [e1]
  unfold splice
  rw [List.take_left' rfl, List.drop_of_length_le (by rw [List.length_append, List.length_drop]; omega), List.append_nil]
/-- What is owned, its length known. -/
def OwnL (l : List Nat) (n : Nat) (w : World) (e : Ending) (w' : World) : Prop := ∃ A cap, e = .returned (.slice A n cap) ∧ l.length = n ∧ n ≤ cap ∧ cap ≤ 9223372036854775807 ∧ OwnB w.heap.size w' (.slice A n cap) l ∧ BytesAt w' A l ∧ Ext w w'
theorem OwnRet.len {l : List Nat} {n : Nat} {w : World} {e : Ending} {w' : World} (hn : l.length = n) (h : OwnRet l w e w') : OwnL l n w e w' := by
  subst hn
  obtain ⟨v, rfl, hO, hE⟩ := h
  obtain ⟨A, cap, rfl, h1, h2, hb⟩ := hO.at_
  exact ⟨A, cap, rfl, rfl, h1, h2, hO, hb, hE⟩
set_option maxRecDepth 100000 in
set_option maxHeartbeats 3200000 in
theorem p_fencode (kd : Nat) (A : Option Addr) (c cap : Nat) (l : List Nat) (W : World) (hk : kd < 256) (hb : BytesAt W A l) (hc : l.length = c) (hlen : c ≤ 4611686018427387904) (x : List Nat) (e : Nat) (hr : frN kd l = (x, e)) :
    Calls Try.prog 25 #[.int .u8 (kd : Int), .slice A c cap] W (OwnE x e W) := by
  unfold frN at hr
  by_cases h9 : 4194304 < c
  · rw [if_pos (by omega)] at hr
    cases hr
    have d1 : decide ((4194304 : Int) < (c : Int)) = true := decide_eq_true (by omega)
    clear hb hc
    go_enter Try.func25, Try.ntmps25
    go_wp2_with fail
    go_ret2
    exact ⟨_, rfl, OwnB.nil_ _ _, Ext.refl _⟩
  · rw [if_neg (by omega)] at hr
    obtain ⟨rfl, rfl⟩ := Prod.mk.inj hr
    have d1 : decide ((4194304 : Int) < (c : Int)) = false := decide_eq_false (by omega)
    have h9 : c ≤ 4194304 := by omega
    have KS : Hid (∀ w, Calls Try.prog 28 #[.int .i64 (c : Int)] w (RetSame (.int .i64 ((c : Int) + 13)) w)) := fun w => by
      have := p_fsize (c : Int) w ⟨by omega, by omega⟩
      have e : fsz (c : Int) = (c : Int) + 13 := by unfold fsz; rw [if_neg (by omega), if_neg (by omega)]
      rw [e] at this
      exact this
    have hm := run_mk8 (c + 13) (c + 13) (Nat.le_refl _) (by omega)
    have ei : ((c + 13 : Nat) : Int) = (c : Int) + 13 := by omega
    rw [ei] at hm
    have KH : Hid (∀ w, Calls Try.prog 58 #[.int .u8 (kd : Int), .int .u32 (c : Int)] w (OwnL (hd9 kd c) 9 w)) := fun w => (p_head kd c w hk (by omega)).mono fun _ _ q => OwnRet.len (hd9_len _ _) q
    have KA : Hid (∀ w, Ext W w → Calls Try.prog 59 #[.slice A c cap] w (OwnL (l ++ tailL (crcB 0#32 l)) (c + 4) w)) := fun w h => (p_append A c cap l w (hb.ext h) hc (by omega)).mono fun _ _ q => OwnRet.len (by rw [List.length_append, hc]; rfl) q
    have Hb0 := hide (frE_b hk hb.1)
    have Hl0 := hide (show (frE kd l).length = c + 13 by rw [frE_len, hc])
    have HE0 : Hid (u8s (frE kd l) = u8s (hd9 kd c) ++ u8s (l ++ tailL (crcB 0#32 l))) := by
      show _ = _
      rw [← u8s_app, ← hc]; rfl
    have hX1 : (u8s (hd9 kd c)).length = 9 := by rw [u8s_len, hd9_len]
    have hX2 : (u8s (l ++ tailL (crcB 0#32 l))).length = c + 4 := by rw [u8s_len, List.length_append, hc]; rfl
    obtain ⟨p1, hp1⟩ : ∃ p, hd9 kd c = p := ⟨_, rfl⟩
    obtain ⟨p2, hp2⟩ : ∃ p, l ++ tailL (crcB 0#32 l) = p := ⟨_, rfl⟩
    rw [hp1] at KH HE0 hX1
    rw [hp2] at KA HE0 hX2
    obtain ⟨X1, hx1⟩ : ∃ p, u8s p1 = p := ⟨_, rfl⟩
    obtain ⟨X2, hx2⟩ : ∃ p, u8s p2 = p := ⟨_, rfl⟩
    obtain ⟨Z, hz⟩ : ∃ Z, u8s (List.replicate (c + 13) 0) = Z := ⟨_, rfl⟩
    have hZ : Z.length = c + 13 := by rw [← hz, u8s_len, List.length_replicate]
    rw [hz] at hm
    rw [hx1, hx2] at HE0
    rw [hx1] at hX1
    rw [hx2] at hX2
    have ho1 : ∀ v ∈ X1, v.oneCell' = true := by rw [← hx1]; exact u8s_one _
    have ho2 : ∀ v ∈ X2, v.oneCell' = true := by rw [← hx2]; exact u8s_one _
    have Hx1 := hide hx1
    have Hx2 := hide hx2
    have HZ := hide hZ
    have HX1 := hide hX1
    have HX2 := hide hX2
    have Ho1 := hide ho1
    have Ho2 := hide ho2
    have E1 := ext_alloc W (.cells Z.toArray 5)
    have N1 := heap_alloc_new W (.cells Z.toArray 5)
    obtain ⟨w1, hw1⟩ : ∃ w, W.alloc (.cells Z.toArray 5) = w := ⟨_, rfl⟩
    rw [hw1] at E1 N1
    obtain ⟨g, hg⟩ : ∃ g, W.heap.size = g := ⟨_, rfl⟩
    rw [hg] at N1
    have Hw1 := hide hw1
    have E1 := hide E1
    have N1 := hide N1
    have Hg := hide hg
    have hs : ∀ w, (Instr.slice 22 (.slice (some ⟨g, 0, none⟩) (c + 13) (c + 13)) (some (.int .i64 9)) none none).run Try.prog w = .ok (.slice (some ⟨g, 9, none⟩) (c + 4) (c + 4)) w := fun w => by
      have := run_from (some ⟨g, 0, none⟩) (c + 13) 9 (c + 13) (by omega) w
      rw [if_neg (by omega), show c + 13 - 9 = c + 4 by omega] at this
      exact this
    clear hr hb hc hp1 hp2 hx1 hx2 hz hZ hX1 hX2 ho1 ho2 ei hw1 hg
    go_enter Try.func25, Try.ntmps25
    go_upto_region 4 with (go_at_call 28; (with_reducible refine (KS.out _).mono ?_); rintro e w0 ⟨rfl, rfl⟩)
    rw [Hw1.out, Hg.out]
    clear hm
    go_upto_region 5 with (first
      | (go_at_call 58; (with_reducible refine (KH.out _).mono ?_); rintro e w2 ⟨A2, cap2, rfl, hl2, hle2, -, -, hb2, hE2⟩; have hb2 := hide hb2; have hl2 := hide hl2; have E2 := hide (Ext.trans E1.out hE2); have N2 := hide ((hE2.block g (Array.getElem?_eq_some_iff.1 N1.out).1).trans N1.out); clear hE2)
      | (refine wpList_copy_splice rfl (.tmp 14) (.tmp 19) 22 22 rfl 5 Try.underlying22 sz8 (some ⟨g, 0, none⟩) A2 (c + 13) (c + 13) 9 cap2 rfl rfl g 0 Z 5 N2.out X1 (by rw [HX1.out]; exact (Nat.min_eq_left (by omega)).symm) (fun hp => ⟨rfl, by obtain ⟨b, off, rfl, _, _⟩ := hb2.out.2.2 (by rw [hl2.out]; omega); exact ⟨_, rfl, by rw [← Hx1.out]; exact cells_of_bytes hb2.out⟩⟩) (by rw [HX1.out, HZ.out]; omega) Ho1.out W.heap.size W E2.out (by rw [Hg.out]; exact Nat.le_refl _) ?_; intro w3 N3 hE3; have E3 := hide hE3; clear hE3))
    clear hb2 hl2 E2 N2 E1 N1
    have hgw : W.heap.size ≤ g := by rw [Hg.out]; exact Nat.le_refl _
    have hmn : X2.length = Nat.min (c + 4) (c + 4) := by rw [HX2.out]; exact (Nat.min_self _).symm
    have hft : 9 + X2.length ≤ (splice Z 0 X1).length := by rw [length_splice _ _ _ (by rw [HX1.out, HZ.out]; omega), HZ.out, HX2.out]; omega
    have Hmn := hide hmn
    have Hft := hide hft
    have hgl := (Array.getElem?_eq_some_iff.1 N3.out).1
    clear hmn hft
    have E3d : Ext W w3.drew := Below.drew E3.out
    have K3 := hide (KA.out w3.drew E3d)
    have E3d := hide E3d
    have N3d : Hid (w3.drew.heap[g]? = some (.cells (splice Z 0 X1).toArray 5 (0, 0))) := N3
    have hgl : g < w3.drew.heap.size := hgl
    go_region_law (first
      | (go_simp; go_at_call 59; (with_reducible refine (K3.out).mono ?_); rintro e w4 ⟨A4, cap4, rfl, hl4, hle4, -, -, hb4, hE4⟩; have hb4 := hide hb4; have hl4 := hide hl4; have E4 := hide (Ext.trans E3d.out hE4); have N4 := hide ((hE4.block g hgl).trans N3d.out); clear hE4)
      | (refine step_copy_splice rfl (.tmp 22) (.tmp 24) 22 22 rfl 5 Try.underlying22 sz8 (some ⟨g, 9, none⟩) A4 (c + 4) (c + 4) (c + 4) cap4 rfl rfl g 9 (splice Z 0 X1) 5 N4.out X2 Hmn.out (fun hp => ⟨rfl, by obtain ⟨b, off, rfl, _, _⟩ := hb4.out.2.2 (by rw [hl4.out]; omega); exact ⟨_, rfl, by rw [← Hx2.out]; exact cells_of_bytes hb4.out⟩⟩) Hft.out Ho2.out W.heap.size W E4.out hgw ?_; intro w5 N5 hE5))
    all_goals go_wp2_with fail
    all_goals go_ret2
    all_goals refine ⟨_, rfl, own_of (m := []) (cap := c + 13) hgw ?_ Hl0.out (by simp) (by omega) Hb0.out, hE5⟩
    all_goals rw [List.append_nil, N5.out, HE0.out, splice2 Z X1 X2 9 HX1.out (by rw [HZ.out, HX2.out]; omega)]
end Go.Proofs.Ytdboaogdanahkaa
