/- Layer 7: the laws' sanity check. No condition. -/
import Derived.Test.YtdboaogdanahkaaFrmG
namespace Go.Proofs.Ytdboaogdanahkaa
set_option linter.unusedVariables false
set_option linter.unusedSimpArgs false
open Go Go.RowKit
set_option maxRecDepth 100000 in
set_option maxHeartbeats 3200000 in
theorem l_known7 (W : World) : Calls Try.prog 27 #[] W (Ret (.bool true) W) := by
  have hb0 := new_at W [1, 2] (by intro x hx; simp at hx; omega) (by simp) #[.int .u8 1, .int .u8 2] rfl
  have E0 := ext_alloc W (.cells #[.int .u8 1, .int .u8 2] 5)
  have KE : Hid (Calls Try.prog 25 #[.int .u8 7, .slice (some ⟨W.heap.size, 0, none⟩) 2 2] (W.alloc (.cells #[.int .u8 1, .int .u8 2] 5)) (OwnE (frE 7 [1, 2]) 0 (W.alloc (.cells #[.int .u8 1, .int .u8 2] 5)))) := (p_fencode 7 (some ⟨W.heap.size, 0, none⟩) 2 2 [1, 2] _ (by omega) hb0 rfl (by omega) (frE 7 [1, 2]) 0 (by unfold frN; rw [if_neg (by simp)]))
  have KD : Hid (∀ w A cap, BytesAt w A ([9] ++ frE 7 [1, 2]) → 16 ≤ cap → Calls Try.prog 33 #[.slice A 16 cap, .int .i64 1] w (FrmRet 7 [1, 2] 16 0 w)) := fun w A cap h hc => by
    have := p_fdec A 16 cap ([9] ++ frE 7 [1, 2]) 1 w h (by rw [List.length_append, frE_len]; rfl) hc (by omega) ⟨by omega, by omega⟩
    have e := frR_enc 7 [1, 2] [9] [] (by simp)
    rw [List.append_nil] at e
    have e2 : frR ([9] ++ frE 7 [1, 2]) 1 = (7, [1, 2], 16, 0) := e
    rw [e2] at this
    exact this
  have hl : (frE 7 [1, 2]).length = 15 := by rw [frE_len]; rfl
  have KS : Hid (∀ w, Calls Try.prog 28 #[.int .i64 2] w (RetSame (.int .i64 15) w)) := fun w => p_fsize 2 w ⟨by omega, by omega⟩
  obtain ⟨F, hF⟩ : ∃ F, frE 7 [1, 2] = F := ⟨_, rfl⟩
  rw [hF] at KE KD hl
  have H16 : Hid (([9] ++ F).length = 16) := by show _ = _; simp [hl]
  have Hl := hide hl
  have E0 := hide E0
  clear hF hb0 hl
  go_enter Try.func27, Try.ntmps27
  go_upto_region 2 with (go_at_call 25; (with_reducible refine (KE.out).mono ?_); rintro en w1 ⟨v1, rfl, hO1, hE1⟩; obtain ⟨A1, c1, rfl, hle1, -, hb1⟩ := hO1.at_)
  rw [Hl.out] at hO1 hle1 ⊢
  have E1 := hide (Ext.trans E0.out hE1)
  have hb1 := hide hb1
  have E2 : Hid (Ext w1 (w1.alloc (.cells #[.int .u8 9] 5))) := ext_alloc w1 _
  have hs2 := hide E2.out.size
  have O2 := hide (own_of (B := w1.heap.size) (w := w1.alloc (.cells #[.int .u8 9] 5)) (g := w1.heap.size) (n := 1) (cap := 1) (l := [9]) (m := []) (Nat.le_refl _) (heap_alloc_new w1 _) rfl rfl (by omega) (IsB.one (by omega)))
  have hb2 := hide (hb1.out.ext E2.out)
  clear hO1 hE1
  go_upto_region 3 with (first
    | (at_builtin; refine wl_append8 rfl (.tmp 12) (.tmp 13) rfl w1.heap.size (.slice (some ⟨w1.heap.size, 0, none⟩) 1 1) [9] F rfl O2.out A1 15 c1 rfl hb2.out Hl.out (by rw [Hl.out]; simp) hs2.out ?_; intro v3 w3 hO3 hG3 _; have E3 := hide (Ext.trans E1.out (below_grown E2.out (Nat.le_refl _) O2.out hG3)); obtain ⟨A3, c3, rfl, hle3, -, hb3⟩ := hO3.at_; rw [H16.out] at hle3 ⊢; have KD := hide (KD.out w3 A3 c3 hb3 hle3); clear hO3 hG3 hb3)
    | (go_at_call 33; (with_reducible refine (KD.out).mono ?_); rintro en w4 ⟨v4, rfl, hO4, hE4⟩; obtain ⟨A4, c4, rfl, -, -, hb4⟩ := hO4.at_))
  have Q4 := Blk.new w4 56 #[.int .u8 7, .slice A4 2 c4]
  have E5 := Ext.trans (Ext.trans E3.out hE4) (ext_alloc w4 (.cells #[.int .u8 7, .slice A4 2 c4] 56))
  have hb5 := hb4.ext (ext_alloc w4 (.cells #[.int .u8 7, .slice A4 2 c4] 56))
  go_outline
  obtain ⟨w5, hw5⟩ : ∃ w, w4.alloc (.cells #[.int .u8 7, .slice A4 2 c4] 56) = w := ⟨_, rfl⟩
  have hb6 := hb5.ext (ext_alloc _ (.cells #[.int .u8 1, .int .u8 2] 5))
  rw [hw5] at Q4 E5 hb6 ⊢
  obtain ⟨q5, hq5⟩ : ∃ q, w4.heap.size = q := ⟨_, rfl⟩
  rw [hq5] at Q4 ⊢
  have hb7 := new_at w5 [1, 2] (by intro x hx; simp at hx; omega) (by simp) #[.int .u8 1, .int .u8 2] rfl
  have KM := hide (r_same A4 (some ⟨w5.heap.size, 0, none⟩) 2 2 c4 2 [1, 2] [1, 2] _ hb6 hb7 rfl rfl true (by simp))
  have c0 := Q4.cell 0
  have c1' := Q4.cell 1
  simp only [List.getElem?_toArray, List.getElem?_cons_zero, List.getElem?_cons_succ] at c0 c1'
  have E6 := hide (Ext.trans E5 (ext_alloc w5 (.cells #[.int .u8 1, .int .u8 2] 5)))
  clear hw5 hq5 hb4 hE4 hb6 hb7 E5 Q4 O2 hb2 hb1 E1 E2 E3
  go_wp2_with (first
    | (go_at_call 21; (with_reducible refine (KM.out).mono ?_); rintro en w7 ⟨rfl, hE7⟩)
    | (go_at_call 28; (with_reducible refine (KS.out _).mono ?_); rintro en w8 ⟨rfl, rfl⟩))
  go_ret
  exact ⟨rfl, Ext.trans E6.out hE7⟩
end Go.Proofs.Ytdboaogdanahkaa
