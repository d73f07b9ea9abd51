/- Layer 5: VarintCut. Conditions: the list reads as numbers. -/
import Derived.Test.YthlficnmpgkceaaVarL
import Derived.Test.YthlficnmpgkceaaVarM
import Derived.Test.YthlficnmpgkceaaVarG
import Derived.Test.YthlficnmpgkceaaTapeC
import Derived.Test.YthlficnmpgkceaaTapS
import Derived.Deep.RegionHeld3
namespace Go.Proofs.Ythlficnmpgkceaa
set_option linter.unusedVariables false
set_option linter.unusedSimpArgs false
open Go Go.RowKit
theorem grs_high (v : Nat) : ∀ n, ∀ y ∈ grs v n, 128 ≤ y
  | 0 => by simp [grs]
  | n + 1 => by
    intro y hy
    rcases List.mem_append.1 hy with h | h
    · exact grs_high v n y h
    · have : y = gr v n + 128 := by simpa using h
      omega
theorem cut_scan {v k m : Nat} (hk : k < (encB v).length) : scanG m ((encB v).take k) = none := by
  obtain ⟨n, hn⟩ : ∃ n, (encB v).length = n + 1 := ⟨(encB v).length - 1, by omega⟩
  refine scanG_none m _ (fun i _ hi => ?_)
  have hi2 : i < k := by rw [List.length_take] at hi; omega
  have hin : i < (grs v n).length := by rw [grs_len]; omega
  have e : ((encB v).take k).getD i 0 = (grs v n)[i]'hin := by
    rw [getD_lt hi, List.getElem_take]
    have : ∀ (l : List Nat) (h : i < l.length), l = grs v n ++ [gr v n] → l[i] = (grs v n)[i]'hin := by
      intro l h hl; subst hl; rw [List.getElem_append_left hin]
    exact this _ _ (encB_grs v n hn)
  rw [e]
  exact grs_high v n _ (List.getElem_mem _)
theorem cut_bhd {v k m width : Nat} (hk : k < (encB v).length) (hm : (encB v).length ≤ m) : bhd ((encB v).take k) 0 width m = (0, 4) := by
  unfold bhd
  have hl : ((encB v).take k).length = k := by rw [List.length_take]; omega
  rw [if_neg (by omega), hl]
  rw [show (0 : Int).toNat = 0 from rfl, List.drop_zero, cut_scan hk]
  simp; omega
theorem cut_rd {v k : Nat} (hv : v < 18446744073709551616) (hk : k < (encB v).length) : rdV ((encB v).take k) 0 = (0, 0, 4) := by
  have hm : (encB v).length ≤ 10 := encB_length_le v 9 (by omega)
  have hg : rdG ((encB v).take k) 0 64 10 = none := by
    unfold rdG
    rw [show (0 : Int).toNat = 0 from rfl, List.drop_zero, cut_scan hk]
    split <;> rfl
  unfold rdV rdE
  rw [hg, cut_bhd hk hm]
set_option maxRecDepth 100000 in
set_option maxHeartbeats 8000000 in
theorem l_cut (v : Nat) (y : Option Addr) (len cap : Nat) (n : Int) (W : World) (hv : v < 18446744073709551616) (hL : IsList W y len cap) (hn : I64 n) :
    Calls Try.prog 7 #[.int .u64 (v : Int), .slice y len cap, .int .i64 n] W (Ret (.bool true) W) := by
  have KN : Hid (Calls Try.prog 14 #[.slice y len cap] W (NewPost W)) := t_new W y len cap hL
  have KW : Hid (∀ w, Upd W.heap.size w w → TapeOk W.heap.size w W.heap.size → Calls Try.prog 24 #[.pointer (some ⟨W.heap.size, 0, none⟩)] w (TapeWide W.heap.size W.heap.size w)) := fun w u T => t_wide W.heap.size W.heap.size w w T u
  clear hL
  go_enter Try.func7, Try.ntmps7
  go_upto_region 1 with fail
  go_upto_region 2 with (first
    | (go_at_call 14; (with_reducible refine (KN.out).mono ?_); rintro e w1 ⟨rfl, hT1, hE1⟩; have hT1 := hide hT1; have hE1 := hide hE1)
    | (go_at_call 24; (with_reducible refine (KW.out w1 (Upd.refl _ _) hT1.out).mono ?_); rintro e w2 ⟨s, a, b, c, d, z, rfl, hz, -, hU⟩; have hz := hide hz; have hU := hide hU))
  have E2 : Ext W w2 := Upd.ext hU.out hE1.out (Nat.le_refl _)
  have E3 : Ext W (w2.alloc (.cells #[.bool s, .int .u64 (a : Int), .int .u64 (b : Int), .int .u64 (c : Int), .int .u64 (d : Int)] 26)) := Ext.trans E2 (ext_alloc _ _)
  have P3 := Blk.new w2 26 #[.bool s, .int .u64 (a : Int), .int .u64 (b : Int), .int .u64 (c : Int), .int .u64 (d : Int)]
  obtain ⟨w3, hw3⟩ : ∃ w3, w2.alloc (.cells #[.bool s, .int .u64 (a : Int), .int .u64 (b : Int), .int .u64 (c : Int), .int .u64 (d : Int)] 26) = w3 := ⟨_, rfl⟩
  rw [hw3] at E3 P3 ⊢
  obtain ⟨g, hg⟩ : ∃ g, w2.heap.size = g := ⟨_, rfl⟩
  rw [hg] at P3 ⊢
  have EE := hide E3
  have P : Box w3 g s a b c d := P3
  have KA : Hid (∀ w, Calls Try.prog 18 #[.slice none 0 0, .int .u64 (v : Int)] w (OwnRet (encB v) w)) := fun w => p_vappend none 0 0 v [] w (BytesAt.nil _ _) rfl (by omega) hv
  have KB : Hid (∀ w, Calls Try.prog 30 #[.slice none 0 0, .agg #[.bool s, .int .u64 (a : Int), .int .u64 (b : Int), .int .u64 (c : Int), .int .u64 (d : Int)]] w (OwnRet (encB (cod z)) w)) := fun w => p_wappend none 0 0 [] s a b c d z w hz.out.1 (BytesAt.nil _ _) rfl (by omega)
  have l1 := encB_pos v
  have l2 := encB_pos (cod z)
  have l1' : (encB v).length ≤ 10 := encB_length_le v 9 (by omega)
  have l2' : (encB (cod z)).length ≤ 37 := encB_length_le (cod z) 36 (Nat.lt_trans (cod_lt hz.out.1) (by decide +kernel))
  have F1 : Hid (∀ k, k < (encB v).length → rdV ((encB v).take k) 0 = (0, 0, 4)) := fun k hk => cut_rd hv hk
  have F2 : Hid (∀ k, k < (encB (cod z)).length → bhd ((encB (cod z)).take k) 0 257 37 = (0, 4)) := fun k hk => cut_bhd hk l2'
  obtain ⟨la, hla⟩ : ∃ l, encB v = l := ⟨_, rfl⟩
  obtain ⟨lb, hlb⟩ : ∃ l, encB (cod z) = l := ⟨_, rfl⟩
  rw [hla] at KA F1 l1 l1'
  rw [hlb] at KB F2 l2 l2'
  clear hla hlb hw3 hg P3 E3 E2 hT1 hE1 KN KW hz hv
  obtain ⟨p0, p1, p2, p3, p4, _⟩ := five_cells P
  go_region_held3 (fun w' => w'.cell? ⟨g, 0, none⟩ = some (.bool s) ∧ w'.cell? ⟨g, 1, none⟩ = some (.int .u64 (a : Int)) ∧ w'.cell? ⟨g, 2, none⟩ = some (.int .u64 (b : Int)) ∧ w'.cell? ⟨g, 3, none⟩ = some (.int .u64 (c : Int)) ∧ w'.cell? ⟨g, 4, none⟩ = some (.int .u64 (d : Int))) (first | (with_reducible exact ⟨p0, p1, p2, p3, p4⟩) | go_keep) (first
    | (go_at_call 18; (with_reducible refine (KA.out _).mono ?_); rintro e w4 ⟨va, rfl, hOa, hE⟩; have P : Box w4 g s a b c d := (by first | exact Blk.ext P hE | exact Box.ext P hE | exact P.drew.ext hE); have EE : Hid (Ext W w4) := (by first | exact hide (EE.out.trans hE) | exact hide ((EE.out.trans (ext_drew _)).trans hE)); have hOa := hide hOa; obtain ⟨p0, p1, p2, p3, p4, _⟩ := five_cells P; clear hE)
    | (go_at_call 30; (with_reducible refine (KB.out _).mono ?_); rintro e w5 ⟨vb, rfl, hOb, hE⟩; have P : Box w5 g s a b c d := (by first | exact Blk.ext P hE | exact Box.ext P hE | exact P.drew.ext hE); have EE : Hid (Ext W w5) := (by first | exact hide (EE.out.trans hE) | exact hide ((EE.out.trans (ext_drew _)).trans hE)); have hOa := hide (OwnB.ext hOa.out hE); have hOb := hide hOb; obtain ⟨p0, p1, p2, p3, p4, _⟩ := five_cells P; clear hE))
  obtain ⟨A1, cap1, rfl, hle1, hcap1, hb1⟩ := hOa.out.at_
  obtain ⟨A2, cap2, rfl, hle2, hcap2, hb2⟩ := hOb.out.at_
  obtain ⟨n1, hn1⟩ : ∃ k, la.length = k := ⟨_, rfl⟩
  obtain ⟨n2, hn2⟩ : ∃ k, lb.length = k := ⟨_, rfl⟩
  rw [hn1] at hle1 l1 l1' F1 ⊢
  rw [hn2] at hle2 l2 l2' F2 ⊢
  have KM1 : Hid (∀ w, Calls Try.prog 32 #[.int .i64 n, .int .i64 (n1 : Int)] w (IntIn (InN (n1 : Int)) .i64 w)) := fun w => (t_mod n (n1 : Int) w hn ⟨by omega, by omega⟩).mono fun _ _ q => ⟨_, q.1, modN_in _ _, q.2.symm⟩
  have KM2 : Hid (∀ w, Calls Try.prog 32 #[.int .i64 n, .int .i64 (n2 : Int)] w (IntIn (InN (n2 : Int)) .i64 w)) := fun w => (t_mod n (n2 : Int) w hn ⟨by omega, by omega⟩).mono fun _ _ q => ⟨_, q.1, modN_in _ _, q.2.symm⟩
  have KR : Hid (∀ k : Nat, k < n1 → ∀ w, Ext w5 w → Calls Try.prog 35 #[.slice A1 k cap1, .int .i64 0] w (RetSame (.tuple #[.int .u64 0, .int .i64 0, .int .i64 4]) w)) := fun k hk w hE => p_read A1 k cap1 (la.take k) 0 w ((hb1.take k).ext hE) (by rw [List.length_take]; omega) (by omega) (by omega) ⟨by omega, by omega⟩ _ _ _ (F1.out k hk)
  have KS : Hid (∀ k : Nat, k < n2 → ∀ w, Ext w5 w → Calls Try.prog 37 #[.slice A2 k cap2, .int .i64 0] w (Ret (.tuple #[.agg #[.bool false, .int .u64 0, .int .u64 0, .int .u64 0, .int .u64 0], .int .i64 0, .int .i64 4]) w)) := fun k hk w hE => p_rwide_err A2 k cap2 (lb.take k) 0 4 w ((hb2.take k).ext hE) (by rw [List.length_take]; omega) (by omega) (by omega) ⟨by omega, by omega⟩ (F2.out k hk) (by omega)
  have KK : Hid (∀ w, Calls Try.prog 25 #[] w (Ret (.bool true) w)) := fun w => l_known5 w
  have d1 : decide ((n1 : Int) < 1) = false := decide_eq_false (by omega)
  have d2 : decide ((n2 : Int) < 1) = false := decide_eq_false (by omega)
  clear hOa hOb hb1 hb2 F1 F2 hn1 hn2 l1' l2' hcap1 hcap2 p0 p1 p2 p3 p4 P KA KB hU
  go_wp2_with fail
  (with_reducible refine (KM1.out _).mono ?_)
  rintro e w6 ⟨m1, rfl, hm1, rfl⟩
  have v0 := hm1.1
  have v1 := hm1.2.1 (by omega)
  obtain ⟨k1, rfl⟩ := Int.eq_ofNat_of_zero_le v0
  have hk1 : k1 < n1 := by omega
  have hs1 := run_upto A1 n1 k1 cap1 (by omega)
  have kr := hide (KR.out k1 hk1)
  clear v0 v1 hm1
  go_wp2_with (go_at_call 35; (with_reducible refine (kr.out _ (Ext.refl _)).mono ?_); rintro e w7 ⟨rfl, rfl⟩)
  (with_reducible refine (KM2.out _).mono ?_)
  rintro e w8 ⟨m2, rfl, hm2, rfl⟩
  have v0 := hm2.1
  have v1 := hm2.2.1 (by omega)
  obtain ⟨k2, rfl⟩ := Int.eq_ofNat_of_zero_le v0
  have hk2 : k2 < n2 := by omega
  have hs2 := run_upto A2 n2 k2 cap2 (by omega)
  have ks := hide (KS.out k2 hk2)
  clear v0 v1 hm2
  go_wp2_with (first
    | (go_at_call 37; (with_reducible refine (ks.out _ (Ext.refl _)).mono ?_); rintro e w9 ⟨rfl, hE9⟩)
    | (go_at_call 25; (with_reducible refine (KK.out _).mono ?_); rintro e w10 ⟨rfl, hE10⟩))
  go_ret
  exact ⟨rfl, (EE.out.trans hE9).trans ((ext_alloc _ _).trans hE10)⟩
end Go.Proofs.Ythlficnmpgkceaa
