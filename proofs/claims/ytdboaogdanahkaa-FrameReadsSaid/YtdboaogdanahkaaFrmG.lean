/- Layer 7: Decode of the program and of the reference for every index; what the laws compare. Conditions: the slices read as bytes. -/
import Derived.Test.YtdboaogdanahkaaFrmF
import Derived.Test.YtdboaogdanahkaaSamA
namespace Go.Proofs.Ytdboaogdanahkaa
set_option linter.unusedVariables false
set_option linter.unusedSimpArgs false
open Go Go.RowKit
def frR (l : List Nat) (at_ : Int) : Nat × List Nat × Int × Nat :=
  if at_ < 0 ∨ (l.length : Int) < at_ then (0, [], 0, 2) else
  ((frD (l.drop at_.toNat)).1, (frD (l.drop at_.toNat)).2.1, (if (frD (l.drop at_.toNat)).2.2.2 = 0 then at_ + (frD (l.drop at_.toNat)).2.2.1 else 0), (frD (l.drop at_.toNat)).2.2.2)
theorem p_fdec (A : Option Addr) (c cap : Nat) (l : List Nat) (at_ : Int) (W : World) (hb : BytesAt W A l) (hc : l.length = c) (hcap : c ≤ cap) (hcap2 : c ≤ 4611686018427387904) (hat : I64 at_) :
    Calls Try.prog 33 #[.slice A c cap, .int .i64 at_] W (FrmRet (frR l at_).1 (frR l at_).2.1 (frR l at_).2.2.1 (frR l at_).2.2.2 W) := by
  unfold frR
  by_cases h : at_ < 0 ∨ (l.length : Int) < at_
  · rw [if_pos h]
    exact p_fdecode_out A c cap at_ W (by omega) hat (by rw [hc] at h; exact h)
  · rw [if_neg h]
    obtain ⟨a, rfl⟩ := Int.eq_ofNat_of_zero_le (show 0 ≤ at_ by omega)
    exact p_fdecode A c cap a l W hb hc hcap (by omega) (by omega) _ _ _ _ rfl
theorem r_fdec (A : Option Addr) (c cap : Nat) (l : List Nat) (at_ : Int) (W : World) (hb : BytesAt W A l) (hc : l.length = c) (hcap : c ≤ cap) (hcap2 : c ≤ 4611686018427387904) (hat : I64 at_) :
    Calls Try.prog 61 #[.slice A c cap, .int .i64 at_] W (FrmRet (frR l at_).1 (frR l at_).2.1 (frR l at_).2.2.1 (frR l at_).2.2.2 W) := by
  unfold frR
  by_cases h : at_ < 0 ∨ (l.length : Int) < at_
  · rw [if_pos h]
    exact r_fdecode_out A c cap at_ W (by omega) hat (by rw [hc] at h; exact h)
  · rw [if_neg h]
    obtain ⟨a, rfl⟩ := Int.eq_ofNat_of_zero_le (show 0 ≤ at_ by omega)
    exact r_fdecode A c cap a l W hb hc hcap hcap2 (by omega) _ _ _ _ rfl
/-- What is encoded is read, wherever it begins and whatever follows. -/
theorem frR_enc (k : Nat) (p u t : List Nat) (h : p.length ≤ 4194304) : frR (u ++ frE k p ++ t) (u.length : Int) = (k, p, (u.length : Int) + (p.length + 13 : Nat), 0) := by
  unfold frR
  rw [if_neg (by simp only [List.length_append]; omega), Int.toNat_natCast, List.append_assoc, List.drop_left' rfl, frD_enc k p t h]
  simp
theorem frR_cut (k : Nat) (p : List Nat) (m : Nat) (h : p.length ≤ 4194304) (hm : m < p.length + 13) : frR ((frE k p).take m) 0 = (0, [], 0, 4) := by
  unfold frR
  rw [if_neg (by omega)]
  show ((frD ((frE k p).take m)).1, (frD ((frE k p).take m)).2.1, (if (frD ((frE k p).take m)).2.2.2 = 0 then (0 : Int) + (frD ((frE k p).take m)).2.2.1 else 0), (frD ((frE k p).take m)).2.2.2) = _
  rw [frD_cut k p m h hm]
  rfl
set_option maxRecDepth 100000 in
set_option maxHeartbeats 3200000 in
theorem l_same7 (A : Option Addr) (c cap : Nat) (l : List Nat) (at_ : Int) (W : World) (hb : BytesAt W A l) (hc : l.length = c) (hcap : c ≤ cap) (hcap2 : c ≤ 4611686018427387904) (hat : I64 at_) :
    Calls Try.prog 32 #[.slice A c cap, .int .i64 at_] W (Ret (.bool true) W) := by
  have KP : Hid (∀ w, Ext W w → Calls Try.prog 33 #[.slice A c cap, .int .i64 at_] w (FrmRet (frR l at_).1 (frR l at_).2.1 (frR l at_).2.2.1 (frR l at_).2.2.2 w)) := fun w h => p_fdec A c cap l at_ w (hb.ext h) hc hcap hcap2 hat
  have KR : Hid (∀ w, Ext W w → Calls Try.prog 61 #[.slice A c cap, .int .i64 at_] w (FrmRet (frR l at_).1 (frR l at_).2.1 (frR l at_).2.2.1 (frR l at_).2.2.2 w)) := fun w h => r_fdec A c cap l at_ w (hb.ext h) hc hcap hcap2 hat
  obtain ⟨⟨k, p, n, e⟩, hr⟩ : ∃ x, frR l at_ = x := ⟨_, rfl⟩
  rw [hr] at KP KR
  clear hr hb hc
  go_enter Try.func32, Try.ntmps32
  go_upto_region 2 with (go_at_call 33; (with_reducible refine (KP.out _ (Ext.refl _)).mono ?_); rintro en w1 ⟨v1, rfl, hO1, hE1⟩; obtain ⟨A1, c1, rfl, -, -, hb1⟩ := hO1.at_)
  have Q1 := Blk.new w1 56 #[.int .u8 (k : Int), .slice A1 p.length c1]
  have E2 := Ext.trans hE1 (ext_alloc w1 (.cells #[.int .u8 (k : Int), .slice A1 p.length c1] 56))
  have hb2 := hb1.ext (ext_alloc w1 (.cells #[.int .u8 (k : Int), .slice A1 p.length c1] 56))
  obtain ⟨w2, hw2⟩ : ∃ w, w1.alloc (.cells #[.int .u8 (k : Int), .slice A1 p.length c1] 56) = w := ⟨_, rfl⟩
  rw [hw2] at Q1 E2 hb2 ⊢
  obtain ⟨q1, hq1⟩ : ∃ q, w1.heap.size = q := ⟨_, rfl⟩
  rw [hq1] at Q1 ⊢
  have Q1 := hide Q1
  have E2 := hide E2
  have hb2 := hide hb2
  clear hw2 hq1 hO1 hE1 hb1
  go_upto_region 3 with (go_at_call 61; (with_reducible refine (KR.out _ E2.out).mono ?_); rintro en w3 ⟨v3, rfl, hO3, hE3⟩; obtain ⟨A3, c3, rfl, -, -, hb3⟩ := hO3.at_)
  have Q3 := Blk.new w3 56 #[.int .u8 (k : Int), .slice A3 p.length c3]
  have E4 := Ext.trans (Ext.trans E2.out hE3) (ext_alloc w3 (.cells #[.int .u8 (k : Int), .slice A3 p.length c3] 56))
  have hb4 := hb3.ext (ext_alloc w3 (.cells #[.int .u8 (k : Int), .slice A3 p.length c3] 56))
  have hb5 := (hb2.out.ext hE3).ext (ext_alloc w3 (.cells #[.int .u8 (k : Int), .slice A3 p.length c3] 56))
  have Q5 := (Q1.out.ext hE3).alloc (.cells #[.int .u8 (k : Int), .slice A3 p.length c3] 56)
  obtain ⟨w4, hw4⟩ : ∃ w, w3.alloc (.cells #[.int .u8 (k : Int), .slice A3 p.length c3] 56) = w := ⟨_, rfl⟩
  rw [hw4] at Q3 E4 hb4 hb5 Q5 ⊢
  obtain ⟨q3, hq3⟩ : ∃ q, w3.heap.size = q := ⟨_, rfl⟩
  rw [hq3] at Q3 ⊢
  have KS := hide (r_same A1 A3 p.length p.length c1 c3 p p w4 hb5 hb4 rfl rfl true (by simp))
  have c0 := Q5.cell 0
  have c1' := Q5.cell 1
  have d0 := Q3.cell 0
  have d1' := Q3.cell 1
  have E4 := hide E4
  simp only [List.getElem?_toArray, List.getElem?_cons_zero, List.getElem?_cons_succ] at c0 c1' d0 d1'
  clear hw4 hq3 hO3 hE3 hb3 hb4 hb5 hb2 E2 Q1 Q3 Q5 KP KR
  go_wp2_with (go_at_call 21; (with_reducible refine (KS.out).mono ?_); rintro en w5 ⟨rfl, hE5⟩)
  go_ret
  exact ⟨rfl, Ext.trans E4.out hE5⟩
end Go.Proofs.Ytdboaogdanahkaa
