/- The program's Decode of layer 7. Conditions: the slice reads as bytes. -/
import Derived.Test.YtdboaogdanahkaaFrmC
import Derived.Test.YtdboaogdanahkaaDeclQ
import Derived.Deep.MidRow
namespace Go.Proofs.Ytdboaogdanahkaa
set_option linter.unusedVariables false
set_option linter.unusedSimpArgs false
open Go Go.RowKit
attribute [local go_sem] qUpon putAll slotV
theorem infoF : (Try.prog.info? 56).map (·.size) = some 2 := by kernel_rfl
/-- The results where the first lies in a row of cells. -/
theorem res_frm3 {fn : Func} {p u v : Tmp} {ty : TypeId} (h : fn.results = #[.cell p ty, .tmp u, .tmp v]) (tmps : Array Value) (w : World) (g : Nat) (t : TypeId) (cs : Array Value) (d : TypeDesc)
    (hp : tmps.getD p undef = .pointer (some ⟨g, 0, none⟩)) (hg : Blk w g t cs)
    (hu : Try.prog.underlying ty = some d) (hd : (match (generalizing := false) d with | .struct _ | .array _ _ => true | _ => false) = true) (hi : (Try.prog.info? ty).map (·.size) = some cs.size) :
    (results fn tmps).run Try.prog w = .ok (.tuple #[.agg cs, tmps.getD u undef, tmps.getD v undef]) w := by
  have hp' : tmps[p]?.getD undef = .pointer (some ⟨g, 0, none⟩) := by simpa using hp
  simp [results, h, hp', asAddr, run_loadVar_row w g t ty cs (0, 0) d hg hu (by cases d <;> first | rfl | exact hd) hi, Sem.run_bind, Result.andThen]
theorem below_rowF {W w : World} {g : Nat} (h : Below W.heap.size W w) (hg : W.heap.size ≤ g) (cs : Array Value) : Below W.heap.size W (w.setRow g cs) := below_setRow h hg cs
theorem frm_one (k : Int) (A : Option Addr) (n c : Nat) : (#[.int .u8 k, .slice A n c] : Array Value).all (·.oneCell') = true := by simp [Value.oneCell']
theorem idx8 (b off N cap j : Nat) (h : j < N) (w : World) : (Instr.indexAt 22 (.slice (some ⟨b, off, none⟩) N cap) (.int .i64 (j : Int))).run Try.prog w = .ok (.pointer (some ⟨b, off + j, none⟩)) w := by
  have hz := Try.sizeOf5
  have he : Try.prog.elem 22 = 5 := by kernel_rfl
  have hr := run_indexAt_slice (P := Try.prog) (w := w) 22 ⟨b, off, none⟩ N cap .i64 (j : Int) (by kernel_rfl)
  rw [hr, if_pos ⟨by omega, by omega⟩, he, hz]
  simp [Result.andThen, add_at]
/-- A frame, the index behind it and an error: the payload is owned. -/
def FrmRet (k : Nat) (p : List Nat) (nx : Int) (e : Nat) (W : World) (en : Ending) (w' : World) : Prop := ∃ v, en = .returned (.tuple #[.agg #[.int .u8 (k : Int), v], .int .i64 nx, .int .i64 (e : Int)]) ∧ OwnB W.heap.size w' v p ∧ Ext W w'
set_option maxRecDepth 100000 in
set_option maxHeartbeats 1600000 in
theorem p_fdecode_out (A : Option Addr) (c cap : Nat) (at_ : Int) (W : World) (hcap2 : c ≤ 4611686018427387904) (hat : I64 at_) (h : at_ < 0 ∨ (c : Int) < at_) :
    Calls Try.prog 33 #[.slice A c cap, .int .i64 at_] W (FrmRet 0 [] 0 2 W) := by
  have E0 := ext_alloc W (.cells #[.int .u8 0, .slice none 0 0] 56)
  have P0 := Blk.new W 56 #[.int .u8 0, .slice none 0 0]
  obtain ⟨w1, hw1⟩ : ∃ w, W.alloc (.cells #[.int .u8 0, .slice none 0 0] 56) = w := ⟨_, rfl⟩
  rw [hw1] at E0 P0
  obtain ⟨q, hq⟩ : ∃ q, W.heap.size = q := ⟨_, rfl⟩
  rw [hq] at P0
  have Hw1 := hide hw1
  have Hq := hide hq
  have P0 := hide P0
  have E0 := hide E0
  obtain ⟨a1, a2⟩ := hat
  clear hw1 hq
  by_cases h0 : at_ < 0
  · have d0 : decide (at_ < 0) = true := decide_eq_true h0
    clear h
    go_enter Try.func33, Try.ntmps33
    go_upto_region 1 with fail
    rw [Hw1.out, Hq.out]
    go_wp2_with (refine wpList_store_row rfl 56 (.tmp 4) (.tmp 18) rfl q #[.int .u8 0, .slice none 0 0] rfl rfl 56 #[.int .u8 0, .slice none 0 0] P0.out (by rw [infoF]; rfl) rfl (frm_one _ _ _ _) ?_)
    have hr := P0.out.setRow #[.int .u8 0, .slice none 0 0]
    exact bodyPost_ret (res_frm3 (p := 4) (u := 5) (v := 6) (ty := 56) rfl _ _ q 56 _ _ rfl hr Try.underlying56 rfl (by rw [infoF]; rfl)) rfl ⟨_, rfl, OwnB.nil_ _ _, below_rowF E0.out (by rw [Hq.out]; exact Nat.le_refl _) _⟩
  · have d0 : decide (at_ < 0) = false := decide_eq_false h0
    have h2 : (c : Int) < at_ := by omega
    have d1 : decide ((c : Int) < at_) = true := decide_eq_true h2
    clear h
    go_enter Try.func33, Try.ntmps33
    go_upto_region 1 with fail
    rw [Hw1.out, Hq.out]
    go_wp2_with (refine wpList_store_row rfl 56 (.tmp 4) (.tmp 18) rfl q #[.int .u8 0, .slice none 0 0] rfl rfl 56 #[.int .u8 0, .slice none 0 0] P0.out (by rw [infoF]; rfl) rfl (frm_one _ _ _ _) ?_)
    have hr := P0.out.setRow #[.int .u8 0, .slice none 0 0]
    exact bodyPost_ret (res_frm3 (p := 4) (u := 5) (v := 6) (ty := 56) rfl _ _ q 56 _ _ rfl hr Try.underlying56 rfl (by rw [infoF]; rfl)) rfl ⟨_, rfl, OwnB.nil_ _ _, below_rowF E0.out (by rw [Hq.out]; exact Nat.le_refl _) _⟩
set_option maxRecDepth 100000 in
set_option maxHeartbeats 3200000 in
theorem p_fdecode (A : Option Addr) (c cap a : Nat) (l : List Nat) (W : World) (hb : BytesAt W A l) (hc : l.length = c) (hcap : c ≤ cap) (hcap2 : c ≤ 4611686018427387904) (ha : a ≤ c) (k : Nat) (p : List Nat) (n e : Nat) (hr : frD (l.drop a) = (k, p, n, e)) :
    Calls Try.prog 33 #[.slice A c cap, .int .i64 (a : Int)] W (FrmRet k p (if e = 0 then (a : Int) + n else 0) e W) := by
  have E0 := ext_alloc W (.cells #[.int .u8 0, .slice none 0 0] 56)
  have P0 := Blk.new W 56 #[.int .u8 0, .slice none 0 0]
  obtain ⟨w1, hw1⟩ : ∃ w, W.alloc (.cells #[.int .u8 0, .slice none 0 0] 56) = w := ⟨_, rfl⟩
  rw [hw1] at E0 P0
  obtain ⟨q, hq⟩ : ∃ q, W.heap.size = q := ⟨_, rfl⟩
  rw [hq] at P0
  have Hw1 := hide hw1
  have Hq := hide hq
  have P0 := hide P0
  have E0 := hide E0
  have hs := run_from A c a cap ha
  have hsb := hb.drop a cap (by omega)
  obtain ⟨A2, hA2⟩ : ∃ A2, (if cap = a then A else A.map (·.add (a * 1))) = A2 := ⟨_, rfl⟩
  rw [hA2] at hs hsb
  obtain ⟨s, hsd⟩ : ∃ s, l.drop a = s := ⟨_, rfl⟩
  rw [hsd] at hsb hr
  have hsl : s.length = c - a := by rw [← hsd, List.length_drop, hc]
  have n0 : decide ((a : Int) < 0) = false := decide_eq_false (by omega)
  have n1 : decide ((c : Int) < (a : Int)) = false := decide_eq_false (by omega)
  unfold frD at hr
  obtain ⟨hn, he, hh⟩ : ∃ x y, frH s = (x, y) := ⟨_, _, rfl⟩
  rw [hh] at hr
  simp only at hr
  have KP : Hid (∀ w, Ext W w → Calls Try.prog 62 #[.slice A2 (c - a) (cap - a)] w (Ret (.tuple #[.int .i64 (hn : Int), .int .i64 (he : Int)]) w)) := fun w h => p_pay A2 (c - a) (cap - a) s w (hsb.ext h) hsl (by omega) (by omega) hn he hh
  by_cases hz : he = 0
  · rw [if_neg (by simpa using hz)] at hr
    have h9 : 9 ≤ s.length := frH_ok (by rw [hh]; exact hz)
    have hnle : hn ≤ 4194304 := by have := frH_le s; rw [hh] at this; exact this
    have hs2 := run_from A c (a + 9) cap (by omega)
    have hsb2 := hb.drop (a + 9) cap (by omega)
    obtain ⟨A3, hA3⟩ : ∃ A3, (if cap = a + 9 then A else A.map (·.add ((a + 9) * 1))) = A3 := ⟨_, rfl⟩
    rw [hA3] at hs2 hsb2
    have ei : ((a + 9 : Nat) : Int) = (a : Int) + 9 := by omega
    rw [ei] at hs2
    have hd9 : l.drop (a + 9) = s.drop 9 := by rw [← hsd, List.drop_drop]
    rw [hd9] at hsb2
    obtain ⟨x, y, hxy⟩ : ∃ x y, frB (s.drop 9) hn = (x, y) := ⟨_, _, rfl⟩
    rw [hxy] at hr
    simp only at hr
    have KR : Hid (∀ w, Ext W w → Calls Try.prog 63 #[.slice A3 (c - (a + 9)) (cap - (a + 9)), .int .i64 (hn : Int)] w (OwnE x y w)) := fun w h => p_rpay A3 _ _ hn (s.drop 9) w (hsb2.ext h) (by rw [List.length_drop]; omega) (by omega) (by omega) hnle x y hxy
    have q1 : ((he : Int) != 0) = false := by rw [hz]; rfl
    have Hz := hide hz
    by_cases hy : y = 0
    · subst hy
      rw [if_neg (by simp)] at hr
      simp only [Prod.mk.injEq] at hr
      obtain ⟨rfl, rfl, rfl, rfl⟩ := hr
      rw [if_pos rfl]
      have q2 : (((0 : Nat) : Int) != 0) = false := rfl
      have KS : Hid (∀ w, Calls Try.prog 28 #[.int .i64 (hn : Int)] w (Ret (.int .i64 ((hn : Int) + 13)) w)) := fun w => by
        have := p_fsize (hn : Int) w ⟨by omega, by omega⟩
        have e : fsz (hn : Int) = (hn : Int) + 13 := by unfold fsz; rw [if_neg (by omega), if_neg (by omega)]
        rw [e] at this
        exact this.mono fun _ _ q => ⟨q.1, by rw [← q.2]; exact Ext.refl _⟩
      obtain ⟨b, off, rfl, hbw, hcl⟩ := hb.2.2 (by omega)
      have hk0 : l.getD a 0 = s.getD 0 0 := by rw [← hsd]; simp [List.getD_eq_getElem?_getD]
      have D0 := hcl a (by omega)
      rw [hk0] at D0
      obtain ⟨k, hk⟩ : ∃ k, s.getD 0 0 = k := ⟨_, rfl⟩
      rw [hk] at D0 ⊢
      have Hbw := hide hbw
      have D0 := hide D0
      have hix : ∀ w, (Instr.indexAt 22 (.slice (some ⟨b, off, none⟩) c cap) (.int .i64 (a : Int))).run Try.prog w = .ok (.pointer (some ⟨b, off + a, none⟩)) w := fun w => idx8 b off c cap a (by omega) w
      have Hac := hide (show a < c by omega)
      clear hb hc hsb hsb2 hsl hA2 hA3 hsd hh hxy hd9 h9 ei hz hw1 hq hcl hk0 hk hbw
      go_enter Try.func33, Try.ntmps33
      go_upto_region 1 with fail
      rw [Hw1.out, Hq.out]
      go_upto_region 9 with (first
        | (go_at_call 62; (with_reducible refine (KP.out _ E0.out).mono ?_); rintro e w3 ⟨rfl, hE⟩; have P3 := hide (P0.out.ext hE); have E3 := hide (Ext.trans E0.out hE); clear hE)
        | (go_at_call 63; (with_reducible refine (KR.out _ E3.out).mono ?_); rintro e w4 ⟨v, rfl, hO, hE⟩; have P4 := hide (P3.out.ext hE); have hqw := hide P3.out.lt; have hO := hide hO; have hs3 := hide E3.out.size; have E4 := hide (Ext.trans E3.out hE); clear hE))
      obtain ⟨A4, c4, rfl, -, -, -⟩ := hO.out.at_
      have hqW : W.heap.size ≤ q := by rw [Hq.out]; exact Nat.le_refl _
      have hbq : b < q := by have := Hbw.out; rw [Hq.out] at this; exact this
      have D4 : Hid (w4.cell? ⟨b, off + a, none⟩ = some (.int .u8 (k : Int))) := (E4.out.cell (p := ⟨b, off + a, none⟩) Hbw.out).trans D0.out
      have hb4 : b < w4.heap.size := Nat.lt_of_lt_of_le Hbw.out E4.out.size
      have hq4 := P4.out.lt
      have ltW0 : ∀ c, Tag.so c ∈ [Tag.q, .q, .q, .q, .q, .q, .q, .q, .q, .q, .so 0, .q, .q] → (fun _ => q) c < w4.heap.size := by intro c hc; exact hq4
      have ltw5 : ∀ c, Tag.so c ∈ [Tag.q, Tag.q, Tag.q, Tag.q, Tag.q, Tag.q, Tag.q, Tag.q, Tag.q, Tag.q, Tag.so 0, Tag.q, Tag.q] → (fun _ => q) c < w4.heap.size := by intro c hc; simp at hc; (try subst hc); (try simp only); assumption
      refine wp_decl [.q, .q, .q, .q, .q, .q, .q, .q, .q, .q, .so 0, .q, .q] [.slice (some ⟨b, off, none⟩) c cap, .int .i64 (a : Int), .pointer (some ⟨b, off + a, none⟩), .int .u8 (k : Int), .slice A4 x.length c4, .agg #[.int .u8 (k : Int), .slice A4 x.length c4], .int .i64 (a : Int), .int .i64 (hn : Int), .int .i64 ((hn : Int) + 13), .int .i64 ((a : Int) + ((hn : Int) + 13)), undef, .int .i64 ((a : Int) + ((hn : Int) + 13)), .int .i64 0] (fun _ => (.cells #[] 0 (0, 0))) (fun _ => (.cells #[.int .u8 (k : Int), .slice A4 x.length c4] 56 (0, 0))) (fun _ => q) (by kernel_rfl) (by kernel_rfl) (by kernel_rfl) rfl rfl ltw5 (by intro c c' h1 h2 h3; simp at h1 h2; omega) ?_ ?_
      · refine ⟨?_, ?_, ?_, ?_, ?_, ?_, ?_, ?_, ?_, ?_, ?_, ?_, ?_, trivial⟩
        · refine op_q ?uvw50 ?h1w50 ?h2w50 ?h3w50
          case h1w50 => exact rfl
          case uvw50 => exact (.slice (some ⟨b, off, none⟩) c cap)
          case h2w50 => exact rfl
          intro w' hw'
          go_simp
        · refine op_q ?uvw51 ?h1w51 ?h2w51 ?h3w51
          case h1w51 => exact rfl
          case uvw51 => exact (.int .i64 (a : Int))
          case h2w51 => exact rfl
          intro w' hw'
          go_simp
        · refine op_q ?uvw52 ?h1w52 ?h2w52 ?h3w52
          case h1w52 => exact rfl
          case uvw52 => exact (.pointer (some ⟨b, off + a, none⟩))
          case h2w52 => exact rfl
          intro w' hw'
          go_simp
        · refine op_q ?uvw53 ?h1w53 ?h2w53 ?h3w53
          case h1w53 => exact rfl
          case uvw53 => exact (.int .u8 (k : Int))
          case h2w53 => exact rfl
          intro w' hw'
          have D5 : w'.cell? ⟨b, off + a, none⟩ = some (.int .u8 (k : Int)) := (World.cell?_of_block (a := ⟨b, off + a, none⟩) (hw'.2.2.2.2 b hb4 (by intro c hc; simp at hc; (try subst hc); (try simp only); omega))).trans D4.out
          go_simp
        · refine op_q ?uvw54 ?h1w54 ?h2w54 ?h3w54
          case h1w54 => exact rfl
          case uvw54 => exact (.slice A4 x.length c4)
          case h2w54 => exact rfl
          intro w' hw'
          go_simp
        · refine op_q ?uvw55 ?h1w55 ?h2w55 ?h3w55
          case h1w55 => exact rfl
          case uvw55 => exact (.agg #[.int .u8 (k : Int), .slice A4 x.length c4])
          case h2w55 => exact rfl
          intro w' hw'
          go_simp
        · refine op_q ?uvw56 ?h1w56 ?h2w56 ?h3w56
          case h1w56 => exact rfl
          case uvw56 => exact (.int .i64 (a : Int))
          case h2w56 => exact rfl
          intro w' hw'
          go_simp
        · refine op_q ?uvw57 ?h1w57 ?h2w57 ?h3w57
          case h1w57 => exact rfl
          case uvw57 => exact (.int .i64 (hn : Int))
          case h2w57 => exact rfl
          intro w' hw'
          go_simp
        · refine op_q ?uvw58 ?h1w58 ?h2w58 ?h3w58
          case h1w58 => exact rfl
          case uvw58 => exact (.int .i64 ((hn : Int) + 13))
          case h2w58 => exact rfl
          intro w' hw'
          go_simp
          exact KS.out w'
        · refine op_q ?uvw59 ?h1w59 ?h2w59 ?h3w59
          case h1w59 => exact rfl
          case uvw59 => exact (.int .i64 ((a : Int) + ((hn : Int) + 13)))
          case h2w59 => exact rfl
          intro w' hw'
          go_simp
          simp [IntKind.wrap, IntKind.bits, IntKind.signed]; omega
        · refine op_so (c := 0) (T := ?uTw510) (p := ?upw510) (x := ?uxw510) ?ugw510 ?ufw510 ?uvw510 ?h1w510 ?h2w510 ?h3w510 ?h4w510 ?h5w510 ?h6w510 ?h7w510
          case h1w510 => exact rfl
          case h2w510 => exact rfl
          case ufw510 => exact (.cells #[.int .u8 (k : Int), .slice A4 x.length c4] 56 (0, 0))
          case ugw510 => exact q
          case uvw510 => exact (.agg #[.int .u8 (k : Int), .slice A4 x.length c4])
          case h3w510 => exact rfl
          case h4w510 => exact rfl
          case h5w510 => go_simp; rfl
          case h6w510 => go_simp
          intro ρ w' hp hx hz
          exact store_row rfl hp hx (hz.trans P4.out) (by rw [infoF]; rfl) rfl (frm_one _ _ _ _)
        · refine op_q ?uvw511 ?h1w511 ?h2w511 ?h3w511
          case h1w511 => exact rfl
          case uvw511 => exact (.int .i64 ((a : Int) + ((hn : Int) + 13)))
          case h2w511 => exact rfl
          intro w' hw'
          go_simp
        · refine op_q ?uvw512 ?h1w512 ?h2w512 ?h3w512
          case h1w512 => exact rfl
          case uvw512 => exact (.int .i64 0)
          case h2w512 => exact rfl
          intro w' hw'
          go_simp
      · intro G ww5 hI
        have hS := hI.same
        have roww50 : Blk ww5 q 56 #[.int .u8 (k : Int), .slice A4 x.length c4] := hI.olds' 10 (List.mem_range.2 (show 10 < 13 by decide)) 0 rfl
        have E5 : Ext W ww5 := hS.ext' E4.out (by intro c hc; simp at hc; (try subst hc); (try simp only); omega)
        have O5 : OwnB w3.heap.size ww5 (.slice A4 x.length c4) x := OwnB.keep hO.out hS.2.2.2.1 (fun g e => hS.2.2.2.2 g (hO.out.1.lt g e).2 (by have := (hO.out.1.lt g e).1; have := hqw.out; intro c hc; simp at hc; (try subst hc); (try simp only); omega))
        clear hI
        simp only [putAll, slotV, ptrTo, Nat.zero_add, Nat.reduceAdd]
        go_wp2_with fail
        exact bodyPost_ret (res_frm3 (p := 4) (u := 5) (v := 6) (ty := 56) rfl _ _ q 56 _ _ rfl roww50 Try.underlying56 rfl (by rw [infoF]; rfl)) rfl ⟨_, by simp, O5.less hs3.out, E5⟩
    · rw [if_pos (by simpa using hy)] at hr
      simp only [Prod.mk.injEq] at hr
      obtain ⟨rfl, rfl, rfl, rfl⟩ := hr
      have q2 : ((y : Int) != 0) = true := by rw [bne_iff_ne]; omega
      rw [if_neg hy]
      clear hb hc hsb hsb2 hsl hA2 hA3 hsd hh hxy hd9 h9 ei hz hy hw1 hq
      go_enter Try.func33, Try.ntmps33
      go_upto_region 1 with fail
      rw [Hw1.out, Hq.out]
      go_wp2_with (first
        | (go_at_call 62; (with_reducible refine (KP.out _ E0.out).mono ?_); rintro e w3 ⟨rfl, hE⟩; have P3 := hide (P0.out.ext hE); have E3 := hide (Ext.trans E0.out hE); clear hE)
        | (go_at_call 63; (with_reducible refine (KR.out _ E3.out).mono ?_); rintro e w4 ⟨v, rfl, -, hE⟩; have P4 := hide (P3.out.ext hE); have E4 := hide (Ext.trans E3.out hE); clear hE)
        | (refine wpList_store_row rfl 56 (.tmp 4) (.tmp 41) rfl q #[.int .u8 0, .slice none 0 0] rfl rfl 56 #[.int .u8 0, .slice none 0 0] P4.out (by rw [infoF]; rfl) rfl (frm_one _ _ _ _) ?_))
      have hr := P4.out.setRow #[.int .u8 0, .slice none 0 0]
      exact bodyPost_ret (res_frm3 (p := 4) (u := 5) (v := 6) (ty := 56) rfl _ _ q 56 _ _ rfl hr Try.underlying56 rfl (by rw [infoF]; rfl)) rfl ⟨_, rfl, OwnB.nil_ _ _, below_rowF E4.out (by rw [Hq.out]; exact Nat.le_refl _) _⟩
  · rw [if_pos (by simpa using hz)] at hr
    simp only [Prod.mk.injEq] at hr
    obtain ⟨rfl, rfl, rfl, rfl⟩ := hr
    have q1 : ((he : Int) != 0) = true := by rw [bne_iff_ne]; omega
    rw [if_neg hz]
    clear hb hc hsb hsl hA2 hsd hh hz hw1 hq
    go_enter Try.func33, Try.ntmps33
    go_upto_region 1 with fail
    rw [Hw1.out, Hq.out]
    go_wp2_with (first
      | (go_at_call 62; (with_reducible refine (KP.out _ E0.out).mono ?_); rintro e w3 ⟨rfl, hE⟩; have P3 := hide (P0.out.ext hE); have E3 := hide (Ext.trans E0.out hE); clear hE)
      | (refine wpList_store_row rfl 56 (.tmp 4) (.tmp 28) rfl q #[.int .u8 0, .slice none 0 0] rfl rfl 56 #[.int .u8 0, .slice none 0 0] P3.out (by rw [infoF]; rfl) rfl (frm_one _ _ _ _) ?_))
    have hr := P3.out.setRow #[.int .u8 0, .slice none 0 0]
    exact bodyPost_ret (res_frm3 (p := 4) (u := 5) (v := 6) (ty := 56) rfl _ _ q 56 _ _ rfl hr Try.underlying56 rfl (by rw [infoF]; rfl)) rfl ⟨_, rfl, OwnB.nil_ _ _, below_rowF E3.out (by rw [Hq.out]; exact Nat.le_refl _) _⟩
end Go.Proofs.Ytdboaogdanahkaa
