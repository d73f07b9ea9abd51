/- Layer 7: FrameReads. Conditions: the slices read as bytes and numbers. -/
import Derived.Test.YtdboaogdanahkaaFrmH
import Derived.Test.YtdboaogdanahkaaByD
namespace Go.Proofs.Ytdboaogdanahkaa
set_option linter.unusedVariables false
set_option linter.unusedSimpArgs false
open Go Go.RowKit
theorem wl_append8g {ops : Array Oper} {rest : List Oper} {o : Oper} {a : Act} {Q : Exit → Act → World → Prop} {w : World} (hgd : Region.wanted o (yielded ops a.tmps) = true) (s x : Operand)
    (ho : o.op = .call { callee := .builtin .append, args := #[s, x], argTypes := #[22, 22] })
    (B : Nat) (v : Value) (l0 l : List Nat) (hs : a.eval s = v) (hown : OwnB B w v l0) (A : Option Addr) (m c : Nat) (hx : a.eval x = .slice A m c) (hb : BytesAt w A l) (hm : l.length = m) (hlen : l0.length + l.length ≤ 225179981368000) (hbase : B ≤ w.heap.size)
    (h : ∀ v' w', OwnB B w' v' (l0 ++ l) → w.grownBy w' v.ownBlock → OwnB B w' v l0 → wpList Try.prog ops Q rest (a.put o.dst v') w') : wpList Try.prog ops Q (o :: rest) a w :=
  wpList_step fun _ hK => by
    rw [if_pos hgd]
    obtain ⟨v', w', hrun, h2, h3, h4⟩ := run_append8w B w o.type v l0 l hown A m c hb hm hlen hbase
    unfold Oper.wp execOp
    simp only [ho, resolve, invoke, builtin, Sem.run_bind, Sem.run_pure, Result.andThen_ok, List.map_toArray, List.map_cons, List.map_nil, hs, hx, hrun]
    exact hK _ _ (h v' w' h2 h3 h4)
/-- What is kept while the frames are read: the tape, and three slices that the law owns. -/
structure FS (W : World) (B : Nat) (v2 : Value) (x : List Nat) (v4 : Value) (h : List Nat) (v8 : Value) (h' : List Nat) (w : World) : Prop where
  e : Ext W w
  t : TapeOk W.heap.size w W.heap.size
  o2 : OwnB B w v2 x
  o4 : OwnB B w v4 h
  o8 : OwnB B w v8 h'
  gb : W.heap.size < B
  bw : B ≤ w.heap.size
  a24 : ∀ k, v2.ownBlock = some k → v4.ownBlock ≠ some k
  a28 : ∀ k, v2.ownBlock = some k → v8.ownBlock ≠ some k
  a48 : ∀ k, v4.ownBlock = some k → v8.ownBlock ≠ some k
theorem apart_of {u v : Value} (h : ∀ k, u.ownBlock = some k → v.ownBlock ≠ some k) : v.ownBlock = none ∨ v.ownBlock ≠ u.ownBlock := by
  cases hv : v.ownBlock with
  | none => exact Or.inl rfl
  | some k => exact Or.inr fun e => h k e.symm hv
theorem apart_of' {u v : Value} (h : ∀ k, u.ownBlock = some k → v.ownBlock ≠ some k) : u.ownBlock = none ∨ u.ownBlock ≠ v.ownBlock := by
  cases hu : u.ownBlock with
  | none => exact Or.inl rfl
  | some k => exact Or.inr fun e => h k hu e.symm
section
variable {W : World} {B : Nat} {v2 v4 v8 : Value} {x h h' : List Nat} {w w' : World}
theorem FS.ext (s : FS W B v2 x v4 h v8 h' w) (k : Ext w w') : FS W B v2 x v4 h v8 h' w' :=
  ⟨s.e.trans k, s.t.ext k, s.o2.ext k, s.o4.ext k, s.o8.ext k, s.gb, Nat.le_trans s.bw k.size, s.a24, s.a28, s.a48⟩
theorem FS.upd (s : FS W B v2 x v4 h v8 h' w) (u : Upd W.heap.size w w') (t : TapeOk W.heap.size w' W.heap.size) : FS W B v2 x v4 h v8 h' w' :=
  ⟨Upd.ext u s.e (Nat.le_refl _), t, s.o2.upd u s.gb, s.o4.upd u s.gb, s.o8.upd u s.gb, s.gb, Nat.le_trans s.bw u.2.2.2.1, s.a24, s.a28, s.a48⟩
theorem FS.tape {v : Value} {y : List Nat} (s : FS W B v2 x v4 h v8 h' w) (o : OwnB B w v y) (g : w.grownBy w' v.ownBlock) : TapeOk W.heap.size w' W.heap.size :=
  s.t.below (grown_below g (W.heap.size + 1) (Nat.le_trans s.gb s.bw) (fun k hk => Nat.le_trans s.gb (o.1.lt k hk).1))
theorem FS.grow2 (s : FS W B v2 x v4 h v8 h' w) (g : w.grownBy w' v2.ownBlock) (o : OwnB B w' v2 x) : FS W B v2 x v4 h v8 h' w' :=
  ⟨below_grown s.e (Nat.le_of_lt s.gb) s.o2 g, s.tape s.o2 g, o, s.o4.kept g (apart_of s.a24), s.o8.kept g (apart_of s.a28), s.gb, Nat.le_trans s.bw g.size, s.a24, s.a28, s.a48⟩
theorem FS.grow4 (s : FS W B v2 x v4 h v8 h' w) (g : w.grownBy w' v4.ownBlock) (o : OwnB B w' v4 h) : FS W B v2 x v4 h v8 h' w' :=
  ⟨below_grown s.e (Nat.le_of_lt s.gb) s.o4 g, s.tape s.o4 g, s.o2.kept g (apart_of' s.a24), o, s.o8.kept g (apart_of s.a48), s.gb, Nat.le_trans s.bw g.size, s.a24, s.a28, s.a48⟩
theorem FS.grow8 (s : FS W B v2 x v4 h v8 h' w) (g : w.grownBy w' v8.ownBlock) (o : OwnB B w' v8 h') : FS W B v2 x v4 h v8 h' w' :=
  ⟨below_grown s.e (Nat.le_of_lt s.gb) s.o8 g, s.tape s.o8 g, s.o2.kept g (apart_of' s.a28), s.o4.kept g (apart_of' s.a48), o, s.gb, Nat.le_trans s.bw g.size, s.a24, s.a28, s.a48⟩
end
theorem r_head7 (kd n g : Nat) (w : World) (hn : n < 18446744073709551616) (h : BytesAt w (some ⟨g, 0, none⟩) [kd]) : Calls Try.prog 31 #[.slice (some ⟨g, 0, none⟩) 1 1, .int .u64 (n : Int), .int .i64 4] w (OwnL (hd5 kd n) 5 w) :=
  (r_number (some ⟨g, 0, none⟩) 1 1 n 4 [kd] w h rfl (by omega) hn (by omega)).mono fun _ _ q => OwnRet.len (hd5_len _ _) q
theorem frN_len (kd : Nat) (l x : List Nat) (e : Nat) (h : frN kd l = (x, e)) : x.length ≤ 4194317 := by
  unfold frN at h
  split at h
  · cases h; simp
  · cases h; rw [frE_len]; omega
set_option maxRecDepth 100000 in
set_option maxHeartbeats 64000000 in
theorem law_freads (R : Option Addr) (cr capr : Nat) (lr : List Nat) (A : Option Addr) (c cap : Nat) (l : List Nat) (kd : Nat) (at_ : Int) (y : Option Addr) (len cap4 : Nat) (ln : Nat) (W : World)
    (hbr : BytesAt W R lr) (hcr : lr.length = cr) (hcr1 : cr ≤ capr) (hcr2 : capr ≤ 140737488351232) (hb : BytesAt W A l) (hc : l.length = c) (hcap : c ≤ cap) (hcap2 : cap ≤ 140737488351232) (hk : kd < 256) (hat : I64 at_) (hL : IsList W y len cap4) (hln : ln < 4294967296) :
    Calls Try.prog 6 #[.slice R cr capr, .slice A c cap, .int .u8 (kd : Int), .int .i64 at_, .slice y len cap4, .int .u32 (ln : Int)] W (Ret (.bool true) W) := by
  obtain ⟨x, e, hr⟩ : ∃ x e, frN kd l = (x, e) := ⟨_, _, rfl⟩
  have hxl := frN_len kd l x e hr
  have KN : Hid (Calls Try.prog 10 #[.slice y len cap4] W (NewPost W)) := t_new W y len cap4 hL
  have KE : Hid (∀ w, Ext W w → Calls Try.prog 26 #[.int .u8 (kd : Int), .slice A c cap] w (OwnE x e w)) := fun w h => r_fencode kd A c cap l w hk (hb.ext h) hc (by omega) x e hr
  have hln2 : ln < 18446744073709551616 := Nat.lt_trans hln (by decide)
  have K5 := hide (fun w => r_head5 kd ln w hk hln2)
  have K9 := hide (fun n A cap w h => r_head9 kd n A cap w h)
  have K7 := hide (fun n g w h1 h2 => r_head7 kd n g w h1 h2)
  have KX : Hid (∀ w, TapeOk W.heap.size w W.heap.size → Calls Try.prog 19 #[.pointer (some ⟨W.heap.size, 0, none⟩), .int .i64 (2 * (cr : Int) + 3)] w (NextPost W.heap.size W.heap.size (InN (2 * (cr : Int) + 3)) .i64 w)) := fun w h => t_next W.heap.size W.heap.size (2 * (cr : Int) + 3) w ⟨by omega, by omega⟩ h
  have Hr := hide hbr
  have Hcr := hide hcr
  have Hk := hide hk
  have Hat := hide hat
  have hxl := hide hxl
  obtain ⟨p5, hp5⟩ : ∃ p, hd5 kd ln = p := ⟨_, rfl⟩
  have k9 := hide (K9.out ln)
  rw [hp5] at K5 k9
  obtain ⟨p9, hp9⟩ : ∃ p, hd9 kd ln = p := ⟨_, rfl⟩
  rw [hp9] at k9
  clear hr hb hc hbr hcr hk hat hL hp5 hp9
  go_enter Try.func6, Try.ntmps6
  go_upto_region 3 with (first
    | (go_at_call 10; (with_reducible refine (KN.out).mono ?_); rintro en w1 ⟨rfl, hT1, hE1⟩; have hT1 := hide hT1; have hE1 := hide hE1; have ke := hide (KE.out w1 hE1.out))
    | (go_at_call 26; (with_reducible refine (ke.out).mono ?_); rintro en w2 ⟨v2, rfl, hO2, hE2⟩))
  have hTW : W.heap.size < w1.heap.size := by
    obtain ⟨_, hlt, _⟩ := hT1.out
    exact hlt
  obtain ⟨A2, c2, rfl, hle2, -, -⟩ := hO2.at_
  obtain ⟨n2, hn2⟩ : ∃ n, x.length = n := ⟨_, rfl⟩
  rw [hn2] at hle2 ⊢
  have hn2l : n2 ≤ 4194317 := by have := hxl.out; omega
  rw [hn2] at hO2
  have Hn2 := hide hn2
  have hO2 := hide hO2
  have hE2 := hide hE2
  have hB2 := hide (show ∀ k, (Value.slice A2 n2 c2).ownBlock = some k → k < w2.heap.size from fun k hk => (hO2.out.1.lt k hk).2)
  clear hn2 ke KE KN
  have k5 := hide (K5.out w2)
  have E2a : Hid (Ext w2 (w2.alloc (.cells #[.int .u8 (kd : Int)] 5))) := ext_alloc w2 _
  clear K5
  go_upto_region 4 with (first
    | (go_at_call 31; (with_reducible refine (k5.out).mono ?_); rintro en w3 ⟨A3, c3, rfl, -, -, -, -, hb3, hE3⟩; have hE3 := hide (Ext.trans E2a.out hE3); have k9 := hide (k9.out A3 c3 w3 hb3); clear hb3)
    | (go_at_call 30; (with_reducible refine (k9.out).mono ?_); rintro en w4 ⟨A4, c4, rfl, hl4, hle4, -, hO4, -, hE4⟩))
  have hB4 := hide (show ∀ k, (Value.slice A4 9 c4).ownBlock = some k → w2.heap.size ≤ k ∧ k < w4.heap.size from fun k hk => ⟨Nat.le_trans hE3.out.size (hO4.1.lt k hk).1, (hO4.1.lt k hk).2⟩)
  have hO4 := hide (hO4.less (Nat.le_trans hE2.out.size hE3.out.size))
  have hE4 := hide (Ext.trans hE3.out hE4)
  have hl4 := hide hl4
  have E4a : Hid (Ext w4 (w4.alloc (.cells #[.int .u8 (kd : Int)] 5))) := ext_alloc w4 _
  have hT5 := hide (((hT1.out.ext hE2.out).ext hE4.out).ext E4a.out)
  have hone := hide (one_at w4 kd Hk.out _ rfl)
  have hg4 : W.heap.size < w4.heap.size := Nat.lt_of_lt_of_le hTW (Nat.le_trans hE2.out.size hE4.out.size)
  have Hin : Hid (∀ v : Int, InN (2 * (cr : Int) + 3) v → ∃ n : Nat, v = (n : Int) ∧ n < 18446744073709551616) := fun v hv => ⟨v.toNat, by have := hv.1; omega, by have := hv.1; have := hv.2.1 (by omega); omega⟩
  have kx := hide (KX.out _ hT5.out)
  clear hE3 hT1 k5 k9 KX
  go_upto_region 5 with (first
    | (go_at_call 19; (with_reducible refine (kx.out).mono ?_); rintro en w6 ⟨v6, rfl, hv6, hT6, hU6⟩; obtain ⟨n6, rfl, hn6⟩ := Hin.out v6 hv6; have hT6 := hide hT6; have hU6 := hide hU6; have hone6 := hide (hone.out.upd hU6.out (fun g off e => by injection e with e; injection e with e; omega)); have k7 := hide (K7.out n6 _ w6 hn6 hone6.out))
    | (go_at_call 31; (with_reducible refine (k7.out).mono ?_); rintro en w7 ⟨A7, c7, rfl, -, -, -, -, hb7, hE7⟩; have hE7 := hide hE7; have k9 := hide (K9.out n6 A7 c7 w7 hb7); clear hb7)
    | (go_at_call 30; (with_reducible refine (k9.out).mono ?_); rintro en w8 ⟨A8, c8, rfl, hl8, hle8, -, hO8, -, hE8⟩))
  have z12 := hE2.out.size
  have z24 := hE4.out.size
  have z45 := E4a.out.size
  have z56 := hU6.out.2.2.2.1
  have z67 := hE7.out.size
  have z78 := hE8.size
  obtain ⟨p8, hp8⟩ : ∃ p, hd9 kd n6 = p := ⟨_, rfl⟩
  rw [hp8] at hl8 hO8
  have e5 : Ext W (w4.alloc (.cells #[.int .u8 (kd : Int)] 5)) := Ext.trans (Ext.trans (Ext.trans hE1.out hE2.out) hE4.out) E4a.out
  have e8 : Ext W w8 := Ext.trans (Ext.trans (Upd.ext hU6.out e5 (Nat.le_refl _)) hE7.out) hE8
  have S0 : FS W w1.heap.size (.slice A2 n2 c2) x (.slice A4 9 c4) p9 (.slice A8 9 c8) p8 w8 :=
    ⟨e8, (hT6.out.ext hE7.out).ext hE8, ((((hO2.out.ext hE4.out).ext E4a.out).upd hU6.out hTW).ext hE7.out).ext hE8, (((hO4.out.ext E4a.out).upd hU6.out hTW).ext hE7.out).ext hE8, hO8.less (by omega), hTW, by omega,
      fun k h1 h2 => by have := hB2.out k h1; have := (hB4.out k h2).1; omega,
      fun k h1 h2 => by have := hB2.out k h1; have := (hO8.1.lt k h2).1; omega,
      fun k h1 h2 => by have := (hB4.out k h1).2; have := (hO8.1.lt k h2).1; omega⟩
  have S := hide S0
  have Hl8 := hide hl8
  have KK := hide (fun w => l_known7 w)
  have i0 : I64 0 := ⟨by omega, by omega⟩
  have hmx : cr ≤ 4611686018427387904 := by omega
  have S1 := hide (fun w (h : Ext W w) => l_same7 R cr capr lr at_ w (Hr.out.ext h) Hcr.out hcr1 hmx Hat.out)
  have S2 := hide (fun w (h : Ext W w) => l_same7 R cr capr lr 0 w (Hr.out.ext h) Hcr.out hcr1 hmx i0)
  have hmx2 : n2 ≤ 4611686018427387904 := by omega
  have hmx3 : n2 ≤ 140737488355320 := by omega
  have SF := hide (fun w i (s : FS W w1.heap.size (.slice A2 n2 c2) x (.slice A4 9 c4) p9 (.slice A8 9 c8) p8 w) (h : I64 i) => l_same7 A2 n2 c2 x i w (bytes_of_own s.o2 Hn2.out).1 Hn2.out hle2 hmx2 h)
  have SF0 := hide (fun w (s : FS W w1.heap.size (.slice A2 n2 c2) x (.slice A4 9 c4) p9 (.slice A8 9 c8) p8 w) => SF.out w 0 s i0)
  have SP := hide (fun w (s : FS W w1.heap.size (.slice A2 n2 c2) x (.slice A4 9 c4) p9 (.slice A8 9 c8) p8 w) => t_spoiled W.heap.size W.heap.size A2 n2 c2 x w s.t (bytes_of_own s.o2 Hn2.out).1 Hn2.out hmx3)
  have SG := hide (fun A c cap l i w (hb : BytesAt w A l) (hc : l.length = c) (h1 : c ≤ cap) (h2 : c ≤ 4611686018427387904) (h : I64 i) => l_same7 A c cap l i w hb hc h1 h2 h)
  have icr : I64 (cr : Int) := ⟨by omega, by omega⟩
  have inx : I64 ((n2 : Int) + 2) := ⟨by omega, by omega⟩
  have KX2 := hide (fun w (s : FS W w1.heap.size (.slice A2 n2 c2) x (.slice A4 9 c4) p9 (.slice A8 9 c8) p8 w) => t_next W.heap.size W.heap.size ((n2 : Int) + 2) w inx s.t)
  have Hlast : Hid (∀ v : Int, InN ((n2 : Int) + 2) v → I64 (v - 1)) := fun v hv => ⟨by have := hv.1; omega, by have := hv.2.1 (by omega); omega⟩
  have H18 : Hid (([] ++ lr ++ x).length = cr + n2) := by show _ = _; rw [List.nil_append, List.length_append, Hcr.out, Hn2.out]
  have H20 : Hid ((x ++ lr).length = n2 + cr) := by show _ = _; rw [List.length_append, Hcr.out, Hn2.out]
  have H24 : Hid ((p9 ++ lr).length = 9 + cr) := by show _ = _; rw [List.length_append, Hcr.out, hl4.out]
  have H28 : Hid ((p8 ++ lr).length = 9 + cr) := by show _ = _; rw [List.length_append, Hcr.out, Hl8.out]
  have le18 : cr + n2 ≤ 4611686018427387904 := by omega
  have le20 : n2 + cr ≤ 4611686018427387904 := by omega
  have le24 : 9 + cr ≤ 4611686018427387904 := by omega
  have ap1 : ([] : List Nat).length + lr.length ≤ 225179981368000 := by rw [Hcr.out]; simp; omega
  have ap2 : ([] ++ lr : List Nat).length + x.length ≤ 225179981368000 := by rw [List.nil_append, Hcr.out, Hn2.out]; omega
  have ap3 : x.length + lr.length ≤ 225179981368000 := by rw [Hcr.out, Hn2.out]; omega
  have ap4 : p9.length + lr.length ≤ 225179981368000 := by rw [Hcr.out, hl4.out]; omega
  have ap5 : p8.length + lr.length ≤ 225179981368000 := by rw [Hcr.out, Hl8.out]; omega
  clear hO2 hO4 hO8 hE1 hE2 hE4 E4a hU6 hE7 hE8 hT5 hT6 hone hone6 e5 e8 S0 hB2 hB4 z12 z24 z45 z56 z67 z78 hp8 hl8 k9 K9 kx Hin
  go_wp2_with (first
    | (go_at_call 27; (with_reducible refine (KK.out _).mono ?_); rintro en w9 ⟨rfl, hE⟩; have S := hide (S.out.ext hE); clear hE)
    | (go_at_call 32; (with_reducible refine (S1.out _ S.out.e).mono ?_); rintro en w10 ⟨rfl, hE⟩; have S := hide (S.out.ext hE); clear hE)
    | (go_at_call 32; (with_reducible refine (S2.out _ S.out.e).mono ?_); rintro en w11 ⟨rfl, hE⟩; have S := hide (S.out.ext hE); clear hE)
    | (go_at_call 32; (with_reducible refine (SF0.out _ S.out).mono ?_); rintro en w12 ⟨rfl, hE⟩; have S := hide (S.out.ext hE); clear hE)
    | (go_at_call 16; (with_reducible refine (SP.out _ S.out).mono ?_); rintro en w13 ⟨A9, n9, c9, l9, rfl, hl9, hle9, hcm9, hn9, hb9, -, hT9, hU9⟩; have S := hide (S.out.upd hU9 hT9); have s9 := hide (SG.out A9 n9 c9 l9 0 w13 hb9 hl9 hle9 (by omega) i0); clear hb9 hT9 hU9)
    | (go_at_call 32; (with_reducible refine (s9.out).mono ?_); rintro en w14 ⟨rfl, hE⟩; have S14 := hide (S.out.ext hE); have E15 : Hid (Ext w14 (w14.alloc (.cells #[] 5))) := ext_alloc w14 _; have O15 := hide (own_of (B := w14.heap.size) (w := w14.alloc (.cells #[] 5)) (g := w14.heap.size) (n := 0) (cap := 0) (l := []) (m := []) (Nat.le_refl _) (heap_alloc_new w14 _) rfl rfl (by omega) IsB.nil); have hr15 := hide ((Hr.out.ext S14.out.e).ext E15.out); have hs15 := hide E15.out.size; clear hE)
    | (at_builtin; refine wl_append8g (by kernel_rfl) (.tmp 64) (.tmp 65) rfl w14.heap.size (.slice (some ⟨w14.heap.size, 0, none⟩) 0 0) [] lr rfl O15.out R cr capr rfl hr15.out Hcr.out ap1 hs15.out ?_; intro v16 w16 hO16 hG16 _; have E16 := hide (below_grown E15.out (Nat.le_refl _) O15.out hG16); have S16 := hide (S14.out.ext E16.out); have hO16 := hide hO16; have hf16 := hide (bytes_of_own S16.out.o2 Hn2.out).1; have hs16 := hide E16.out.size; clear hG16)
    | (at_builtin; refine wl_append8g (by kernel_rfl) (.tmp 66) (.tmp 67) rfl w14.heap.size v16 ([] ++ lr) x rfl hO16.out A2 n2 c2 rfl hf16.out Hn2.out ap2 hs16.out ?_; intro v18 w18 hO18 hG18 _; have E18 := hide (below_grown E16.out (Nat.le_refl _) hO16.out hG18); have S18 := hide (S14.out.ext E18.out); obtain ⟨A18, c18, rfl, hle18, -, hb18⟩ := hO18.at_; rw [H18.out] at hle18 ⊢; have s18 := hide (SG.out A18 (cr + n2) c18 _ (cr : Int) w18 hb18 H18.out hle18 le18 icr); clear hG18 hO18 hb18)
    | (go_at_call 32; (with_reducible refine (s18.out).mono ?_); rintro en w19 ⟨rfl, hE⟩; have S19 := hide (S18.out.ext hE); have hr19 := hide (Hr.out.ext S19.out.e); have hs19 := hide S19.out.bw; clear hE)
    | (at_builtin; refine wl_append8g (by kernel_rfl) (.tmp 74) (.tmp 75) rfl w1.heap.size (.slice A2 n2 c2) x lr rfl S19.out.o2 R cr capr rfl hr19.out Hcr.out ap3 hs19.out ?_; intro v20 w20 hO20 hG20 hP20; have S20 := hide (S19.out.grow2 hG20 hP20); obtain ⟨A20, c20, rfl, hle20, -, hb20⟩ := hO20.at_; rw [H20.out] at hle20 ⊢; have s20 := hide (SG.out A20 (n2 + cr) c20 _ 0 w20 hb20 H20.out hle20 le20 i0); clear hG20 hO20 hP20 hb20)
    | (go_at_call 32; (with_reducible refine (s20.out).mono ?_); rintro en w21 ⟨rfl, hE⟩; have S21 := hide (S20.out.ext hE); have hr21 := hide (Hr.out.ext S21.out.e); have hs21 := hide S21.out.bw; clear hE)
    | (at_builtin; refine wl_append8g (by kernel_rfl) (.tmp 80) (.tmp 81) rfl w1.heap.size (.slice A4 9 c4) p9 lr rfl S21.out.o4 R cr capr rfl hr21.out Hcr.out ap4 hs21.out ?_; intro v24 w24 hO24 hG24 hP24; have S24 := hide (S21.out.grow4 hG24 hP24); obtain ⟨A24, c24, rfl, hle24, -, hb24⟩ := hO24.at_; rw [H24.out] at hle24 ⊢; have s24 := hide (SG.out A24 (9 + cr) c24 _ 0 w24 hb24 H24.out hle24 le24 i0); clear hG24 hO24 hP24 hb24)
    | (go_at_call 32; (with_reducible refine (s24.out).mono ?_); rintro en w25 ⟨rfl, hE⟩; have S25 := hide (S24.out.ext hE); have hr25 := hide (Hr.out.ext S25.out.e); have hs25 := hide S25.out.bw; clear hE)
    | (at_builtin; refine wl_append8g (by kernel_rfl) (.tmp 86) (.tmp 87) rfl w1.heap.size (.slice A8 9 c8) p8 lr rfl S25.out.o8 R cr capr rfl hr25.out Hcr.out ap5 hs25.out ?_; intro v28 w28 hO28 hG28 hP28; have S28 := hide (S25.out.grow8 hG28 hP28); obtain ⟨A28, c28, rfl, hle28, -, hb28⟩ := hO28.at_; rw [H28.out] at hle28 ⊢; have s28 := hide (SG.out A28 (9 + cr) c28 _ 0 w28 hb28 H28.out hle28 le24 i0); clear hG28 hO28 hP28 hb28)
    | (go_at_call 32; (with_reducible refine (s28.out).mono ?_); rintro en w29 ⟨rfl, hE⟩; have S29 := hide (S28.out.ext hE); clear hE)
    | (go_at_call 19; (with_reducible refine (KX2.out _ S29.out).mono ?_); rintro en w30 ⟨v30, rfl, hv30, hT30, hU30⟩; have S30 := hide (S29.out.upd hU30 hT30); have s30 := hide (SF.out w30 (v30 - 1) S30.out (Hlast.out v30 hv30)); have b30 := hv30.1; have b30' := hv30.2.1 (by omega); clear hT30 hU30)
    | (go_at_call 32; (with_reducible refine (s30.out).mono ?_); rintro en w31 ⟨rfl, hE⟩; have S31 := hide (S30.out.ext hE); clear hE))
  go_ret
  exact ⟨rfl, S31.out.e⟩
end Go.Proofs.Ytdboaogdanahkaa
