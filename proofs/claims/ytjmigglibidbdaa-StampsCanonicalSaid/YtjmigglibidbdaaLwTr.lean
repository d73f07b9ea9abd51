/- Layer 10: StampsReads. Conditions: the slices read as bytes and numbers. -/
import Derived.Test.YtjmigglibidbdaaTms3
import Derived.Test.YtjmigglibidbdaaLwNr
namespace Go.Proofs.Ytjmigglibidbdaa
set_option linter.unusedVariables false
set_option linter.unusedSimpArgs false
open Go Go.RowKit
/-- What is kept while lists are read: the tape and its list, and a slice of bytes that the law owns. -/
structure Nt (W : World) (B : Nat) (A : Option Addr) (n cap : Nat) (m : List Int) (Ab : Option Addr) (z cb : Nat) (F : List Nat) (w : World) : Prop where
  s : Bt W B A n cap m w
  b : OwnB B w (.slice Ab z cb) F
  bw : B ≤ w.heap.size
section
variable {W : World} {B : Nat} {A : Option Addr} {n cap : Nat} {m : List Int} {Ab : Option Addr} {z cb : Nat} {F : List Nat} {w w' : World}
theorem Nt.ext (s : Nt W B A n cap m Ab z cb F w) (k : Ext w w') : Nt W B A n cap m Ab z cb F w' := ⟨s.s.ext k, s.b.ext k, Nat.le_trans s.bw k.size⟩
theorem Nt.upd (s : Nt W B A n cap m Ab z cb F w) (u : Upd W.heap.size w w') (t : TapeOk W.heap.size w' W.heap.size) : Nt W B A n cap m Ab z cb F w' :=
  ⟨s.s.upd u t, s.b.upd u s.s.gb, Nat.le_trans s.bw u.2.2.2.1⟩
end
set_option maxRecDepth 100000 in
set_option maxHeartbeats 64000000 in
theorem law_treads (R : Option Addr) (cr capr : Nat) (lr : List Nat) (at_ fi nn : Int) (y : Option Addr) (len cap4 : Nat) (W : World)
    (hbr : BytesAt W R lr) (hcr : lr.length = cr) (hcr1 : cr ≤ capr) (hcr2 : capr ≤ 140737488351232) (hat : I64 at_) (hfi : I64 fi) (hnn : I64 nn) (hL : IsList W y len cap4) :
    Calls Try.prog 4 #[.slice R cr capr, .int .i64 at_, .int .i64 fi, .int .i64 nn, .slice y len cap4] W (Ret (.bool true) W) := by
  have KN : Hid (Calls Try.prog 8 #[.slice y len cap4] W (NewPost W)) := t_new W y len cap4 hL
  have KL : Hid (∀ w, TapeOk W.heap.size w W.heap.size → Calls Try.prog 9 #[.pointer (some ⟨W.heap.size, 0, none⟩), .int .i64 20] w (TimesPost 20 W.heap.size W.heap.size w)) := hide (fun w h => t_times 20 W.heap.size W.heap.size (by omega) w h)
  have KK := hide (fun w => l_known10 w)
  have i12 : I64 12 := ⟨by omega, by omega⟩
  have i200 : I64 200 := ⟨by omega, by omega⟩
  have i0 : I64 0 := ⟨by omega, by omega⟩
  have KM := hide (fun w => t_modI nn 12 w hnn i12)
  have KX : Hid (∀ w, TapeOk W.heap.size w W.heap.size → Calls Try.prog 10 #[.pointer (some ⟨W.heap.size, 0, none⟩), .int .i64 200] w (NextPost W.heap.size W.heap.size (InN 200) .i64 w)) := hide (fun w h => t_next W.heap.size W.heap.size 200 w i200 h)
  have KI : Hid (∀ w, TapeOk W.heap.size w W.heap.size → Calls Try.prog 20 #[.pointer (some ⟨W.heap.size, 0, none⟩)] w (NextPost W.heap.size W.heap.size I64 .i64 w)) := hide (fun w h => t_int W.heap.size W.heap.size w w h (Upd.refl _ _))
  have Hr := hide hbr
  have Hcr := hide hcr
  have KA : Hid (∀ w, Ext W w → Calls Try.prog 18 #[.slice R cr capr, .int .i64 at_, .int .i64 fi, .int .i64 nn] w (Ret (.bool true) w)) := hide (fun w h => l_reads10 R cr capr lr at_ fi nn w (hbr.ext h) hcr hcr1 (by omega) hat hfi hnn)
  have KB : Hid (∀ x : Int, I64 x → ∀ w, Ext W w → Calls Try.prog 18 #[.slice R cr capr, .int .i64 0, .int .i64 fi, .int .i64 x] w (Ret (.bool true) w)) := hide (fun x hx w h => l_reads10 R cr capr lr 0 fi x w (hbr.ext h) hcr hcr1 (by omega) i0 hfi hx)
  have KR : Hid (∀ (A : Option Addr) (c cap : Nat) (b : List Nat) (f x : Int) (w : World), BytesAt w A b → b.length = c → c ≤ cap → c ≤ 4611686018427387904 → I64 f → I64 x → Calls Try.prog 18 #[.slice A c cap, .int .i64 0, .int .i64 f, .int .i64 x] w (Ret (.bool true) w)) := hide (fun A c cap b f x w hb hc h1 h2 hf hx => l_reads10 A c cap b 0 f x w hb hc h1 h2 i0 hf hx)
  have Hfi := hide hfi
  clear hL hbr hcr hfi
  go_enter Try.func4, Try.ntmps4
  go_upto_region 3 with (first
    | (go_at_call 8; (with_reducible refine (KN.out).mono ?_); rintro e w1 ⟨rfl, hT, hE⟩; have T1 := hide hT; have E1 := hide hE; have kl := hide (KL.out w1 hT); clear hT hE)
    | (go_at_call 9; (with_reducible refine (kl.out).mono ?_); rintro e w2 ⟨Am, n, cap, m, rfl, hn, hn20, hncap, hncap2, hinc, hO, hT2, hU2⟩; have hB2 : w1.heap.size ≤ w2.heap.size := hU2.2.2.2.1; have S2 := hide (Bt.of E1.out T1.out hO hT2 hU2); clear hO hT2 hU2 hncap hncap2))
  obtain ⟨B, hB⟩ : ∃ B, w1.heap.size = B := ⟨_, rfl⟩
  rw [hB] at S2 hB2
  have hq := S2.out.o.2
  have hln : m.length ≤ 65536 := by omega
  have hcl := codL_len m
  have hcq := codL_q hq
  have hsz := enN_len hcq (by omega)
  have hV := encV_le hcq
  rw [← enT_of hln hinc] at hsz
  obtain ⟨F, hF⟩ : ∃ F, (enT m).1 = F := ⟨_, rfl⟩
  rw [hF] at hsz
  obtain ⟨z, hz⟩ : ∃ z, F.length = z := ⟨_, rfl⟩
  rw [hz] at hsz
  have hz2 : z ≤ 1000 := by omega
  obtain ⟨ze, hze⟩ : ∃ ze, (enT m).2 = ze := ⟨_, rfl⟩
  have KE : Hid (Calls Try.prog 12 #[.slice Am n cap] w2 fun e w' => ∃ Ab cb, e = .returned (.tuple #[.slice Ab z cb, .int .i64 (ze : Int)]) ∧ z ≤ cb ∧ cb ≤ 9223372036854775807 ∧ OwnB B w' (.slice Ab z cb) F ∧ Ext w2 w') := hide ((r_encT Am n cap m w2 S2.out.times hn).mono fun e w' h => by
    obtain ⟨Ab, cb, rfl, h1, h2, ho, _, hE⟩ := h.parts
    simp only [hF, hz] at h1 ho
    exact ⟨Ab, cb, by rw [hF, hz, hze], h1, h2, ho.less hB2, hE⟩)
  have HF := hide hz
  obtain ⟨sz, hsz1⟩ : ∃ sz : Nat, max (n : Int) 1 = (sz : Int) := ⟨max n 1, by omega⟩
  have isz : I64 (sz : Int) := ⟨by omega, by omega⟩
  clear hB KN KL kl T1 E1 hn hq hln hsz hF hz hV hze hcl hcq hinc
  go_upto_region 4 with (go_at_call 12; (with_reducible refine (KE.out).mono ?_); rintro e w3 ⟨Ab, cb, rfl, hzb, hzb2, hO3, hE3⟩; have S3 := hide (show Nt W B Am n cap m Ab z cb F w3 from ⟨S2.out.ext hE3, hO3, Nat.le_trans hB2 hE3.size⟩); clear hE3 hO3)
  have gb := S3.out.s.gb
  clear KE S2
  go_upto_region 6 with (go_at_call 17; (with_reducible refine (KM.out _).mono ?_); rintro e w4 ⟨mm, rfl, hmm, rfl⟩; have m0 := hmm.1; have m1 := hmm.2.1 (by omega); have imm : I64 ((1 : Int) + mm) := ⟨by omega, by omega⟩; clear hmm)
  clear hsz1
  have H4b : Hid (([0] ++ lr).length = 1 + cr) := hide (by rw [List.length_append, Hcr.out]; rfl)
  have H4c : Hid ((F ++ lr).length = z + cr) := hide (by rw [List.length_append, HF.out, Hcr.out])
  have L4b : ([0] : List Nat).length + lr.length ≤ 225179981368000 := by rw [Hcr.out]; simp; omega
  have L4c : F.length + lr.length ≤ 225179981368000 := by rw [HF.out, Hcr.out]; omega
  go_wp2_with (first
    | (go_at_call 16; (with_reducible refine (KK.out _).mono ?_); rintro e w9 ⟨rfl, hE9⟩; have S9 := hide (S3.out.ext hE9); have k9 := hide (KA.out w9 S9.out.s.e); clear hE9)
    | (go_at_call 18; (with_reducible refine (k9.out).mono ?_); rintro e w10 ⟨rfl, hE10⟩; have S10 := hide (S9.out.ext hE10); clear hE10; have k10 := hide (KB.out _ imm w10 S10.out.s.e))
    | (go_at_call 18; (with_reducible refine (k10.out).mono ?_); rintro e w11 ⟨rfl, hE11⟩; have S11 := hide (S10.out.ext hE11); clear hE11; have e11 := ext_alloc w11 (.cells #[.int .u8 0] 5); have r11 := hide ((Hr.out.ext S11.out.s.e).ext e11); have K11 := hide (own_lit w11 [0] (IsB.one (by omega)) (by simp) #[.int .u8 0] rfl (n := 1) rfl); have hs11 := e11.size; clear e11)
    | (at_builtin; refine wl_append8q (by kernel_rfl) (.tmp 47) (.tmp 48) rfl w11.heap.size _ [0] lr rfl K11.out R cr capr rfl r11.out Hcr.out L4b hs11 ?_; intro v12 w12 hO12 hG12 hA12; have hx12 := ext_lit (ext_alloc w11 _) K11.out hG12; have S12 := hide (S11.out.ext hx12); obtain ⟨A12, c12, rfl, hle12, -, hb12⟩ := hO12.at_; rw [H4b.out] at hle12 ⊢; have k12 := hide (KR.out A12 (1 + cr) c12 _ fi _ w12 hb12 H4b.out hle12 (by omega) Hfi.out imm); clear hO12 hG12 hA12 hx12 hb12)
    | (go_at_call 18; (with_reducible refine (k12.out).mono ?_); rintro e w13 ⟨rfl, hE13⟩; have S13 := hide (S12.out.ext hE13); clear hE13; have k13 := hide (KR.out Ab z cb F fi _ w13 (bytes_of_own S13.out.b HF.out).1 HF.out hzb (by omega) Hfi.out isz))
    | (go_at_call 18; (with_reducible refine (k13.out).mono ?_); rintro e w14 ⟨rfl, hE14⟩; have S14 := hide (S13.out.ext hE14); clear hE14; have k14 := hide (KX.out w14 S14.out.s.t))
    | (go_at_call 10; (with_reducible refine (k14.out).mono ?_); rintro e w15 ⟨z15, rfl, hz15, hT15, hU15⟩; have z15a := hz15.1; have z15b := hz15.2.1 (by omega); have i15 : I64 ((9223372036854775807 : Int) - z15) := ⟨by omega, by omega⟩; have S15 := hide (S14.out.upd hU15 hT15); have k15 := hide (KR.out Ab z cb F _ _ w15 (bytes_of_own S15.out.b HF.out).1 HF.out hzb (by omega) i15 isz); clear hz15 hT15 hU15)
    | (go_at_call 18; (with_reducible refine (k15.out).mono ?_); rintro e w16 ⟨rfl, hE16⟩; have S16 := hide (S15.out.ext hE16); clear hE16; have hg16 : W.heap.size < w16.heap.size := (Nat.lt_of_lt_of_le gb S16.out.bw); have k16 := hide (t_spoiled W.heap.size W.heap.size Ab z cb F w16 S16.out.s.t (bytes_of_own S16.out.b HF.out).1 HF.out (by omega)))
    | (go_at_call 19; (with_reducible refine (k16.out).mono ?_); rintro e w17 ⟨As, ns, caps, ls, rfl, hls, hns1, hns3, hns2, hbs, hnew, hT17, hU17⟩; have S17 := hide (S16.out.upd hU17 hT17); have Hls := hide hls; have bs17 := hide hbs; have hne := hide (show ∀ g off, As = some ⟨g, off, none⟩ → g ≠ W.heap.size from fun g off h => by have := hnew g off h; omega); have k17 := hide (KI.out w17 hT17); clear hls hbs hnew hT17 hU17)
    | (go_at_call 20; (with_reducible refine (k17.out).mono ?_); rintro e w18 ⟨v18, rfl, i18, hT18, hU18⟩; have S18 := hide (S17.out.upd hU18 hT18); have k18 := hide (KR.out As ns caps ls v18 _ w18 (bs17.out.upd hU18 hne.out) Hls.out hns1 (by omega) i18 isz); clear hT18 hU18)
    | (go_at_call 18; (with_reducible refine (k18.out).mono ?_); rintro e w20 ⟨rfl, hE20⟩; have S20 := hide (S18.out.ext hE20); clear hE20; have r20 := hide (Hr.out.ext S20.out.s.e); have hs20 := S20.out.bw)
    | (at_builtin; refine wl_append8q (by kernel_rfl) (.tmp 78) (.tmp 79) rfl B _ F lr rfl S20.out.b R cr capr rfl r20.out Hcr.out L4c hs20 ?_; intro v21 w21 hO21 hG21 hA21; have E21 := hide (below_grown S20.out.s.e (Nat.le_of_lt gb) S20.out.b hG21); obtain ⟨A21, c21, rfl, hle21, -, hb21⟩ := hO21.at_; rw [H4c.out] at hle21 ⊢; have k21 := hide (KR.out A21 (z + cr) c21 _ fi _ w21 hb21 H4c.out hle21 (by omega) Hfi.out isz); clear hO21 hG21 hA21 hb21)
    | (go_at_call 18; (with_reducible refine (k21.out).mono ?_); rintro e w23 ⟨rfl, hE23⟩; have E23 := hide (Ext.trans E21.out hE23); clear hE23))
  go_ret
  exact ⟨rfl, E23.out⟩
end Go.Proofs.Ytjmigglibidbdaa
