/- Layer 9: NumbersReads. Conditions: the slices read as bytes and numbers. -/
import Derived.Test.YtjmigglibidbdaaNmL
import Derived.Test.YtjmigglibidbdaaBpk2
import Derived.Test.YtjmigglibidbdaaByD
namespace Go.Proofs.Ytjmigglibidbdaa
set_option linter.unusedVariables false
set_option linter.unusedSimpArgs false
open Go Go.RowKit
theorem wl_append8q {ops : Array Oper} {rest : List Oper} {o : Oper} {a : Act} {Q : Exit → Act → World → Prop} {w : World} (hgd : Region.wanted o (yielded ops a.tmps) = true) (s x : Operand)
    (ho : o.op = .call { callee := .builtin .append, args := #[s, x], argTypes := #[29, 29] })
    (B : Nat) (v : Value) (l0 l : List Nat) (hs : a.eval s = v) (hown : OwnB B w v l0) (A : Option Addr) (m c : Nat) (hx : a.eval x = .slice A m c) (hb : BytesAt w A l) (hm : l.length = m) (hlen : l0.length + l.length ≤ 225179981368000) (hbase : B ≤ w.heap.size)
    (h : ∀ v' w', OwnB B w' v' (l0 ++ l) → w.grownBy w' v.ownBlock → OwnB B w' v l0 → wpList Try.prog ops Q rest (a.put o.dst v') w') : wpList Try.prog ops Q (o :: rest) a w :=
  wpList_step fun _ hK => by
    rw [if_pos hgd]
    obtain ⟨v', w', hrun, h2, h3, h4⟩ := run_append8w B w o.type v l0 l hown A m c hb hm hlen hbase
    unfold Oper.wp execOp
    simp only [ho, resolve, invoke, builtin, Sem.run_bind, Sem.run_pure, Result.andThen_ok, List.map_toArray, List.map_cons, List.map_nil, hs, hx, hrun]
    exact hK _ _ (h v' w' h2 h3 h4)
/-- A number's conversion that is guarded. -/
theorem wl_convq {ops : Array Oper} {rest : List Oper} {o : Oper} {a : Act} {Q : Exit → Act → World → Prop} {w : World} (hgd : Region.wanted o (yielded ops a.tmps) = true) (t1 t2 : TypeId) (x : Operand) (ho : o.op = .convert t1 t2 x) (v v' : Value) (hx : a.eval x = v) (hr : (convert t1 t2 v).run Try.prog w = .ok v' w)
    (h : wpList Try.prog ops Q rest (a.put o.dst v') w) : wpList Try.prog ops Q (o :: rest) a w :=
  wpList_step fun _ hK => by
    rw [if_pos hgd]
    unfold Oper.wp execOp
    simp only [ho, Sem.run_bind, Sem.run_pure, Result.andThen_ok, hx, hr]
    exact hK _ _ h
/-- What is kept while lists are read: the tape and its list, and three slices of bytes that the law owns. -/
structure Nr (W : World) (B : Nat) (A : Option Addr) (n cap : Nat) (m : List Nat) (Ab : Option Addr) (z cb : Nat) (F : List Nat) (A3 : Option Addr) (n3 c3 : Nat) (l3 : List Nat) (A4 : Option Addr) (n4 c4 : Nat) (l4 : List Nat) (w : World) : Prop where
  s : Bs W B A n cap m w
  b : OwnB B w (.slice Ab z cb) F
  p : OwnB B w (.slice A3 n3 c3) l3
  k : OwnB B w (.slice A4 n4 c4) l4
  bw : B ≤ w.heap.size
section
variable {W : World} {B : Nat} {A : Option Addr} {n cap : Nat} {m : List Nat} {Ab : Option Addr} {z cb : Nat} {F : List Nat} {A3 : Option Addr} {n3 c3 : Nat} {l3 : List Nat} {A4 : Option Addr} {n4 c4 : Nat} {l4 : List Nat} {w w' : World}
theorem Nr.ext (s : Nr W B A n cap m Ab z cb F A3 n3 c3 l3 A4 n4 c4 l4 w) (k : Ext w w') : Nr W B A n cap m Ab z cb F A3 n3 c3 l3 A4 n4 c4 l4 w' := ⟨s.s.ext k, s.b.ext k, s.p.ext k, s.k.ext k, Nat.le_trans s.bw k.size⟩
theorem Nr.upd (s : Nr W B A n cap m Ab z cb F A3 n3 c3 l3 A4 n4 c4 l4 w) (u : Upd W.heap.size w w') (t : TapeOk W.heap.size w' W.heap.size) : Nr W B A n cap m Ab z cb F A3 n3 c3 l3 A4 n4 c4 l4 w' :=
  ⟨s.s.upd u t, s.b.upd u s.s.gb, s.p.upd u s.s.gb, s.k.upd u s.s.gb, Nat.le_trans s.bw u.2.2.2.1⟩
/-- Bytes appended to a slice that was just made: new memory alone. -/
theorem ext_lit {w w5 w6 : World} {v : Value} {x : List Nat} (e : Ext w w5) (o : OwnB w.heap.size w5 v x) (g : w5.grownBy w6 v.ownBlock) : Ext w w6 := below_grown e (Nat.le_refl _) o g
end
theorem own_lit (w : World) (l : List Nat) (hl : IsB l) (hm : l.length ≤ 1048576) (cs : Array Value) (hc : cs = (u8s l).toArray) {n : Nat} (hn : l.length = n) : OwnB w.heap.size (w.alloc (.cells cs 5)) (.slice (some ⟨w.heap.size, 0, none⟩) n n) l := own_new8 w l hl hm cs hc (Nat.le_refl _) hn
end Go.Proofs.Ytjmigglibidbdaa
