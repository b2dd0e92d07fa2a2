import PyProof.Rows.All
import Wide.All
import OpenK.AllK
import Wide.FinOn
import PyProof.ZipIter
import HandS.Base
import HandS.Call
import HandS.List
import HandS.Comp
import HandS.Iter
import HandS.Exc
import HandS.Hot
import HandS.HotCalls
import KE.KTurns
import HandS.Words
import HandS.ExcOwn
import HandS.ExcCtx
import HandS.ExcInit
import HandS.ExcIs
import HandS.ExcField
import KE.KExcIs
import HandS.Text
import HandS.Lambda
import HandS.CallSlots
import PyProof.MaxThree
import HandS.Ends
import HandS.Wide
import HandS.Codes
import HandS.Strs
import HandS.ForMost
import HandS.IsInst
import HandS.Zip
import KE.KNestM
import HandS.EndOwn
import KE.KDictZip
import HandS.Star
import HandS.Conv
import KE.GoesMore
import KE.GoesEnum
import KE.KDflt
import HandS.TupLe
import PySem.Challenge.RW_onepurse_k21_steady_tables_raised
set_option Elab.async false
set_option linter.all false
set_option maxRecDepth 100000
set_option maxHeartbeats 2000000
/-! while an exception is handled: the ends of walks -/
namespace Onp
open PySem PySem.Spec PyProof.Rows L2 HotX L2H
section
variable {prog : Program} {w : World} {A : Around} {E : Value → Shared → Prop} {s : Shared}
/-- a StopIteration raised while x1 is handled -/
theorem stopHot {α : Type} {x1 : Addr} {Q : α → Shared → Prop} (hot : HotAt A x1 s.heap)
    (hE : ∀ h' e, (∀ b o, s.heap.get? b = some o → h'.get? b = some o) → (∃ o, h'.get? e = some o ∧ o.cls = .type "StopIteration") → E (.ref e) { s with heap := h' }) :
    wpAny (model prog w) A ((newExc (.type "StopIteration") [] >>= fun v => raiseNew v) : Sem α) Q E s := by
  obtain ⟨hh, o1, vs1, g1, g2, g3⟩ := hot
  refine wpAny_bind ?_
  simp only [newExc, newTuple]
  refine wpAny_bind (wpAny_newObj_type (wpAny_bind (m := firstArgMember _ _) (wpAny_of_eq (a := Value.none) (by first | rfl | (simp only [firstArgMember]; rfl)) (wpAny_newObj_type ?_ (by size_fits)))) (by size_fits))
  have k1 : (s.heap.push { cls := .type "tuple", data := .seq #[] }).get? x1 = some o1 := Heap.get?_push_of_some _ g1
  refine raiseNew_hot (x1 := x1) ⟨hh, o1, vs1, Heap.get?_push_of_some _ k1, g2, g3⟩ (Nat.ne_of_lt (Heap.lt_size k1)) (Heap.get?_push_size _ rfl) rfl (by first | (simp; done) | (simp; omega)) ?_
  refine hE _ _ (fun b o e => ?_) ⟨_, Heap.get?_update_self _ (Heap.get?_push_size _ rfl) rfl, rfl⟩
  have k2 : (s.heap.push { cls := .type "tuple", data := .seq #[] }).get? b = some o := Heap.get?_push_of_some _ e
  rw [Heap.get?_update_other _ _ (Nat.ne_of_gt (Heap.lt_size k2))]
  exact Heap.get?_push_of_some _ k2
theorem hot_but {x1 a : Addr} {h h' : Heap} (t : HotAt A x1 h) (n : x1 ≠ a) (k : ∀ b o, b ≠ a → h.get? b = some o → h'.get? b = some o) : HotAt A x1 h' := by
  obtain ⟨hh, o1, vs1, g1, g2, g3⟩ := t
  exact ⟨hh, o1, vs1, k _ _ n g1, g2, g3⟩
/-- the end of a list, asked by nextOf -/
theorem listEndHot {x1 it l : Addr} {i : Nat} {items : Array Value} {Q : Value → Shared → Prop} (hot : HotAt A x1 s.heap) (nx : x1 ≠ it) (hit : s.heap.IsListIter it l i) (hl : s.heap.IsList l items) (hx : items[i]? = none)
    (hE : ∀ h' e, Heap.ExtBut it s.heap h' → (∃ o, h'.get? e = some o ∧ o.cls = .type "StopIteration") → E (.ref e) { s with heap := h' }) : wpAny (model prog w) A (Builtin.SmallTypes.nextOf (.ref it)) Q E s := by
  obtain ⟨ob, g1, g2, g3⟩ := id hit
  obtain ⟨lb, k1, _, kn, k3⟩ := hl
  unfold Builtin.SmallTypes.nextOf
  refine wpAny_bind (wpAny_callSpecial?_slot (name := Str.ofString "__next__") hit.typeIs slot_listiter_next (wpAny_call_entry slot_listiter_next hit.typeIs entry_listiter_next ?_ (args_listiter_next _)))
  show wpAny _ _ (field (.ref it) 0 >>= _) _ _ s
  refine wpAny_bind (wpAny_field g1 g3 (x := .ref l) rfl ?_)
  show wpAny _ _ (if (Value.ref l == Value.none) = true then _ else _) _ _ s
  rw [if_neg (by exact Bool.false_ne_true : ¬ ((Value.ref l == Value.none) = true))]
  show wpAny _ _ (field (.ref it) 1 >>= _) _ _ s
  refine wpAny_bind (wpAny_field g1 g3 (x := .int i 0) rfl ?_)
  show wpAny _ _ (seqItems? (.ref l) >>= _) _ _ s
  refine wpAny_bind (wpAny_seqItems k1 k3 ?_)
  simp only [hx, Int.toNat_natCast]
  refine wpAny_bind (wpAny_rule (wpAny_bind (wpAny_setField g1 g3 (by simp) ?_)))
  have sb : Heap.SameBut it s.heap (s.heap.update it (Obj.mapFields (·.setIfInBounds 0 Value.none))) := Heap.SameBut.update ..
  refine stopHot (x1 := x1) (hot_but (A := A.in1) hot nx fun b o n e => sb.extBut b o n e) fun h' e k he => hE h' e (fun b o n q => k b o (sb.extBut b o n q)) he
/-- the end of a tuple -/
theorem tupEndHot {x1 it t : Addr} {i : Nat} {items : Array Value} {Q : Option Value → Shared → Prop} (hot : HotAt A x1 s.heap) (nx : x1 ≠ it) (hit : IsTupIter s.heap it t i) (ht : IsTup s.heap t items) (hx : items[i]? = none)
    (hQ : ∀ h', Heap.ExtBut it s.heap h' → Q none { s with heap := h' }) : wpAny (model prog w) A (pyNext (.ref it)) Q E s := by
  obtain ⟨ob, g1, g2, g3⟩ := id hit
  obtain ⟨lb, k1, _, kn, k3⟩ := ht
  unfold pyNext
  refine wpAny_bind (wpAny_attempt (wpAny_callSpecial?_slot (name := Str.ofString "__next__") hit.typeIs slot_tupleiter_next (wpAny_call_entry slot_tupleiter_next hit.typeIs entry_tupleiter_next ?_ (args_tupleiter_next _))))
  show wpAny _ _ (field (.ref it) 0 >>= _) _ _ s
  refine wpAny_bind (wpAny_field g1 g3 (x := .ref t) rfl ?_)
  show wpAny _ _ (if (Value.ref t == Value.none) = true then _ else _) _ _ s
  rw [if_neg (by exact Bool.false_ne_true : ¬ ((Value.ref t == Value.none) = true))]
  show wpAny _ _ (field (.ref it) 1 >>= _) _ _ s
  refine wpAny_bind (wpAny_field g1 g3 (x := .int i 0) rfl ?_)
  show wpAny _ _ (seqItems? (.ref t) >>= _) _ _ s
  refine wpAny_bind (wpAny_seqItems k1 k3 ?_)
  simp only [hx, Int.toNat_natCast]
  refine wpAny_bind (wpAny_rule (wpAny_bind (wpAny_setField g1 g3 (by simp) ?_)))
  have sb : Heap.SameBut it s.heap (s.heap.update it (Obj.mapFields (·.setIfInBounds 0 Value.none))) := Heap.SameBut.update ..
  refine stopHot (x1 := x1) (hot_but (A := A.in1) hot nx fun b o n e => sb.extBut b o n e) fun h' e k he => ?_
  obtain ⟨oe, q1, q2⟩ := he
  exact wpAny_bind (wpAny_isInstance (T := "StopIteration") (b := true) ⟨oe, q1, q2⟩ isSubtype_stop (wpAny_pure (hQ h' fun b o n q => k b o (sb.extBut b o n q))))
/-- a tuple unpacked -/
theorem unpackHot {x1 t : Addr} {items : Array Value} {Q : List Value → Shared → Prop} (hot : HotAt A x1 s.heap) (ht : IsTup s.heap t items)
    (hQ : ∀ h', Heap.ExtBut s.heap.objs.size s.heap h' → Q items.toList { s with heap := h' }) : wpAny (model prog w) A (unpackItems (.ref t) items.size none) Q E s := by
  have n1 : t ≠ s.heap.objs.size := by
    obtain ⟨o, ho, _⟩ := ht
    exact Nat.ne_of_lt (Heap.lt_size ho)
  have n2 : x1 ≠ s.heap.objs.size := by
    obtain ⟨_, o, _, ho, _⟩ := hot
    exact Nat.ne_of_lt (Heap.lt_size ho)
  unfold unpackItems
  refine wpAny_bind ?_
  unfold notIterableAtAll
  refine wpAny_bind (wpAny_specialOf ht.typeIs slot_tuple_iter.lookup (wpAny_pure ?_))
  simp only [if_false, Bool.false_eq_true]
  refine wpAny_bind (wpAny_holding (iter_tuple ht (wpAny_bind (wpAny_holding (draw_tuple n1 items.size 0 _ _ ⟨_, Heap.get?_push_size _ rfl, rfl, rfl⟩ (ht.push _) (by omega) fun j1 c1 c2 => ?_)))))
  have whole : List.take items.size (List.drop 0 items.toList) = items.toList := by rw [List.drop_zero, List.take_of_length_le (by simp)]
  rw [whole, if_neg (by simp)]
  have tj : IsTup j1 t items := (ht.push _).extBut c2.extBut n1
  have hj : HotAt A x1 j1 := hot_but hot n2 fun b o n e => c2.extBut b o n (Heap.get?_push_of_some _ e)
  refine wpAny_bind (wpAny_holding (tupEndHot hj n2 c1 tj (by simp) fun j2 c3 => ?_))
  simp only [if_false, Option.isSome_none, Bool.false_eq_true]
  exact wpAny_pure (hQ j2 fun b o n e => c3 b o n (c2.extBut b o n (Heap.get?_push_of_some _ e)))
theorem assignTupHot {x1 : Addr} {env : Env} {elts : List Expr} {k} {pos : Pos} {t : Addr} {items : Array Value} {Q : Unit → Shared → Prop} (hot : HotAt A x1 s.heap) (ht : IsTup s.heap t items)
    (hn : (assignEach elts env).length = items.size) (hstar : (assignEach elts env).findIdx? (·.1) = none)
    (h : ∀ h', Heap.ExtBut s.heap.objs.size s.heap h' → wpAny (model prog w) A (assignInOrder ((assignEach elts env).map (·.2)) items.toList) Q E { s with heap := h' }) :
    wpAny (model prog w) A (assign (.Tuple elts k pos) env (.ref t)) Q E s := by
  rw [assign_Tuple]
  refine wpAny_bind (wpAny_standAt ?_)
  unfold unpack
  rw [hn, hstar]
  exact wpAny_bind (wpAny_holding (unpackHot hot ht h))
/-- zip's end: the first list is through -/
theorem zipEndHot {x1 z TI TO i1 i2 l1 l2 : Addr} {k1 : Nat} {xs : Array Value} {a b : Value} {Q : Option Value → Shared → Prop} (hot : HotAt A x1 s.heap) (nx : x1 ≠ z ∧ x1 ≠ i1) (D : ZipApart z TI TO i1 i2 l1 l2)
    (hz : IsZip s.heap z TI TO .none) (hTI : IsPair s.heap TI (.ref i1) (.ref i2)) (hTO : IsPair s.heap TO a b) (h1 : s.heap.IsListIter i1 l1 k1) (hl1 : s.heap.IsList l1 xs) (hx : xs[k1]? = none)
    (hQ : ∀ h', (∀ c o, c ≠ z → c ≠ i1 → s.heap.get? c = some o → h'.get? c = some o) → Q none { s with heap := h' }) : wpAny (model prog w) A (pyNext (.ref z)) Q E s := by
  have hT : s.TypeIs (.ref z) "zip" := ⟨_, hz, rfl⟩
  unfold pyNext
  refine wpAny_bind (wpAny_attempt (wpAny_callSpecial?_slot (name := Str.ofString "__next__") hT F.slot_zip_next (wpAny_call_entry F.slot_zip_next hT F.entry_zip_next ?_ (F.args_zip_next_1 _))))
  show wpAny _ _ (field (.ref z) 2 >>= _) _ _ _
  refine wpAny_bind (wpAny_field hz rfl (x := .bool false) rfl ?_)
  show wpAny _ _ (field (.ref z) 3 >>= _) _ _ _
  refine wpAny_bind (wpAny_field hz rfl (x := .ref TI) rfl (wpAny_bind (wpAny_seqItems hTI rfl ?_)))
  show wpAny _ _ (Builtin.SmallTypes.ownedTupleIsFree (.ref z) >>= _) _ _ _
  refine wpAny_bind ?_
  unfold Builtin.SmallTypes.ownedTupleIsFree
  refine wpAny_bind (wpAny_field hz rfl (x := .none) rfl (wpAny_pure ?_))
  simp only [if_true]
  refine wpAny_bind (wpAny_rule (wpAny_bind (wpAny_field hz rfl (x := .ref TO) rfl (wpAny_bind (wpAny_setField_rec hz (by simp) fun j1 zj sj => ?_)))))
  replace zj : IsZip j1 z TI TO .ellipsis := zj
  refine wpAny_bind ?_
  simp only [List.zipIdx_cons, List.zipIdx_nil, List.forIn_cons, List.forIn_nil]
  refine wpAny_bind (wpAny_bind (wpAny_onRaise ?_))
  show wpAny _ _ (Builtin.SmallTypes.nextOf (.ref i1) >>= _) _ _ _
  refine wpAny_bind (listEndHot (x1 := x1) (hot_but (A := A.in1) hot nx.1 fun b o n e => sj.extBut b o n e) nx.2 (h1.extBut sj.extBut D.i1z) (hl1.extBut sj.extBut D.l1z) hx fun j2 e c2 he => ?_)
  obtain ⟨oe, q1, q2⟩ := he
  have z2 : IsZip j2 z TI TO .ellipsis := c2 _ _ D.i1z.symm zj
  have ez : e ≠ z := fun x => by subst x; rw [z2] at q1; cases q1; simp at q2
  refine wpAny_setField_rec z2 (by simp) fun j3 _ c3 => ?_
  exact wpAny_bind (wpAny_isInstance (T := "StopIteration") (b := true) ⟨oe, c3.extBut _ _ ez q1, q2⟩ isSubtype_stop (wpAny_pure (hQ j3 fun c o n1 n2 q => c3.extBut _ _ n1 (c2 _ _ n2 (sj.extBut _ _ n1 q)))))
end
end Onp
set_option maxHeartbeats 4000000
namespace Onp
open PySem PySem.Spec PyProof.Rows L2 HotX L2H
/-! ### (a, b) = a tuple, while an exception is handled -/
theorem pg_tupH {X : Cx} {es : List Expr} {k : Nat} {t : TGs} {n : Nat} {pos : Pos} (hc : HotC X) (h : PGs X es t) (hn : (assignEach es X.env).length = n := by rfl) (hst : (assignEach es X.env).findIdx? (·.1) = none := by rfl) :
    PG X (.Tuple es k pos) (gTup X.K n t) := by
  refine ⟨fun pins s σ H v u Q I r hw => ?_⟩
  obtain ⟨p, xs, rfl, hq, hl, hw⟩ := hw
  obtain rfl : u = Value.ref p := r
  obtain ⟨its, rv, ht, hz⟩ := I.tuple hq
  obtain ⟨x1, hot⟩ := hc.at I
  refine assignTupHot hot ht (by simp [hn, ← hl, rv.length]) hst fun h' hx => ?_
  exact h.run pins _ σ H xs _ Q (I.kept (t' := s.toks) fun b o e => hx b o (Nat.ne_of_lt (Heap.lt_size e)) e) (by simpa using rv) hw
/-! ### zip of two lists, the first no longer than the second -/
def Itz1 (K : PySem.W.Frag) (a b : Addr) : It := ⟨(Itz K a b).go, (Itz K a b).yld, fun i H => ∃ xs ys : List V, SqL K H a xs ∧ SqL K H b ys ∧ xs.length ≤ i⟩
def zipSt (a b z TI TO i1 i2 : Addr) (i : Nat) (h : Heap) : Prop := IsZip h z TI TO .none ∧ IsPair h TI (.ref i1) (.ref i2) ∧ (∃ x y, IsPair h TO x y) ∧ h.IsListIter i1 a i ∧ h.IsListIter i2 b i
theorem turnZipH {P : Program} {w : World} {K : PySem.W.Frag} {elts : List Expr} {kk : Nat} {tpos : Pos} {a b z TI TO i1 i2 : Addr} (D : ZipApart z TI TO i1 i2 a b) :
    TurnH P w K (.Tuple elts kk tpos) (Itz1 K a b) [z, TI, TO, i1, i2] z (zipSt a b z TI TO i1 i2) where
  mem := List.mem_cons_self
  obj := (turn_zip (P := P) (w := w) (K := K) (elts := elts) (kk := kk) (tpos := tpos) D).obj
  keep := (turn_zip (P := P) (w := w) (K := K) (elts := elts) (kk := kk) (tpos := tpos) D).keep
  self := (turn_zip (P := P) (w := w) (K := K) (elts := elts) (kk := kk) (tpos := tpos) D).self
  item := by
    intro X eP ew eK hc i pins s σ H E I hf st hg
    subst eP ew eK
    obtain ⟨z1, z2, ⟨v1, v2, z3⟩, z4, z5⟩ := st
    obtain ⟨xs, ys, x, y, qx, qy, ex, ey⟩ := hg
    obtain ⟨us, ru, pu, _⟩ := I.list qx
    obtain ⟨ws, rw', pw, _⟩ := I.list qy
    obtain ⟨u1, e1, r1⟩ := ru.get ex
    obtain ⟨u2, e2, r2⟩ := rw'.get ey
    have lz : z < s.heap.objs.size := Heap.lt_size z1
    refine wpAny_pyNext_zip_item D z1 z2 z3 z4 z5 pu.isList pw.isList (x := u1) (y := u2) (by simpa using e1) (by simpa using e2) fun j n1 n2 n3 n4 n5 n6 n7 => ⟨_, rfl, ?_⟩
    refine wpAny_letOwnedTupleGo_zip (s := { s with heap := j }) n1 fun j2 m1 sb => ?_
    have old : ∀ c, c ∈ [z, TI, TO, i1, i2] → c < s.heap.objs.size := fun c hm => by
      have e' : c = z ∨ c = TI ∨ c = TO ∨ c = i1 ∨ c = i2 := by simpa using hm
      obtain ⟨_, q4, _⟩ := z4
      obtain ⟨_, q5, _⟩ := z5
      rcases e' with rfl | rfl | rfl | rfl | rfl
      · exact lz
      · exact Heap.lt_size z2
      · exact Heap.lt_size z3
      · exact Heap.lt_size q4
      · exact Heap.lt_size q5
    have tj : j2.get? s.heap.objs.size = some { cls := .type "tuple", data := .seq #[u1, u2] } := (sb.2 _ (Nat.ne_of_gt lz)).trans n5
    have kp : ∀ c o, c ∉ [z, TI, TO, i1, i2] → s.heap.get? c = some o → j2.get? c = some o := fun c o nm q => by
      have nn : c ≠ z ∧ c ≠ TI ∧ c ≠ TO ∧ c ≠ i1 ∧ c ≠ i2 := by simpa using nm
      exact (sb.2 c nn.1).trans (n7 c o nn.1 nn.2.2.1 nn.2.2.2.1 nn.2.2.2.2 q)
    have J := I.turnedNew (t' := s.toks) (ch := [z, TI, TO, i1, i2]) (ob := .tup [x, y]) kp hf (Nat.le_refl _) ⟨(by decide : 2 ≤ sizeLine), [u1, u2], .cons r1 (.cons r2 .nil), ⟨_, tj, rfl, _, rfl⟩⟩
    refine ⟨.ref s.heap.objs.size, _, J, rfl, ⟨_, x, y, rfl, I.hok.fresh (Nat.le_refl _), rfl, fun l hl => by rw [I.list_inj hl qx]; exact ex, fun l hl => by rw [I.list_inj hl qy]; exact ey⟩, ⟨m1, ?_, ⟨u1, u2, ?_⟩, ?_, ?_⟩, fun c hm => ?_⟩
    · exact (sb.2 _ D.TIz).trans (n7 _ _ D.TIz D.TITO D.TIi1 D.TIi2 z2)
    · exact (sb.2 _ D.TOz).trans n2
    · exact n3.at fun o q => (sb.2 _ D.i1z).trans q
    · exact n4.at fun o q => (sb.2 _ D.i2z).trans q
    · rw [upd_ne (Nat.ne_of_lt (old c hm))]
      exact (hf c hm).1
  done := by
    intro X eP ew eK hc i pins s σ H E I hf st hg
    subst eP ew eK
    obtain ⟨z1, z2, ⟨v1, v2, z3⟩, z4, z5⟩ := st
    obtain ⟨xs, ys, qx, qy, he⟩ := hg
    obtain ⟨us, ru, pu, _⟩ := I.list qx
    have l1 := ru.length
    obtain ⟨p, ⟨hh, v, e1, c1⟩, hp⟩ := hc
    have P1 := (I.pin p (List.mem_append_left _ hp)).1
    have np : ∀ c, c ∈ [z, TI, TO, i1, i2] → p.1 ≠ c := fun c hm => (hf c hm).2.2.2.2.2 p (List.mem_append_left _ hp)
    refine zipEndHot (x1 := p.1) ⟨hh, p.2, v, P1, e1, c1⟩ ⟨np z (by simp), np i1 (by simp)⟩ D z1 z2 z3 z4 pu.isList (by simp; omega) fun j kj => ⟨rfl, I.turnedL (t' := s.toks) (ch := [z, TI, TO, i1, i2]) (fun c o nm q => ?_) hf⟩
    have nn : c ≠ z ∧ c ≠ TI ∧ c ≠ TO ∧ c ≠ i1 ∧ c ≠ i2 := by simpa using nm
    exact kj c o nn.1 nn.2.2.2.1 q
def iZip1 (K : PySem.W.Frag) (ta : TA) : TI := fun σ H R => ta σ H fun vs H1 => ∃ a b xs ys, vs = [.ref a, .ref b] ∧ SqL K H1 a xs ∧ SqL K H1 b ys ∧ R (Itz1 K a b) H1
theorem pi_zipH {X : Cx} {e e2 : Expr} {ta : TA} {p pos tpos : Pos} {elts : List Expr} {kk : Nat} (hg : Gl X "zip") (hm : X.mg "zip" = none) (ha : PA X [e, e2] ta)
    (hs : starEach [e, e2] X.env = (false, eval e X.env) :: starEach [e2] X.env := by rfl) (hpl : (backTo pos (starEach [e2] X.env)).any (·.1) = false := by rfl) : PIH X (.Tuple elts kk tpos) (.Call (.Name "zip" p) [e, e2] [] pos) (iZip1 X.K ta) := by
  refine ⟨fun pins s σ H R I h => Call_ (ld_blt I hg hm PyProof.Rows.boot_zip (PyProof.Rows.callWith_type1 (thn (ha.run pos pins s σ H _ I h) fun us s1 ⟨vs, H1, I1, r1, q1⟩ => ?_) hs hpl))⟩
  obtain ⟨a, b, xs, ys, rfl, qx, qy, q⟩ := q1
  obtain ⟨w1, w2, rfl, ra, rb⟩ := vals2 r1
  cases ra
  cases rb
  obtain ⟨us, ru, pu, _⟩ := I1.list qx
  obtain ⟨ws, rw', pw, _⟩ := I1.list qy
  refine call_zip_2 pu.isList pw.isList fun j y1 y2 y3 y4 y5 y6 y7 => wpAny_pyIter_zip y1 ⟨s1.heap.objs.size + 4, [s1.heap.objs.size + 4, s1.heap.objs.size + 2, s1.heap.objs.size + 3, s1.heap.objs.size, s1.heap.objs.size + 1], _, _, H1, rfl, I1.kept (t' := s1.toks) y7, turnZipH (PySem.W.ktu_apart s1.heap.objs.size a b pu.lt pw.lt), ⟨y1, y2, ⟨_, _, y3⟩, y4, y5⟩, fun c hm => ?_, q⟩
  have hle : s1.heap.objs.size ≤ c := by
    have e' : c = s1.heap.objs.size + 4 ∨ c = s1.heap.objs.size + 2 ∨ c = s1.heap.objs.size + 3 ∨ c = s1.heap.objs.size ∨ c = s1.heap.objs.size + 1 := by simpa using hm
    rcases e' with z | z | z | z | z <;> rw [z] <;> first | exact Nat.le_refl _ | exact Nat.le_add_right _ _
  exact I1.fpOk hle (I1.hok.fresh hle)
/-! ### the block of a comprehension that keeps a pin -/
abbrev blkH (X : Cx) (p : Addr × Obj) (s : Shared) (H : Hp) (scope : Scope) (cenv : Env) (fp : List Addr) : Cx := { X.blk s H scope cenv fp with pn := [p] }
theorem addPn {X : Cx} {p : Addr × Obj} {pins : List (Addr × Obj)} {σ : L2.St} {H : Hp} {s : Shared} (hX : X.pn = []) (I : Inv X pins σ H s) (hp : s.heap.get? p.1 = some p.2 ∧ H p.1 = none ∧ p.1 ≠ X.env.locals ∧ p.1 ∉ X.fs ∧ ∀ v, p.2.data ≠ .cell v) : Inv { X with pn := [p] } pins σ H s := by
  have ok := I.ok
  refine ⟨⟨ok.mod, ok.kind, ok.glob, ok.blt, ok.above, ok.inj, ok.has, ok.cab, ok.hd, ok.frames, ok.stk, ok.exf, ok.bs, ok.bsz, ok.noex, ok.exfs, ok.funs, ok.frf⟩, I.os, I.bare, I.base, I.loc, I.cell, I.free, I.freeC, fun q hq => ?_, I.hok, I.len⟩
  have hq' : q ∈ [p] ++ pins := hq
  rcases List.mem_append.mp hq' with z | z
  · have e : q = p := by simpa using z
    rw [e]
    exact hp
  · exact I.pin q (by rw [hX]; exact z)
theorem hotBlk {X : Cx} {p : Addr × Obj} {s : Shared} {H : Hp} {scope : Scope} {cenv : Env} {fp : List Addr} (h : Hot1 X.A p) : HotC (blkH X p s H scope cenv fp) := ⟨p, h, List.mem_cons_self⟩
theorem lcHot {X : Cx} {p : Addr × Obj} {pins : List (Addr × Obj)} {s : Shared} {σ : L2.St} {H : Hp} {Q : VK} {elt tg iter : Expr} {ifs : List Expr} {scope : Scope} {own : List (Str × Nat)} {pos : Pos} {wi : TI} {g : TG} {tt : TT} {te : TE}
    (hot : Hot1 X.A p) (hp : p ∈ X.pn) (hN : X.N.Nodup) (I : Inv X pins σ H s) (hi : PIH X tg iter wi) (ok : BlkOk X.N X.env.scope scope own)
    (hg : ∀ s H C cl fp, PG (blkH X p s H scope (compEnvC scope cl C X.env) fp) tg g) (ht : ∀ s H C cl fp, PTs (blkH X p s H scope (compEnvC scope cl C X.env) fp) ifs tt) (he : ∀ s H C cl fp, PE (blkH X p s H scope (compEnvC scope cl C X.env) fp) elt te)
    (hs : ∀ x, foldedSetIterable iter X.env x = pure x) (h : tLc wi g tt te (own.map (·.2)) σ H Q) : wpAny (model X.prog X.w) X.A (eval (.ListComp elt [⟨tg, iter, ifs, 0⟩] scope pos) X.env) (EP X pins σ Q) X.xe s := by
  rw [eval_ListComp]
  have caps : ∀ y ∈ scope.names, y.2 = .free → ∃ c, X.env.cells.lookup y.1 = some c := fun y hy e => (ok.free y hy e).elim (fun k => I.ok.has _ (.inl k)) (fun k => I.ok.has _ (.inr k))
  refine wpAny_comprehension_free (use := none) rfl hs (closure_ok caps) ok.kind (fun y hy e => by rw [ok.uniq y hy, e]) (thn (hi.run pins s σ H _ I h) fun xv s1 hx => thn hx fun itv s2 hx2 => ?_)
  obtain ⟨it, fp, tn, J, H2, rfl, I2, T, t2, f2, q⟩ := hx2
  refine wpAny_newObj_type (newEnv_comp ?_) (Nat.zero_le _)
  generalize eD : s2.heap.objs.size = D
  have freeD : H2 D = none := I2.hok.fresh (Nat.le_of_eq eD)
  obtain ⟨W, ⟨m0, w0⟩, turn⟩ := q D freeD
  generalize e3 : ({ s2 with heap := s2.heap.push { cls := .type "list", data := .seq ([] : List Value).toArray } } : Shared) = u3
  have hu3 : u3.heap = s2.heap.push { cls := .type "list", data := .seq ([] : List Value).toArray } := by rw [← e3]
  have I3 : Inv X pins σ (upd H2 D (.lst [])) u3 := by
    rw [← e3]
    exact I2.laid (t' := s2.toks) (fun b o e => Heap.get?_push_of_some _ e) (Nat.le_of_eq eD) ⟨Nat.zero_le _, [], 0, .nil, by rw [← eD]; exact Heap.get?_push_size _ rfl⟩
  have f3 : ∀ b ∈ fp, FpOk X pins (upd H2 D (.lst [])) b ∧ b < u3.heap.objs.size := fun b hb => by
    obtain ⟨o, e, _⟩ := T.obj _ _ t2 b hb
    have lt := Heap.lt_size e
    exact ⟨⟨by rw [upd_ne (by rw [← eD]; exact Nat.ne_of_lt lt)]; exact (f2 b hb).1, (f2 b hb).2⟩, by rw [hu3, Heap.size_push]; exact Nat.lt_succ_of_lt lt⟩
  have I4' := block_start I3 ok hN f3
  generalize eH : upd H2 D (.lst []) = H3 at I3 I4' w0 f3
  generalize ece : compEnvC scope (cellsFrom (u3.heap.objs.size + 1) scope.names (cloFrom X.env.cells scope.names [])) u3.heap.objs.size X.env = ce at I4'
  have cl0 : ce.locals = u3.heap.objs.size := by subst ece; rfl
  generalize e4 : ({ u3 with heap := pushCells (u3.heap.push { cls := .type "dict", data := .dict #[] }) scope.names } : Shared) = u4 at I4'
  have kept4 : ∀ b o, u3.heap.get? b = some o → u4.heap.get? b = some o := fun b o e => by rw [← e4]; exact pushCells_keeps _ _ _ _ (Heap.get?_push_of_some _ e)
  have p3 := I3.pin p (List.mem_append_left _ hp)
  have I4 : Inv (blkH X p u3 H3 scope ce fp) [] (wipe σ (own.map (·.2))) H3 u4 := by
    refine addPn rfl I4' ⟨kept4 _ _ p3.1, p3.2.1, ?_, fun z => ?_, p3.2.2.2.2⟩
    · show p.1 ≠ ce.locals
      rw [cl0]
      exact Nat.ne_of_lt (Heap.lt_size p3.1)
    · rcases List.mem_cons.mp (I3.stkSub p.1 z) with y | y
      · exact p3.2.2.1 y
      · exact p3.2.2.2.1 y
  have pg := hg u3 H3 u3.heap.objs.size (cellsFrom (u3.heap.objs.size + 1) scope.names (cloFrom X.env.cells scope.names [])) fp
  have pt := ht u3 H3 u3.heap.objs.size (cellsFrom (u3.heap.objs.size + 1) scope.names (cloFrom X.env.cells scope.names [])) fp
  have pe := he u3 H3 u3.heap.objs.size (cellsFrom (u3.heap.objs.size + 1) scope.names (cloFrom X.env.cells scope.names [])) fp
  rw [ece] at pg pt pe
  have t4 : tn 0 u4.heap := T.keep _ _ _ t2 fun b _ o e => kept4 b o (by rw [hu3]; exact Heap.get?_push_of_some _ e)
  have hb := hotBlk (X := X) (s := u3) (H := H3) (scope := scope) (cenv := ce) (fp := fp) hot
  have stat : ∀ {σ' : L2.St} {H' : Hp} {s' : Shared}, Inv (blkH X p u3 H3 scope ce fp) [] σ' H' s' → (∀ b ∈ fp, H' b = none) → ∀ b ∈ fp, FpOk (blkH X p u3 H3 scope ce fp) [] H' b := fun {σ' H' s'} I' hn b hb' => by
    refine ⟨hn b hb', (I'.ok.exf b hb').1, I'.ok.exfs b hb', .inl hb', fun x c e => (I'.ok.exf b hb').2 x c e, fun q hq => ?_⟩
    have eq : q = p := by simpa using (show q ∈ [p] ++ ([] : List (Addr × Obj)) from hq)
    rw [eq]
    exact (f3 b hb').1.2.2.2.2.2 p (List.mem_append_left _ hp)
  show codeAny _ _ (.compStart (.ListComp elt [⟨tg, iter, ifs, 0⟩] scope pos) 0 (.ref it) (.ref D) (compEnvC scope (cellsFrom (u3.heap.objs.size + 1) scope.names (cloFrom X.env.cells scope.names [])) u3.heap.objs.size X.env)) (compPost (model X.prog X.w) X.A X.xe none (EP X pins σ Q) (.ref D) u3.heap.objs.size) u4
  rw [ece]
  have loop : codeAny (model X.prog X.w) X.A (.compLoop (.ListComp elt [⟨tg, iter, ifs, 0⟩] scope pos) 0 (.ref it) (.ref D) ce) (compPost (model X.prog X.w) X.A X.xe none (EP X pins σ Q) (.ref D) u3.heap.objs.size) u4 := by
    refine compLoop_any (fun n s' => ∃ i H', Inv (blkH X p u3 H3 scope ce fp) [] (wipe σ (own.map (·.2))) H' s' ∧ tn i s'.heap ∧ (∀ b ∈ fp, H' b = none) ∧ W i n H') (fun n u5 ⟨i, H5, I5, t5, n5, w5⟩ => ?_) m0 ⟨0, H3, I4, t4, fun b hb' => (f3 b hb').1.1, w0⟩
    rcases turn i n H5 w5 with ⟨stop, qq⟩ | ⟨go, Nx, hNx, step⟩
    · refine thnF (T.done (blkH X p u3 H3 scope ce fp) rfl rfl rfl hb i [] u5 _ H5 (fun _ _ => False) I5 (stat I5 n5) t5 stop) fun r u6 ⟨hr, I6⟩ => ?_
      subst hr
      have I7 : Inv X pins σ H5 u6 := I3.call' (ch := fp) I6.os I6.base I6.hok I6.bare fun b hb' => ⟨(f3 b hb').1.2.2.2.1, (f3 b hb').1.2.1, (f3 b hb').1.2.2.2.2.1, (f3 b hb').1.2.2.2.2.2⟩
      obtain ⟨m, hn, _⟩ := I6.loc
      have fr : H5 ce.locals = none := I6.free
      replace hn : u6.heap.Ns ce.locals m := hn
      rw [cl0] at hn fr
      obtain ⟨y0, y1, y2, y3, y4, y5⟩ := I3.fpOk (H' := H5) (Nat.le_refl _) fr
      exact ⟨m, hn, fun h'' sb => ⟨.ref D, H5, I7.turned (t' := u6.toks) (fun b o hb' e => (sb.2 b hb').trans e) y0 y1 y3 y4 y5, rfl, qq⟩⟩
    · refine thnF (T.item (blkH X p u3 H3 scope ce fp) rfl rfl rfl hb i [] u5 _ H5 (fun _ _ => False) I5 (stat I5 n5) t5 go) fun r u6 ⟨v, hr, h6⟩ => ?_
      subst hr
      refine thnF h6 fun _ u7 ⟨x, H7, I7, r7, y7, t7, n7⟩ => ?_
      have J7 := I7.pinned (stat I7 n7) (T.obj _ _ t7)
      refine thnF (pg.run _ u7 _ H7 x v _ J7 r7 (step x H7 y7)) fun _ u8 ⟨σ8, H8, I8, hw8, q8⟩ => ?_
      refine thnF (pt.run _ u8 σ8 H8 _ I8 q8) fun b u9 ⟨H9, I9, q9⟩ => ?_
      have back : ∀ {s' : Shared} {H' : Hp}, Inv (blkH X p u3 H3 scope ce fp) ([] ++ pinsAt fp u7.heap) σ8 H' s' → Nx H' → ∃ m, m < n ∧ ∃ i H', Inv (blkH X p u3 H3 scope ce fp) [] (wipe σ (own.map (·.2))) H' s' ∧ tn i s'.heap ∧ (∀ b ∈ fp, H' b = none) ∧ W i m H' := fun {s' H'} K' nx => by
        obtain ⟨m', hm, w'⟩ := hNx H' nx
        have pin' : ∀ b ∈ fp, ∀ o, u7.heap.get? b = some o → s'.heap.get? b = some o ∧ H' b = none := fun b hb' o e => by
          have z := K'.pin (b, o) (List.mem_append_right _ (List.mem_append_right _ (mem_pinsAt hb' e)))
          exact ⟨z.1, z.2.1⟩
        refine ⟨m', hm, i + 1, H', (K'.unpinned (pins := [])).weak (by rw [← hw8, wipe_length]) (fun j v e => ?_), T.keep _ _ _ t7 fun b hb' o e => (pin' b hb' o e).1, fun b hb' => ?_, w'⟩
        · rw [← hw8] at e
          exact (wipe_some e).1
        · obtain ⟨o, e, _⟩ := T.obj _ _ t7 b hb'
          exact (pin' b hb' o e).2
      cases b with
      | false =>
        simp only [if_false, Bool.false_eq_true] at q9 ⊢
        exact back I9 q9
      | true =>
        simp only [if_true] at q9 ⊢
        refine thnF (pe.run _ u9 σ8 H9 _ I9 q9) fun z u10 ⟨yv, H10, I10, r10, acc, d10, z10, nx⟩ => ?_
        exact app_ok (X := blkH X p u3 H3 scope ce fp) I10 d10 z10 r10 fun u11 I11 => back I11 nx
  exact codeAny_compStart_list loop (T.self X.A 0 _ _ _ t4 loop)
theorem pe_lcH {X : Cx} {p : Addr × Obj} {elt tg iter : Expr} {ifs : List Expr} {scope : Scope} {own : List (Str × Nat)} {pos : Pos} {wi : TI} {g : TG} {tt : TT} {te : TE} (hot : Hot1 X.A p) (hp : p ∈ X.pn) (hN : X.N.Nodup) (hi : PIH X tg iter wi) (ok : BlkOk X.N X.env.scope scope own)
    (hg : ∀ s H C cl fp, PG (blkH X p s H scope (compEnvC scope cl C X.env) fp) tg g) (ht : ∀ s H C cl fp, PTs (blkH X p s H scope (compEnvC scope cl C X.env) fp) ifs tt) (he : ∀ s H C cl fp, PE (blkH X p s H scope (compEnvC scope cl C X.env) fp) elt te)
    (hs : ∀ x, foldedSetIterable iter X.env x = pure x := by intro _; rfl) : PE X (.ListComp elt [⟨tg, iter, ifs, 0⟩] scope pos) (tLc wi g tt te (own.map (·.2))) :=
  ⟨fun pins s σ H Q I h => lcHot hot hp hN I hi ok hg ht he hs h⟩
end Onp
set_option maxHeartbeats 4000000
set_option autoImplicit false
namespace Onp
open PySem PySem.Spec PyProof.Rows L2 HotX L2H
/-! ### try: body, except t1 as n: .. except t2 as n: .. -/
theorem fly_more {B h h' : Heap} {l : List Env} {e : Addr} {Z : Obj → Prop} (x : HandSPX.FlyingZ B l e Z h) (k : ∀ b o, h.get? b = some o → h'.get? b = some o) : HandSPX.FlyingZ B l e Z h' := by
  obtain ⟨x1, x2, x3, oe, vs, T, oT, ts, y1, y2, y3, y4, y5, y6, y7, y8, y9⟩ := x
  exact ⟨fun b o q => k _ _ (x1 b o q), x2, x3.of_keeps fun b o q _ => ⟨o, k b o q, rfl⟩, oe, vs, T, oT, ts, k _ _ y1, y2, y3, y4, y5, y6, k _ _ y7, y8, y9⟩
def TestOk (X : Cx) (t : Expr) (m : Value → Option Bool) : Prop :=
  ∀ (a : Addr) (pn : List (Addr × Obj)) (s : Shared) (σ : L2.St) (H : Hp) (cls : Value) (b : Bool) (Q : Bool → Shared → Prop) (E : Value → Shared → Prop), Inv (X.suite a pn) [] σ H s → PySem.W.Looks (model X.prog X.w) s.heap (typeOf (.ref a)) cls → m cls = some b →
    (∀ h', (∀ c o, s.heap.get? c = some o → h'.get? c = some o) → Q b { s with heap := h' }) →
    wpAny (model X.prog X.w) (X.A.mark (some (.ref a))) (eval t X.env) (fun c s1 => wpAny (model X.prog X.w) (X.A.mark (some (.ref a))) (excMatches (.ref a) c) Q E s1) E s
theorem test_name {X : Cx} {x : Str} {c : Value} {np : Pos} (hg : Gl X x) (hd : (x == ("__debug__" : Str)) = false) (hm : X.mg x = some c) : TestOk X (.Name x np) (fun cls => PySem.W.exmOne X.K cls c) := by
  intro a pn s σ H cls b Q E I LT hb q
  have LM := PySem.W.exm_one (M := model X.prog X.w) I.kIn LT hb
  exact ld_glob (X := X.suite a pn) I hg hm (LM.here (q _ fun _ _ z => z)) hd
theorem test_three {X : Cx} {x y z : Str} {c1 c2 c3 : Addr} {p1 p2 p3 tp : Pos} {k : Nat} (g1 : Gl X x) (g2 : Gl X y) (g3 : Gl X z) (d1 : (x == ("__debug__" : Str)) = false) (d2 : (y == ("__debug__" : Str)) = false) (d3 : (z == ("__debug__" : Str)) = false)
    (m1 : X.mg x = some (.ref c1)) (m2 : X.mg y = some (.ref c2)) (m3 : X.mg z = some (.ref c3)) (hst : starEach [.Name x p1, .Name y p2, .Name z p3] X.env = [(false, eval (.Name x p1) X.env), (false, eval (.Name y p2) X.env), (false, eval (.Name z p3) X.env)] := by rfl) :
    TestOk X (.Tuple [.Name x p1, .Name y p2, .Name z p3] k tp) (fun cls => PySem.W.exmAny X.K cls [.ref c1, .ref c2, .ref c3]) := by
  intro a pn s σ H cls b Q E I LT hb q
  have kp : ∀ c o, s.heap.get? c = some o → (s.heap.push { cls := .type "tuple", data := .seq [Value.ref c1, .ref c2, .ref c3].toArray }).get? c = some o := fun c o e => Heap.get?_push_of_some _ e
  refine wpAny_Tuple_spliced ?_
  rw [hst]
  show wpAny _ _ (spliced ((false, eval (.Name x p1) X.env) :: (false, eval (.Name y p2) X.env) :: (false, eval (.Name z p3) X.env) :: [])) _ _ s
  refine Calls.spliced_cons (ld_glob (X := X.suite a pn) I g1 m1 ?_ d1)
  refine Calls.spliced_cons (ld_glob (X := X.suite a pn) I g2 m2 ?_ d2)
  refine Calls.spliced_cons (ld_glob (X := X.suite a pn) I g3 m3 ?_ d3)
  refine Calls.spliced_nil ⟨(by decide : 3 ≤ sizeLine), ?_⟩
  exact (PySem.W.exm_tup3 (M := model X.prog X.w) (I.kIn.keeps kp) (LT.keeps kp) (Heap.get?_push_size _ rfl) hb).here (q _ kp)
abbrev Clause := (Value → Option Bool) × (Addr → Value → Option Addr → TS)
def clr (i : Nat) (D : Ends) : Ends := { nx := fun σ' H' => D.nx (σ'.set i none) H', rt := D.rt, bk := fun σ' H' => D.bk (σ'.set i none) H', ct := fun σ' H' => D.ct (σ'.set i none) H' }
def wClauses (i : Nat) (Wout : WX) (D : Ends) : List Clause → WX
  | [] => Wout
  | (m, ts) :: r => fun cls d σ H => ∃ b, m cls = some b ∧ (b = true → ∀ a, H a = none → ts a cls d (clr i D) (σ.set i (some (.ref a))) H) ∧ (b = false → wClauses i Wout D r cls d σ H)
inductive Clauses (X : Cx) (n : Str) : List ExceptHandler → List Clause → Prop
  | nil : Clauses X n [] []
  | cons {t : Expr} {m : Value → Option Bool} {ts : Addr → Value → Option Addr → TS} {b₀ : Stmt} {suite : List Stmt} {pos' : Pos} {hds : List ExceptHandler} {l : List Clause} (ht : TestOk X t m)
      (hsu : ∀ (a : Addr) (oe : Obj) (cls : Value) (d : Option Addr) (pn : List (Addr × Obj)), L2N.Zn cls d oe → (∃ vs, oe.data = .fields vs) → PSs (X.suite a ((a, oe) :: pn)) (b₀ :: suite) (ts a cls d)) (r : Clauses X n hds l) :
      Clauses X n (.ExceptHandler (some t) (some n) (b₀ :: suite) pos' :: hds) ((m, ts) :: l)
theorem ps_try_clauses {X : Cx} {n : Str} {i : Nat} {body : List Stmt} {h₀ : ExceptHandler} {hds : List ExceptHandler} {l : List Clause} {pos : Pos} {tb : WX → TS} {Wout : WX} (hs : X.stack = X.env :: X.outer) (hf : X.env.frame = some X.env.locals) (hN : X.N.Nodup) (hi : X.N[i]? = some n)
    (hln : X.env.kindOf n = some .local) (tk : L2N.Takes X Wout)
    (hb : ∀ (W : WX) (pn : List (Addr × Obj)) (xe : Value → Shared → Prop), L2N.Takes (X.tr pn xe) W → PassesOwn (model X.prog X.w) X.A X.env xe → PSs (X.tr pn xe) body (tb W)) (hh : Clauses X n (h₀ :: hds) l) :
    PS X (.Try body (h₀ :: hds) [] [] pos) (fun D σ H => tb (fun cls d σ H => σ.length = X.N.length → wClauses i Wout D l cls d σ H) D σ H) := by
  refine ⟨fun pins s σ H D I h => wpAny_Try_except ?_⟩
  have ok := I.ok
  have efr : X.A.frames = some (X.env :: X.outer) := by rw [ok.frames, hs]
  refine wpAny_mono ((hb (fun cls d σ H => σ.length = X.N.length → wClauses i Wout D l cls d σ H) (X.pn ++ pins) _ (fun u s' xx => ?_) PassesOwn.looking).run [] s σ H D (I.toTry _) h) (fun f s1 hsp => ?_) (fun e s1 he => he)
  · obtain ⟨a, B, sI, pins', σ', H', cls, d, rfl, J', nb, up, sky, na, os, ag, w⟩ := xx
    have J : Inv X pins σ' H' sI := J'.ofTry ok
    rw [hs] at sky
    show wpAny (model X.prog X.w) X.A (noteFrame (.ref a) X.env) _ _ _
    refine L2N.Sky.land L2N.Zn.steady efr hf sky fun h3 fl3 up3 => ?_
    have go : ∀ {hds' : List ExceptHandler} {l' : List Clause}, Clauses X n hds' l' → wClauses i Wout D l' cls d σ' H' → ∀ h4, HandSPX.FlyingZ B (X.env :: X.outer) a (L2N.Zn cls d) h4 → sI.heap.UpToSlots h4 →
        wpAny (model X.prog X.w) X.A (handleBy (.ref a) X.env hds') (SP X pins D) X.xe { s' with heap := h4 } := by
      intro hds' l' hk
      induction hk with
      | nil =>
        intro w h4 fl up4
        refine wpAny_handleBy_nil ?_
        obtain ⟨_, _, _, oe, vs, T, oT, ts', y1, y2, y3, y4, _⟩ := id fl
        unfold PySem.passOn
        refine wpAny_bind (wpAny_field y1 y3 y4 ?_)
        rw [if_neg (by simp : ¬ ((Value.ref T == Value.none) = true))]
        have fin : wpAny (model X.prog X.w) X.A (setFlight (.ref a) X.env.frame) (fun _ s4 => wpAny (model X.prog X.w) X.A (throw (.ref a) : Sem Flow) (SP X pins D) X.xe s4) X.xe { s' with heap := h4 } := by
          rw [hf]
          exact HandSPX.setFlight_upZ fl fun h5 hh5 up5 => wpAny_throw (tk _ _ ⟨a, B, sI, pins, σ', H', cls, d, rfl, J, nb, up4.trans up5, .inr (.inr (by rw [hs]; exact hh5)), na, os, ag, w⟩)
        first
          | exact wpAny_bind (wpAny_pure (wpAny_bind fin))
          | exact wpAny_bind fin
      | @cons t m ts b₀ suite pos' hds2 l2 ht hsu r ih =>
        intro w h4 fl up4
        obtain ⟨b, hb1, hyes, hno⟩ := w
        obtain ⟨oe, vs, ge, gz, gd⟩ := fl.there
        have J4 : Inv X pins σ' H' { s' with heap := h4 } := J.landed nb fl.1 up4 os ag
        have nfr : a ∉ frs (X.env :: X.outer) := fun hm => by
          obtain ⟨_, o', e', hnf⟩ := fl.2.2.1.mem hm
          rw [ge] at e'
          cases e'
          exact hnf _ gd
        have nL : a ≠ X.env.locals := fun z => nfr (List.mem_filterMap.mpr ⟨X.env, List.mem_cons_self, by rw [hf, z]⟩)
        have nF : a ∉ X.fs := fun hm => by
          obtain ⟨e, he, q⟩ := List.mem_filterMap.mp hm
          exact nfr (List.mem_filterMap.mpr ⟨e, List.mem_cons_of_mem _ he, q⟩)
        refine wpAny_handleBy_cons (codeAny_handlers_test ?_) (by intro q; cases q)
        refine ht a _ _ σ' H' cls b _ _ (J4.suite ge gd na nL nF) (fun A Q E s k q => wpAny_typeOf_ref (k _ _ ge) (by rw [gz.1]; exact q)) hb1 fun h5 k5 => ?_
        have fl5 := fly_more fl k5
        have up5 : sI.heap.UpToSlots h5 := up4.trans fun b o e _ => ⟨o.slots, k5 b o e⟩
        cases b with
        | true =>
          refine codeAny_handlers_suite_as (HandSPX.lands_againZ fl5 fun h6 fl6 up6 => ?_)
          have J6 : Inv X pins σ' H' { s' with heap := h6 } := J.landed nb fl6.1 (up5.trans up6) os ag
          obtain ⟨oe6, vs6, ge6, gz6, gd6⟩ := fl6.there
          refine store_ok (X := X.suite a ((a, oe6) :: (X.pn ++ pins))) (v := .ref a) (J6.suite ge6 gd6 na nL nF) hN hi (.inl hln) rfl (fun s7 S7 => ?_) (.inr hln)
          refine wpAny_mono ((hsu a oe6 cls d (X.pn ++ pins) gz6 ⟨_, gd6⟩).run [] s7 _ H' _ S7 (hyes rfl a na)) (fun f s8 hsp => ?_) (fun _ _ z => False.elim z)
          have away : ∀ {σ8 : L2.St} {H8 : Hp} {Q : Shared → Prop}, Inv (X.suite a ((a, oe6) :: (X.pn ++ pins))) [] σ8 H8 s8 → (∀ s9, Inv X pins (σ8.set i none) H8 s9 → Q s9) →
              wpAny (model X.prog X.w) X.A (do bindName X.env n .none; unbindBehindTheSuite X.env n pos') (fun _ s9 => Q s9) X.xe s8 := fun {σ8 H8 Q} S8 hq => gone_ok (S8.unsuite ok) hN hi hln hq
          cases f with
          | next => obtain ⟨σ8, H8, S8, q8⟩ := hsp; exact away S8 fun s9 J9 => ⟨_, _, J9, q8⟩
          | brk => obtain ⟨σ8, H8, S8, q8⟩ := hsp; exact away S8 fun s9 J9 => ⟨_, _, J9, q8⟩
          | cont => obtain ⟨σ8, H8, S8, q8⟩ := hsp; exact away S8 fun s9 J9 => ⟨_, _, J9, q8⟩
          | ret u => obtain ⟨v8, σ8, H8, S8, r8, q8⟩ := hsp; exact away S8 fun s9 J9 => ⟨_, _, _, J9, r8, q8⟩
        | false =>
          show wpAny _ X.A (handleBy (.ref a) X.env hds2) _ _ _
          exact ih (hno rfl) h5 fl5 up5
    exact go hh (w J.len) h3 fl3 (up.trans up3)
  · cases f with
    | next => obtain ⟨σ', H', J', q⟩ := hsp; exact wpAny_execs_nil ⟨σ', H', J'.ofTry ok, q⟩
    | brk => obtain ⟨σ', H', J', q⟩ := hsp; exact ⟨σ', H', J'.ofTry ok, q⟩
    | cont => obtain ⟨σ', H', J', q⟩ := hsp; exact ⟨σ', H', J'.ofTry ok, q⟩
    | ret u => obtain ⟨v, σ', H', J', r, q⟩ := hsp; exact ⟨v, σ', H', J'.ofTry ok, r, q⟩
/-! ### a raise of an own error, made by its __init__ -/
theorem mkRunN {X : Cx} {pins : List (Addr × Obj)} {σ : L2.St} {H1 : Hp} {s1 : Shared} {C fI : Addr} {k : Nat} {fd : FuncData} {ps : List Str} {sp : Sp} {us : List Value} {vs : List V} {Q : XK} (T : OexC X.K C) (iC : PySem.W.findIn X.K (.ref C) "__init__" = some (some (.ref fI)))
    (tI : PySem.W.typeIn X.K (.ref fI) = some (.type "function")) (F1 : FnOk X.prog X.w X.K X.mg X.base CX0 k fI fd ps sp) (hr : Room (k + 1) X.A) (hb : Binds X.K fd ps []) (I1 : Inv X pins σ H1 s1) (r1 : Vals vs us) (hz : vs.length ≤ 1000)
    (q1 : ∀ a, H1 a = none → sp (.ref a :: vs) (upd H1 a (exo a C none)) (fun v H2 => v = .non ∧ ∃ (d : Addr) (fs : List (Str × V)), H2 a = some (exo a C (some d)) ∧ H2 d = some (exd d fs) ∧ H1 d = none ∧ Q (.ref C) (some d) (upd (del H2 a) d (.xd fs))) (fun _ _ _ => False)) :
    wpAny (model X.prog X.w) X.A (call (.ref C) us) (L2N.MkP X pins σ Q) X.xe s1 := by
  obtain ⟨nm, q, N, bs, bm, sn, sub, ab, col, dd, k0, k1, k2, k3, k5, hC, hbm⟩ := T.cls
  obtain ⟨hp, g, dr, tk, os⟩ := s1
  have le1 : hp.objs.size ≤ hp.objs.size + 1 := Nat.le_succ _
  have hq := q1 (hp.objs.size + 1) (I1.hok.fresh le1)
  have kk : ∀ b o, hp.get? b = some o → ((hp.push (PySem.W.kdv_tup us)).push (PySem.HandSPX.excO C hp.objs.size)).get? b = some o := fun b o e => Heap.get?_push_of_some _ (Heap.get?_push_of_some _ e)
  have hget : ((hp.push (PySem.W.kdv_tup us)).push (PySem.HandSPX.excO C hp.objs.size)).get? (hp.objs.size + 1) = some (PySem.HandSPX.excO C hp.objs.size) := by heap_get
  have I2 := I1.laid (t' := tk) (a := hp.objs.size + 1) (o := exo (hp.objs.size + 1) C none) (h' := (hp.push (PySem.W.kdv_tup us)).push (PySem.HandSPX.excO C hp.objs.size)) kk le1 (exo_ok hget)
  have r2 : Vals (V.ref (hp.objs.size + 1) :: vs) (Value.ref (hp.objs.size + 1) :: us) := .cons rfl r1
  have hl : (Value.ref (hp.objs.size + 1) :: us).length = ps.length := by rw [← r2.length]; exact F1.len _ _ _ _ hq
  have hbd := hb ⟨(hp.push (PySem.W.kdv_tup us)).push (PySem.HandSPX.excO C hp.objs.size), g, dr, tk, os⟩ (Value.ref (hp.objs.size + 1) :: us) I2.kIn (by rw [List.append_nil]; exact hl)
  rw [List.append_nil] at hbd
  have hus : us.length ≤ sizeLine := by
    rw [← Paired.length r1, sizeLine_eq]
    omega
  refine wpAny_call (PySem.HandSPX.call_own F.excBase_ValueError (fun Y => PySem.HandSPX.refsVE_contains Y bm hbm) (I1.kIn _ _ hC) (PySem.W.looks_findIn I1.kIn iC) (fun self => PySem.W.bind_fn I1.kIn self tI) hus
    (codeAny_mono (F1.run _ X.stack _ _ ⟨Value.ref (hp.objs.size + 1) :: us, []⟩ (Value.ref (hp.objs.size + 1) :: us) _ _ (fun _ _ _ => False) (hr.make C us []) (I2.env0.make C us []) hbd r2 hq) fun r s' hq' => ?_))
  cases r with
  | error er => exact (show False from hq').elim
  | ok fl =>
    cases fl with
    | ret u =>
      obtain ⟨v, H2, os2, bare2, un2, hok2, rv, ev, d, fs, ea, ed, hd1, q2⟩ := hq'
      subst ev
      obtain ⟨h2, g2, d2, t2, os'⟩ := s'
      obtain ⟨t0, G, J, kG, ge, hoe, na⟩ := mk_end0 (d2 := d2) (t2 := t2) I1 le1 kk un2 hok2 os2 bare2 ea ed hd1
      exact ⟨rv, _, _, _, ⟨G, g2, d2, t2, os'⟩, _, .ref C, some d, rfl, J, kG, ge, hoe, ⟨rfl, rfl, fun vs e => by cases e; rfl⟩, rfl, rfl, na, rfl, bare2, raises_own T.exC T.tyC, q2⟩
    | next => exact False.elim hq'
    | brk => exact False.elim hq'
    | cont => exact False.elim hq'
/-- the heap behind the making: the error's own dict, and nothing else, is new -/
theorem made_heap {H : Hp} {a d : Addr} {o1 : HO} {fs : List (Str × V)} (ha : H a = none) (hd : H d = none) (n : d ≠ a) {o2 : HO} : upd (del (upd (upd (upd H a o1) d (exd d fs)) a o2) a) d (.xd fs) = upd H d (.xd fs) := by
  funext b
  by_cases e1 : b = d
  · rw [e1, upd_same, upd_same]
  · rw [upd_ne e1, upd_ne e1]
    by_cases e2 : b = a
    · rw [e2, del_same, ha]
    · rw [del_ne e2, upd_ne e2, upd_ne e1, upd_ne e2]
/-- the promise of an __init__ that sets word alone -/
def spWord (C : Addr) (wd : Str) : Sp := fun vs H Q _ => ∃ a, vs = [.ref a] ∧ H a = some (exo a C none) ∧ ∀ dx, H dx = none → dx ≠ a → Q .non (upd (upd H dx (exd dx [("word", .str wd)])) a (exo a C (some dx)))
def tRaiseW (C : Addr) (wd : Str) : L2.St → Hp → XK → Prop := fun σ H Q => ∀ d, H d = none → Q (.ref C) (some d) (upd H d (.xd [("word", .str wd)]))
theorem pmk_word {X : Cx} {x wd : Str} {C fI : Addr} {k : Nat} {fd : FuncData} {p pos : Pos} (T : OexC X.K C) (iC : PySem.W.findIn X.K (.ref C) "__init__" = some (some (.ref fI))) (tI : PySem.W.typeIn X.K (.ref fI) = some (.type "function"))
    (F1 : FnOk X.prog X.w X.K X.mg X.base CX0 k fI fd ["self"] (spWord C wd)) (hr : Room (k + 1) X.A) (hb : Binds X.K fd ["self"] []) (hg : Gl X x) (hm : X.mg x = some (.ref C)) (hdb : (x == ("__debug__" : Str)) = false := by decide) :
    L2N.PMk X (.Call (.Name x p) [] [] pos) (tRaiseW C wd) := by
  intro pins s σ H Q I h
  refine wpAny_Call_Name_kw (ld_glob I hg hm ?_ hdb)
  refine PySem.W.callWith_K0 I.kIn T.kC (mkRunN T iC tI F1 hr hb I .nil (Nat.zero_le _) fun a ha => ⟨a, rfl, upd_same, fun dx ndx ne => ⟨rfl, dx, [("word", .str wd)], upd_same, ?_, ?_, ?_⟩⟩)
  · rw [upd_ne ne, upd_same]
  · rw [upd_ne ne] at ndx
    exact ndx
  · rw [upd_ne ne] at ndx
    rw [made_heap ha ndx ne]
    exact h dx ndx
end Onp
set_option maxHeartbeats 4000000
set_option autoImplicit false
namespace Onp
open PySem PySem.Spec PyProof.Rows L2 HotX L2H
/-! ### a def that may raise, its errors with no context -/
theorem okN {P : Program} {w : World} {K : PySem.W.Frag} {mg : Str → Option Value} {base : Heap} {x qual : Str} {st : Stmt} {f : Addr} {fd : FuncData} {N ps : List Str} {k : Nat} {sp : Sp} (F : Fun K x qual st f fd) (S : FnScope N ps (defScope st)) (len : ∀ vs H Q E, sp vs H Q E → vs.length = ps.length)
    (hbody : ∀ (cdv : Value) (A : Around) (outer : List Env) (s : Shared) (H : Hp) (vs : List V) (Q : VK) (E : XK), Room k (A.deeper (envOfC qual (defScope st) s.heap.objs.size f cdv)) → sp vs H Q E →
      ∃ t, PSs (cxOf (L2N.CX P w) P w K mg base N qual (defScope st) f cdv A outer s H E) (defBody st) t ∧ t { nx := fun _ H' => Q .non H', rt := Q } (start N vs) H) : FnOk P w K mg base (L2N.CX P w) (k + 1) f fd ps sp := by
  obtain ⟨oc, od, kV, doc, pm, an, cdv, ct, osl, rfl, lk, hcd⟩ := F.ex
  exact fn_of lk hcd S len fun A outer s H vs Q E hr hsp => hbody cdv A outer s H vs Q E hr hsp
/-! ### a def that is called with the handled exception -/
def FnPin (P : Program) (w : World) (K : PySem.W.Frag) (mg : Str → Option Value) (base : Heap) (k : Nat) (f : Addr) (fd : FuncData) (ps : List Str) (sp : Addr × Obj → List V → Hp → VK → Prop) : Prop :=
  ∀ (A : Around) (outer : List Env) (s : Shared) (H : Hp) (us : List Value) (vs : List V) (Q : VK) (p : Addr × Obj), RoomH k A → Hot1 A p → PinOk outer H s p → Env0 P w K mg base A outer s H → BindsTo s fd ⟨us, []⟩ (ps.zip us) → Vals vs us → vs.length = ps.length → sp p vs H Q →
    codeAny (model P w) A (.call (.ref f) ⟨us, []⟩) (CR CX0 outer P w H s Q E0) s
theorem okPin {P : Program} {w : World} {K : PySem.W.Frag} {mg : Str → Option Value} {base : Heap} {x qual : Str} {st : Stmt} {f : Addr} {fd : FuncData} {N ps : List Str} {k : Nat} {sp : Addr × Obj → List V → Hp → VK → Prop} (F : Fun K x qual st f fd) (S : FnScope N ps (defScope st))
    (hbody : ∀ (cdv : Value) (A : Around) (outer : List Env) (s : Shared) (H : Hp) (vs : List V) (Q : VK) (p : Addr × Obj), Hot1 A p → RoomH k (A.deeper (envOfC qual (defScope st) s.heap.objs.size f cdv)) → sp p vs H Q →
      ∃ t, PSs (cxH CX0 P w K mg base N qual (defScope st) f cdv A outer s H E0 p) (defBody st) t ∧ t { nx := fun _ H' => Q .non H', rt := Q } (L2.start N vs) H) : FnPin P w K mg base (k + 1) f fd ps sp := by
  obtain ⟨oc, od, kV, doc, pm, an, cdv, ct, osl, rfl, lk, hcd⟩ := F.ex
  intro A outer s H us vs Q p hr hot hpin e0 hb r hl hsp
  have KX : K.In s.heap := e0.mod.kin.keeps fun b o e => (e0.bs b o e).1
  have lim : s.heap.NoLimit := e0.mod.nolimit.keeps fun b o e => (e0.bs b o e).1
  refine codeAny_call_function hr.depth (KX _ _ lk) rfl S.co S.gen rfl (PySem.W.codeRec_of KX hcd) (hb _ _ _ _ ?_)
  refine wpAny_newFunctionEnv_cells S.kind (fun ⟨n, v⟩ hy => (S.par n (List.of_mem_zip hy).1).imp id fun q => ⟨q, PySem.W.cellsFrom_some _ _ _ (.inl q)⟩) fun env he s1 y => ?_
  subst he
  refine ⟨lim.keeps y.toInCall.keep, codeAny_func ?_⟩
  obtain ⟨t, ht, hq⟩ := hbody cdv A outer s H vs Q p hot (hr.deeper _) hsp
  refine wpAny_mono (ht.run [] s1 (L2.start N vs) H _ (inv_startH S hpin e0 hl r y) hq) (fun fl s' hs => ?_) fun e s' hs => hs
  cases fl with
  | ret u => obtain ⟨v, σ', H', J, rv, q⟩ := hs; exact ⟨v, H', J.os, J.bare, J.base, J.hok, rv, q⟩
  | next => obtain ⟨σ', H', J, q⟩ := hs; exact ⟨.non, H', J.os, J.bare, J.base, J.hok, rfl, q⟩
  | brk => obtain ⟨_, _, _, q⟩ := hs; exact False.elim q
  | cont => obtain ⟨_, _, _, q⟩ := hs; exact False.elim q
theorem pe_callPin {X : Cx} {k : Nat} {f : Addr} {fd : FuncData} {ps : List Str} {sp : Addr × Obj → List V → Hp → VK → Prop} {x : Str} {q pos : Pos} {e : Expr} {es : List Expr} {t : TA} {p : Addr × Obj} (F : FnPin X.prog X.w X.K X.mg X.base k f fd ps sp) (hr : RoomH k X.A) (hot : Hot1 X.A p) (hp : p ∈ X.pn)
    (hg : Gl X x) (hm : X.mg x = some (.ref f)) (hk : PySem.W.keepIn X.K (.ref f) = true) (hb : Binds X.K fd ps []) (ha : PA X (e :: es) t) (hdb : (x == ("__debug__" : Str)) = false := by decide)
    (he : starEach (e :: es) X.env = (false, eval e X.env) :: starEach es X.env := by rfl) (hpl : (backTo pos (starEach es X.env)).any (·.1) = false := by rfl) :
    PE X (.Call (.Name x q) (e :: es) [] pos) (fun σ H Q => t σ H fun vs H1 => vs.length = ps.length ∧ sp p vs H1 Q) := by
  refine ⟨fun pins s σ H Q I h => wpAny_Call_Name_kw (ld_glob I hg hm ?_ hdb)⟩
  refine PySem.W.callWith_K (h₀ := X.base) I.ok.mod.kin hk (thn (ha.run pos pins s σ H _ I h) fun us s1 ⟨vs, H1, I1, r, hl, q⟩ => ⟨I1.kIn, ?_⟩) he hpl
  have b := hb s1 us I1.kIn (by rw [List.append_nil, ← r.length]; exact hl)
  rw [List.append_nil] at b
  have P1 := I1.pin p (List.mem_append_left _ hp)
  have hpin : PinOk X.stack H1 s1 p := ⟨P1.1, P1.2.1, fun z => (List.mem_cons.mp (I1.stkSub p.1 z)).elim P1.2.2.1 P1.2.2.2.1, P1.2.2.2.2⟩
  refine wpAny_call (codeAny_mono (F X.A X.stack s1 H1 us vs Q p hr hot hpin I1.env0 b r hl q) fun r s' hq => ?_)
  cases r with
  | error e => exact (show False from hq).elim
  | ok fl =>
    cases fl with
    | ret u => exact I1.after hq
    | next => exact False.elim hq
    | brk => exact False.elim hq
    | cont => exact False.elim hq
/-! ### what is asked of a pinned exception -/
structure ErrC (K : PySem.W.Frag) (D : Addr) : Prop where
  cl : (PySem.W.clsIn K D).isSome = true
  ga : PySem.W.findIn K (.ref D) "__getattribute__" = some (some (.builtin "BaseException.__getattribute__"))
  gg : PySem.W.findIn K (.ref D) "__getattr__" = some none
  sb : PySem.W.subIn K (.ref D) (.type "BaseException") = some true
  cc : PySem.W.findIn K (.ref D) "__class__" = some (some (.builtin "object.__class__"))
  gs : PySem.W.specialIn K (.builtin "object.__class__") "__get__" = some (some (.builtin "getset_descriptor.__get__"))
  tk : PySem.W.takesIn K (.builtin "object.__class__") = some true
  mo : PySem.W.mroIn K D (.type "object") = some true
  hd : PySem.W.hasDictIn K D = true
theorem inst_pin {X : Cx} {pins : List (Addr × Obj)} {σ : L2.St} {H : Hp} {s : Shared} {p : Addr × Obj} {D d : Addr} {fs : List (Str × V)} (I : Inv X pins σ H s) (hp : p ∈ X.pn) (hz : Zc (.ref D) (some d) p.2) (hf : ∃ vs, p.2.data = .fields vs) (hd : H d = some (.xd fs)) :
    ∃ od, PySem.W.InstAt s.heap p.1 p.2 D (some od) ∧ ∃ mA : Str → Option Value, (∀ f, RelO (fs.lookup f) (mA f)) ∧ ∀ name, PySem.W.lookIn name od = some (mA name) := by
  obtain ⟨mA, hns, hr⟩ := (show ∃ mA, s.heap.Ns1 d mA ∧ ∀ f, RelO (fs.lookup f) (mA f) from I.hok d _ hd)
  obtain ⟨od, ho, hl⟩ := lookIn_ns hns
  obtain ⟨vs, hv⟩ := hf
  exact ⟨od, ⟨(I.pin p (List.mem_append_left _ hp)).1, hz.1, by unfold PySem.W.notCls; rw [hv] <;> rfl, by rw [hz.2]; exact ho⟩, mA, hr, hl⟩
theorem call_isP {X : Cx} {p : Addr × Obj} {D d : Addr} (C : ErrC X.K D) (hp : p ∈ X.pn) (hz : Zc (.ref D) (some d) p.2) (hf : ∃ vs, p.2.data = .fields vs) :
    CallR X (.builtin "isinstance") (fun xs H Q => ∃ (c : Addr) (b : Bool) (fs : List (Str × V)), xs = [.ref p.1, .ref c] ∧ H d = some (.xd fs) ∧ PySem.W.kitOne X.K (.ref D) (.ref c) = some b ∧ Q (.bl b) H) := by
  intro pins s σ H xs us Q I r h
  obtain ⟨c, b, fs, rfl, hd, e, q⟩ := h
  obtain ⟨u, v, rfl, ru, rv⟩ := vals2 r
  cases ru
  cases rv
  obtain ⟨od, J, _⟩ := inst_pin I hp hz hf hd
  exact PySem.W.kia_one (PySem.W.kitx_exc C.cl C.ga C.gg C.sb C.cc C.gs C.tk C.mo) I.kIn J e (fun z => nomatch z) fun tk => ⟨.bl b, H, I.kept (t' := tk) fun _ _ z => z, rfl, q⟩
/-- e.f of it -/
theorem pe_fldP {X : Cx} {p : Addr × Obj} {D d : Addr} {e : Expr} {te : TE} {pos : Pos} {n : Str} (C : ErrC X.K D) (hno : PySem.W.findIn X.K (.ref D) n = some none) (hp : p ∈ X.pn) (hz : Zc (.ref D) (some d) p.2) (hf : ∃ vs, p.2.data = .fields vs) (he : PE X e te)
    (hb : attributeBase e n X.env (eval e X.env) = eval e X.env := by rfl) : PE X (.Attribute e n pos) (fun σ H Q => te σ H fun x H1 => x = .ref p.1 ∧ ∃ (fs : List (Str × V)) (v : V), H1 d = some (.xd fs) ∧ fs.lookup n = some v ∧ Q v H1) := by
  refine ⟨fun pins s σ H Q I h => attr_of hb (thn (he.run pins s σ H _ I h) fun u s1 ⟨x, H1, I1, rx, ex, fs, v, hd, l, q⟩ => ?_)⟩
  subst ex
  obtain rfl : u = Value.ref p.1 := rx
  obtain ⟨od, J, mA, hr, hl⟩ := inst_pin I1 hp hz hf hd
  obtain ⟨u, hu, ru⟩ := RelO.some_of (v := v) (o := mA n) (by rw [← l]; exact hr n)
  exact HandSPX.exc_get I1.kIn J C.ga C.gg C.sb (PySem.W.findObj_own C.hd hno rfl (by rw [hl, hu])) (handed_of ru) ⟨v, H1, I1.tok _, ru, q⟩
/-! ### a comprehension over zip, the first list no longer -/
theorem lc_zip1 {K : PySem.W.Frag} {a b : Addr} {xs ys : List V} {g : TG} {tt : TT} {te : TE} {vs : List Nat} {σ : L2.St} {H1 : Hp} {D : Addr} {Qd : Hp → Prop} (hl : xs.length ≤ ys.length) (Pv : Nat → Hp → Prop) (h0 : Pv 0 (upd H1 D (.lst []))) (hq : ∀ i H, Pv i H → SqL K H a xs ∧ SqL K H b ys)
    (hs : ∀ i x y T H, xs[i]? = some x → ys[i]? = some y → Pv i H → H T = none → g (.ref T) (wipe σ vs) (upd H T (.tup [x, y])) fun σ2 H2 => wipe σ2 vs = wipe σ vs ∧ tt σ2 H2 fun b H3 =>
      if b = true then te σ2 H3 fun y H4 => ∃ acc, H4 D = some (.lst acc) ∧ acc.length < sizeLine ∧ Pv (i + 1) (upd H4 D (.lst (acc ++ [y]))) else Pv (i + 1) H3) (hd : ∀ H, Pv xs.length H → Qd H) :
    ∃ W : Nat → Nat → Hp → Prop, (∃ m, W 0 m (upd H1 D (.lst []))) ∧ ∀ i m H, W i m H → ((Itz1 K a b).stop i H ∧ Qd H) ∨ ((Itz1 K a b).go i H ∧ ∃ Nx : Hp → Prop, (∀ H', Nx H' → ∃ m', m' < m ∧ W (i + 1) m' H') ∧
      ∀ x H', (Itz1 K a b).yld i H x H' → g x (wipe σ vs) H' fun σ2 H2 => wipe σ2 vs = wipe σ vs ∧ tt σ2 H2 fun b H3 => if b = true then te σ2 H3 fun y H4 => ∃ acc, H4 D = some (.lst acc) ∧ acc.length < sizeLine ∧ Nx (upd H4 D (.lst (acc ++ [y]))) else Nx H3) := by
  refine ⟨fun i m H => m = xs.length - i ∧ i ≤ xs.length ∧ Pv i H, ⟨xs.length, by simp, Nat.zero_le _, h0⟩, fun i m H ⟨em, hi, p⟩ => ?_⟩
  obtain ⟨qa, qb⟩ := hq i H p
  by_cases lt : i < xs.length
  · have lt2 : i < ys.length := by omega
    refine .inr ⟨⟨xs, ys, xs[i], ys[i], qa, qb, List.getElem?_eq_getElem lt, List.getElem?_eq_getElem lt2⟩, Pv (i + 1), fun H' p' => ⟨xs.length - (i + 1), by omega, rfl, lt, p'⟩, fun x H' hy => ?_⟩
    obtain ⟨T, x1, x2, rfl, nT, rfl, e1, e2⟩ := hy
    exact hs i x1 x2 T H (e1 _ qa) (e2 _ qb) p nT
  · have e : i = xs.length := by omega
    subst e
    exact .inl ⟨⟨xs, ys, qa, qb, Nat.le_refl _⟩, hd H p⟩
/-! ### the lambda that a def got, called in its try: errors with no context -/
def lamCxN (X : Cx) (A : Around) (outer : List Env) (s : Shared) (H : Hp) (E : XK) (scope : Scope) (f c' : Addr) : Cx :=
  { LamX.lamCx X A outer s H E scope f c' with xe := fun e s' => wpAny (model X.prog X.w) (A.deeper (LamX.lamEnv X scope s.heap.objs.size f c')) (leaving (LamX.lamEnv X scope s.heap.objs.size f c') e) (fun _ s'' => L2N.CX X.prog X.w outer H s E e s'') (fun e' s'' => L2N.CX X.prog X.w outer H s E e' s'') s' }
theorem reXe {X : Cx} {xe : Value → Shared → Prop} {pins : List (Addr × Obj)} {σ : L2.St} {H : Hp} {s : Shared} (I : Inv X pins σ H s) : Inv { X with xe := xe } pins σ H s := by
  have ok := I.ok
  exact ⟨⟨ok.mod, ok.kind, ok.glob, ok.blt, ok.above, ok.inj, ok.has, ok.cab, ok.hd, ok.frames, ok.stk, ok.exf, ok.bs, ok.bsz, ok.noex, ok.exfs, ok.funs, ok.frf⟩, I.os, I.bare, I.base, I.loc, I.cell, I.free, I.freeC, I.pin, I.hok, I.len⟩
section
variable {X : Cx} {pins : List (Addr × Obj)} {σ : L2.St} {H : Hp} {s : Shared}
open LamX
theorem pe_actN {CXg : CXT} {Eg : XK} {Ng : List Str} {qg : Str} {sg : Scope} {g f c' : Addr} {cdg pm ctv : Value} {params : Arguments} {body : Expr} {scope : Scope} {k i : Nat} {a : Str} {pn : List (Addr × Obj)} {xe : Value → Shared → Prop} {W : WX} {E : XK} {tb : TE} {p1 p2 : Pos}
    (I : Inv X pins σ H s) (L : LamS X.env.scope scope) (hf : s.heap.get? f = some (PySem.W.kla_obj "<lambda>" (X.env.qual ++ "<lambda>") params body scope (cloFrom X.env.cells scope.names []) pm c' ctv)) (hfn : H f = none) (hfr : f ∉ frs X.stack)
    (hbind : bindArgs (PySem.W.kla_fn "<lambda>" (X.env.qual ++ "<lambda>") params body scope (cloFrom X.env.cells scope.names []) pm (.ref c') ctv) ⟨[], []⟩ = pure [])
    (tk : L2N.Takes ((cxOf CXg X.prog X.w X.K X.mg X.base Ng qg sg g cdg X.A X.stack s H Eg).tr pn xe) W) (hW : ∀ cls d σ' H', E cls d H' → W cls d σ' H') (hr : Room (k + 1) (X.A.deeper (envOfC qg sg s.heap.objs.size g cdg)))
    (hbody : ∀ (A : Around) (outer : List Env) (s : Shared) (H : Hp), Room k (A.deeper (lamEnv X scope s.heap.objs.size f c')) → PE (lamCxN X A outer s H E scope f c') body tb)
    (hN : Ng[i]? = some a) (hv : Vis sg a) (hd : (a == ("__debug__" : Str)) = false) (hcd : (a == ("__classdict__" : Str)) = false) :
    PE ((cxOf CXg X.prog X.w X.K X.mg X.base Ng qg sg g cdg X.A X.stack s H Eg).tr pn xe) (.Call (.Name a p1) [] [] p2) (fun σZ HZ Q => σZ[i]? = some (some (.ref f)) ∧ HZ c' = some (CodeO c' (X.env.qual ++ "<lambda>")) ∧ tb σ HZ Q) := by
  refine ⟨fun pinsZ sZ σZ HZ Q IZ ⟨hs, hc, ht⟩ => ?_⟩
  refine wpAny_Call_Name_kw (thn ((pe_var (pos := p1) (i := i) hN hv hd hcd).run pinsZ sZ σZ HZ (fun v H1 => v = .ref f ∧ H1 = HZ) IZ ⟨.ref f, hs, rfl, rfl⟩) fun u s1 ⟨v, H1, I1, r1, ev, eH⟩ => ?_)
  subst ev
  rw [eH] at I1
  obtain rfl : u = Value.ref f := r1
  have of1 := I1.base.keep f _ hf hfn hfr (fun z => nomatch (show f ∈ ([] : List Addr) from z))
  refine PySem.W.callWith_F0 ⟨_, _, _, _, of1⟩ ?_
  obtain ⟨⟨oc, vs, t, hoc, hdc, hvc⟩, _, _⟩ := I1.hok c' _ hc
  have rc : codeAny (model X.prog X.w) (X.A.deeper (envOfC qg sg s.heap.objs.size g cdg)) (.call (.ref f) ⟨[], []⟩) (CR (L2N.CX X.prog X.w) (envOfC qg sg s.heap.objs.size g cdg :: X.stack) X.prog X.w HZ s1 Q E) s1 := by
    refine PySem.W.kla_callFunE hr.depth of1 rfl L.co L.gen rfl ⟨c', oc, vs, t, rfl, hoc, hdc, hvc⟩ ?_
    rw [hbind]
    refine wpAny_pure (wpAny_newFunctionEnv (fun y hy => (L.own y hy).2) (fun y hy => absurd hy (by simp)) (fun j hns hsb => ⟨I1.nolimit.fresh _ hsb, ?_⟩) L.kind)
    show codeAny _ _ (.expr body (lamEnv X scope s1.heap.objs.size f c')) _ _
    have kp : ∀ b o, s1.heap.get? b = some o → j.get? b = some o := fun b o e => hsb.extBut b o (Nat.ne_of_lt (Heap.lt_size e)) (Heap.get?_push_of_some _ e)
    have J0 : Inv (lamCx X (X.A.deeper (envOfC qg sg s.heap.objs.size g cdg)) (envOfC qg sg s.heap.objs.size g cdg :: X.stack) s1 HZ E scope f c') [] σ HZ { s1 with heap := j, toks := s1.toks + ([] : List (Str × Value)).length } := lam_start2 I L I1.env0 hr.hd I1.base hns kp
    have J : Inv (lamCxN X (X.A.deeper (envOfC qg sg s.heap.objs.size g cdg)) (envOfC qg sg s.heap.objs.size g cdg :: X.stack) s1 HZ E scope f c') [] σ HZ { s1 with heap := j, toks := s1.toks + ([] : List (Str × Value)).length } := reXe J0
    refine PySem.W.kla_codeExpr (wpAny_mono ((hbody _ _ s1 HZ (hr.deeper _)).run [] _ _ HZ Q J ht) (fun v s' hq => ?_) fun e s' hq => hq)
    obtain ⟨w', H', J', rv, q⟩ := hq
    exact ⟨w', H', J'.os, J'.bare, J'.base, J'.hok, rv, q⟩
  have hx := L2N.passes_call tk hW
  refine wpAny_call (codeAny_mono rc fun r s' hq => ?_)
  cases r with
  | error e => exact hx pinsZ σZ HZ s1 e s' I1 hq
  | ok fl =>
    cases fl with
    | ret u => exact I1.after hq
    | next => exact False.elim hq
    | brk => exact False.elim hq
    | cont => exact False.elim hq
end
end Onp
set_option maxHeartbeats 4000000
set_option autoImplicit false
namespace Onp
open PySem PySem.Spec PyProof.Rows L2 HotX L2H LamX
/-! ### x(lambda: body), x a def that calls what it got in a try; errors with no context -/
def GivesN (X : Cx) (k : Nat) (Ng : List Str) (x : Str) (sg : Scope) (g : Addr) (cdg : Value) (bg : List Stmt) (a : Str) (q : Str) (TT : (XK → Hp → VK → Prop) → Hp → VK → Prop) : Prop :=
  ∀ (f c' : Addr) (s : Shared) (H : Hp) (Q : VK) (tl : XK → Hp → VK → Prop), Room (k + 1) (X.A.deeper (envOfC x sg s.heap.objs.size g cdg)) →
    (∀ (W : WX) (pn : List (Addr × Obj)) (xe : Value → Shared → Prop) (E : XK) (p1 p2 : Pos), L2N.Takes ((cxOf CX0 X.prog X.w X.K X.mg X.base Ng x sg g cdg X.A X.stack s H E0).tr pn xe) W → (∀ cls d σ' H', E cls d H' → W cls d σ' H') →
      PE ((cxOf CX0 X.prog X.w X.K X.mg X.base Ng x sg g cdg X.A X.stack s H E0).tr pn xe) (.Call (.Name a p1) [] [] p2) (fun σZ HZ Q => σZ[0]? = some (some (.ref f)) ∧ HZ c' = some (CodeO c' q) ∧ tl E HZ Q)) →
    H c' = some (CodeO c' q) → TT tl H Q →
    ∃ t, PSs (cxOf CX0 X.prog X.w X.K X.mg X.base Ng x sg g cdg X.A X.stack s H E0).nox bg t ∧ t { nx := fun _ H' => Q .non H', rt := Q } (L2.start Ng [.ref f]) H
theorem pe_lamN {X : Cx} {T : List (Addr × Str)} {TT : (XK → Hp → VK → Prop) → Hp → VK → Prop} {x a : Str} {g c P : Addr} {k : Nat} {pg : Arguments} {bg : List Stmt} {sg : Scope} {dV kV doc pm cdv ct oc : Value} {an od : Option Addr} {osl : Array (Option Value)} {Ng : List Str}
    {params : Arguments} {body : Expr} {scope : Scope} {t : XK → TE} {p lpos pos : Pos} (hg : Gl X x) (hm : X.mg x = some (.ref g)) (hk : PySem.W.keepIn X.K (.ref g) = true) (lk : X.K.lookup g = some ⟨oc, od, .func (PySem.W.fnOf x x pg bg sg dV kV doc pm an cdv ct), osl⟩)
    (hcg : PySem.W.codeIn X.K cdv x = true) (hb : L2.Binds X.K (PySem.W.fnOf x x pg bg sg dV kV doc pm an cdv ct) [a] []) (Sg : FnScope Ng [a] sg) (hNg : Ng[0]? = some a) (hva : Vis sg a) (hG : GivesN X k Ng x sg g cdv bg a (X.env.qual ++ "<lambda>") TT)
    (TB : TabB X.base X.mg c P) (hcode : X.env.code = .ref c) (hmT : (P, X.env.qual ++ "<lambda>") ∈ T) (hu : ∀ p ∈ T, p.1 = P → p.2 = X.env.qual ++ "<lambda>") (hr : Room (k + 2) X.A) (L : LamS X.env.scope scope) (hdef : defaultsOf params X.env = ([], []))
    (hbind : ∀ (q : Str) (cl : List (Str × Addr)) (pm cv ctv : Value), bindArgs (PySem.W.kla_fn "<lambda>" q params body scope cl pm cv ctv) ⟨[], []⟩ = pure [])
    (hbody : ∀ (A : Around) (outer : List Env) (s : Shared) (H : Hp) (E : XK) (f c' : Addr), Room k (A.deeper (lamEnv X scope s.heap.objs.size f c')) → PE (lamCxN X A outer s H E scope f c') body (t E))
    (hdb : (x == ("__debug__" : Str)) = false := by decide) (hd : (a == ("__debug__" : Str)) = false := by decide) (hcd : (a == ("__classdict__" : Str)) = false := by decide) : PE X (.Call (.Name x p) [.Lambda params body scope lpos] [] pos) (tLam T TT t) := by
  refine ⟨fun pins s σ H Q I ⟨hT, h⟩ => wpAny_Call_Name_kw (ld_glob I hg hm ?_ hdb)⟩
  refine PySem.W.callWith_K (h₀ := X.base) I.ok.mod.kin hk ?_ (by rfl) (by rfl)
  show wpAny _ _ (spliced ((false, eval (.Lambda params body scope lpos) X.env) :: backTo pos (starEach [] X.env))) _ _ s
  refine Calls.spliced_cons (lam_make2 I TB hcode hmT hu hT hdef (L.has I.ok) fun f c' pm' ctv H1 s' I1 eN T1 hf hfn hfr hco => Calls.spliced_nil ⟨I1.kIn, ?_⟩)
  have rc : codeAny (model X.prog X.w) X.A (.call (.ref g) ⟨[.ref f], []⟩) (CR CX0 X.stack X.prog X.w H1 s' Q E0) s' := by
    refine run_ofS (N := Ng) (ps := [a]) (us := [.ref f]) (vs := [.ref f]) lk hcg Sg hr I1.env0 (hb s' [.ref f] I1.kIn rfl) (.cons rfl .nil) rfl fun hr' => ?_
    obtain ⟨t', ht', hq'⟩ := hG f c' s' H1 Q (fun E H' Q' => t E σ H' Q') hr' (fun W pn xe E p1 p2 tk hW => pe_actN (i := 0) I1 L hf hfn hfr (hbind _ _ _ _ _) tk hW hr' (fun A outer s H hr2 => hbody A outer s H E f c' hr2) hNg hva hd hcd) hco (h H1 eN T1)
    exact ⟨t', ht'.nox, hq'⟩
  refine wpAny_call (codeAny_mono rc fun r s2 hq => ?_)
  cases r with
  | error e => exact (show False from hq).elim
  | ok fl =>
    cases fl with
    | ret u => exact I1.after hq
    | next => exact False.elim hq
    | brk => exact False.elim hq
    | cont => exact False.elim hq
theorem takes0N {X : Cx} : L2N.Takes X (fun _ _ _ _ => False) := fun _ _ x => by
  obtain ⟨_, _, _, _, _, _, _, _, _, _, _, _, _, _, _, _, z⟩ := x
  exact z.elim
end Onp
/-! rules of my own: o[i] read by values (for o[i] += e), max of three ints, max of a tuple of ints -/
namespace Onp
open PySem PySem.Spec PyProof.Rows L2
section
variable {X : Cx}
def rGetL (K : PySem.W.Frag) : V → V → Hp → VK → Prop := fun x y H Q => ∃ p xs, ∃ (j : Nat), ∃ v, x = .ref p ∧ y = .int (j : Int) ∧ SqL K H p xs ∧ xs[j]? = some v ∧ Q v H
theorem get_list : PGet X (rGetL X.K) := by
  intro pins s σ H o i ov iv Q I ro ri h
  obtain ⟨p, xs, j, v, rfl, rfl, hq, hx, q⟩ := h
  cases ro
  obtain ⟨t, rfl⟩ := ri
  obtain ⟨its, r, pl, hz⟩ := I.list hq
  obtain ⟨w, ew, rw'⟩ := r.get hx
  have hl := r.length
  have hn := line63
  have hj : j < xs.length := (List.getElem?_eq_some_iff.mp hx).1
  exact wpAny_getItem_list pl.isList (by omega) (by omega) (by simpa using ew) ⟨v, H, I, rw', q⟩
theorem vals3 {x y z : V} {us : List Value} (r : Vals [x, y, z] us) : ∃ u w' v', us = [u, w', v'] ∧ RelV x u ∧ RelV y w' ∧ RelV z v' := by
  cases r with
  | cons r1 r2 =>
    cases r2 with
    | cons r3 r4 =>
      cases r4 with
      | cons r5 r6 =>
        cases r6
        exact ⟨_, _, _, rfl, r1, r3, r5⟩
theorem call_max3 (hc : X.calm = true) : CallR X (.builtin "max") (fun xs H Q => ∃ i j k : Int, xs = [.int i, .int j, .int k] ∧ Q (.int (max (max i j) k)) H) := by
  intro pins s σ H xs us Q I r h
  obtain ⟨i, j, k, rfl, q⟩ := h
  obtain ⟨u, w', v', rfl, ⟨t, rfl⟩, ⟨t', rfl⟩, ⟨t'', rfl⟩⟩ := vals3 r
  refine max_three_ints (I.ok.hd hc) fun h' tk k' => ⟨_, H, I.kept k', ?_, q⟩
  by_cases h1 : j > i
  · rw [if_pos h1]
    by_cases h2 : k > j
    · rw [if_pos h2]
      exact ⟨_, by rw [show max (max i j) k = k by omega]⟩
    · rw [if_neg h2]
      exact ⟨_, by rw [show max (max i j) k = j by omega]⟩
  · rw [if_neg h1]
    by_cases h2 : k > i
    · rw [if_pos h2]
      exact ⟨_, by rw [show max (max i j) k = k by omega]⟩
    · rw [if_neg h2]
      exact ⟨_, by rw [show max (max i j) k = i by omega]⟩
/-- max(t) of a tuple of ints -/
theorem max_tupRaw {prog : Program} {w : World} {A : Around} {E : Value → Shared → Prop} {s : Shared} {l : Addr} {xs : Array (Int × Tok)} {Q : Value → Shared → Prop} (hh : A.handled = none) (hl : s.heap.IsTuple l (intItems xs)) (hne : 0 < xs.size)
    (h : ∀ v h' tk, (intItems xs)[argBest (fun i j => decide (numAt xs i > numAt xs j)) (xs.size - 1)]? = some v → (∀ b o, s.heap.get? b = some o → h'.get? b = some o) → Q v { s with heap := h', toks := tk }) :
    wpAny (model prog w) A (call (.builtin "max") [.ref l]) Q E s := by
  have hlt : l < s.heap.objs.size := by obtain ⟨_, e, _⟩ := hl; exact Heap.lt_size e
  refine call_max_walk (wpAny_pyIter_tuple hl ?_)
  refine ⟨_, [s.heap.objs.size, l], [s.heap.objs.size], _, _, _, _, rfl, Walks.tuple (A := A.in1) hh _ l (Nat.ne_of_lt hlt) (intItems xs), ⟨⟨_, Heap.get?_push_size _ rfl, rfl, rfl⟩, hl.push _⟩, fun b hb => ?_, by simpa [intItems] using hne, CmpOf.ints_gt (numAt xs) (fun _ _ => intItems_at), fun v h' tk hP hk => ?_⟩
  · show b < (s.heap.push _).objs.size
    rw [Heap.size_push]
    rcases List.mem_cons.mp hb with rfl | hb
    · exact Nat.lt_succ_self _
    · rcases List.mem_cons.mp hb with rfl | hb
      · exact Nat.lt_succ_of_lt hlt
      · cases hb
  · refine h v h' tk (by simpa [intItems] using hP) fun b o e => ?_
    refine hk b o (fun hm => ?_) (Heap.get?_push_of_some _ e)
    rcases List.mem_cons.mp hm with e1 | hm
    · exact absurd (e1 ▸ Heap.lt_size e) (Nat.lt_irrefl _)
    · cases hm
def rMaxT (K : PySem.W.Frag) : List V → Hp → VK → Prop := fun vs H Q => ∃ (a : Addr) (ns : List Int), vs = [V.ref a] ∧ SqT K H a (ns.map V.int) ∧ 0 < ns.length ∧ ∀ m, m ∈ ns → (∀ y, y ∈ ns → y ≤ m) → Q (.int m) H
theorem cr_maxT (hc : X.calm = true) : CallR X (.builtin "max") (rMaxT X.K) := by
  intro pins s σ H vs us Q I r h
  obtain ⟨a, ns, rfl, hs, hne, q⟩ := h
  obtain ⟨its, rv, ht, _⟩ := I.tuple hs
  rw [Vals.ref1 r]
  have hi := rv.ints
  obtain ⟨xs, e⟩ := hi.allInts.items
  have hn : numsOf (intItems xs).toList = ns := by rw [← e]; exact hi.numsOf
  rw [nums_intItems] at hn
  subst hn
  have hl : s.heap.IsTuple a its.toArray := ht
  rw [e] at hl
  have hsz : 0 < xs.size := by simpa using hne
  refine max_tupRaw (I.ok.hd hc) hl hsz fun v h' tk hv hk => ?_
  obtain ⟨t, rfl⟩ := intItems_at hv
  obtain ⟨h1, h2⟩ := argBest_gt (numAt xs) (xs.size - 1)
  refine ⟨.int _, H, I.kept hk, ⟨_, rfl⟩, q _ ?_ fun a ha => ?_⟩
  · rw [numAt_eq]; exact PySem.getD_mem (by rw [List.length_map, Array.length_toList]; omega)
  · obtain ⟨j, hj, rfl⟩ := mem_getD ha
    rw [List.length_map, Array.length_toList] at hj
    rw [← numAt_eq]; exact h2 j (by omega)
end
end Onp
set_option maxHeartbeats 4000000
namespace Onp
open PySem PySem.Spec PyProof.Rows L2
def topS (i : Nat) : Stmt := PySem.Challenge.pw_onepurse_k21_steady_tables_raised.main.body.getD i (.Pass ⟨0, 0, 0, 0⟩)
abbrev sBag : Stmt := topS 39
abbrev sPull : Stmt := topS 40
abbrev sOf : Stmt := topS 41
/-! ### heaps: all but b stays -/
def Keep (b : Addr) (H H' : Hp) : Prop := ∀ a o, a ≠ b → H a = some o → H' a = some o
theorem Keep.refl {b : Addr} (H : Hp) : Keep b H H := fun _ _ _ h => h
theorem Keep.trans {b : Addr} {H H1 H2 : Hp} (x : Keep b H H1) (y : Keep b H1 H2) : Keep b H H2 := fun a o n h => y a o n (x a o n h)
theorem Keep.of {b : Addr} {H H' : Hp} (s : Same H H') : Keep b H H' := fun a o _ h => s a o h
theorem Keep.upd {b : Addr} {H : Hp} {o : HO} : Keep b H (upd H b o) := fun a x n h => by rw [upd_ne n]; exact h
theorem same_upd {H : Hp} {p : Addr} {o : HO} (h : H p = none) : Same H (upd H p o) := fun b x e => by
  rw [upd_ne (ne_of_none e h)]
  exact e
theorem Keep.new {b p : Addr} {H : Hp} {o : HO} (h : H p = none) : Keep b H (L2.upd H p o) := .of (same_upd h)
theorem Keep.seqL {K : PySem.W.Frag} {b a : Addr} {H H' : Hp} {xs : List V} (k : Keep b H H') (n : a ≠ b) (h : SqL K H a xs) : SqL K H' a xs := by
  rcases h with (h | ⟨o, h⟩) | h
  · exact .inl (.inl (k _ _ n h))
  · exact .inl (.inr ⟨o, k _ _ n h⟩)
  · exact .inr h
theorem Keep.seqT {K : PySem.W.Frag} {b a : Addr} {H H' : Hp} {xs : List V} (k : Keep b H H') (n : a ≠ b) (h : SqT K H a xs) : SqT K H' a xs := by
  rcases h with (h | ⟨o, h⟩) | h
  · exact .inl (.inl (k _ _ n h))
  · exact .inl (.inr ⟨o, k _ _ n h⟩)
  · exact .inr h
theorem same_seqT {K : PySem.W.Frag} {H H' : Hp} {a : Addr} {xs : List V} (e : Same H H') (h : SqT K H a xs) : SqT K H' a xs := by
  rcases h with (h | ⟨o, h⟩) | h
  · exact .inl (.inl (e _ _ h))
  · exact .inl (.inr ⟨o, e _ _ h⟩)
  · exact .inr h
theorem itT {c A B : Prop} [Decidable c] (hc : c) (h : A) : if decide c = true then A else B := by
  rw [if_pos (decide_eq_true hc)]; exact h
theorem itF {c A B : Prop} [Decidable c] (hc : ¬ c) (h : B) : if decide c = true then A else B := by
  rw [if_neg (by rw [decide_eq_false hc]; decide)]; exact h
/-! ### the bag: where it stands, where its list stands, the list -/
structure Bid where
  b : Addr
  l : Addr
  ns : List Int
def bagV (l : Addr) (i : Nat) (r s c : Int) : HO := .lst [.ref l, .int i, .int r, .int s, .int c]
def Bg (H : Hp) (g : Bid) : Prop := ∃ (i : Nat) (r s c : Int), H g.b = some (bagV g.l i r s c) ∧ H g.l = some (.lst (g.ns.map V.int)) ∧ g.l ≠ g.b
theorem Bg.same {H H' : Hp} {g : Bid} (x : Bg H g) (s : Same H H') : Bg H' g := by
  obtain ⟨i, r, z, c, h1, h2, h3⟩ := x
  exact ⟨i, r, z, c, s _ _ h1, s _ _ h2, h3⟩
theorem Bg.new {H : Hp} {g : Bid} {p : Addr} {o : HO} (x : Bg H g) (h : H p = none) : Bg (upd H p o) g := x.same (same_upd h)
theorem Bg.ne {H : Hp} {g : Bid} {p : Addr} (x : Bg H g) (h : H p = none) : p ≠ g.b := by
  obtain ⟨i, r, z, c, h1, h2, h3⟩ := x
  exact (ne_of_none h1 h).symm
theorem Bg.neL {H : Hp} {g : Bid} {p : Addr} (x : Bg H g) (h : H p = none) : p ≠ g.l := by
  obtain ⟨i, r, z, c, h1, h2, h3⟩ := x
  exact (ne_of_none h2 h).symm
theorem Bg.put {H : Hp} {g : Bid} {p : Addr} {o : HO} (x : Bg H g) (h1 : p ≠ g.b) (h2 : p ≠ g.l) : Bg (upd H p o) g := by
  obtain ⟨i, r, z, c, e1, e2, e3⟩ := x
  exact ⟨i, r, z, c, by rw [upd_ne h1.symm]; exact e1, by rw [upd_ne h2.symm]; exact e2, e3⟩
theorem cut63 (xs : List V) : cutV xs none (some 63) = xs.take 63 := by
  unfold cutV
  rw [HT.sIx_none, show HT.sIx xs.length xs.length (some 63) = min 63 xs.length from HT.sIx_nat xs.length xs.length 63]
  rw [List.drop_zero, Nat.sub_zero]
  by_cases h : xs.length ≤ 63
  · rw [List.take_of_length_le h, List.take_of_length_le (by omega)]
  · rw [show min 63 xs.length = 63 by omega]
section
variable {P : Program} {w : World} {K : PySem.W.Frag} {mg : Str → Option Value} {base : Heap}
def spBag (K : PySem.W.Frag) : Sp := fun vs H Q _ => ∃ (a : Addr) (ns : List Int), vs = [.ref a] ∧ SqL K H a (ns.map V.int) ∧
  ∀ (g : Bid) H', H g.b = none → Same H H' → Bg H' g → Q (.ref g.b) H'
theorem scBag : FnScope ["_law_script", "_law_seed", "_law_cell"] ["_law_script"] (defScope sBag) := ⟨rfl, rfl, rfl, by decide +kernel, rfl, by decide +kernel, by decide +kernel⟩
theorem ok_bag {f : Addr} {fd : FuncData} {k : Nat} (F : Fun K "_law_bag" "_law_bag" sBag f fd) (ml : mg "list" = none) : FnOk P w K mg base CX0 (k + 1) f fd ["_law_script"] (spBag K) := by
  refine F.ok scBag (fun vs H Q E h => ?_) (fun cdv A outer s H vs Q E hr h => ?_)
  · obtain ⟨a, ns, rfl, _⟩ := h
    rfl
  · obtain ⟨a, ns, rfl, hS, q⟩ := h
    refine ⟨_, pss_cons (ps_set (i := 1) scBag.nd rfl (.inl rfl) pe_int)
      (pss_cons (ps_for PassesOwn.never rfl (pi_list (pe_slice sl_list (pv 0) po_none (po_some pe_int))) (pg_name (i := 2) scBag.nd rfl (.inl rfl))
        (pss_one (ps_set (i := 1) scBag.nd rfl (.inl rfl) (pe_op op_mod (pe_op op_add (pe_op op_add (pe_op op_mul (pv 1) pe_int) (pv 2)) pe_int) pe_int))))
      (pss_one (ps_ret (pe_lst (pa_cons (pe_callTy call_list_of (by rfl) ml (by decide +kernel) (pa_cons (pe_slice sl_list (pv 0) po_none (po_some pe_int)) pa_nil))
        (pa_cons pe_int (pa_cons pe_int (pa_cons (pv 1) (pa_cons pe_int pa_nil))))))))), ?_⟩
    refine ⟨.ref a, rfl, 63, rfl, a, ns.map V.int, rfl, hS, fun p np => ?_⟩
    have s1 : Same H (upd H p (.lst (cutV (ns.map V.int) none (some 63)))) := same_upd np
    refine ⟨p, rfl, ⟨_, SqL.of upd_same⟩, for_list (K := K) (a := p) (xs := cutV (ns.map V.int) none (some 63))
      (fun i σ H' => ∃ (z : Int) (y : Option V), σ = [some (.ref a), some (.int z), y] ∧ H' = upd H p (.lst (cutV (ns.map V.int) none (some 63))))
      ⟨37, none, rfl, rfl⟩ (fun i σ H' _ ⟨z, y, _, e⟩ => by rw [e]; exact SqL.of upd_same) ?_ ?_⟩
    · rintro i x σ H' hi ⟨z, y, rfl, rfl⟩
      obtain ⟨n, rfl⟩ : ∃ n, x = V.int n := by
        rw [cut63, ← List.map_take, List.getElem?_map] at hi
        cases e : (ns.take 63)[i]? with
        | none => rw [e] at hi; cases hi
        | some u => rw [e] at hi; exact ⟨u, (Option.some.inj hi).symm⟩
      exact ⟨_, rfl, _, _, rfl, rfl, .inr ⟨by decide, by decide⟩, _, rfl, _, _, rfl, rfl, _, _, rfl, rfl, _, _, rfl, rfl, (by show (0 : Int) < 2147483629; decide), _, _, rfl, rfl⟩
    · rintro σ H' ⟨z, y, rfl, rfl⟩
      refine ⟨.ref a, rfl, 63, rfl, a, ns.map V.int, rfl, s1.seq hS, fun p2 np2 => ?_⟩
      refine ⟨p2, _, rfl, .inl (SqL.of upd_same), fun l nl => ?_⟩
      refine ⟨_, rfl, (by show 5 ≤ sizeLine; decide), fun b nb => ?_⟩
      have s2 := s1.trans (same_upd (o := .lst (cutV (ns.map V.int) none (some 63))) np2)
      have s3 := s2.trans (same_upd (o := .lst (cutV (ns.map V.int) none (some 63))) nl)
      have s4 := s3.trans (same_upd (o := .lst [.ref l, .int 0, .int 0, .int z, .int 0]) nb)
      refine q ⟨b, l, ns.take 63⟩ _ (s3.free nb) s4 ⟨0, 0, z, 0, upd_same, ?_, ?_⟩
      · show upd _ b _ l = _
        rw [upd_ne (ne_of_none upd_same nb), upd_same, cut63, List.map_take]
      · exact ne_of_none upd_same nb
/-! ### pull -/
def spPull (K : PySem.W.Frag) : Sp := fun vs H Q _ => ∃ (g : Bid) (m : Int), vs = [.ref g.b, .int m] ∧ 0 < m ∧ m.natAbs < 2 ^ 200 ∧ Bg H g ∧
  ∀ (z : Int) H', 0 ≤ z → z < m → Keep g.b H H' → Bg H' g → Q (.int z) H'
theorem scPull : FnScope ["_law_bag_here", "_law_many", "_law_rest", "_law_cell", "_law_one", "_law_two"] ["_law_bag_here", "_law_many"] (defScope sPull) := ⟨rfl, rfl, rfl, by decide +kernel, rfl, by decide +kernel, by decide +kernel⟩
theorem upd_bag {H : Hp} {b : Addr} {o o' : HO} : Keep b H (upd (upd H b o) b o') := by
  rw [upd_upd]
  exact Keep.upd
theorem mod_lo {a m : Int} (h : 0 < m) : 0 ≤ a % m := Int.emod_nonneg _ (by omega)
theorem mod_hi {a m : Int} (h : 0 < m) : a % m < m := Int.emod_lt_of_pos _ h
theorem ok_pull {f : Addr} {fd : FuncData} {k : Nat} (F : Fun K "_law_pull" "_law_pull" sPull f fd) (ml : mg "len" = none) : FnOk P w K mg base CX0 (k + 1) f fd ["_law_bag_here", "_law_many"] (spPull K) := by
  refine F.ok scPull (fun vs H Q E h => ?_) (fun cdv A outer s H vs Q E hr h => ?_)
  · obtain ⟨a, ns, rfl, _⟩ := h
    rfl
  · obtain ⟨⟨b, l, ns⟩, m, rfl, m0, m1, ⟨i, r, sd, c, hb, hl0, nlb⟩, q⟩ := h
    have hl : SqL K H l (ns.map V.int) := SqL.of hl0
    refine ⟨_, pss_cons (ps_augS (pv 0) pe_int get_list pe_int ip_add set_list)
      (pss_cons (ps_if (pt_cmpR op_gt (pe_ix ix_list (pv 0) pe_int (fun _ _ => rfl)) pe_int (nomark _))
        (pss_cons (ps_set (i := 2) scPull.nd rfl (.inl rfl) (pe_ix ix_list (pv 0) pe_int (fun _ _ => rfl)))
        (pss_cons (ps_asg (pe_op op_fdivW (pv 2) (pv 1)) (pg_sub (pv 0) pe_int set_list))
        (pss_one (ps_ret (pe_op op_mod (pv 2) (pv 1)))))) pss_nil)
      (pss_cons (ps_set (i := 3) scPull.nd rfl (.inl rfl) (pe_ix ix_list (pv 0) pe_int (fun _ _ => rfl)))
      (C8.pss_cut (ps_if (pt_cmpR op_lt (pe_ix ix_list (pv 0) pe_int (fun _ _ => rfl)) (pe_callB call_len_seq (by rfl) ml PySem.boot_len (pa_cons (pe_ix ix_list (pv 0) pe_int (fun _ _ => rfl)) pa_nil)) (nomark _))
        (pss_cons (ps_set (i := 3) scPull.nd rfl (.inl rfl) (pe_ix ix_list (pe_ix ix_list (pv 0) pe_int (fun _ _ => rfl)) (pe_ix ix_list (pv 0) pe_int (fun _ _ => rfl)) (fun _ _ => rfl)))
        (pss_one (ps_augS (pv 0) pe_int get_list pe_int ip_add set_list))) pss_nil)
      (pss_cons (ps_if (pt_cmpR op_ge (pv 3) (pe_op op_pow pe_int pe_int) (nomark _))
        (pss_cons (ps_asg (pe_op op_fdivW (pv 3) (pv 1)) (pg_sub (pv 0) pe_int set_list))
        (pss_one (ps_ret (pe_op op_mod (pv 3) (pv 1))))) pss_nil)
      (pss_cons (ps_set (i := 4) scPull.nd rfl (.inl rfl) (pe_op op_mod (pe_op op_add (pe_op op_add (pe_op op_add (pe_op op_mul (pv 3) pe_int) (pe_op op_mul (pe_ix ix_list (pv 0) pe_int (fun _ _ => rfl)) pe_int)) (pe_op op_mul (pe_ix ix_list (pv 0) pe_int (fun _ _ => rfl)) pe_int)) pe_int) pe_int))
      (pss_cons (ps_set (i := 5) scPull.nd rfl (.inl rfl) (pe_op op_mod (pe_op op_add (pe_op op_add (pe_op op_mul (pv 4) (pe_op op_add (pe_op op_mod (pv 4) pe_int) pe_int)) (pe_op op_mul (pe_ix ix_list (pv 0) pe_int (fun _ _ => rfl)) pe_int)) (pe_op op_mod (pe_ix ix_list (pv 0) pe_int (fun _ _ => rfl)) pe_int)) pe_int))
      (pss_cons (ps_asg (pe_op op_mod (pe_op op_add (pe_op op_mul (pe_ix ix_list (pv 0) pe_int (fun _ _ => rfl)) pe_int) (pv 5)) pe_int) (pg_sub (pv 0) pe_int set_list))
      (pss_one (ps_ret (pe_op op_mod (pe_op op_fdiv (pv 5) pe_int) (pv 1))))))))))), ?_⟩
    -- bag[4] += 1
    refine ⟨.ref b, rfl, b, _, 4, .int c, rfl, rfl, SqL.of hb, rfl, c, 1, rfl, rfl, b, _, 4, 4, rfl, rfl, hb, rfl, ?_⟩
    -- if bag[2] > 0
    refine ⟨.ref b, rfl, b, _, 2, .int r, rfl, rfl, SqL.of upd_same, rfl, r, 0, rfl, rfl, _, rfl, ite2 (fun _ => ?_) (fun _ => ?_)⟩
    · refine ⟨.ref b, rfl, b, _, 2, .int r, rfl, rfl, SqL.of upd_same, rfl, ?_⟩
      refine ⟨_, rfl, _, rfl, r, m, rfl, rfl, wide_div m0 m1 (by decide) (by decide), .ref b, rfl, b, _, 2, 2, rfl, rfl, upd_same, rfl, ?_⟩
      refine ⟨_, rfl, _, rfl, r, m, rfl, rfl, m0, q _ _ (mod_lo m0) (mod_hi m0) upd_bag ⟨i, r / m, sd, c + 1, upd_same, ?_, nlb⟩⟩
      exact upd_bag _ _ nlb hl0
    · -- cell = bag[3]
      refine ⟨.ref b, rfl, b, _, 3, .int sd, rfl, rfl, SqL.of upd_same, rfl, ?_⟩
      refine ⟨fun σ H1 => ∃ (i' : Nat) (z : Int), σ = [some (.ref b), some (.int m), none, some (.int z), none, none] ∧ H1 = upd H b (bagV l i' r sd (c + 1)), ?_, ?_⟩
      · refine ⟨.ref b, rfl, b, _, 1, .int i, rfl, rfl, SqL.of upd_same, rfl, .ref b, rfl, b, _, 0, .ref l, rfl, rfl, SqL.of upd_same, rfl, l, ns.map V.int, rfl, .inl (Keep.upd.seqL nlb hl), i, ((ns.map V.int).length : Int), rfl, rfl, _, rfl, ite2 (fun hi => ?_) (fun _ => ?_)⟩
        · have hi' : i < ns.length := by
            have := of_decide_eq_true hi
            rw [List.length_map] at this
            omega
          have gi : (ns.map V.int)[i]? = some (.int ns[i]) := by
            rw [List.getElem?_map, List.getElem?_eq_getElem hi']
            rfl
          refine ⟨.ref b, rfl, b, _, 0, .ref l, rfl, rfl, SqL.of upd_same, rfl, .ref b, rfl, b, _, 1, .int i, rfl, rfl, SqL.of upd_same, rfl, l, ns.map V.int, i, .int ns[i], rfl, rfl, Keep.upd.seqL nlb hl, atI_nat gi, ?_⟩
          refine ⟨.ref b, rfl, b, _, 1, .int i, rfl, rfl, SqL.of upd_same, rfl, i, 1, rfl, rfl, b, _, 1, 1, rfl, rfl, upd_same, rfl, i + 1, ns[i], rfl, ?_⟩
          rw [upd_upd]
          rfl
        · exact ⟨i, sd, rfl, rfl⟩
      · rintro σ H1 ⟨i', z, rfl, rfl⟩
        have hb1 : (upd H b (bagV l i' r sd (c + 1))) b = some (bagV l i' r sd (c + 1)) := upd_same
        refine ⟨.int z, rfl, 10, 18, rfl, rfl, ⟨by decide, by decide, by decide⟩, z, _, rfl, rfl, _, rfl, ite2 (fun _ => ?_) (fun _ => ?_)⟩
        · refine ⟨_, rfl, _, rfl, z, m, rfl, rfl, wide_div m0 m1 (by decide) (by decide), .ref b, rfl, b, _, 2, 2, rfl, rfl, upd_same, rfl, ?_⟩
          refine ⟨_, rfl, _, rfl, z, m, rfl, rfl, m0, q _ _ (mod_lo m0) (mod_hi m0) upd_bag ⟨i', z / m, sd, c + 1, upd_same, ?_, nlb⟩⟩
          exact upd_bag _ _ nlb hl0
        · -- one
          refine ⟨_, rfl, _, _, rfl, rfl, .inr ⟨by decide, by decide⟩, .ref b, rfl, b, _, 3, .int sd, rfl, rfl, SqL.of upd_same, rfl, _, _, rfl, rfl, .inr ⟨by decide, by decide⟩, _, _, rfl, rfl, .ref b, rfl, b, _, 4, .int (c + 1), rfl, rfl, SqL.of upd_same, rfl, _, _, rfl, rfl, .inr ⟨by decide, by decide⟩, _, _, rfl, rfl, _, _, rfl, rfl, _, _, rfl, rfl, (by show (0 : Int) < 2147483629; decide), ?_⟩
          have o0 := mod_lo (a := z * 48271 + sd * 40503 + (c + 1) * 69621 + 9176) (m := 2147483629) (by decide)
          have o1 := mod_hi (a := z * 48271 + sd * 40503 + (c + 1) * 69621 + 9176) (m := 2147483629) (by decide)
          generalize hone : (z * 48271 + sd * 40503 + (c + 1) * 69621 + 9176) % 2147483629 = one at o0 o1
          -- two
          refine ⟨_, rfl, _, rfl, _, _, rfl, rfl, (by show (0 : Int) < 65521; decide), _, _, rfl, rfl, _, _, rfl, rfl, .inl ⟨?_, ?_⟩, .ref b, rfl, b, _, 4, .int (c + 1), rfl, rfl, SqL.of upd_same, rfl, _, _, rfl, rfl, .inr ⟨by decide, by decide⟩, _, _, rfl, rfl, .ref b, rfl, b, _, 3, .int sd, rfl, rfl, SqL.of upd_same, rfl, _, _, rfl, rfl, (by show (0 : Int) < 104729; decide), _, _, rfl, rfl, _, _, rfl, rfl, (by show (0 : Int) < 998244353; decide), ?_⟩
          · rw [hone]; omega
          · rw [hone]; omega
          refine ⟨.ref b, rfl, b, _, 3, .int sd, rfl, rfl, SqL.of upd_same, rfl, _, _, rfl, rfl, .inr ⟨by decide, by decide⟩, _, rfl, _, _, rfl, rfl, _, _, rfl, rfl, (by show (0 : Int) < 2147483563; decide), .ref b, rfl, b, _, 3, 3, rfl, rfl, upd_same, rfl, ?_⟩
          refine ⟨_, rfl, _, _, rfl, rfl, ⟨by decide, by decide⟩, _, rfl, _, _, rfl, rfl, m0, q _ _ (mod_lo m0) (mod_hi m0) upd_bag ⟨i', r, _, c + 1, upd_same, ?_, nlb⟩⟩
          exact upd_bag _ _ nlb hl0
/-! ### one of a list -/
def spOf (K : PySem.W.Frag) : Sp := fun vs H Q _ => ∃ (g : Bid) (p : Addr) (xs : List V), vs = [.ref g.b, .ref p] ∧ Bg H g ∧ p ≠ g.b ∧ SqL K H p xs ∧ 0 < xs.length ∧ xs.length < 1000 ∧
  ∀ v H', v ∈ xs → Keep g.b H H' → Bg H' g → Q v H'
theorem scOf : FnScope ["_law_bag_here", "_law_some"] ["_law_bag_here", "_law_some"] (defScope sOf) := ⟨rfl, rfl, rfl, by decide +kernel, rfl, by decide +kernel, by decide +kernel⟩
theorem ok_of {f fP : Addr} {fd fdP : FuncData} {k : Nat} (F : Fun K "_law_of" "_law_of" sOf f fd) (FP : Fun K "_law_pull" "_law_pull" sPull fP fdP) (bP : Binds K fdP ["_law_bag_here", "_law_many"] []) (gP : mg "_law_pull" = some (.ref fP)) (ml : mg "len" = none) : FnOk P w K mg base CX0 (k + 2) f fd ["_law_bag_here", "_law_some"] (spOf K) := by
  have GP : FnOk P w K mg base CX0 (k + 1) fP fdP ["_law_bag_here", "_law_many"] (spPull K) := ok_pull FP ml
  refine F.ok scOf (fun vs H Q E h => ?_) (fun cdv A outer s H vs Q E hr h => ?_)
  · obtain ⟨b, p, xs, rfl, _⟩ := h
    rfl
  · obtain ⟨b, p, xs, rfl, B, npb, hx, h0, hlen, q⟩ := h
    refine ⟨_, pss_one (ps_ret (pe_ix ix_list (pv 1) (pe_call GP hr (by rfl) gP FP.kp bP .nil pass0 (pa_cons (pv 0) (pa_cons (pe_callB call_len_seq (by rfl) ml PySem.boot_len (pa_cons (pv 1) pa_nil)) pa_nil))) (fun _ _ => rfl))), ?_⟩
    refine ⟨.ref p, rfl, .ref b.b, rfl, .ref p, rfl, p, xs, rfl, .inl hx, b, (xs.length : Int), rfl, by omega, ?_, B, fun z H' z0 z1 kp B' => ?_⟩
    · exact Nat.lt_trans (show ((xs.length : Int)).natAbs < 2 ^ 64 by omega) (by decide)
    · have e : z = ((z.toNat : Nat) : Int) := by omega
      have hz1 : z.toNat < xs.length := by omega
      rw [e]
      exact ⟨p, xs, z.toNat, xs[z.toNat], rfl, rfl, kp.seqL npb hx, atI_nat (List.getElem?_eq_getElem hz1), q _ _ (List.getElem_mem hz1) kp B'⟩
end
end Onp
set_option maxHeartbeats 8000000
set_option autoImplicit false
namespace Onp
open PySem PySem.Spec PyProof.Rows L2 HotX L2H
abbrev sKind : Stmt := topS 43
abbrev sTold : Stmt := topS 44
/-! ### the kinds of refusals -/
def errNames : List Str := ["BadMark", "BadLetters", "BadRoom", "BadArrow", "BadWord", "BadSize", "BadPattern", "BadTable", "BadTree", "BadText", "BadName", "BadDeed", "BadPage", "Taken", "Full", "Unlike", "NotDear", "InUse", "TooWide", "NoArrow", "NoName", "NoTraveller", "NothingLeft"]
def errWords : List Str := ["badmark", "badletters", "badroom", "badarrow", "badword", "badsize", "badpattern", "badtable", "badtree", "badtext", "badname", "baddeed", "badpage", "taken", "full", "unlike", "notdear", "inuse", "toowide", "noarrow", "noname", "notraveller", "nothingleft"]
def wordOf (x : Str) : Str := ((errNames.zip errWords).lookup x).getD Str.empty
def pick (nm : Str) : List Str := (((errWords.zip (errNames.map (· == nm))).filter (·.2)).map (·.1))
theorem pick_one : ∀ nm ∈ errNames, pick nm = [wordOf nm] := by decide +kernel
theorem join_one : ∀ nm ∈ errNames, Txt.join "+" [wordOf nm] = wordOf nm := by decide +kernel
theorem word_len : ∀ nm ∈ errNames, (wordOf nm).length ≤ 100 := by decide +kernel
structure Kd (K : PySem.W.Frag) (mg : Str → Option Value) (ec : Str → Addr) (used : List Str) (cP cM : Addr) : Prop where
  g : ∀ x ∈ errNames, mg x = some (.ref (ec x))
  cl : ∀ x ∈ errNames, PySem.W.typeIn K (.ref (ec x)) = some (.type "type") ∧ PySem.W.isClsIn K (ec x) = true
  us : ∀ x ∈ used, x ∈ errNames
  er : ∀ x ∈ used, ErrC K (ec x)
  wd : ∀ x ∈ used, PySem.W.findIn K (.ref (ec x)) "word" = some none
  sub : ∀ x ∈ used, ∀ y ∈ errNames, PySem.W.subIn K (.ref (ec x)) (.ref (ec y)) = some (y == x)
  bx : ∀ y ∈ (["BadText", "BadPage", "TooWide"] : List Str), PySem.W.subIn K (.ref (ec y)) (.type "BaseException") = some true
  gP : mg "PurseError" = some (.ref cP)
  gM : mg "Missing" = some (.ref cM)
  any : ∀ x ∈ used, PySem.W.exmAny K (.ref (ec x)) [.ref cP, .ref cM, .ref (ec "NothingLeft")] = some true
section
variable {K : PySem.W.Frag} {mg : Str → Option Value} {ec : Str → Addr} {used : List Str} {cP cM : Addr}
theorem Kd.kit (T : Kd K mg ec used cP cM) {x y : Str} (hx : x ∈ used) (hy : y ∈ errNames) : PySem.W.kitOne K (.ref (ec x)) (.ref (ec y)) = some (y == x) := by
  have s1 := T.sub x hx y hy
  unfold PySem.W.kitOne
  by_cases e : ((Value.ref (ec x)) == (Value.ref (ec y))) = true
  · rw [if_pos e]
    have e' : ec x = ec y := Value.ref.inj (beq_iff_eq.mp e)
    have s2 := T.sub x hx x (T.us x hx)
    rw [← e', s2] at s1
    rw [beq_self_eq_true] at s1
    exact s1
  · rw [if_neg e]
    obtain ⟨h1, h2⟩ := T.cl y hy
    have h2' : (PySem.W.clsIn K (ec y)).isSome = true := h2
    show (if ((PySem.W.clsIn K (ec y)).isSome && PySem.W.typeIn K (.ref (ec y)) == some (.type "type")) = true then PySem.W.subIn K (.ref (ec x)) (.ref (ec y)) else none) = _
    rw [h2', h1, if_pos (by rfl)]
    exact s1
theorem Kd.exm (T : Kd K mg ec used cP cM) {x y : Str} (hx : x ∈ used) (hy : y ∈ (["BadText", "BadPage", "TooWide"] : List Str)) (hy2 : y ∈ errNames) : PySem.W.exmOne K (.ref (ec x)) (.ref (ec y)) = some (y == x) := by
  have e1 : (PySem.W.subIn K (.ref (ec y)) (.type "BaseException") == some true) = true := by rw [T.bx y hy] <;> rfl
  obtain ⟨h1, h2⟩ := T.cl y hy2
  have h2' : (PySem.W.clsIn K (ec y)).isSome = true := h2
  show (if (PySem.W.subIn K (.ref (ec y)) (.type "BaseException") == some true) = true then (if ((PySem.W.clsIn K (ec y)).isSome && PySem.W.typeIn K (.ref (ec y)) == some (.type "type")) = true then PySem.W.subIn K (.ref (ec x)) (.ref (ec y)) else none) else none) = _
  rw [if_pos e1, h2', h1, if_pos (by rfl)]
  exact T.sub x hx y hy2
end
def NK : List Str := ["_law_e", "_law_flags", "_law_words", "_law_found", "_law_one", "_law_here"]
theorem scKind : FnScope NK ["_law_e"] (defScope sKind) := ⟨rfl, rfl, rfl, by decide +kernel, rfl, by decide +kernel, by decide +kernel⟩
section
variable {P : Program} {w : World} {K : PySem.W.Frag} {mg : Str → Option Value} {base : Heap} {ec : Str → Addr} {used : List Str} {cP cM : Addr}
def spKind (ec : Str → Addr) (used : List Str) : Addr × Obj → List V → Hp → VK → Prop := fun p vs H Q => ∃ (nm : Str) (dd : Addr) (fs : List (Str × V)), nm ∈ used ∧ vs = [.ref p.1] ∧ L2N.Zn (.ref (ec nm)) (some dd) p.2 ∧ H dd = some (.xd fs) ∧
  fs.lookup ("word" : Str) = some (V.str (wordOf nm)) ∧ ∀ H', Same H H' → Q (.str (wordOf nm)) H'
def allW : Str := "badmark badletters badroom badarrow badword badsize badpattern badtable badtree badtext badname baddeed badpage taken full unlike notdear inuse toowide noarrow noname notraveller nothingleft"
theorem ok_kind {f : Addr} {fd : FuncData} {k : Nat} (F : Fun K "_law_kind" "_law_kind" sKind f fd) (T : Kd K mg ec used cP cM) (mi : mg "isinstance" = none) (mz : mg "zip" = none) : FnPin P w K mg base (k + 1) f fd ["_law_e"] (spKind ec used) := by
  refine okPin F scKind fun cdv A outer s H vs Q p hot hr h => ?_
  obtain ⟨nm, dd, fs, hnm, rfl, hz, hd, hwd, q⟩ := h
  have hu := T.us nm hnm
  have hf : ∃ vs, p.2.data = .fields vs := by
    obtain ⟨_, v, e, _⟩ := hot
    exact ⟨v, e⟩
  have C := T.er nm hnm
  have hpm : p ∈ (cxH CX0 P w K mg base NK "_law_kind" (defScope sKind) f cdv A outer s H E0 p).pn := List.mem_cons_self
  have hotX : Hot1 (cxH CX0 P w K mg base NK "_law_kind" (defScope sKind) f cdv A outer s H E0 p).A p := hot
  have ci := call_isP (X := cxH CX0 P w K mg base NK "_law_kind" (defScope sKind) f cdv A outer s H E0 p) C hpm hz.zc hf
  refine ⟨_, pss_cons (ps_set (i := 1) scKind.nd rfl (.inl rfl) (pe_lst (pa_cons (pe_callB ci (by rfl) mi (by decide +kernel) (pa_cons (pv 0) (pa_cons (pe_glob (v := .ref (ec "BadMark")) rfl (T.g "BadMark" (by decide +kernel)) rfl) pa_nil)))
      (pa_cons (pe_callB ci (by rfl) mi (by decide +kernel) (pa_cons (pv 0) (pa_cons (pe_glob (v := .ref (ec "BadLetters")) rfl (T.g "BadLetters" (by decide +kernel)) rfl) pa_nil)))
      (pa_cons (pe_callB ci (by rfl) mi (by decide +kernel) (pa_cons (pv 0) (pa_cons (pe_glob (v := .ref (ec "BadRoom")) rfl (T.g "BadRoom" (by decide +kernel)) rfl) pa_nil))) pa_nil)))))
    (pss_cons (ps_set (i := 1) scKind.nd rfl (.inl rfl) (pe_op op_cat (pv 1) (pe_lst (pa_cons (pe_callB ci (by rfl) mi (by decide +kernel) (pa_cons (pv 0) (pa_cons (pe_glob (v := .ref (ec "BadArrow")) rfl (T.g "BadArrow" (by decide +kernel)) rfl) pa_nil))) (pa_cons (pe_callB ci (by rfl) mi (by decide +kernel) (pa_cons (pv 0) (pa_cons (pe_glob (v := .ref (ec "BadWord")) rfl (T.g "BadWord" (by decide +kernel)) rfl) pa_nil))) (pa_cons (pe_callB ci (by rfl) mi (by decide +kernel) (pa_cons (pv 0) (pa_cons (pe_glob (v := .ref (ec "BadSize")) rfl (T.g "BadSize" (by decide +kernel)) rfl) pa_nil))) pa_nil))))))
    (pss_cons (ps_set (i := 1) scKind.nd rfl (.inl rfl) (pe_op op_cat (pv 1) (pe_lst (pa_cons (pe_callB ci (by rfl) mi (by decide +kernel) (pa_cons (pv 0) (pa_cons (pe_glob (v := .ref (ec "BadPattern")) rfl (T.g "BadPattern" (by decide +kernel)) rfl) pa_nil))) (pa_cons (pe_callB ci (by rfl) mi (by decide +kernel) (pa_cons (pv 0) (pa_cons (pe_glob (v := .ref (ec "BadTable")) rfl (T.g "BadTable" (by decide +kernel)) rfl) pa_nil))) (pa_cons (pe_callB ci (by rfl) mi (by decide +kernel) (pa_cons (pv 0) (pa_cons (pe_glob (v := .ref (ec "BadTree")) rfl (T.g "BadTree" (by decide +kernel)) rfl) pa_nil))) pa_nil))))))
    (pss_cons (ps_set (i := 1) scKind.nd rfl (.inl rfl) (pe_op op_cat (pv 1) (pe_lst (pa_cons (pe_callB ci (by rfl) mi (by decide +kernel) (pa_cons (pv 0) (pa_cons (pe_glob (v := .ref (ec "BadText")) rfl (T.g "BadText" (by decide +kernel)) rfl) pa_nil))) (pa_cons (pe_callB ci (by rfl) mi (by decide +kernel) (pa_cons (pv 0) (pa_cons (pe_glob (v := .ref (ec "BadName")) rfl (T.g "BadName" (by decide +kernel)) rfl) pa_nil))) (pa_cons (pe_callB ci (by rfl) mi (by decide +kernel) (pa_cons (pv 0) (pa_cons (pe_glob (v := .ref (ec "BadDeed")) rfl (T.g "BadDeed" (by decide +kernel)) rfl) pa_nil))) pa_nil))))))
    (pss_cons (ps_set (i := 1) scKind.nd rfl (.inl rfl) (pe_op op_cat (pv 1) (pe_lst (pa_cons (pe_callB ci (by rfl) mi (by decide +kernel) (pa_cons (pv 0) (pa_cons (pe_glob (v := .ref (ec "BadPage")) rfl (T.g "BadPage" (by decide +kernel)) rfl) pa_nil))) (pa_cons (pe_callB ci (by rfl) mi (by decide +kernel) (pa_cons (pv 0) (pa_cons (pe_glob (v := .ref (ec "Taken")) rfl (T.g "Taken" (by decide +kernel)) rfl) pa_nil))) (pa_cons (pe_callB ci (by rfl) mi (by decide +kernel) (pa_cons (pv 0) (pa_cons (pe_glob (v := .ref (ec "Full")) rfl (T.g "Full" (by decide +kernel)) rfl) pa_nil))) pa_nil))))))
    (pss_cons (ps_set (i := 1) scKind.nd rfl (.inl rfl) (pe_op op_cat (pv 1) (pe_lst (pa_cons (pe_callB ci (by rfl) mi (by decide +kernel) (pa_cons (pv 0) (pa_cons (pe_glob (v := .ref (ec "Unlike")) rfl (T.g "Unlike" (by decide +kernel)) rfl) pa_nil))) (pa_cons (pe_callB ci (by rfl) mi (by decide +kernel) (pa_cons (pv 0) (pa_cons (pe_glob (v := .ref (ec "NotDear")) rfl (T.g "NotDear" (by decide +kernel)) rfl) pa_nil))) (pa_cons (pe_callB ci (by rfl) mi (by decide +kernel) (pa_cons (pv 0) (pa_cons (pe_glob (v := .ref (ec "InUse")) rfl (T.g "InUse" (by decide +kernel)) rfl) pa_nil))) pa_nil))))))
    (pss_cons (ps_set (i := 1) scKind.nd rfl (.inl rfl) (pe_op op_cat (pv 1) (pe_lst (pa_cons (pe_callB ci (by rfl) mi (by decide +kernel) (pa_cons (pv 0) (pa_cons (pe_glob (v := .ref (ec "TooWide")) rfl (T.g "TooWide" (by decide +kernel)) rfl) pa_nil))) (pa_cons (pe_callB ci (by rfl) mi (by decide +kernel) (pa_cons (pv 0) (pa_cons (pe_glob (v := .ref (ec "NoArrow")) rfl (T.g "NoArrow" (by decide +kernel)) rfl) pa_nil))) (pa_cons (pe_callB ci (by rfl) mi (by decide +kernel) (pa_cons (pv 0) (pa_cons (pe_glob (v := .ref (ec "NoName")) rfl (T.g "NoName" (by decide +kernel)) rfl) pa_nil))) pa_nil))))))
    (pss_cons (ps_set (i := 1) scKind.nd rfl (.inl rfl) (pe_op op_cat (pv 1) (pe_lst (pa_cons (pe_callB ci (by rfl) mi (by decide +kernel) (pa_cons (pv 0) (pa_cons (pe_glob (v := .ref (ec "NoTraveller")) rfl (T.g "NoTraveller" (by decide +kernel)) rfl) pa_nil))) (pa_cons (pe_callB ci (by rfl) mi (by decide +kernel) (pa_cons (pv 0) (pa_cons (pe_glob (v := .ref (ec "NothingLeft")) rfl (T.g "NothingLeft" (by decide +kernel)) rfl) pa_nil))) pa_nil)))))
    (pss_cons (ps_set (i := 2) scKind.nd rfl (.inl rfl) pe_str)
    (pss_cons (ps_set (i := 2) scKind.nd rfl (.inl rfl) (pe_op op_add_str (pv 2) pe_str))
    (pss_cons (ps_set (i := 2) scKind.nd rfl (.inl rfl) (pe_op op_add_str (pv 2) pe_str))
    (pss_cons (ps_set (i := 3) scKind.nd rfl (.inl rfl) (pe_join pe_str (pe_lcH (own := [("_law_one", 4), ("_law_here", 5)]) (g := gTup K 2 (gCons (gName 4) (gCons (gName 5) gNil))) (te := tVar 4) hotX hpm scKind.nd
        (pi_zipH (by rfl) mz (pa_cons (pe_split (pv 2) pe_str) (pa_cons (pv 1) pa_nil)))
        (blkOk_by (own := [("_law_one", 4), ("_law_here", 5)]) (N := NK) (sc := defScope sKind) (by decide +kernel))
        (fun _ _ _ _ _ => pg_tupH (n := 2) (hotBlk hotX) (pgs_cons (pg_name (i := 4) scKind.nd rfl (.inl rfl) (.inr rfl)) (pgs_cons (pg_name (i := 5) scKind.nd rfl (.inl rfl) (.inr rfl)) pgs_nil)))
        (fun _ _ _ _ _ => pts_one (pt_val (pv 5))) (fun _ _ _ _ _ => pv 4))))
    (pss_one (ps_ret (pe_ifExp (pt_cmpR op_eq (pe_fldP C (T.wd nm hnm) hpm hz.zc hf (pv 0)) (pv 3) (nomark _)) (pv 3) (pe_op op_add_str (pv 3) pe_str))))))))))))))), ?_⟩
  have dz : ∀ {Hx : Hp}, Same H Hx → Hx dd = some (.xd fs) := fun e => e _ _ hd
  -- the flags
  refine ⟨_, rfl, ec "BadMark", _, fs, rfl, hd, T.kit hnm (by decide +kernel), _, rfl, ec "BadLetters", _, fs, rfl, hd, T.kit hnm (by decide +kernel), _, rfl, ec "BadRoom", _, fs, rfl, hd, T.kit hnm (by decide +kernel), (by decide : 3 ≤ sizeLine), fun l0 n0 => ?_⟩
  have s0 := same_upd (o := .lst [.bl (("BadMark" : Str) == nm), .bl (("BadLetters" : Str) == nm), .bl (("BadRoom" : Str) == nm)]) n0
  refine ⟨_, rfl, _, rfl, ec "BadArrow", _, fs, rfl, dz s0, T.kit hnm (by decide +kernel), _, rfl, ec "BadWord", _, fs, rfl, dz s0, T.kit hnm (by decide +kernel), _, rfl, ec "BadSize", _, fs, rfl, dz s0, T.kit hnm (by decide +kernel), (by decide : 3 ≤ sizeLine), fun m0 k0 => ?_⟩
  have u0 := s0.trans (same_upd (o := .lst [.bl (("BadArrow" : Str) == nm), .bl (("BadWord" : Str) == nm), .bl (("BadSize" : Str) == nm)]) k0)
  refine ⟨l0, m0, [.bl (("BadMark" : Str) == nm), .bl (("BadLetters" : Str) == nm), .bl (("BadRoom" : Str) == nm)], [.bl (("BadArrow" : Str) == nm), .bl (("BadWord" : Str) == nm), .bl (("BadSize" : Str) == nm)], rfl, rfl, Eq.trans (upd_ne (ne_of_none upd_same k0)) upd_same, upd_same, (by show 6 ≤ sizeLine; decide), fun l1 n1 => ?_⟩
  have s1 := u0.trans (same_upd (o := .lst [.bl (("BadMark" : Str) == nm), .bl (("BadLetters" : Str) == nm), .bl (("BadRoom" : Str) == nm), .bl (("BadArrow" : Str) == nm), .bl (("BadWord" : Str) == nm), .bl (("BadSize" : Str) == nm)]) n1)
  refine ⟨_, rfl, _, rfl, ec "BadPattern", _, fs, rfl, dz s1, T.kit hnm (by decide +kernel), _, rfl, ec "BadTable", _, fs, rfl, dz s1, T.kit hnm (by decide +kernel), _, rfl, ec "BadTree", _, fs, rfl, dz s1, T.kit hnm (by decide +kernel), (by decide : 3 ≤ sizeLine), fun m1 k1 => ?_⟩
  have u1 := s1.trans (same_upd (o := .lst [.bl (("BadPattern" : Str) == nm), .bl (("BadTable" : Str) == nm), .bl (("BadTree" : Str) == nm)]) k1)
  refine ⟨l1, m1, [.bl (("BadMark" : Str) == nm), .bl (("BadLetters" : Str) == nm), .bl (("BadRoom" : Str) == nm), .bl (("BadArrow" : Str) == nm), .bl (("BadWord" : Str) == nm), .bl (("BadSize" : Str) == nm)], [.bl (("BadPattern" : Str) == nm), .bl (("BadTable" : Str) == nm), .bl (("BadTree" : Str) == nm)], rfl, rfl, Eq.trans (upd_ne (ne_of_none upd_same k1)) upd_same, upd_same, (by show 9 ≤ sizeLine; decide), fun l2 n2 => ?_⟩
  have s2 := u1.trans (same_upd (o := .lst [.bl (("BadMark" : Str) == nm), .bl (("BadLetters" : Str) == nm), .bl (("BadRoom" : Str) == nm), .bl (("BadArrow" : Str) == nm), .bl (("BadWord" : Str) == nm), .bl (("BadSize" : Str) == nm), .bl (("BadPattern" : Str) == nm), .bl (("BadTable" : Str) == nm), .bl (("BadTree" : Str) == nm)]) n2)
  refine ⟨_, rfl, _, rfl, ec "BadText", _, fs, rfl, dz s2, T.kit hnm (by decide +kernel), _, rfl, ec "BadName", _, fs, rfl, dz s2, T.kit hnm (by decide +kernel), _, rfl, ec "BadDeed", _, fs, rfl, dz s2, T.kit hnm (by decide +kernel), (by decide : 3 ≤ sizeLine), fun m2 k2 => ?_⟩
  have u2 := s2.trans (same_upd (o := .lst [.bl (("BadText" : Str) == nm), .bl (("BadName" : Str) == nm), .bl (("BadDeed" : Str) == nm)]) k2)
  refine ⟨l2, m2, [.bl (("BadMark" : Str) == nm), .bl (("BadLetters" : Str) == nm), .bl (("BadRoom" : Str) == nm), .bl (("BadArrow" : Str) == nm), .bl (("BadWord" : Str) == nm), .bl (("BadSize" : Str) == nm), .bl (("BadPattern" : Str) == nm), .bl (("BadTable" : Str) == nm), .bl (("BadTree" : Str) == nm)], [.bl (("BadText" : Str) == nm), .bl (("BadName" : Str) == nm), .bl (("BadDeed" : Str) == nm)], rfl, rfl, Eq.trans (upd_ne (ne_of_none upd_same k2)) upd_same, upd_same, (by show 12 ≤ sizeLine; decide), fun l3 n3 => ?_⟩
  have s3 := u2.trans (same_upd (o := .lst [.bl (("BadMark" : Str) == nm), .bl (("BadLetters" : Str) == nm), .bl (("BadRoom" : Str) == nm), .bl (("BadArrow" : Str) == nm), .bl (("BadWord" : Str) == nm), .bl (("BadSize" : Str) == nm), .bl (("BadPattern" : Str) == nm), .bl (("BadTable" : Str) == nm), .bl (("BadTree" : Str) == nm), .bl (("BadText" : Str) == nm), .bl (("BadName" : Str) == nm), .bl (("BadDeed" : Str) == nm)]) n3)
  refine ⟨_, rfl, _, rfl, ec "BadPage", _, fs, rfl, dz s3, T.kit hnm (by decide +kernel), _, rfl, ec "Taken", _, fs, rfl, dz s3, T.kit hnm (by decide +kernel), _, rfl, ec "Full", _, fs, rfl, dz s3, T.kit hnm (by decide +kernel), (by decide : 3 ≤ sizeLine), fun m3 k3 => ?_⟩
  have u3 := s3.trans (same_upd (o := .lst [.bl (("BadPage" : Str) == nm), .bl (("Taken" : Str) == nm), .bl (("Full" : Str) == nm)]) k3)
  refine ⟨l3, m3, [.bl (("BadMark" : Str) == nm), .bl (("BadLetters" : Str) == nm), .bl (("BadRoom" : Str) == nm), .bl (("BadArrow" : Str) == nm), .bl (("BadWord" : Str) == nm), .bl (("BadSize" : Str) == nm), .bl (("BadPattern" : Str) == nm), .bl (("BadTable" : Str) == nm), .bl (("BadTree" : Str) == nm), .bl (("BadText" : Str) == nm), .bl (("BadName" : Str) == nm), .bl (("BadDeed" : Str) == nm)], [.bl (("BadPage" : Str) == nm), .bl (("Taken" : Str) == nm), .bl (("Full" : Str) == nm)], rfl, rfl, Eq.trans (upd_ne (ne_of_none upd_same k3)) upd_same, upd_same, (by show 15 ≤ sizeLine; decide), fun l4 n4 => ?_⟩
  have s4 := u3.trans (same_upd (o := .lst [.bl (("BadMark" : Str) == nm), .bl (("BadLetters" : Str) == nm), .bl (("BadRoom" : Str) == nm), .bl (("BadArrow" : Str) == nm), .bl (("BadWord" : Str) == nm), .bl (("BadSize" : Str) == nm), .bl (("BadPattern" : Str) == nm), .bl (("BadTable" : Str) == nm), .bl (("BadTree" : Str) == nm), .bl (("BadText" : Str) == nm), .bl (("BadName" : Str) == nm), .bl (("BadDeed" : Str) == nm), .bl (("BadPage" : Str) == nm), .bl (("Taken" : Str) == nm), .bl (("Full" : Str) == nm)]) n4)
  refine ⟨_, rfl, _, rfl, ec "Unlike", _, fs, rfl, dz s4, T.kit hnm (by decide +kernel), _, rfl, ec "NotDear", _, fs, rfl, dz s4, T.kit hnm (by decide +kernel), _, rfl, ec "InUse", _, fs, rfl, dz s4, T.kit hnm (by decide +kernel), (by decide : 3 ≤ sizeLine), fun m4 k4 => ?_⟩
  have u4 := s4.trans (same_upd (o := .lst [.bl (("Unlike" : Str) == nm), .bl (("NotDear" : Str) == nm), .bl (("InUse" : Str) == nm)]) k4)
  refine ⟨l4, m4, [.bl (("BadMark" : Str) == nm), .bl (("BadLetters" : Str) == nm), .bl (("BadRoom" : Str) == nm), .bl (("BadArrow" : Str) == nm), .bl (("BadWord" : Str) == nm), .bl (("BadSize" : Str) == nm), .bl (("BadPattern" : Str) == nm), .bl (("BadTable" : Str) == nm), .bl (("BadTree" : Str) == nm), .bl (("BadText" : Str) == nm), .bl (("BadName" : Str) == nm), .bl (("BadDeed" : Str) == nm), .bl (("BadPage" : Str) == nm), .bl (("Taken" : Str) == nm), .bl (("Full" : Str) == nm)], [.bl (("Unlike" : Str) == nm), .bl (("NotDear" : Str) == nm), .bl (("InUse" : Str) == nm)], rfl, rfl, Eq.trans (upd_ne (ne_of_none upd_same k4)) upd_same, upd_same, (by show 18 ≤ sizeLine; decide), fun l5 n5 => ?_⟩
  have s5 := u4.trans (same_upd (o := .lst [.bl (("BadMark" : Str) == nm), .bl (("BadLetters" : Str) == nm), .bl (("BadRoom" : Str) == nm), .bl (("BadArrow" : Str) == nm), .bl (("BadWord" : Str) == nm), .bl (("BadSize" : Str) == nm), .bl (("BadPattern" : Str) == nm), .bl (("BadTable" : Str) == nm), .bl (("BadTree" : Str) == nm), .bl (("BadText" : Str) == nm), .bl (("BadName" : Str) == nm), .bl (("BadDeed" : Str) == nm), .bl (("BadPage" : Str) == nm), .bl (("Taken" : Str) == nm), .bl (("Full" : Str) == nm), .bl (("Unlike" : Str) == nm), .bl (("NotDear" : Str) == nm), .bl (("InUse" : Str) == nm)]) n5)
  refine ⟨_, rfl, _, rfl, ec "TooWide", _, fs, rfl, dz s5, T.kit hnm (by decide +kernel), _, rfl, ec "NoArrow", _, fs, rfl, dz s5, T.kit hnm (by decide +kernel), _, rfl, ec "NoName", _, fs, rfl, dz s5, T.kit hnm (by decide +kernel), (by decide : 3 ≤ sizeLine), fun m5 k5 => ?_⟩
  have u5 := s5.trans (same_upd (o := .lst [.bl (("TooWide" : Str) == nm), .bl (("NoArrow" : Str) == nm), .bl (("NoName" : Str) == nm)]) k5)
  refine ⟨l5, m5, [.bl (("BadMark" : Str) == nm), .bl (("BadLetters" : Str) == nm), .bl (("BadRoom" : Str) == nm), .bl (("BadArrow" : Str) == nm), .bl (("BadWord" : Str) == nm), .bl (("BadSize" : Str) == nm), .bl (("BadPattern" : Str) == nm), .bl (("BadTable" : Str) == nm), .bl (("BadTree" : Str) == nm), .bl (("BadText" : Str) == nm), .bl (("BadName" : Str) == nm), .bl (("BadDeed" : Str) == nm), .bl (("BadPage" : Str) == nm), .bl (("Taken" : Str) == nm), .bl (("Full" : Str) == nm), .bl (("Unlike" : Str) == nm), .bl (("NotDear" : Str) == nm), .bl (("InUse" : Str) == nm)], [.bl (("TooWide" : Str) == nm), .bl (("NoArrow" : Str) == nm), .bl (("NoName" : Str) == nm)], rfl, rfl, Eq.trans (upd_ne (ne_of_none upd_same k5)) upd_same, upd_same, (by show 21 ≤ sizeLine; decide), fun l6 n6 => ?_⟩
  have s6 := u5.trans (same_upd (o := .lst [.bl (("BadMark" : Str) == nm), .bl (("BadLetters" : Str) == nm), .bl (("BadRoom" : Str) == nm), .bl (("BadArrow" : Str) == nm), .bl (("BadWord" : Str) == nm), .bl (("BadSize" : Str) == nm), .bl (("BadPattern" : Str) == nm), .bl (("BadTable" : Str) == nm), .bl (("BadTree" : Str) == nm), .bl (("BadText" : Str) == nm), .bl (("BadName" : Str) == nm), .bl (("BadDeed" : Str) == nm), .bl (("BadPage" : Str) == nm), .bl (("Taken" : Str) == nm), .bl (("Full" : Str) == nm), .bl (("Unlike" : Str) == nm), .bl (("NotDear" : Str) == nm), .bl (("InUse" : Str) == nm), .bl (("TooWide" : Str) == nm), .bl (("NoArrow" : Str) == nm), .bl (("NoName" : Str) == nm)]) n6)
  refine ⟨_, rfl, _, rfl, ec "NoTraveller", _, fs, rfl, dz s6, T.kit hnm (by decide +kernel), _, rfl, ec "NothingLeft", _, fs, rfl, dz s6, T.kit hnm (by decide +kernel), (by decide : 2 ≤ sizeLine), fun m6 k6 => ?_⟩
  have u6 := s6.trans (same_upd (o := .lst [.bl (("NoTraveller" : Str) == nm), .bl (("NothingLeft" : Str) == nm)]) k6)
  refine ⟨l6, m6, [.bl (("BadMark" : Str) == nm), .bl (("BadLetters" : Str) == nm), .bl (("BadRoom" : Str) == nm), .bl (("BadArrow" : Str) == nm), .bl (("BadWord" : Str) == nm), .bl (("BadSize" : Str) == nm), .bl (("BadPattern" : Str) == nm), .bl (("BadTable" : Str) == nm), .bl (("BadTree" : Str) == nm), .bl (("BadText" : Str) == nm), .bl (("BadName" : Str) == nm), .bl (("BadDeed" : Str) == nm), .bl (("BadPage" : Str) == nm), .bl (("Taken" : Str) == nm), .bl (("Full" : Str) == nm), .bl (("Unlike" : Str) == nm), .bl (("NotDear" : Str) == nm), .bl (("InUse" : Str) == nm), .bl (("TooWide" : Str) == nm), .bl (("NoArrow" : Str) == nm), .bl (("NoName" : Str) == nm)], [.bl (("NoTraveller" : Str) == nm), .bl (("NothingLeft" : Str) == nm)], rfl, rfl, Eq.trans (upd_ne (ne_of_none upd_same k6)) upd_same, upd_same, (by show 23 ≤ sizeLine; decide), fun l7 n7 => ?_⟩
  have s7 := u6.trans (same_upd (o := .lst [.bl (("BadMark" : Str) == nm), .bl (("BadLetters" : Str) == nm), .bl (("BadRoom" : Str) == nm), .bl (("BadArrow" : Str) == nm), .bl (("BadWord" : Str) == nm), .bl (("BadSize" : Str) == nm), .bl (("BadPattern" : Str) == nm), .bl (("BadTable" : Str) == nm), .bl (("BadTree" : Str) == nm), .bl (("BadText" : Str) == nm), .bl (("BadName" : Str) == nm), .bl (("BadDeed" : Str) == nm), .bl (("BadPage" : Str) == nm), .bl (("Taken" : Str) == nm), .bl (("Full" : Str) == nm), .bl (("Unlike" : Str) == nm), .bl (("NotDear" : Str) == nm), .bl (("InUse" : Str) == nm), .bl (("TooWide" : Str) == nm), .bl (("NoArrow" : Str) == nm), .bl (("NoName" : Str) == nm), .bl (("NoTraveller" : Str) == nm), .bl (("NothingLeft" : Str) == nm)]) n7)
  -- the words
  refine ⟨_, rfl, _, _, rfl, rfl, by decide +kernel, ?_⟩
  refine ⟨_, rfl, _, _, rfl, rfl, by decide +kernel, ?_⟩
  -- '+'.join([.. for .. in zip(words.split(' '), flags) if ..])
  refine ⟨⟨_, rfl⟩, _, rfl, ⟨_, rfl⟩, allW, " ", ?_, rfl, by decide +kernel, by decide +kernel, fun wl nwl => ?_⟩
  · exact congrArg V.str (by decide +kernel)
  have esp : Txt.split allW " " = errWords := by decide +kernel
  rw [esp]
  have sw := s7.trans (same_upd (o := .lst (errWords.map V.str)) nwl)
  have nlw : l7 ≠ wl := ne_of_none upd_same nwl
  refine ⟨_, rfl, wl, l7, errWords.map V.str, (errNames.map (· == nm)).map V.bl, rfl, SqL.of upd_same, SqL.of (by rw [upd_ne nlw, upd_same]; rfl), fun D nD => ?_⟩
  have nDw : wl ≠ D := ne_of_none upd_same nD
  have nDl : l7 ≠ D := by
    refine ne_of_none (o := .lst ((errNames.map (· == nm)).map V.bl)) ?_ nD
    rw [upd_ne nlw, upd_same]
    rfl
  refine lc_zip1 (xs := errWords.map V.str) (ys := (errNames.map (· == nm)).map V.bl) (by rw [List.length_map, List.length_map, List.length_map]; decide) (fun i H' => Same H H' ∧ H' wl = some (.lst (errWords.map V.str)) ∧ H' l7 = some (.lst ((errNames.map (· == nm)).map V.bl)) ∧ H D = none ∧
      H' D = some (.lst (((((errWords.zip (errNames.map (· == nm))).take i).filter (·.2)).map (·.1)).map V.str)))
    ⟨sw.trans (same_upd nD), by rw [upd_ne nDw, upd_same], by rw [upd_ne nDl, upd_ne nlw, upd_same]; rfl, sw.free nD, upd_same⟩ (fun i H' ⟨_, h1, h2, _⟩ => ⟨SqL.of h1, SqL.of h2⟩) ?_ ?_
  · rintro i x y t Hx hx hy ⟨sm, h1, h2, fD, h3⟩ nt
    obtain ⟨wi, ewi, rfl⟩ : ∃ wi, errWords[i]? = some wi ∧ x = .str wi := by
      rw [List.getElem?_map] at hx
      cases e : errWords[i]? with
      | none => rw [e] at hx; cases hx
      | some u => rw [e] at hx; exact ⟨u, rfl, (Option.some.inj hx).symm⟩
    obtain ⟨bi, ebi, rfl⟩ : ∃ bi, (errNames.map (· == nm))[i]? = some bi ∧ y = .bl bi := by
      rw [List.getElem?_map] at hy
      cases e : (errNames.map (· == nm))[i]? with
      | none => rw [e] at hy; cases hy
      | some u => rw [e] at hy; exact ⟨u, rfl, (Option.some.inj hy).symm⟩
    have ez : (errWords.zip (errNames.map (· == nm)))[i]? = some (wi, bi) := by
      rw [List.getElem?_zip_eq_some]
      exact ⟨ewi, ebi⟩
    have et : (errWords.zip (errNames.map (· == nm))).take (i + 1) = (errWords.zip (errNames.map (· == nm))).take i ++ [(wi, bi)] := by rw [List.take_add_one, ez]; rfl
    have st : Same Hx (upd Hx t (.tup [.str wi, .bl bi])) := same_upd nt
    refine ⟨t, _, rfl, SqT.of upd_same, rfl, _, _, rfl, _, _, rfl, rfl, rfl, _, rfl, bi, rfl, ?_⟩
    cases bi with
    | true =>
      rw [if_pos rfl]
      refine ⟨_, rfl, _, st _ _ h3, ?_, ?_⟩
      · rw [List.length_map, List.length_map]
        refine Nat.lt_of_le_of_lt (List.length_filter_le _ _) ?_
        rw [List.length_take]
        rw [List.length_zip]
        exact Nat.lt_of_le_of_lt (Nat.le_trans (Nat.min_le_right _ _) (Nat.min_le_left _ _)) (by decide +kernel)
      · refine ⟨fun b o e => ?_, ?_, ?_, fD, ?_⟩
        · rw [upd_ne (ne_of_none e fD)]
          exact st _ _ (sm _ _ e)
        · rw [upd_ne nDw]
          exact st _ _ h1
        · rw [upd_ne nDl]
          exact st _ _ h2
        · rw [upd_same, et, List.filter_append, List.map_append, List.map_append]
          rfl
    | false =>
      rw [if_neg (by decide)]
      refine ⟨sm.trans st, st _ _ h1, st _ _ h2, fD, ?_⟩
      rw [et, List.filter_append, show List.filter (fun x : Str × Bool => x.2) [(wi, false)] = [] from rfl, List.append_nil]
      exact st _ _ h3
  · rintro Hx ⟨sm, h1, h2, fD, h3⟩
    have ep : ((((errWords.zip (errNames.map (· == nm))).take (errWords.map V.str).length).filter (·.2)).map (·.1)) = [wordOf nm] := by
      rw [List.take_of_length_le (by rw [List.length_map, List.length_zip]; omega)]
      exact pick_one nm hu
    rw [ep] at h3
    refine ⟨_, D, [wordOf nm], rfl, rfl, .inl (SqL.of h3), ?_, ?_⟩
    · show (wordOf nm).length + 0 + 1 * 1 ≤ 16777216
      have := word_len nm hu
      omega
    · rw [join_one nm hu]
      refine ⟨_, rfl, rfl, fs, _, sm _ _ hd, hwd, _, rfl, rfl, _, rfl, ?_⟩
      rw [decide_eq_true rfl]
      exact iteT ⟨_, rfl, q _ sm⟩
end
end Onp
set_option maxHeartbeats 8000000
set_option autoImplicit false
namespace Onp
open PySem PySem.Spec PyProof.Rows L2 HotX L2H LamX
def NT : List Str := ["_law_ask", "_law_e"]
theorem scTold : FnScope NT ["_law_ask"] (defScope sTold) := ⟨rfl, rfl, rfl, by decide +kernel, rfl, by decide +kernel, by decide +kernel⟩
/-- what is told of a refusal besides its word -/
def secV (nm : Str) (fs : List (Str × V)) : V := if nm = "TooWide" then (fs.lookup ("most" : Str)).getD .non else .non
def Eh (ec : Str → Addr) (used : List Str) (Q : VK) : XK := fun cls d H' => ∃ (nm : Str) (dd : Addr) (fs : List (Str × V)), nm ∈ used ∧ cls = .ref (ec nm) ∧ d = some dd ∧ H' dd = some (.xd fs) ∧ fs.lookup ("word" : Str) = some (V.str (wordOf nm)) ∧
  (nm = "TooWide" → ∃ v, fs.lookup ("most" : Str) = some v) ∧ ∀ H'' p, Same H' H'' → H'' p = none → Q (.ref p) (upd H'' p (.tup [.str (wordOf nm), secV nm fs]))
def TTold (ec : Str → Addr) (used : List Str) : (XK → Hp → VK → Prop) → Hp → VK → Prop := fun tl H Q => tl (Eh ec used Q) H (fun v H' => ∀ p, H' p = none → Q (.ref p) (upd H' p (.tup [.str "told", v])))
/-- a clause's suite -/
def tsE (ec : Str → Addr) (used : List Str) (ok : Str → Prop) : Addr → Value → Option Addr → TS := fun a cls d D σ H => ∃ (nm : Str) (dd : Addr) (fs : List (Str × V)), ok nm ∧ nm ∈ used ∧ cls = .ref (ec nm) ∧ d = some dd ∧ σ[1]? = some (some (.ref a)) ∧ H dd = some (.xd fs) ∧ fs.lookup ("word" : Str) = some (V.str (wordOf nm)) ∧
  (nm = "TooWide" → ∃ v, fs.lookup ("most" : Str) = some v) ∧ ∀ H'' p, Same H H'' → H'' p = none → D.rt (.ref p) (upd H'' p (.tup [.str (wordOf nm), secV nm fs]))
section
variable {X : Cx} {ec : Str → Addr} {used : List Str} {cP cM : Addr}
abbrev toldX (X : Cx) (g : Addr) (cdg : Value) (s : Shared) (H : Hp) : Cx := (cxOf CX0 X.prog X.w X.K X.mg X.base NT "_law_told" (defScope sTold) g cdg X.A X.stack s H E0).nox
theorem suite_none {k : Nat} {g fK : Addr} {cdg : Value} {fdK : FuncData} {s : Shared} {H : Hp} {a : Addr} {oe : Obj} {cls : Value} {d : Option Addr} {pn : List (Addr × Obj)} {p1 p2 p3 p4 p5 p6 : Pos} (GK : FnPin X.prog X.w X.K X.mg X.base (k + 1) fK fdK ["_law_e"] (spKind ec used)) (hr : Room (k + 1) (X.A.deeper (envOfC "_law_told" (defScope sTold) s.heap.objs.size g cdg)))
    (FK : Fun X.K "_law_kind" "_law_kind" sKind fK fdK) (bK : Binds X.K fdK ["_law_e"] []) (gK : X.mg "_law_kind" = some (.ref fK)) (hz : L2N.Zn cls d oe) (hf : ∃ vs, oe.data = .fields vs) :
    PSs ((toldX X g cdg s H).suite a ((a, oe) :: pn)) [.Return (some (.Tuple [.Call (.Name "_law_kind" p1) [.Name "_law_e" p2] [] p3, .Constant .none 0 p4] 0 p5)) p6] (tsE ec used (fun nm => nm ≠ "TooWide") a cls d) := by
  refine ⟨fun pins s' σ H' D I h' => ?_⟩
  obtain ⟨nm, dd, fs, ho, hu, rfl, rfl, h1, h2, h3, h4, h5⟩ := h'
  obtain ⟨vs, hv⟩ := hf
  have hot : Hot1 ((toldX X g cdg s H).suite a ((a, oe) :: pn)).A (a, oe) := ⟨rfl, vs, hv, hz.2.2 vs hv⟩
  have hrun : PSs ((toldX X g cdg s H).suite a ((a, oe) :: pn)) [.Return (some (.Tuple [.Call (.Name "_law_kind" p1) [.Name "_law_e" p2] [] p3, .Constant .none 0 p4] 0 p5)) p6] _ :=
    pss_one (ps_ret (pe_tup (pa_cons (pe_callPin (p := (a, oe)) GK ⟨hr.dp, hr.un⟩ hot List.mem_cons_self (by rfl) gK FK.kp bK (pa_cons (pv 1) pa_nil)) (pa_cons pe_non pa_nil))))
  refine hrun.run pins s' σ H' D I ⟨_, h1, rfl, nm, dd, fs, hu, rfl, hz, h2, h3, fun H2 sm => ⟨(by decide : 2 ≤ sizeLine), fun p np => ?_⟩⟩
  have e := h5 H2 p sm np
  unfold secV at e
  rw [if_neg ho] at e
  exact e
theorem suite_most {k : Nat} {g fK : Addr} {cdg : Value} {fdK : FuncData} {s : Shared} {H : Hp} {a : Addr} {oe : Obj} {cls : Value} {d : Option Addr} {pn : List (Addr × Obj)} {p1 p2 p3 p4 p5 p6 p7 : Pos} (GK : FnPin X.prog X.w X.K X.mg X.base (k + 1) fK fdK ["_law_e"] (spKind ec used)) (hr : Room (k + 1) (X.A.deeper (envOfC "_law_told" (defScope sTold) s.heap.objs.size g cdg)))
    (FK : Fun X.K "_law_kind" "_law_kind" sKind fK fdK) (bK : Binds X.K fdK ["_law_e"] []) (gK : X.mg "_law_kind" = some (.ref fK)) (T : Kd X.K X.mg ec used cP cM) (mo : ("TooWide" : Str) ∈ used → PySem.W.findIn X.K (.ref (ec "TooWide")) "most" = some none) (hz : L2N.Zn cls d oe) (hf : ∃ vs, oe.data = .fields vs) :
    PSs ((toldX X g cdg s H).suite a ((a, oe) :: pn)) [.Return (some (.Tuple [.Call (.Name "_law_kind" p1) [.Name "_law_e" p2] [] p3, .Attribute (.Name "_law_e" p4) "most" p5] 0 p6)) p7] (tsE ec used (fun nm => nm = "TooWide") a cls d) := by
  refine ⟨fun pins s' σ H' D I h' => ?_⟩
  obtain ⟨nm, dd, fs, ho, hu, rfl, rfl, h1, h2, h3, h4, h5⟩ := h'
  obtain ⟨vs, hv⟩ := hf
  subst ho
  obtain ⟨v, ev⟩ := h4 rfl
  have hot : Hot1 ((toldX X g cdg s H).suite a ((a, oe) :: pn)).A (a, oe) := ⟨rfl, vs, hv, hz.2.2 vs hv⟩
  have hrun : PSs ((toldX X g cdg s H).suite a ((a, oe) :: pn)) [.Return (some (.Tuple [.Call (.Name "_law_kind" p1) [.Name "_law_e" p2] [] p3, .Attribute (.Name "_law_e" p4) "most" p5] 0 p6)) p7] _ :=
    pss_one (ps_ret (pe_tup (pa_cons (pe_callPin (p := (a, oe)) GK ⟨hr.dp, hr.un⟩ hot List.mem_cons_self (by rfl) gK FK.kp bK (pa_cons (pv 1) pa_nil)) (pa_cons (pe_fldP (p := (a, oe)) (T.er _ hu) (mo hu) List.mem_cons_self hz.zc ⟨vs, hv⟩ (pv 1)) pa_nil))))
  refine hrun.run pins s' σ H' D I ⟨_, h1, rfl, "TooWide", dd, fs, hu, rfl, hz, h2, h3, fun H2 sm => ⟨_, h1, rfl, fs, v, sm _ _ h2, ev, (by decide : 2 ≤ sizeLine), fun p np => ?_⟩⟩
  have e := h5 H2 p sm np
  unfold secV at e
  rw [if_pos rfl, ev] at e
  exact e
theorem body_told {g f c' : Addr} {cdg : Value} {s : Shared} {H : Hp} {q : Str} {W : WX} {pn : List (Addr × Obj)} {xe : Value → Shared → Prop} {tl : XK → Hp → VK → Prop} {p0 p1 p2 p3 p4 : Pos}
    (act : ∀ (E : XK), (∀ cls d σ' H', E cls d H' → W cls d σ' H') → PE ((toldX X g cdg s H).tr pn xe) (.Call (.Name "_law_ask" p1) [] [] p2) (fun σZ HZ Q => σZ[0]? = some (some (.ref f)) ∧ HZ c' = some (CodeO c' q) ∧ tl E HZ Q)) :
    PSs ((toldX X g cdg s H).tr pn xe) [.Return (some (.Tuple [.Constant (.str "told") 0 p0, .Call (.Name "_law_ask" p1) [] [] p2] 0 p3)) p4]
      (fun D σ H => ∃ Ech : XK, (∀ cls d σ' H', Ech cls d H' → W cls d σ' H') ∧ σ[0]? = some (some (.ref f)) ∧ H c' = some (CodeO c' q) ∧ tl Ech H (fun v H' => (2 : Nat) ≤ sizeLine ∧ ∀ p, H' p = none → D.rt (.ref p) (upd H' p (.tup [.str "told", v])))) := by
  refine ⟨fun pins s' σ H' D I h' => ?_⟩
  obtain ⟨Ech, hW, h1, h2, h3⟩ := h'
  have hrun : PSs ((toldX X g cdg s H).tr pn xe) [.Return (some (.Tuple [.Constant (.str "told") 0 p0, .Call (.Name "_law_ask" p1) [] [] p2] 0 p3)) p4] _ := pss_one (ps_ret (pe_tup (pa_cons pe_str (pa_cons (act Ech hW) pa_nil))))
  exact hrun.run pins s' σ H' D I ⟨h1, h2, h3⟩
theorem told_gives {k : Nat} {g fK : Addr} {cdg : Value} {fdK : FuncData} {q : Str} (T : Kd X.K X.mg ec used cP cM) (nb : ("BadText" : Str) ∉ used ∧ ("BadPage" : Str) ∉ used) (mo : ("TooWide" : Str) ∈ used → PySem.W.findIn X.K (.ref (ec "TooWide")) "most" = some none)
    (FK : Fun X.K "_law_kind" "_law_kind" sKind fK fdK) (bK : Binds X.K fdK ["_law_e"] []) (gK : X.mg "_law_kind" = some (.ref fK)) (mi : X.mg "isinstance" = none) (mz : X.mg "zip" = none) :
    GivesN X k NT "_law_told" (defScope sTold) g cdg (defBody sTold) "_law_ask" q (TTold ec used) := by
  intro f c' s H Q tl hr act hc h
  have GK : FnPin X.prog X.w X.K X.mg X.base (k + 1) fK fdK ["_law_e"] (spKind ec used) := ok_kind FK T mi mz
  refine ⟨_, pss_one (ps_try_clauses (X := toldX X g cdg s H) (n := "_law_e") (i := 1) (Wout := fun _ _ _ _ => False)
      (tb := fun W D σ H => ∃ Ech : XK, (∀ cls d σ' H', Ech cls d H' → W cls d σ' H') ∧ σ[0]? = some (some (.ref f)) ∧ H c' = some (CodeO c' q) ∧ tl Ech H (fun v H' => (2 : Nat) ≤ sizeLine ∧ ∀ p, H' p = none → D.rt (.ref p) (upd H' p (.tup [.str "told", v]))))
      (l := [(fun cls => PySem.W.exmOne X.K cls (.ref (ec "BadText")), fun _ _ _ => tNever), (fun cls => PySem.W.exmOne X.K cls (.ref (ec "BadPage")), fun _ _ _ => tNever), (fun cls => PySem.W.exmOne X.K cls (.ref (ec "TooWide")), tsE ec used (fun nm => nm = "TooWide")),
        (fun cls => PySem.W.exmAny X.K cls [.ref cP, .ref cM, .ref (ec "NothingLeft")], tsE ec used (fun nm => nm ≠ "TooWide"))])
      rfl rfl scTold.nd rfl rfl takes0N (fun W pn xe tk _ => body_told fun E hW => act W pn xe E _ _ tk hW)
      (.cons (test_name rfl (by decide) (T.g "BadText" (by decide +kernel))) (fun _ _ _ _ _ _ _ => pss_never)
      (.cons (test_name rfl (by decide) (T.g "BadPage" (by decide +kernel))) (fun _ _ _ _ _ _ _ => pss_never)
      (.cons (test_name rfl (by decide) (T.g "TooWide" (by decide +kernel))) (fun a oe cls d pn hz hf => suite_most GK hr FK bK gK T mo hz hf)
      (.cons (test_three rfl rfl rfl (by decide) (by decide) (by decide) T.gP T.gM (T.g "NothingLeft" (by decide +kernel))) (fun a oe cls d pn hz hf => suite_none GK hr FK bK gK hz hf) .nil))))), ?_⟩
  have e : (fun (v : V) (H' : Hp) => (2 : Nat) ≤ sizeLine ∧ ∀ p, H' p = none → Q (.ref p) (upd H' p (.tup [.str "told", v]))) = (fun v H' => ∀ p, H' p = none → Q (.ref p) (upd H' p (.tup [.str "told", v]))) := by
    funext v H'
    exact propext ⟨fun z => z.2, fun z => ⟨by decide, z⟩⟩
  refine ⟨Eh ec used Q, fun cls d σ' H' hE hlen => ?_, rfl, hc, by rw [e]; exact h⟩
  obtain ⟨nm, dd, fs, hu, rfl, rfl, h2, h3, h4, h5⟩ := hE
  have n1 : (("BadText" : Str) == nm) = false := beq_eq_false_iff_ne.mpr fun e => nb.1 (e ▸ hu)
  have n2 : (("BadPage" : Str) == nm) = false := beq_eq_false_iff_ne.mpr fun e => nb.2 (e ▸ hu)
  have x1 := T.exm hu (y := "BadText") (by decide +kernel) (by decide +kernel)
  have x2 := T.exm hu (y := "BadPage") (by decide +kernel) (by decide +kernel)
  have x3 := T.exm hu (y := "TooWide") (by decide +kernel) (by decide +kernel)
  rw [n1] at x1
  rw [n2] at x2
  have sl : ∀ (z : V), (σ'.set 1 (some z))[1]? = some (some z) := fun z => by
    have hl : σ'.length = 2 := hlen
    rw [List.getElem?_set_self (by omega)]
  refine ⟨false, x1, fun z => Bool.noConfusion z, fun _ => ⟨false, x2, fun z => Bool.noConfusion z, fun _ => ⟨_, x3, fun e a na => ?_, fun e => ⟨true, T.any nm hu, fun _ a na => ?_, fun z => Bool.noConfusion z⟩⟩⟩⟩
  · exact ⟨nm, dd, fs, (beq_iff_eq.mp e).symm, hu, rfl, rfl, sl _, h2, h3, h4, h5⟩
  · have ee : nm ≠ "TooWide" := fun z => by
      rw [z, beq_self_eq_true] at e
      exact Bool.noConfusion e
    exact ⟨nm, dd, fs, ee, hu, rfl, rfl, sl _, h2, h3, h4, h5⟩
end
end Onp
set_option maxHeartbeats 8000000
set_option autoImplicit false
namespace Onp
open PySem PySem.Spec PyProof.Rows L2
abbrev sSame : Stmt := topS 42
/-! ### data -/
def Lvl : Nat → PyData → Prop
  | _, .none => True
  | _, .bool _ => True
  | _, .int _ => True
  | _, .str _ => True
  | n + 1, .list ds => ds.length ≤ 1000 ∧ ∀ d ∈ ds, Lvl n d
  | n + 1, .tuple ds => ds.length ≤ 1000 ∧ ∀ d ∈ ds, Lvl n d
  | _, _ => False
mutual
theorem dpSame {K : PySem.W.Frag} {H H' : Hp} (e : Same H H') : ∀ {v : V} {d : PyData}, Dp K H v d → Dp K H' v d
  | _, _, .non => .non
  | _, _, .bl b => .bl b
  | _, _, .int i => .int i
  | _, _, .str x => .str x
  | _, _, .lst h a => .lst (e.seq h) (dpAllSame e a)
  | _, _, .tup h a => .tup (same_seqT e h) (dpAllSame e a)
theorem dpAllSame {K : PySem.W.Frag} {H H' : Hp} (e : Same H H') : ∀ {vs : List V} {ds : List PyData}, DpAll K H vs ds → DpAll K H' vs ds
  | _, _, .nil => .nil
  | _, _, .cons a b => .cons (dpSame e a) (dpAllSame e b)
end
theorem dpLen {K : PySem.W.Frag} {H : Hp} : ∀ {vs : List V} {ds : List PyData}, DpAll K H vs ds → vs.length = ds.length
  | _, _, .nil => rfl
  | _, _, .cons _ b => by rw [List.length_cons, List.length_cons, dpLen b]
theorem dpAt {K : PySem.W.Frag} {H : Hp} : ∀ {vs : List V} {ds : List PyData} {i : Nat} {v : V}, DpAll K H vs ds → vs[i]? = some v → ∃ d, ds[i]? = some d ∧ Dp K H v d
  | _, _, _, _, .nil, h => by simp at h
  | _, _, 0, _, .cons a _, h => by simp at h; subst h; exact ⟨_, rfl, a⟩
  | _, _, i + 1, _, .cons _ b, h => by
    obtain ⟨d, h1, h2⟩ := dpAt (i := i) b (by simpa using h)
    exact ⟨d, by simpa using h1, h2⟩
theorem tyL {K : PySem.W.Frag} {H : Hp} {a : Addr} {xs : List V} (h : SqL K H a xs) : TyX K H (.ref a) (.type "list") := by
  rcases h with (h | ⟨o, h⟩) | ⟨o, its, n, h, c, _⟩
  · exact .base (.lst h)
  · exact .base (.frz h)
  · exact .kList h c
theorem tyT {K : PySem.W.Frag} {H : Hp} {a : Addr} {xs : List V} (h : SqT K H a xs) : TyX K H (.ref a) (.type "tuple") := by
  rcases h with (h | ⟨o, h⟩) | ⟨o, its, n, h, c, _⟩
  · exact .base (.tup h)
  · exact .fTuple h
  · exact .kTuple h c
theorem kitAny2 {K : PySem.W.Frag} {t c1 c2 : Value} {b1 b2 : Bool} (h1 : PySem.W.kitOne K t c1 = some b1) (h2 : PySem.W.kitOne K t c2 = some b2) : PySem.W.kitAny K t [c1, c2] = some (b1 || b2) := by
  unfold PySem.W.kitAny
  rw [h1]
  cases b1 with
  | true => rfl
  | false =>
    show PySem.W.kitAny K t [c2] = _
    unfold PySem.W.kitAny
    rw [h2]
    cases b2 <;> rfl
theorem qT {Q : VK} {H : Hp} {c : Prop} [Decidable c] (hc : c) (h : Q (.bl true) H) : Q (.bl (decide c)) H := by
  rw [decide_eq_true hc]
  exact h
theorem qB {Q : VK} {H : Hp} {b : Bool} (hb : b = true) (h : Q (.bl true) H) : Q (.bl b) H := by
  rw [hb]
  exact h
theorem pe_no {X : Cx} {e : Expr} : PE X e (fun _ _ _ => False) := ⟨fun _ _ _ _ _ _ h => h.elim⟩
/-! ### a comprehension over zip of two of one length -/
def ItzG (S : Hp → Addr → List V → Prop) (a b : Addr) : It :=
  ⟨fun i H => ∃ (xs ys : List V) (x y : V), S H a xs ∧ S H b ys ∧ xs[i]? = some x ∧ ys[i]? = some y,
    fun i H v H' => ∃ T x y, v = .ref T ∧ H T = none ∧ H' = upd H T (.tup [x, y]) ∧ (∀ xs, S H a xs → xs[i]? = some x) ∧ ∀ ys, S H b ys → ys[i]? = some y,
    fun i H => ∃ xs ys : List V, S H a xs ∧ S H b ys ∧ (xs.length ≤ i ∨ ys.length ≤ i)⟩
theorem lc_zipG {S : Hp → Addr → List V → Prop} {a b : Addr} {xs ys : List V} {g : TG} {tt : TT} {te : TE} {vs : List Nat} {σ : L2.St} {H1 : Hp} {D : Addr} {Qd : Hp → Prop} (hl : xs.length = ys.length) (Pv : Nat → Hp → Prop) (h0 : Pv 0 (upd H1 D (.lst []))) (hq : ∀ i H, Pv i H → S H a xs ∧ S H b ys)
    (hs : ∀ i x y T H, xs[i]? = some x → ys[i]? = some y → Pv i H → H T = none → g (.ref T) (wipe σ vs) (upd H T (.tup [x, y])) fun σ2 H2 => wipe σ2 vs = wipe σ vs ∧ tt σ2 H2 fun b H3 =>
      if b = true then te σ2 H3 fun y H4 => ∃ acc, H4 D = some (.lst acc) ∧ acc.length < sizeLine ∧ Pv (i + 1) (upd H4 D (.lst (acc ++ [y]))) else Pv (i + 1) H3) (hd : ∀ H, Pv xs.length H → Qd H) :
    ∃ W : Nat → Nat → Hp → Prop, (∃ m, W 0 m (upd H1 D (.lst []))) ∧ ∀ i m H, W i m H → ((ItzG S a b).stop i H ∧ Qd H) ∨ ((ItzG S a b).go i H ∧ ∃ Nx : Hp → Prop, (∀ H', Nx H' → ∃ m', m' < m ∧ W (i + 1) m' H') ∧
      ∀ x H', (ItzG S a b).yld i H x H' → g x (wipe σ vs) H' fun σ2 H2 => wipe σ2 vs = wipe σ vs ∧ tt σ2 H2 fun b H3 => if b = true then te σ2 H3 fun y H4 => ∃ acc, H4 D = some (.lst acc) ∧ acc.length < sizeLine ∧ Nx (upd H4 D (.lst (acc ++ [y]))) else Nx H3) := by
  refine ⟨fun i m H => m = xs.length - i ∧ i ≤ xs.length ∧ Pv i H, ⟨xs.length, by simp, Nat.zero_le _, h0⟩, fun i m H ⟨em, hi, p⟩ => ?_⟩
  obtain ⟨qa, qb⟩ := hq i H p
  by_cases lt : i < xs.length
  · have lt2 : i < ys.length := by omega
    refine .inr ⟨⟨xs, ys, xs[i], ys[i], qa, qb, List.getElem?_eq_getElem lt, List.getElem?_eq_getElem lt2⟩, Pv (i + 1), fun H' p' => ⟨xs.length - (i + 1), by omega, rfl, lt, p'⟩, fun x H' hy => ?_⟩
    obtain ⟨T, x1, x2, rfl, nT, rfl, e1, e2⟩ := hy
    exact hs i x1 x2 T H (e1 _ qa) (e2 _ qb) p nT
  · have e : i = xs.length := by omega
    subst e
    exact .inl ⟨⟨xs, ys, qa, qb, .inl (Nat.le_refl _)⟩, hd H p⟩
def NS : List Str := ["_law_found", "_law_due", "_law_a", "_law_b"]
theorem scSame : FnScope NS ["_law_found", "_law_due"] (defScope sSame) := ⟨rfl, rfl, rfl, by decide +kernel, rfl, by decide +kernel, by decide +kernel⟩
def spSame (K : PySem.W.Frag) (n : Nat) : Sp := fun vs H Q _ => ∃ (x y : V) (d : PyData), vs = [x, y] ∧ Dp K H x d ∧ Dp K H y d ∧ Lvl n d ∧ ∀ H', Same H H' → Q (.bl true) H'
structure Blt (mg : Str → Option Value) : Prop where
  isi : mg "isinstance" = none
  list : mg "list" = none
  tuple : mg "tuple" = none
  bool : mg "bool" = none
  int : mg "int" = none
  str : mg "str" = none
  len : mg "len" = none
  all : mg "all" = none
  zip : mg "zip" = none
section
variable {P : Program} {w : World} {K : PySem.W.Frag} {mg : Str → Option Value} {base : Heap}
theorem ok_same {f : Addr} {fd : FuncData} (F : Fun K "_law_same" "_law_same" sSame f fd) (bS : Binds K fd ["_law_found", "_law_due"] []) (gS : mg "_law_same" = some (.ref f)) (B : Blt mg) : ∀ (n k : Nat), FnOk P w K mg base CX0 (k + n + 1) f fd ["_law_found", "_law_due"] (spSame K n) := by
  intro n
  induction n with
  | zero =>
    intro k
    refine F.ok scSame (fun vs H Q E h => ?_) (fun cdv A outer s H vs Q E hr h => ?_)
    · obtain ⟨x, y, d, rfl, _⟩ := h
      rfl
    · obtain ⟨x, y, d, rfl, hx, hy, hl, q⟩ := h
      refine ⟨_, pss_cons (ps_if (pt_val (pe_callB call_isiT (by rfl) B.isi (by decide +kernel) (pa_cons (pv 1) (pa_cons (pe_tup (pa_cons (pe_bltn (v := .ty "list") (by rfl) B.list (by decide +kernel) rfl) (pa_cons (pe_bltn (v := .ty "tuple") (by rfl) B.tuple (by decide +kernel) rfl) pa_nil))) pa_nil)))) pss_never pss_nil)
      (pss_cons (ps_if (PW.pt (pw_or (pt_cmp (pc_isN (pv 1))) (pw_or1 (pt_cmp (pc_isN (pv 0)))))) (pss_one (ps_ret (pe_and (pe_cmp (pc_isN (pv 0)) rfl) (pe_one (pe_cmp (pc_isN (pv 1)) rfl))))) pss_nil)
      (pss_cons (ps_if (PW.pt (pw_or (pt_cmpR op_ne (pe_callB call_isi (by rfl) B.isi (by decide +kernel) (pa_cons (pv 0) (pa_cons (pe_bltn (v := .ty "bool") (by rfl) B.bool (by decide +kernel) rfl) pa_nil))) (pe_callB call_isi (by rfl) B.isi (by decide +kernel) (pa_cons (pv 1) (pa_cons (pe_bltn (v := .ty "bool") (by rfl) B.bool (by decide +kernel) rfl) pa_nil))) (nomark _)) (pw_or1 (pt_cmpR op_ne (pe_callB call_isi (by rfl) B.isi (by decide +kernel) (pa_cons (pv 0) (pa_cons (pe_bltn (v := .ty "int") (by rfl) B.int (by decide +kernel) rfl) pa_nil))) (pe_callB call_isi (by rfl) B.isi (by decide +kernel) (pa_cons (pv 1) (pa_cons (pe_bltn (v := .ty "int") (by rfl) B.int (by decide +kernel) rfl) pa_nil))) (nomark _))))) pss_never pss_nil)
      (pss_one (ps_ret (pe_and (pe_cmpR op_eq (pe_callB call_isi (by rfl) B.isi (by decide +kernel) (pa_cons (pv 0) (pa_cons (pe_bltn (v := .ty "str") (by rfl) B.str (by decide +kernel) rfl) pa_nil))) (pe_callB call_isi (by rfl) B.isi (by decide +kernel) (pa_cons (pv 1) (pa_cons (pe_bltn (v := .ty "str") (by rfl) B.str (by decide +kernel) rfl) pa_nil))) (nomark _)) (pe_one (pe_cmpR op_eq (pv 0) (pv 1) (nomark _)))))))), ?_⟩
      cases hx with
      | lst h a => exact hl.elim
      | tup h a => exact hl.elim
      | non =>
        cases hy
        refine ⟨_, rfl, (by decide : 2 ≤ sizeLine), fun tp ntp => ?_⟩
        have s1 := same_upd (o := .tup [.ty "list", .ty "tuple"]) ntp
        refine ⟨.non, tp, _, _, _, _, rfl, upd_same, .cons (.ty _) (.cons (.ty _) .nil), .base .non, kitAny2 (b1 := false) (b2 := false) (kit_ty (by decide +kernel)) (kit_ty (by decide +kernel)), _, rfl, iteF ?_⟩
        refine ⟨_, rfl, _, rfl, itT rfl (iteT ?_)⟩
        refine ⟨_, rfl, _, rfl, itT rfl ⟨_, rfl, ?_⟩⟩
        exact qT (Q := Q) rfl (q _ s1)
      | bl b =>
        cases hy
        refine ⟨_, rfl, (by decide : 2 ≤ sizeLine), fun tp ntp => ?_⟩
        have s1 := same_upd (o := .tup [.ty "list", .ty "tuple"]) ntp
        refine ⟨(.bl b), tp, _, _, _, _, rfl, upd_same, .cons (.ty _) (.cons (.ty _) .nil), .base (.bl _), kitAny2 (b1 := false) (b2 := false) (kit_ty (by decide +kernel)) (kit_ty (by decide +kernel)), _, rfl, iteF ?_⟩
        refine ⟨_, rfl, _, rfl, itF (fun h => nomatch h) ⟨_, rfl, _, rfl, itF (fun h => nomatch h) ?_⟩⟩
        refine ⟨_, rfl, (.bl b), .ty "bool", .type "bool", .type "bool", true, rfl, .ty _, .base (.bl _), kit_ty (by decide +kernel), _, rfl, (.bl b), .ty "bool", .type "bool", .type "bool", true, rfl, .ty _, .base (.bl _), kit_ty (by decide +kernel), rfl, _, rfl, iteNS rfl ⟨_, rfl, (.bl b), .ty "int", .type "bool", .type "int", true, rfl, .ty _, .base (.bl _), kit_ty (by decide +kernel), _, rfl, (.bl b), .ty "int", .type "bool", .type "int", true, rfl, .ty _, .base (.bl _), kit_ty (by decide +kernel), rfl, _, rfl, iteNS rfl ?_⟩⟩
        refine ⟨_, rfl, (.bl b), .ty "str", .type "bool", .type "str", false, rfl, .ty _, .base (.bl _), kit_ty (by decide +kernel), _, rfl, (.bl b), .ty "str", .type "bool", .type "str", false, rfl, .ty _, .base (.bl _), kit_ty (by decide +kernel), rfl, _, rfl, itT rfl ⟨_, rfl, _, rfl, rfl, ?_⟩⟩
        exact qT (Q := Q) rfl (q _ s1)
      | int i =>
        cases hy
        refine ⟨_, rfl, (by decide : 2 ≤ sizeLine), fun tp ntp => ?_⟩
        have s1 := same_upd (o := .tup [.ty "list", .ty "tuple"]) ntp
        refine ⟨(.int i), tp, _, _, _, _, rfl, upd_same, .cons (.ty _) (.cons (.ty _) .nil), .base (.int _), kitAny2 (b1 := false) (b2 := false) (kit_ty (by decide +kernel)) (kit_ty (by decide +kernel)), _, rfl, iteF ?_⟩
        refine ⟨_, rfl, _, rfl, itF (fun h => nomatch h) ⟨_, rfl, _, rfl, itF (fun h => nomatch h) ?_⟩⟩
        refine ⟨_, rfl, (.int i), .ty "bool", .type "int", .type "bool", false, rfl, .ty _, .base (.int _), kit_ty (by decide +kernel), _, rfl, (.int i), .ty "bool", .type "int", .type "bool", false, rfl, .ty _, .base (.int _), kit_ty (by decide +kernel), rfl, _, rfl, iteNS rfl ⟨_, rfl, (.int i), .ty "int", .type "int", .type "int", true, rfl, .ty _, .base (.int _), kit_ty (by decide +kernel), _, rfl, (.int i), .ty "int", .type "int", .type "int", true, rfl, .ty _, .base (.int _), kit_ty (by decide +kernel), rfl, _, rfl, iteNS rfl ?_⟩⟩
        refine ⟨_, rfl, (.int i), .ty "str", .type "int", .type "str", false, rfl, .ty _, .base (.int _), kit_ty (by decide +kernel), _, rfl, (.int i), .ty "str", .type "int", .type "str", false, rfl, .ty _, .base (.int _), kit_ty (by decide +kernel), rfl, _, rfl, itT rfl ⟨_, rfl, _, rfl, rfl, ?_⟩⟩
        exact qT (Q := Q) rfl (q _ s1)
      | str z =>
        cases hy
        refine ⟨_, rfl, (by decide : 2 ≤ sizeLine), fun tp ntp => ?_⟩
        have s1 := same_upd (o := .tup [.ty "list", .ty "tuple"]) ntp
        refine ⟨(.str z), tp, _, _, _, _, rfl, upd_same, .cons (.ty _) (.cons (.ty _) .nil), .base (.str _), kitAny2 (b1 := false) (b2 := false) (kit_ty (by decide +kernel)) (kit_ty (by decide +kernel)), _, rfl, iteF ?_⟩
        refine ⟨_, rfl, _, rfl, itF (fun h => nomatch h) ⟨_, rfl, _, rfl, itF (fun h => nomatch h) ?_⟩⟩
        refine ⟨_, rfl, (.str z), .ty "bool", .type "str", .type "bool", false, rfl, .ty _, .base (.str _), kit_ty (by decide +kernel), _, rfl, (.str z), .ty "bool", .type "str", .type "bool", false, rfl, .ty _, .base (.str _), kit_ty (by decide +kernel), rfl, _, rfl, iteNS rfl ⟨_, rfl, (.str z), .ty "int", .type "str", .type "int", false, rfl, .ty _, .base (.str _), kit_ty (by decide +kernel), _, rfl, (.str z), .ty "int", .type "str", .type "int", false, rfl, .ty _, .base (.str _), kit_ty (by decide +kernel), rfl, _, rfl, iteNS rfl ?_⟩⟩
        refine ⟨_, rfl, (.str z), .ty "str", .type "str", .type "str", true, rfl, .ty _, .base (.str _), kit_ty (by decide +kernel), _, rfl, (.str z), .ty "str", .type "str", .type "str", true, rfl, .ty _, .base (.str _), kit_ty (by decide +kernel), rfl, _, rfl, itT rfl ⟨_, rfl, _, rfl, rfl, ?_⟩⟩
        exact qT (Q := Q) rfl (q _ s1)
  | succ n ih =>
    intro k
    have G : FnOk P w K mg base CX0 (k + n + 1) f fd ["_law_found", "_law_due"] (spSame K n) := ih k
    refine F.ok scSame (fun vs H Q E h => ?_) (fun cdv A outer s H vs Q E hr h => ?_)
    · obtain ⟨x, y, d, rfl, _⟩ := h
      rfl
    · obtain ⟨x, y, d, rfl, hx, hy, hl, q⟩ := h
      refine ⟨_, pss_cons (ps_if (pt_val (pe_callB call_isiT (by rfl) B.isi (by decide +kernel) (pa_cons (pv 1) (pa_cons (pe_tup (pa_cons (pe_bltn (v := .ty "list") (by rfl) B.list (by decide +kernel) rfl) (pa_cons (pe_bltn (v := .ty "tuple") (by rfl) B.tuple (by decide +kernel) rfl) pa_nil))) pa_nil))))
          (pss_cons (ps_if (PW.pt (pw_or (pt_cmpR op_ne (pe_callB call_isi (by rfl) B.isi (by decide +kernel) (pa_cons (pv 0) (pa_cons (pe_bltn (v := .ty "list") (by rfl) B.list (by decide +kernel) rfl) pa_nil))) (pe_callB call_isi (by rfl) B.isi (by decide +kernel) (pa_cons (pv 1) (pa_cons (pe_bltn (v := .ty "list") (by rfl) B.list (by decide +kernel) rfl) pa_nil))) (nomark _)) (pw_or1 (pt_cmpR op_ne (pe_callB call_isi (by rfl) B.isi (by decide +kernel) (pa_cons (pv 0) (pa_cons (pe_bltn (v := .ty "tuple") (by rfl) B.tuple (by decide +kernel) rfl) pa_nil))) (pe_callB call_isi (by rfl) B.isi (by decide +kernel) (pa_cons (pv 1) (pa_cons (pe_bltn (v := .ty "tuple") (by rfl) B.tuple (by decide +kernel) rfl) pa_nil))) (nomark _))))) pss_never pss_nil)
          (pss_one (ps_ret (pe_and (pe_cmpR op_eq (pe_callB call_len_seq (by rfl) B.len PySem.boot_len (pa_cons (pv 0) pa_nil)) (pe_callB call_len_seq (by rfl) B.len PySem.boot_len (pa_cons (pv 1) pa_nil)) (nomark _))
            (pe_one (pe_callB (cr_all rfl) (by rfl) B.all (by decide +kernel) (pa_cons (pe_lc (own := [("_law_a", 2), ("_law_b", 3)]) (g := gTup K 2 (gCons (gName 2) (gCons (gName 3) gNil))) (tt := tYes) rfl scSame.nd
              (RZ.pi_zipA (by rfl) B.zip (pa_cons (pv 0) (pa_cons (pv 1) pa_nil))) (blkOk_by (own := [("_law_a", 2), ("_law_b", 3)]) (N := NS) (sc := defScope sSame) (by decide +kernel))
              (fun _ _ _ _ _ => pg_tup (n := 2) rfl (pgs_cons (pg_name (i := 2) scSame.nd rfl (.inl rfl) (.inr rfl)) (pgs_cons (pg_name (i := 3) scSame.nd rfl (.inl rfl) (.inr rfl)) pgs_nil))) (fun _ _ _ _ _ => pts_nil)
              (fun _ _ _ _ _ => pe_call G hr (by rfl) gS F.kp bS .nil pass0 (pa_cons (pv 2) (pa_cons (pv 3) pa_nil)))) pa_nil))))))) pss_nil)
      (pss_cons (ps_if (PW.pt (pw_or (pt_cmp (pc_isN (pv 1))) (pw_or1 (pt_cmp (pc_isN (pv 0)))))) (pss_one (ps_ret (pe_and (pe_cmp (pc_isN (pv 0)) rfl) (pe_one (pe_cmp (pc_isN (pv 1)) rfl))))) pss_nil)
      (pss_cons (ps_if (PW.pt (pw_or (pt_cmpR op_ne (pe_callB call_isi (by rfl) B.isi (by decide +kernel) (pa_cons (pv 0) (pa_cons (pe_bltn (v := .ty "bool") (by rfl) B.bool (by decide +kernel) rfl) pa_nil))) (pe_callB call_isi (by rfl) B.isi (by decide +kernel) (pa_cons (pv 1) (pa_cons (pe_bltn (v := .ty "bool") (by rfl) B.bool (by decide +kernel) rfl) pa_nil))) (nomark _)) (pw_or1 (pt_cmpR op_ne (pe_callB call_isi (by rfl) B.isi (by decide +kernel) (pa_cons (pv 0) (pa_cons (pe_bltn (v := .ty "int") (by rfl) B.int (by decide +kernel) rfl) pa_nil))) (pe_callB call_isi (by rfl) B.isi (by decide +kernel) (pa_cons (pv 1) (pa_cons (pe_bltn (v := .ty "int") (by rfl) B.int (by decide +kernel) rfl) pa_nil))) (nomark _))))) pss_never pss_nil)
      (pss_one (ps_ret (pe_and (pe_cmpR op_eq (pe_callB call_isi (by rfl) B.isi (by decide +kernel) (pa_cons (pv 0) (pa_cons (pe_bltn (v := .ty "str") (by rfl) B.str (by decide +kernel) rfl) pa_nil))) (pe_callB call_isi (by rfl) B.isi (by decide +kernel) (pa_cons (pv 1) (pa_cons (pe_bltn (v := .ty "str") (by rfl) B.str (by decide +kernel) rfl) pa_nil))) (nomark _)) (pe_one (pe_cmpR op_eq (pv 0) (pv 1) (nomark _)))))))), ?_⟩
      cases hx with
      | @lst pa xs ds h a =>
        cases hy with
        | @lst pb ys _ h2 a2 =>
          refine ⟨_, rfl, (by decide : 2 ≤ sizeLine), fun tp ntp => ?_⟩
          have s1 := same_upd (o := .tup [.ty "list", .ty "tuple"]) ntp
          refine ⟨(.ref pb), tp, _, _, _, _, rfl, upd_same, .cons (.ty _) (.cons (.ty _) .nil), tyL (s1.seq h2), kitAny2 (b1 := true) (b2 := false) (kit_ty (by decide +kernel)) (kit_ty (by decide +kernel)), _, rfl, iteT ?_⟩
          refine ⟨_, rfl, .ref pa, .ty "list", .type "list", .type "list", true, rfl, .ty _, tyL (s1.seq h), kit_ty (by decide +kernel), _, rfl, .ref pb, .ty "list", .type "list", .type "list", true, rfl, .ty _, tyL (s1.seq h2), kit_ty (by decide +kernel), rfl, _, rfl, iteNS rfl ⟨_, rfl, .ref pa, .ty "tuple", .type "list", .type "tuple", false, rfl, .ty _, tyL (s1.seq h), kit_ty (by decide +kernel), _, rfl, .ref pb, .ty "tuple", .type "list", .type "tuple", false, rfl, .ty _, tyL (s1.seq h2), kit_ty (by decide +kernel), rfl, _, rfl, iteNS rfl ?_⟩⟩
          have lx := dpLen a
          have ly := dpLen a2
          have hlz : ds.length ≤ 1000 := hl.1
          have eI : V.int ((xs.length : Nat) : Int) = V.int ((ys.length : Nat) : Int) := by rw [lx, ly]
          refine ⟨_, rfl, pa, xs, rfl, .inl (s1.seq h), _, rfl, pb, ys, rfl, .inl (s1.seq h2), rfl, _, rfl, itT eI ?_⟩
          refine ⟨_, rfl, _, rfl, pa, pb, xs, ys, rfl, .inl ⟨(s1.seq h), (s1.seq h2), fun D nD => ?_⟩⟩
          refine lc_zipG (S := SqL K) (xs := xs) (ys := ys) (by omega) (fun i H' => Same H H' ∧ H D = none ∧ H' D = some (.lst (List.replicate i (.bl true)))) ⟨s1.trans (same_upd nD), s1.free nD, upd_same⟩ (fun i H' ⟨sm, _, _⟩ => ⟨(sm.seq h), (sm.seq h2)⟩) ?_ ?_
          · rintro i x y t Hx hx hy ⟨sm, fD, hD⟩ nt
            obtain ⟨d, hd, dx⟩ := dpAt a hx
            obtain ⟨d', hd', dy⟩ := dpAt a2 hy
            rw [hd] at hd'
            cases hd'
            have st : Same Hx (upd Hx t (.tup [x, y])) := same_upd nt
            refine ⟨t, _, rfl, SqT.of upd_same, rfl, _, _, rfl, _, _, rfl, rfl, rfl, ?_⟩
            unfold tYes
            dsimp only
            rw [if_pos rfl]
            refine ⟨_, rfl, _, rfl, x, y, d, rfl, dpSame (sm.trans st) dx, dpSame (sm.trans st) dy, hl.2 d (List.mem_of_getElem? hd), fun H4 s4 => ?_⟩
            have lt : i < xs.length := (List.getElem?_eq_some_iff.mp hx).1
            refine ⟨_, s4 _ _ (st _ _ hD), by rw [List.length_replicate]; exact small1000 (by omega), fun b o e => ?_, fD, ?_⟩
            · rw [upd_ne (ne_of_none e fD)]
              exact s4 _ _ (st _ _ (sm _ _ e))
            · rw [upd_same, List.replicate_succ']
          · rintro Hx ⟨sm, fD, hD⟩
            refine ⟨D, List.replicate xs.length true, rfl, SqL.of (by rw [hD, List.map_replicate]), ?_⟩
            have ea : (List.replicate xs.length true).all id = true := List.all_eq_true.mpr fun b hb => by rw [(List.mem_replicate.mp hb).2]; rfl
            exact qB (Q := Q) ea (q _ sm)
      | @tup pa xs ds h a =>
        cases hy with
        | @tup pb ys _ h2 a2 =>
          refine ⟨_, rfl, (by decide : 2 ≤ sizeLine), fun tp ntp => ?_⟩
          have s1 := same_upd (o := .tup [.ty "list", .ty "tuple"]) ntp
          refine ⟨(.ref pb), tp, _, _, _, _, rfl, upd_same, .cons (.ty _) (.cons (.ty _) .nil), tyT (same_seqT s1 h2), kitAny2 (b1 := false) (b2 := true) (kit_ty (by decide +kernel)) (kit_ty (by decide +kernel)), _, rfl, iteT ?_⟩
          refine ⟨_, rfl, .ref pa, .ty "list", .type "tuple", .type "list", false, rfl, .ty _, tyT (same_seqT s1 h), kit_ty (by decide +kernel), _, rfl, .ref pb, .ty "list", .type "tuple", .type "list", false, rfl, .ty _, tyT (same_seqT s1 h2), kit_ty (by decide +kernel), rfl, _, rfl, iteNS rfl ⟨_, rfl, .ref pa, .ty "tuple", .type "tuple", .type "tuple", true, rfl, .ty _, tyT (same_seqT s1 h), kit_ty (by decide +kernel), _, rfl, .ref pb, .ty "tuple", .type "tuple", .type "tuple", true, rfl, .ty _, tyT (same_seqT s1 h2), kit_ty (by decide +kernel), rfl, _, rfl, iteNS rfl ?_⟩⟩
          have lx := dpLen a
          have ly := dpLen a2
          have hlz : ds.length ≤ 1000 := hl.1
          have eI : V.int ((xs.length : Nat) : Int) = V.int ((ys.length : Nat) : Int) := by rw [lx, ly]
          refine ⟨_, rfl, pa, xs, rfl, .inr (same_seqT s1 h), _, rfl, pb, ys, rfl, .inr (same_seqT s1 h2), rfl, _, rfl, itT eI ?_⟩
          refine ⟨_, rfl, _, rfl, pa, pb, xs, ys, rfl, .inr ⟨(same_seqT s1 h), (same_seqT s1 h2), fun D nD => ?_⟩⟩
          refine lc_zipG (S := SqT K) (xs := xs) (ys := ys) (by omega) (fun i H' => Same H H' ∧ H D = none ∧ H' D = some (.lst (List.replicate i (.bl true)))) ⟨s1.trans (same_upd nD), s1.free nD, upd_same⟩ (fun i H' ⟨sm, _, _⟩ => ⟨(same_seqT sm h), (same_seqT sm h2)⟩) ?_ ?_
          · rintro i x y t Hx hx hy ⟨sm, fD, hD⟩ nt
            obtain ⟨d, hd, dx⟩ := dpAt a hx
            obtain ⟨d', hd', dy⟩ := dpAt a2 hy
            rw [hd] at hd'
            cases hd'
            have st : Same Hx (upd Hx t (.tup [x, y])) := same_upd nt
            refine ⟨t, _, rfl, SqT.of upd_same, rfl, _, _, rfl, _, _, rfl, rfl, rfl, ?_⟩
            unfold tYes
            dsimp only
            rw [if_pos rfl]
            refine ⟨_, rfl, _, rfl, x, y, d, rfl, dpSame (sm.trans st) dx, dpSame (sm.trans st) dy, hl.2 d (List.mem_of_getElem? hd), fun H4 s4 => ?_⟩
            have lt : i < xs.length := (List.getElem?_eq_some_iff.mp hx).1
            refine ⟨_, s4 _ _ (st _ _ hD), by rw [List.length_replicate]; exact small1000 (by omega), fun b o e => ?_, fD, ?_⟩
            · rw [upd_ne (ne_of_none e fD)]
              exact s4 _ _ (st _ _ (sm _ _ e))
            · rw [upd_same, List.replicate_succ']
          · rintro Hx ⟨sm, fD, hD⟩
            refine ⟨D, List.replicate xs.length true, rfl, SqL.of (by rw [hD, List.map_replicate]), ?_⟩
            have ea : (List.replicate xs.length true).all id = true := List.all_eq_true.mpr fun b hb => by rw [(List.mem_replicate.mp hb).2]; rfl
            exact qB (Q := Q) ea (q _ sm)
      | non =>
        cases hy
        refine ⟨_, rfl, (by decide : 2 ≤ sizeLine), fun tp ntp => ?_⟩
        have s1 := same_upd (o := .tup [.ty "list", .ty "tuple"]) ntp
        refine ⟨.non, tp, _, _, _, _, rfl, upd_same, .cons (.ty _) (.cons (.ty _) .nil), .base .non, kitAny2 (b1 := false) (b2 := false) (kit_ty (by decide +kernel)) (kit_ty (by decide +kernel)), _, rfl, iteF ?_⟩
        refine ⟨_, rfl, _, rfl, itT rfl (iteT ?_)⟩
        refine ⟨_, rfl, _, rfl, itT rfl ⟨_, rfl, ?_⟩⟩
        exact qT (Q := Q) rfl (q _ s1)
      | bl b =>
        cases hy
        refine ⟨_, rfl, (by decide : 2 ≤ sizeLine), fun tp ntp => ?_⟩
        have s1 := same_upd (o := .tup [.ty "list", .ty "tuple"]) ntp
        refine ⟨(.bl b), tp, _, _, _, _, rfl, upd_same, .cons (.ty _) (.cons (.ty _) .nil), .base (.bl _), kitAny2 (b1 := false) (b2 := false) (kit_ty (by decide +kernel)) (kit_ty (by decide +kernel)), _, rfl, iteF ?_⟩
        refine ⟨_, rfl, _, rfl, itF (fun h => nomatch h) ⟨_, rfl, _, rfl, itF (fun h => nomatch h) ?_⟩⟩
        refine ⟨_, rfl, (.bl b), .ty "bool", .type "bool", .type "bool", true, rfl, .ty _, .base (.bl _), kit_ty (by decide +kernel), _, rfl, (.bl b), .ty "bool", .type "bool", .type "bool", true, rfl, .ty _, .base (.bl _), kit_ty (by decide +kernel), rfl, _, rfl, iteNS rfl ⟨_, rfl, (.bl b), .ty "int", .type "bool", .type "int", true, rfl, .ty _, .base (.bl _), kit_ty (by decide +kernel), _, rfl, (.bl b), .ty "int", .type "bool", .type "int", true, rfl, .ty _, .base (.bl _), kit_ty (by decide +kernel), rfl, _, rfl, iteNS rfl ?_⟩⟩
        refine ⟨_, rfl, (.bl b), .ty "str", .type "bool", .type "str", false, rfl, .ty _, .base (.bl _), kit_ty (by decide +kernel), _, rfl, (.bl b), .ty "str", .type "bool", .type "str", false, rfl, .ty _, .base (.bl _), kit_ty (by decide +kernel), rfl, _, rfl, itT rfl ⟨_, rfl, _, rfl, rfl, ?_⟩⟩
        exact qT (Q := Q) rfl (q _ s1)
      | int i =>
        cases hy
        refine ⟨_, rfl, (by decide : 2 ≤ sizeLine), fun tp ntp => ?_⟩
        have s1 := same_upd (o := .tup [.ty "list", .ty "tuple"]) ntp
        refine ⟨(.int i), tp, _, _, _, _, rfl, upd_same, .cons (.ty _) (.cons (.ty _) .nil), .base (.int _), kitAny2 (b1 := false) (b2 := false) (kit_ty (by decide +kernel)) (kit_ty (by decide +kernel)), _, rfl, iteF ?_⟩
        refine ⟨_, rfl, _, rfl, itF (fun h => nomatch h) ⟨_, rfl, _, rfl, itF (fun h => nomatch h) ?_⟩⟩
        refine ⟨_, rfl, (.int i), .ty "bool", .type "int", .type "bool", false, rfl, .ty _, .base (.int _), kit_ty (by decide +kernel), _, rfl, (.int i), .ty "bool", .type "int", .type "bool", false, rfl, .ty _, .base (.int _), kit_ty (by decide +kernel), rfl, _, rfl, iteNS rfl ⟨_, rfl, (.int i), .ty "int", .type "int", .type "int", true, rfl, .ty _, .base (.int _), kit_ty (by decide +kernel), _, rfl, (.int i), .ty "int", .type "int", .type "int", true, rfl, .ty _, .base (.int _), kit_ty (by decide +kernel), rfl, _, rfl, iteNS rfl ?_⟩⟩
        refine ⟨_, rfl, (.int i), .ty "str", .type "int", .type "str", false, rfl, .ty _, .base (.int _), kit_ty (by decide +kernel), _, rfl, (.int i), .ty "str", .type "int", .type "str", false, rfl, .ty _, .base (.int _), kit_ty (by decide +kernel), rfl, _, rfl, itT rfl ⟨_, rfl, _, rfl, rfl, ?_⟩⟩
        exact qT (Q := Q) rfl (q _ s1)
      | str z =>
        cases hy
        refine ⟨_, rfl, (by decide : 2 ≤ sizeLine), fun tp ntp => ?_⟩
        have s1 := same_upd (o := .tup [.ty "list", .ty "tuple"]) ntp
        refine ⟨(.str z), tp, _, _, _, _, rfl, upd_same, .cons (.ty _) (.cons (.ty _) .nil), .base (.str _), kitAny2 (b1 := false) (b2 := false) (kit_ty (by decide +kernel)) (kit_ty (by decide +kernel)), _, rfl, iteF ?_⟩
        refine ⟨_, rfl, _, rfl, itF (fun h => nomatch h) ⟨_, rfl, _, rfl, itF (fun h => nomatch h) ?_⟩⟩
        refine ⟨_, rfl, (.str z), .ty "bool", .type "str", .type "bool", false, rfl, .ty _, .base (.str _), kit_ty (by decide +kernel), _, rfl, (.str z), .ty "bool", .type "str", .type "bool", false, rfl, .ty _, .base (.str _), kit_ty (by decide +kernel), rfl, _, rfl, iteNS rfl ⟨_, rfl, (.str z), .ty "int", .type "str", .type "int", false, rfl, .ty _, .base (.str _), kit_ty (by decide +kernel), _, rfl, (.str z), .ty "int", .type "str", .type "int", false, rfl, .ty _, .base (.str _), kit_ty (by decide +kernel), rfl, _, rfl, iteNS rfl ?_⟩⟩
        refine ⟨_, rfl, (.str z), .ty "str", .type "str", .type "str", true, rfl, .ty _, .base (.str _), kit_ty (by decide +kernel), _, rfl, (.str z), .ty "str", .type "str", .type "str", true, rfl, .ty _, .base (.str _), kit_ty (by decide +kernel), rfl, _, rfl, itT rfl ⟨_, rfl, _, rfl, rfl, ?_⟩⟩
        exact qT (Q := Q) rfl (q _ s1)
end
end Onp
set_option autoImplicit false
namespace Onp
open PySem PySem.Spec PyProof.Rows L2
/-! ### deeds and marks -/
inductive Dd where
  | keep | cent | fill | coin | brim
  deriving DecidableEq
def Dd.nm : Dd → Str
  | .keep => "keep" | .cent => "cent" | .fill => "fill" | .coin => "coin" | .brim => "brim"
def Dd.rk : Dd → Nat
  | .keep => 0 | .cent => 1 | .fill => 2 | .coin => 3 | .brim => 4
def deedsL : List Str := ["keep", "cent", "fill", "coin", "brim"]
def marksL : List Str := ["brim", "fill", "keep", "cent", "coin", "dear", "shut"]
def makingL : List Str := ["keep", "cent", "fill", "coin", "brim", "dear", "shut"]
def mkn (i : Nat) : Str := makingL.getD i "shut"
theorem nm_mkn (d : Dd) : d.nm = mkn d.rk := by cases d <;> rfl
theorem rk_lt (d : Dd) : d.rk < 5 := by cases d <;> decide
theorem nm_in (d : Dd) : d.nm ∈ deedsL := by cases d <;> decide +kernel
theorem in_nm : ∀ z ∈ deedsL, ∃ d : Dd, z = d.nm := fun z h => by
  rcases List.mem_cons.mp h with rfl | h
  · exact ⟨.keep, rfl⟩
  rcases List.mem_cons.mp h with rfl | h
  · exact ⟨.cent, rfl⟩
  rcases List.mem_cons.mp h with rfl | h
  · exact ⟨.fill, rfl⟩
  rcases List.mem_cons.mp h with rfl | h
  · exact ⟨.coin, rfl⟩
  rcases List.mem_cons.mp h with rfl | h
  · exact ⟨.brim, rfl⟩
  cases h
def dv (d : Dd) : V := .str d.nm
def stp (p : Int × Int) : Dd → Int × Int
  | .keep => p
  | .cent => (p.1 + 1, p.2)
  | .fill => (0, p.2)
  | .coin => (0, p.2 + 1)
  | .brim => (0, 0)
theorem flatStrs (ys : List Str) : (ys.map V.str).all flatV = true := by
  rw [List.all_map]
  exact List.all_eq_true.mpr fun _ _ => rfl
theorem inV_strs (z : Str) : ∀ ys : List Str, inV (.str z) (ys.map V.str) = decide (z ∈ ys)
  | [] => by rfl
  | y :: r => by
    have ih := inV_strs z r
    unfold inV at ih ⊢
    rw [List.map_cons, List.any_cons, ih]
    show ((y == z) || decide (z ∈ r)) = decide (z ∈ y :: r)
    by_cases e : z = y
    · subst e
      rw [beq_self_eq_true, decide_eq_true List.mem_cons_self]
      rfl
    · have e1 : (y == z) = false := beq_eq_false_iff_ne.mpr (Ne.symm e)
      rw [e1, Bool.false_or]
      by_cases h : z ∈ r
      · rw [decide_eq_true h, decide_eq_true (List.mem_cons_of_mem _ h)]
      · rw [decide_eq_false h, decide_eq_false (fun q => (List.mem_cons.mp q).elim e h)]
end Onp
set_option maxHeartbeats 8000000
set_option autoImplicit false
namespace Onp
open PySem PySem.Spec PyProof.Rows L2 HotX L2H LamX
abbrev sInitBM : Stmt := inClass (topS 3) 0
section
variable {P : Program} {w : World} {K : PySem.W.Frag} {mg : Str → Option Value} {base : Heap}
theorem passN {X : Cx} : Passes (L2N.CX X.prog X.w) X E0 := fun _ _ _ _ _ _ _ h => by
  obtain ⟨_, _, _, _, _, _, _, _, _, _, _, _, z⟩ := h
  exact z.elim
/-! ### BadMark -/
structure BMk (K : PySem.W.Frag) (mg : Str → Option Value) (C fI : Addr) (fdI : FuncData) : Prop where
  T : OexC K C
  iC : PySem.W.findIn K (.ref C) "__init__" = some (some (.ref fI))
  tI : PySem.W.typeIn K (.ref fI) = some (.type "function")
  F : Fun K "__init__" "BadMark.__init__" sInitBM fI fdI
  b : Binds K fdI ["self"] []
  g : mg "BadMark" = some (.ref C)
  nw : PySem.W.findIn K (.ref C) "word" = some none
theorem scI : FnScope ["self"] ["self"] (defScope sInitBM) := ⟨rfl, rfl, rfl, by decide +kernel, rfl, by decide +kernel, by decide +kernel⟩
theorem ok_initBM {C fI : Addr} {fdI : FuncData} {k : Nat} (B : BMk K mg C fI fdI) : FnOk P w K mg base CX0 (k + 1) fI fdI ["self"] (spWord C "badmark") := by
  refine B.F.ok scI (fun vs H Q E h => ?_) (fun cdv A outer s H vs Q E hr h => ?_)
  · obtain ⟨a, rfl, _⟩ := h
    rfl
  · obtain ⟨a, rfl, ha, q⟩ := h
    refine ⟨_, pss_one (ps_ost (pv 0) pe_str), ?_⟩
    exact ⟨_, rfl, a, C, rfl, B.T, B.nw, .inl ⟨ha, fun dx nd ne => q dx nd ne⟩⟩
/-- the refusal BadMark -/
def badMark (C : Addr) (H : Hp) (E : XK) : Prop := ∀ d, H d = none → E (.ref C) (some d) (upd H d (.xd [("word", .str "badmark")]))
end
abbrev sInitBadTable : Stmt := inClass (topS 10) 0
structure MkBadTable (K : PySem.W.Frag) (mg : Str → Option Value) (C fI : Addr) (fdI : FuncData) : Prop where
  T : OexC K C
  iC : PySem.W.findIn K (.ref C) "__init__" = some (some (.ref fI))
  tI : PySem.W.typeIn K (.ref fI) = some (.type "function")
  F : Fun K "__init__" "BadTable.__init__" sInitBadTable fI fdI
  b : Binds K fdI ["self"] []
  g : mg "BadTable" = some (.ref C)
  nw : PySem.W.findIn K (.ref C) "word" = some none
theorem scIBadTable : FnScope ["self"] ["self"] (defScope sInitBadTable) := ⟨rfl, rfl, rfl, by decide +kernel, rfl, by decide +kernel, by decide +kernel⟩
theorem ok_initBadTable {P : Program} {w : World} {K : PySem.W.Frag} {mg : Str → Option Value} {base : Heap} {C fI : Addr} {fdI : FuncData} {k : Nat} (B : MkBadTable K mg C fI fdI) : FnOk P w K mg base CX0 (k + 1) fI fdI ["self"] (spWord C "badtable") := by
  refine B.F.ok scIBadTable (fun vs H Q E h => ?_) (fun cdv A outer s H vs Q E hr h => ?_)
  · obtain ⟨a, rfl, _⟩ := h
    rfl
  · obtain ⟨a, rfl, ha, q⟩ := h
    refine ⟨_, pss_one (ps_ost (pv 0) pe_str), ?_⟩
    exact ⟨_, rfl, a, C, rfl, B.T, B.nw, .inl ⟨ha, fun dx nd ne => q dx nd ne⟩⟩
end Onp
set_option maxHeartbeats 8000000
set_option autoImplicit false
namespace Onp
open PySem PySem.Spec PyProof.Rows L2 HotX L2H LamX
abbrev sNeedM : Stmt := topS 29
abbrev sBehind : Stmt := topS 30
abbrev sBest : Stmt := topS 31
abbrev sAgain : Stmt := topS 32
abbrev sAllM : Stmt := topS 46
abbrev sTwoM : Stmt := topS 47
abbrev sLBest : Stmt := topS 48
abbrev sOften : Stmt := topS 49
abbrev sLaw : Stmt := topS 53
theorem mkn_at : ∀ i, i < 7 → makingL[i]? = some (mkn i) ∧ (∀ m, m < i → makingL[m]? ≠ some (mkn i)) ∧ inV (.str (mkn i)) (marksL.map V.str) = true
  | 0, _ => by decide +kernel
  | 1, _ => by decide +kernel
  | 2, _ => by decide +kernel
  | 3, _ => by decide +kernel
  | 4, _ => by decide +kernel
  | 5, _ => by decide +kernel
  | 6, _ => by decide +kernel
  | n + 7, h => by omega
theorem take_more {α : Type} {l : List α} {i : Nat} {x : α} (h : l[i]? = some x) : l.take (i + 1) = l.take i ++ [x] := by
  rw [List.take_add_one, h]; rfl
theorem at_nm {xs : List Str} {i : Nat} {x : V} (h : (xs.map V.str)[i]? = some x) : ∃ z, xs[i]? = some z ∧ x = .str z := by
  rw [List.getElem?_map] at h
  cases e : xs[i]? with
  | none => rw [e] at h; cases h
  | some z => rw [e] at h; exact ⟨z, rfl, (Option.some.inj h).symm⟩
def SqA (K : PySem.W.Frag) (H : Hp) (a : Addr) (xs : List V) : Prop := SqL K H a xs ∨ SqT K H a xs
theorem SqA.same {K : PySem.W.Frag} {H H' : Hp} {a : Addr} {xs : List V} (h : SqA K H a xs) (e : Same H H') : SqA K H' a xs := h.elim (fun h => .inl (e.seq h)) (fun h => .inr (same_seqT e h))
structure TupM (K : PySem.W.Frag) (mg : Str → Option Value) (tM tK : Addr) : Prop where
  gM : mg "MARKS" = some (.ref tM)
  gK : mg "MAKING" = some (.ref tK)
  hM : ∀ H, SqT K H tM (marksL.map V.str)
  hK : ∀ H, SqT K H tK (makingL.map V.str)
  kK : ∃ o, K.lookup tK = some o ∧ o.cls = .type "tuple" ∧ o.dict = none
/-! ### the mirror -/
theorem mark_in : ∀ i : Fin 7, mkn i ∈ marksL := by decide +kernel
theorem in_mark : ∀ z ∈ marksL, ∃ i : Fin 7, z = mkn i := by decide +kernel
theorem in_mkn {z : Str} (h : z ∈ marksL) : ∃ i, i < 7 ∧ z = mkn i := by
  obtain ⟨i, e⟩ := in_mark z h
  exact ⟨i, i.isLt, e⟩
def agn (i : Nat) : Nat := if i = 1 ∨ i = 3 then 5 else i
theorem agn_in : ∀ i, i < 7 → inV (.str (mkn i)) [.str "cent", .str "coin"] = decide (i = 1 ∨ i = 3)
  | 0, _ => by decide +kernel
  | 1, _ => by decide +kernel
  | 2, _ => by decide +kernel
  | 3, _ => by decide +kernel
  | 4, _ => by decide +kernel
  | 5, _ => by decide +kernel
  | 6, _ => by decide +kernel
  | n + 7, h => by omega
/-- marks by their places in the order of the best -/
def mbn (i : Nat) : Str := marksL.getD i "shut"
def bst (is : List Nat) : Nat := is.foldl min 6
theorem mbn_at : ∀ i : Fin 7, marksL[i.val]? = some (mbn i) := by decide +kernel
theorem mbn_inj : ∀ i j : Fin 7, mbn i = mbn j → i = j := by decide +kernel
theorem mbn_mem : ∀ i : Fin 7, mbn i ∈ marksL := by decide +kernel
theorem mem_mbn : ∀ z ∈ marksL, ∃ i : Fin 7, z = mbn i := by decide +kernel
theorem in_mbn {z : Str} (h : z ∈ marksL) : ∃ i, i < 7 ∧ z = mbn i := by
  obtain ⟨i, e⟩ := mem_mbn z h
  exact ⟨i, i.isLt, e⟩
theorem mbn_has {is : List Nat} (hi : ∀ i ∈ is, i < 7) {j : Nat} (hj : j < 7) : mbn j ∈ is.map mbn ↔ j ∈ is := by
  constructor
  · intro h
    obtain ⟨i, h1, h2⟩ := List.mem_map.mp h
    have e := mbn_inj ⟨i, hi i h1⟩ ⟨j, hj⟩ h2
    have e2 : i = j := congrArg Fin.val e
    exact e2 ▸ h1
  · exact fun h => List.mem_map_of_mem h
theorem foldl_min_le : ∀ (is : List Nat) (m : Nat), is.foldl min m ≤ m ∧ ∀ i ∈ is, is.foldl min m ≤ i
  | [], m => ⟨Nat.le_refl _, fun _ h => nomatch h⟩
  | x :: r, m => by
    have h := foldl_min_le r (min m x)
    refine ⟨Nat.le_trans h.1 (Nat.min_le_left _ _), fun i hi => ?_⟩
    rcases List.mem_cons.mp hi with rfl | hi
    · exact Nat.le_trans h.1 (Nat.min_le_right _ _)
    · exact h.2 i hi
theorem foldl_min_mem : ∀ (is : List Nat) (m : Nat), is.foldl min m = m ∨ is.foldl min m ∈ is
  | [], m => .inl rfl
  | x :: r, m => by
    show r.foldl min (min m x) = m ∨ r.foldl min (min m x) ∈ x :: r
    rcases foldl_min_mem r (min m x) with h | h
    · rw [h]
      rcases Nat.le_total m x with q | q
      · exact .inl (Nat.min_eq_left q)
      · right
        rw [Nat.min_eq_right q]
        exact List.mem_cons_self
    · exact .inr (List.mem_cons_of_mem _ h)
theorem bst_first {is : List Nat} {j : Nat} (hj : j < 7) (hm : j ∈ is) (hn : ∀ i, i < j → i ∉ is) : bst is = j := by
  have h1 := foldl_min_le is 6
  have h2 := foldl_min_mem is 6
  have h3 := h1.2 j hm
  unfold bst
  rcases h2 with h2 | h2
  · omega
  · by_cases q : is.foldl min 6 < j
    · exact absurd h2 (hn _ q)
    · omega
theorem bst_none {is : List Nat} (hn : ∀ i, i < 7 → i ∉ is) : bst is = 6 := by
  have h1 := foldl_min_le is 6
  rcases foldl_min_mem is 6 with h2 | h2
  · exact h2
  · exact absurd h2 (hn _ (by omega))
theorem bst_le (is : List Nat) : bst is < 7 := by
  have := (foldl_min_le is 6).1
  unfold bst
  omega
section
variable {P : Program} {w : World} {K : PySem.W.Frag} {mg : Str → Option Value} {base : Heap} {tM tK : Addr}
/-! ### need_mark, behind, again -/
def spNeedM (C : Addr) : Sp := fun vs H Q E => ∃ z : Str, vs = [.str z] ∧ (z ∈ marksL → Q .non H) ∧ (z ∉ marksL → badMark C H E)
theorem scNeedM : FnScope ["mark"] ["mark"] (defScope sNeedM) := ⟨rfl, rfl, rfl, by decide +kernel, rfl, by decide +kernel, by decide +kernel⟩
theorem ok_needM {f C fI : Addr} {fd fdI : FuncData} {k : Nat} (F : Fun K "need_mark" "need_mark" sNeedM f fd) (B : BMk K mg C fI fdI) (T : TupM K mg tM tK) : FnOk P w K mg base (L2N.CX P w) (k + 3) f fd ["mark"] (spNeedM C) := by
  refine okN F scNeedM (fun vs H Q E h => ?_) (fun cdv A outer s H vs Q E hr h => ?_)
  · obtain ⟨z, rfl, _⟩ := h
    rfl
  · obtain ⟨z, rfl, q, e⟩ := h
    refine ⟨_, pss_one (ps_if (pt_cmpR op_notIn_seq (pv 0) (pe_glob (v := .ref tM) rfl T.gM rfl) (by rfl)) (pss_one (L2N.ps_raise rfl (L2N.takes_of rfl rfl rfl rfl) (pmk_word (k := k + 1) B.T B.iC B.tI (ok_initBM B) hr B.b (by rfl) B.g))) pss_nil), ?_⟩
    refine ⟨_, rfl, tM, _, rfl, .inr (T.hM _), rfl, flatStrs _, _, rfl, ?_⟩
    show if (!inV (.str z) (marksL.map V.str)) = true then _ else _
    rw [inV_strs]
    by_cases hz : z ∈ marksL
    · exact iteNS hz (q hz)
    · rw [decide_eq_false hz]
      exact iteT (fun d hd => e hz d hd)
def spBehind (C : Addr) : Sp := fun vs H Q E => ∃ z1 z2 : Str, vs = [.str z1, .str z2] ∧ (∀ i j : Nat, i < 7 → j < 7 → z1 = mkn i → z2 = mkn j → Q (.str (mkn (max i j))) H) ∧ ((z1 ∉ marksL ∨ z2 ∉ marksL) → badMark C H E)
theorem scBehind : FnScope ["one", "other"] ["one", "other"] (defScope sBehind) := ⟨rfl, rfl, rfl, by decide +kernel, rfl, by decide +kernel, by decide +kernel⟩
theorem ok_behind {f fN C fI : Addr} {fd fdN fdI : FuncData} {k : Nat} (F : Fun K "behind" "behind" sBehind f fd) (FN : Fun K "need_mark" "need_mark" sNeedM fN fdN) (bN : Binds K fdN ["mark"] []) (gN : mg "need_mark" = some (.ref fN)) (B : BMk K mg C fI fdI) (T : TupM K mg tM tK) (mm : mg "max" = none) :
    FnOk P w K mg base (L2N.CX P w) (k + 4) f fd ["one", "other"] (spBehind C) := by
  have GN : FnOk P w K mg base (L2N.CX P w) (k + 3) fN fdN ["mark"] (spNeedM C) := ok_needM FN B T
  refine okN F scBehind (fun vs H Q E h => ?_) (fun cdv A outer s H vs Q E hr h => ?_)
  · obtain ⟨i, j, rfl, _⟩ := h
    rfl
  · obtain ⟨z1, z2, rfl, q, e⟩ := h
    refine ⟨_, pss_cons (ps_expr (pe_call (E := E) GN hr (by rfl) gN FN.kp bN .nil (L2N.passes_call (L2N.takes_of (E := E) rfl rfl rfl rfl) fun _ _ _ _ z => z) (pa_cons (pv 0) pa_nil)))
      (pss_cons (ps_expr (pe_call (E := E) GN hr (by rfl) gN FN.kp bN .nil (L2N.passes_call (L2N.takes_of (E := E) rfl rfl rfl rfl) fun _ _ _ _ z => z) (pa_cons (pv 1) pa_nil)))
      (pss_one (ps_ret (pe_ix ix_tup (pe_glob (v := .ref tK) rfl T.gK rfl) (pe_callB (call_max2 rfl) (by rfl) mm (by decide +kernel)
        (pa_cons (pe_bm PySem.F.plainAttrs_tuple PySem.F.slot_tuple_index PySem.F.type_tuple_index mt_tup_index (pe_glob (v := .ref tK) rfl T.gK rfl) (pa_cons (pv 0) pa_nil))
        (pa_cons (pe_bm PySem.F.plainAttrs_tuple PySem.F.slot_tuple_index PySem.F.type_tuple_index mt_tup_index (pe_glob (v := .ref tK) rfl T.gK rfl) (pa_cons (pv 1) pa_nil)) pa_nil))) (fun _ _ => rfl))))), ?_⟩
    refine ⟨_, rfl, z1, rfl, fun h1 => ?_, fun n => e (.inl n)⟩
    refine ⟨_, rfl, z2, rfl, fun h2 => ?_, fun n => e (.inr n)⟩
    obtain ⟨i, hi, rfl⟩ := in_mkn h1
    obtain ⟨j, hj, rfl⟩ := in_mkn h2
    obtain ⟨o, ho⟩ := T.kK
    refine ⟨.inr (.inl ⟨rfl, o, ho⟩), _, rfl, tK, makingL, mkn i, i, rfl, rfl, T.hK _, (mkn_at i hi).1, (mkn_at i hi).2.1, ?_⟩
    refine ⟨.inr (.inl ⟨rfl, o, ho⟩), _, rfl, tK, makingL, mkn j, j, rfl, rfl, T.hK _, (mkn_at j hj).1, (mkn_at j hj).2.1, ?_⟩
    have em : (if (j : Int) > (i : Int) then (j : Int) else (i : Int)) = ((max i j : Nat) : Int) := by split <;> omega
    refine ⟨(i : Int), (j : Int), rfl, ?_⟩
    rw [em]
    refine ⟨tK, makingL.map V.str, _, .str (mkn (max i j)), rfl, rfl, T.hK _, atI_nat ?_, q i j hi hj rfl rfl⟩
    rw [List.getElem?_map, (mkn_at (max i j) (by omega)).1]
    rfl
def spAgain (C : Addr) : Sp := fun vs H Q E => ∃ z : Str, vs = [.str z] ∧ (∀ i H', i < 7 → z = mkn i → Same H H' → Q (.str (mkn (agn i))) H') ∧ (z ∉ marksL → badMark C H E)
theorem scAgain : FnScope ["mark"] ["mark"] (defScope sAgain) := ⟨rfl, rfl, rfl, by decide +kernel, rfl, by decide +kernel, by decide +kernel⟩
theorem ok_again {f fN C fI : Addr} {fd fdN fdI : FuncData} {k : Nat} (F : Fun K "again" "again" sAgain f fd) (FN : Fun K "need_mark" "need_mark" sNeedM fN fdN) (bN : Binds K fdN ["mark"] []) (gN : mg "need_mark" = some (.ref fN)) (B : BMk K mg C fI fdI) (T : TupM K mg tM tK) :
    FnOk P w K mg base (L2N.CX P w) (k + 4) f fd ["mark"] (spAgain C) := by
  have GN : FnOk P w K mg base (L2N.CX P w) (k + 3) fN fdN ["mark"] (spNeedM C) := ok_needM FN B T
  refine okN F scAgain (fun vs H Q E h => ?_) (fun cdv A outer s H vs Q E hr h => ?_)
  · obtain ⟨i, rfl, _⟩ := h
    rfl
  · obtain ⟨z, rfl, q, e⟩ := h
    refine ⟨_, pss_cons (ps_expr (pe_call (E := E) GN hr (by rfl) gN FN.kp bN .nil (L2N.passes_call (L2N.takes_of (E := E) rfl rfl rfl rfl) fun _ _ _ _ z => z) (pa_cons (pv 0) pa_nil)))
      (pss_one (ps_ret (pe_ifExp (pt_cmpR op_in_seq (pv 0) (pe_tup (pa_cons pe_str (pa_cons pe_str pa_nil))) (by rfl)) pe_str (pv 0)))), ?_⟩
    refine ⟨_, rfl, z, rfl, fun hz => ?_, e⟩
    obtain ⟨i, hi, rfl⟩ := in_mkn hz
    refine ⟨_, rfl, (by decide : 2 ≤ sizeLine), fun p np => ?_⟩
    refine ⟨p, [.str "cent", .str "coin"], rfl, .inr (SqT.of upd_same), rfl, rfl, _, rfl, ?_⟩
    show if inV (.str (mkn i)) [.str "cent", .str "coin"] = true then _ else _
    rw [agn_in i hi]
    have s1 : Same H (upd H p (.tup [.str "cent", .str "coin"])) := same_upd np
    by_cases h : i = 1 ∨ i = 3
    · refine itT h ?_
      have e : mkn (agn i) = "dear" := by unfold agn; rw [if_pos h]; rfl
      have := q i _ hi rfl s1
      rw [e] at this
      exact this
    · refine itF h ?_
      have e : agn i = i := by unfold agn; rw [if_neg h]
      have := q i _ hi rfl s1
      rw [e] at this
      exact ⟨_, rfl, this⟩
/-! ### best -/
def spBest (K : PySem.W.Frag) (C : Addr) : Sp := fun vs H Q E => ∃ (a : Addr) (zs : List Str), vs = [.ref a] ∧ SqA K H a (zs.map V.str) ∧ (∀ is : List Nat, (∀ i ∈ is, i < 7) → zs = is.map mbn → Q (.str (mbn (bst is))) H) ∧ (∀ z ∈ zs, z ∉ marksL → badMark C H E)
theorem scBest : FnScope ["marks", "mark"] ["marks"] (defScope sBest) := ⟨rfl, rfl, rfl, by decide +kernel, rfl, by decide +kernel, by decide +kernel⟩
theorem idx_of : ∀ zs : List Str, (∀ z ∈ zs, z ∈ marksL) → ∃ is : List Nat, (∀ i ∈ is, i < 7) ∧ zs = is.map mbn
  | [], _ => ⟨[], fun _ h => (nomatch h), rfl⟩
  | z :: r, h => by
    obtain ⟨i, hi, e⟩ := in_mbn (h z List.mem_cons_self)
    obtain ⟨is, h1, h2⟩ := idx_of r fun y hy => h y (List.mem_cons_of_mem _ hy)
    refine ⟨i :: is, fun j hj => ?_, ?_⟩
    · rcases List.mem_cons.mp hj with rfl | hj
      · exact hi
      · exact h1 j hj
    · rw [e, h2]
      rfl
theorem ok_best {f fN C fI : Addr} {fd fdN fdI : FuncData} {k : Nat} (F : Fun K "best" "best" sBest f fd) (FN : Fun K "need_mark" "need_mark" sNeedM fN fdN) (bN : Binds K fdN ["mark"] []) (gN : mg "need_mark" = some (.ref fN)) (B : BMk K mg C fI fdI) (T : TupM K mg tM tK) :
    FnOk P w K mg base (L2N.CX P w) (k + 4) f fd ["marks"] (spBest K C) := by
  have GN : FnOk P w K mg base (L2N.CX P w) (k + 3) fN fdN ["mark"] (spNeedM C) := ok_needM FN B T
  refine okN F scBest (fun vs H Q E h => ?_) (fun cdv A outer s H vs Q E hr h => ?_)
  · obtain ⟨i, zs, rfl, _⟩ := h
    rfl
  · obtain ⟨a, zs, rfl, ha, q, e⟩ := h
    rcases ha with ha | ha
    · refine ⟨_, pss_cons (ps_for (passes_of rfl) rfl (pi_list (pv 0)) (pg_name (i := 1) scBest.nd rfl (.inl rfl))
          (pss_one (ps_expr (pe_call (E := E) GN hr (by rfl) gN FN.kp bN .nil (L2N.passes_call (L2N.takes_of (E := E) rfl rfl rfl rfl) fun _ _ _ _ z => z) (pa_cons (pv 1) pa_nil)))))
        (pss_cons (ps_for (passes_of rfl) rfl (pi_tup (pe_glob (v := .ref tM) rfl T.gM rfl)) (pg_name (i := 1) scBest.nd rfl (.inl rfl))
          (pss_one (ps_if (pt_cmpR op_in_seq (pv 1) (pv 0) (by rfl)) (pss_one (ps_ret (pv 1))) pss_nil)))
        (pss_one (ps_ret pe_str))), ?_⟩
      refine ⟨_, rfl, a, rfl, ⟨_, ha⟩, for_list (K := K) (a := a) (xs := zs.map V.str)
        (fun i σ H' => ∃ y : Option V, σ = [some (.ref a), y] ∧ H' = H ∧ ∀ z ∈ zs.take i, z ∈ marksL)
        ⟨none, rfl, rfl, fun z h => by cases h⟩ (fun i σ H' _ ⟨_, _, e, _⟩ => by rw [e]; exact ha) ?_ ?_⟩
      · rintro i x σ H' hi ⟨y, rfl, rfl, hm⟩
        obtain ⟨z, hz, rfl⟩ := at_nm hi
        refine ⟨_, rfl, z, rfl, fun hin => ⟨_, rfl, rfl, fun z' h' => ?_⟩, fun n => e z (List.mem_of_getElem? hz) n⟩
        rw [take_more hz] at h'
        rcases List.mem_append.mp h' with h' | h'
        · exact hm z' h'
        · rw [List.mem_singleton.mp h']
          exact hin
      · rintro σ H' ⟨y, rfl, rfl, hm⟩
        rw [List.length_map, List.take_length] at hm
        obtain ⟨is, hi, rfl⟩ := idx_of zs hm
        refine ⟨tM, rfl, ⟨_, T.hM _⟩, for_tup (K := K) (a := tM) (xs := marksL.map V.str)
          (fun j σ H2 => ∃ y : Option V, σ = [some (.ref a), y] ∧ H2 = H' ∧ ∀ i, i < j → i ∉ is) ⟨y, rfl, rfl, fun _ h => by omega⟩ (fun i σ H' _ _ => T.hM _) ?_ ?_⟩
        · rintro j x σ H2 hj ⟨y, rfl, rfl, hn⟩
          obtain ⟨z, hz, rfl⟩ := at_nm hj
          have hj7 : j < 7 := (List.getElem?_eq_some_iff.mp hz).1
          obtain rfl : z = mbn j := by
            have q := mbn_at ⟨j, hj7⟩
            rw [show marksL[j]? = some z from hz] at q
            exact Option.some.inj q
          refine ⟨_, rfl, _, rfl, a, _, rfl, .inl ha, rfl, flatStrs _, _, rfl, ?_⟩
          show if inV (.str (mbn j)) ((is.map mbn).map V.str) = true then _ else _
          rw [inV_strs]
          by_cases hin : j ∈ is
          · refine itT ((mbn_has hi hj7).mpr hin) ⟨_, rfl, ?_⟩
            have q1 := q is hi rfl
            rw [bst_first hj7 hin hn] at q1
            exact q1
          · refine itF (fun h => hin ((mbn_has hi hj7).mp h)) ⟨_, rfl, rfl, fun i h => ?_⟩
            by_cases hij : i = j
            · rw [hij]
              exact hin
            · exact hn i (by omega)
        · rintro σ H2 ⟨y, rfl, rfl, hn⟩
          have q1 := q is hi rfl
          rw [bst_none (fun i h => hn i h)] at q1
          exact q1
    · refine ⟨_, pss_cons (ps_for (passes_of rfl) rfl (pi_tup (pv 0)) (pg_name (i := 1) scBest.nd rfl (.inl rfl))
          (pss_one (ps_expr (pe_call (E := E) GN hr (by rfl) gN FN.kp bN .nil (L2N.passes_call (L2N.takes_of (E := E) rfl rfl rfl rfl) fun _ _ _ _ z => z) (pa_cons (pv 1) pa_nil)))))
        (pss_cons (ps_for (passes_of rfl) rfl (pi_tup (pe_glob (v := .ref tM) rfl T.gM rfl)) (pg_name (i := 1) scBest.nd rfl (.inl rfl))
          (pss_one (ps_if (pt_cmpR op_in_seq (pv 1) (pv 0) (by rfl)) (pss_one (ps_ret (pv 1))) pss_nil)))
        (pss_one (ps_ret pe_str))), ?_⟩
      refine ⟨_, rfl, a, rfl, ⟨_, ha⟩, for_tup (K := K) (a := a) (xs := zs.map V.str)
        (fun i σ H' => ∃ y : Option V, σ = [some (.ref a), y] ∧ H' = H ∧ ∀ z ∈ zs.take i, z ∈ marksL)
        ⟨none, rfl, rfl, fun z h => by cases h⟩ (fun i σ H' _ ⟨_, _, e, _⟩ => by rw [e]; exact ha) ?_ ?_⟩
      · rintro i x σ H' hi ⟨y, rfl, rfl, hm⟩
        obtain ⟨z, hz, rfl⟩ := at_nm hi
        refine ⟨_, rfl, z, rfl, fun hin => ⟨_, rfl, rfl, fun z' h' => ?_⟩, fun n => e z (List.mem_of_getElem? hz) n⟩
        rw [take_more hz] at h'
        rcases List.mem_append.mp h' with h' | h'
        · exact hm z' h'
        · rw [List.mem_singleton.mp h']
          exact hin
      · rintro σ H' ⟨y, rfl, rfl, hm⟩
        rw [List.length_map, List.take_length] at hm
        obtain ⟨is, hi, rfl⟩ := idx_of zs hm
        refine ⟨tM, rfl, ⟨_, T.hM _⟩, for_tup (K := K) (a := tM) (xs := marksL.map V.str)
          (fun j σ H2 => ∃ y : Option V, σ = [some (.ref a), y] ∧ H2 = H' ∧ ∀ i, i < j → i ∉ is) ⟨y, rfl, rfl, fun _ h => by omega⟩ (fun i σ H' _ _ => T.hM _) ?_ ?_⟩
        · rintro j x σ H2 hj ⟨y, rfl, rfl, hn⟩
          obtain ⟨z, hz, rfl⟩ := at_nm hj
          have hj7 : j < 7 := (List.getElem?_eq_some_iff.mp hz).1
          obtain rfl : z = mbn j := by
            have q := mbn_at ⟨j, hj7⟩
            rw [show marksL[j]? = some z from hz] at q
            exact Option.some.inj q
          refine ⟨_, rfl, _, rfl, a, _, rfl, .inr ha, rfl, flatStrs _, _, rfl, ?_⟩
          show if inV (.str (mbn j)) ((is.map mbn).map V.str) = true then _ else _
          rw [inV_strs]
          by_cases hin : j ∈ is
          · refine itT ((mbn_has hi hj7).mpr hin) ⟨_, rfl, ?_⟩
            have q1 := q is hi rfl
            rw [bst_first hj7 hin hn] at q1
            exact q1
          · refine itF (fun h => hin ((mbn_has hi hj7).mp h)) ⟨_, rfl, rfl, fun i h => ?_⟩
            by_cases hij : i = j
            · rw [hij]
              exact hin
            · exact hn i (by omega)
        · rintro σ H2 ⟨y, rfl, rfl, hn⟩
          have q1 := q is hi rfl
          rw [bst_none (fun i h => hn i h)] at q1
          exact q1
end
end Onp
set_option maxHeartbeats 8000000
set_option autoImplicit false
namespace Onp
open PySem PySem.Spec PyProof.Rows L2 HotX L2H LamX
/-! ### tables of code objects beside the bag -/
theorem tabs_keep {T : List (Addr × Str)} {H H' : Hp} {g : Bid} (t : Tabs T H) (B : Bg H g) (k : Keep g.b H H') : Tabs T H' := fun p hp => by
  obtain ⟨ps, h1, h2, h3⟩ := t p hp
  obtain ⟨i, r, sd, c, hb, _⟩ := B
  refine ⟨ps, k _ _ (ne_of h1 hb (fun z => by cases z)) h1, h2, fun pos cv hc => ?_⟩
  obtain ⟨c0, e1, e2⟩ := h3 pos cv hc
  refine ⟨c0, e1, k _ _ (ne_of e2 hb (fun z => ?_)) e2⟩
  unfold CodeO bagV at z
  cases z
theorem bg_ext {H H' : Hp} {g : Bid} (B : Bg H g) (e : ExtN H H') : Bg H' g := by
  obtain ⟨i, r, sd, c, h1, h2, h3⟩ := B
  exact ⟨i, r, sd, c, e _ _ h1 (fun ps z => by cases z), e _ _ h2 (fun ps z => by cases z), h3⟩
section
variable {P : Program} {w : World} {K : PySem.W.Frag} {mg : Str → Option Value} {base : Heap}
structure Fns (K : PySem.W.Frag) (mg : Str → Option Value) (f : Addr) (fd : FuncData) (x : Str) (st : Stmt) (ps : List Str) : Prop where
  F : Fun K x x st f fd
  b : Binds K fd ps []
  g : mg x = some (.ref f)
/-! ### _law_marks_all -/
def spAllM : Sp := fun vs H Q _ => vs = [] ∧ ∀ p, H p = none → Q (.ref p) (upd H p (.lst (marksL.map V.str)))
theorem scAllM : FnScope [] [] (defScope sAllM) := ⟨rfl, rfl, rfl, by decide +kernel, rfl, by decide +kernel, by decide +kernel⟩
theorem ok_allM {f : Addr} {fd : FuncData} {k : Nat} (F : Fun K "_law_marks_all" "_law_marks_all" sAllM f fd) : FnOk P w K mg base CX0 (k + 1) f fd [] spAllM := by
  refine F.ok scAllM (fun vs H Q E h => ?_) (fun cdv A outer s H vs Q E hr h => ?_)
  · obtain ⟨rfl, _⟩ := h
    rfl
  · obtain ⟨rfl, q⟩ := h
    refine ⟨_, pss_one (ps_ret (pe_lst (pa_cons pe_str (pa_cons pe_str (pa_cons pe_str (pa_cons pe_str (pa_cons pe_str (pa_cons pe_str (pa_cons pe_str pa_nil))))))))), ?_⟩
    exact ⟨(by decide : 7 ≤ sizeLine), fun p np => q p np⟩
/-! ### _law_two_marks -/
def spTwoM : Sp := fun vs H Q _ => ∃ i j : Nat, i < 7 ∧ j < 7 ∧ vs = [.str (mkn i), .str (mkn j)] ∧ ∀ H', Same H H' → Q (.str (mkn (max i j))) H'
theorem scTwoM : FnScope ["_law_one", "_law_other", "_law_ranks"] ["_law_one", "_law_other"] (defScope sTwoM) := ⟨rfl, rfl, rfl, by decide +kernel, rfl, by decide +kernel, by decide +kernel⟩
theorem mkn_eq : ∀ i, i < 7 → (makingL.map V.str)[i]? = some (.str (mkn i)) ∧ eqV (.str (mkn i)) (.str (mkn i)) = true ∧ ∀ m z, m < i → (makingL.map V.str)[m]? = some z → eqV z (.str (mkn i)) = false := by
  have h : ∀ i : Fin 7, (makingL.map V.str)[i.val]? = some (.str (mkn i)) ∧ eqV (.str (mkn i)) (.str (mkn i)) = true ∧ ∀ m : Fin 7, m.val < i.val → eqV (.str (mkn m)) (.str (mkn i)) = false := by decide +kernel
  intro i hi
  refine ⟨(h ⟨i, hi⟩).1, (h ⟨i, hi⟩).2.1, fun m z hm hz => ?_⟩
  have e := (h ⟨m, by omega⟩).1
  rw [show (makingL.map V.str)[m]? = _ from e] at hz
  rw [← Option.some.inj hz]
  exact (h ⟨i, hi⟩).2.2 ⟨m, by omega⟩ hm
theorem ok_twoM {f : Addr} {fd : FuncData} {k : Nat} (F : Fun K "_law_two_marks" "_law_two_marks" sTwoM f fd) (mm : mg "max" = none) : FnOk P w K mg base CX0 (k + 1) f fd ["_law_one", "_law_other"] spTwoM := by
  refine F.ok scTwoM (fun vs H Q E h => ?_) (fun cdv A outer s H vs Q E hr h => ?_)
  · obtain ⟨i, j, _, _, rfl, _⟩ := h
    rfl
  · obtain ⟨i, j, hi, hj, rfl, q⟩ := h
    refine ⟨_, pss_cons (ps_set (i := 2) scTwoM.nd rfl (.inl rfl) (pe_lst (pa_cons pe_str (pa_cons pe_str (pa_cons pe_str (pa_cons pe_str (pa_cons pe_str (pa_cons pe_str (pa_cons pe_str pa_nil)))))))))
      (pss_one (ps_ret (pe_ix ix_list (pv 2) (pe_callB (call_max2 rfl) (by rfl) mm (by decide +kernel)
        (pa_cons (pe_bm PySem.F.plainAttrs_list PySem.F.slot_list_index PySem.F.type_list_index mt_index (pv 2) (pa_cons (pv 0) pa_nil))
        (pa_cons (pe_bm PySem.F.plainAttrs_list PySem.F.slot_list_index PySem.F.type_list_index mt_index (pv 2) (pa_cons (pv 1) pa_nil)) pa_nil))) (fun _ _ => rfl)))), ?_⟩
    refine ⟨(by decide : 7 ≤ sizeLine), fun p np => ?_⟩
    have s1 : Same H (upd H p (.lst (makingL.map V.str))) := same_upd np
    have e1 : (upd H p (.lst (makingL.map V.str))) p = some (.lst (makingL.map V.str)) := upd_same
    have m1 := mkn_eq i hi
    have m2 := mkn_eq j hj
    refine ⟨_, rfl, _, rfl, .inl ⟨rfl, _, SqL.of e1⟩, _, rfl, p, makingL.map V.str, _, i, _, rfl, rfl, SqL.of e1, rfl, flatStrs _, m1.1, m1.2.1, m1.2.2, ?_⟩
    refine ⟨_, rfl, .inl ⟨rfl, _, SqL.of e1⟩, _, rfl, p, makingL.map V.str, _, j, _, rfl, rfl, SqL.of e1, rfl, flatStrs _, m2.1, m2.2.1, m2.2.2, ?_⟩
    have e : (if (j : Int) > (i : Int) then (j : Int) else (i : Int)) = ((max i j : Nat) : Int) := by split <;> omega
    refine ⟨(i : Int), (j : Int), rfl, ?_⟩
    rw [e]
    exact ⟨p, makingL.map V.str, _, .str (mkn (max i j)), rfl, rfl, SqL.of e1, atI_nat (mkn_eq (max i j) (by omega)).1, q _ s1⟩
/-! ### _law_best -/
def spLBest (K : PySem.W.Frag) : Sp := fun vs H Q _ => ∃ (a : Addr) (is : List Nat), vs = [.ref a] ∧ SqL K H a ((is.map mbn).map V.str) ∧ (∀ i ∈ is, i < 7) ∧ is.length ≤ 100 ∧ ∀ H', Same H H' → Q (.str (mbn (bst is))) H'
def NB : List Str := ["_law_marks_here", "_law_ranks", "_law_mark"]
theorem scLBest : FnScope NB ["_law_marks_here"] (defScope sLBest) := ⟨rfl, rfl, rfl, by decide +kernel, rfl, by decide +kernel, by decide +kernel⟩
theorem mbn_eq : ∀ i, i < 7 → (marksL.map V.str)[i]? = some (.str (mbn i)) ∧ eqV (.str (mbn i)) (.str (mbn i)) = true ∧ ∀ m z, m < i → (marksL.map V.str)[m]? = some z → eqV z (.str (mbn i)) = false := by
  have h : ∀ i : Fin 7, (marksL.map V.str)[i.val]? = some (.str (mbn i)) ∧ eqV (.str (mbn i)) (.str (mbn i)) = true ∧ ∀ m : Fin 7, m.val < i.val → eqV (.str (mbn m)) (.str (mbn i)) = false := by decide +kernel
  intro i hi
  refine ⟨(h ⟨i, hi⟩).1, (h ⟨i, hi⟩).2.1, fun m z hm hz => ?_⟩
  have e := (h ⟨m, by omega⟩).1
  rw [show (marksL.map V.str)[m]? = _ from e] at hz
  rw [← Option.some.inj hz]
  exact (h ⟨i, hi⟩).2.2 ⟨m, by omega⟩ hm
theorem at_mbn {is : List Nat} {i : Nat} {x : V} (h : ((is.map mbn).map V.str)[i]? = some x) : ∃ j, is[i]? = some j ∧ x = .str (mbn j) := by
  rw [List.getElem?_map, List.getElem?_map] at h
  cases e : is[i]? with
  | none => rw [e] at h; cases h
  | some z => rw [e] at h; exact ⟨z, rfl, (Option.some.inj h).symm⟩
theorem min_bst {is : List Nat} {m : Int} (h1 : m ∈ (6 : Int) :: is.map Int.ofNat) (h2 : ∀ y ∈ (6 : Int) :: is.map Int.ofNat, m ≤ y) : m = (bst is : Nat) := by
  have a := foldl_min_le is 6
  have b := foldl_min_mem is 6
  have c1 : m ≤ (bst is : Nat) := by
    unfold bst
    rcases b with b | b
    · rw [b]
      exact h2 _ List.mem_cons_self
    · exact h2 _ (List.mem_cons_of_mem _ (List.mem_map_of_mem b))
  have c2 : ((bst is : Nat) : Int) ≤ m := by
    unfold bst
    rcases List.mem_cons.mp h1 with e | h1
    · rw [e]
      have := a.1
      omega
    · obtain ⟨j, hj, rfl⟩ := List.mem_map.mp h1
      have := a.2 j hj
      show _ ≤ ((j : Nat) : Int)
      omega
  omega
theorem ok_lbest {f fA : Addr} {fd fdA : FuncData} {k : Nat} (F : Fun K "_law_best" "_law_best" sLBest f fd) (Al : Fns K mg fA fdA "_law_marks_all" sAllM []) (mn : mg "min" = none) : FnOk P w K mg base CX0 (k + 2) f fd ["_law_marks_here"] (spLBest K) := by
  have GA : FnOk P w K mg base CX0 (k + 1) fA fdA [] spAllM := ok_allM Al.F
  refine F.ok scLBest (fun vs H Q E h => ?_) (fun cdv A outer s H vs Q E hr h => ?_)
  · obtain ⟨a, is, rfl, _⟩ := h
    rfl
  · obtain ⟨a, is, rfl, ha, hi, hlen, q⟩ := h
    refine ⟨_, pss_cons (ps_set (i := 1) scLBest.nd rfl (.inr rfl) (pe_call0 GA hr (by rfl) Al.g Al.F.kp Al.b .nil pass0))
      (pss_one (ps_ret (pe_ix ix_list (pv 1) (pe_callB (cr_min rfl) (by rfl) mn (by decide +kernel) (pa_cons (pe_op op_cat (pe_lst (pa_cons pe_int pa_nil))
        (pe_lc (own := [("_law_mark", 2)]) (g := gName 2) (tt := tYes) (te := tBM K "list" (rIndex K) (tVar 1) (tCons (tVar 2) tNil)) rfl scLBest.nd (pi_list (pv 0)) (blkOk_by (own := [("_law_mark", 2)]) (N := NB) (sc := defScope sLBest) (by decide +kernel))
          (fun _ _ _ _ _ => pg_name (i := 2) scLBest.nd rfl (Or.inl rfl)) (fun _ _ _ _ _ => pts_nil) (fun _ _ _ _ _ => pe_bm PySem.F.plainAttrs_list PySem.F.slot_list_index PySem.F.type_list_index mt_index (pv 1) (pa_cons (pv 2) pa_nil)))) pa_nil)) (fun _ _ => rfl)))), ?_⟩
    refine ⟨rfl, fun p np => ?_⟩
    have s1 := same_upd (o := .lst (marksL.map V.str)) np
    have e1 : (upd H p (.lst (marksL.map V.str))) p = some (.lst (marksL.map V.str)) := upd_same
    generalize upd H p (.lst (marksL.map V.str)) = H1 at s1 e1
    refine ⟨_, rfl, (by decide : 1 ≤ sizeLine), fun p2 np2 => ?_⟩
    have s2 := same_upd (o := .lst [.int 6]) np2
    have e2 : (upd H1 p2 (.lst [.int 6])) p2 = some (.lst [.int 6]) := upd_same
    generalize upd H1 p2 (.lst [.int 6]) = H2 at s2 e2
    refine ⟨_, rfl, a, rfl, ⟨_, (s1.trans s2).seq ha⟩, fun D nD => ?_⟩
    refine lc_list (K := K) (a := a) (xs := (is.map mbn).map V.str) (fun i H' => Same H2 H' ∧ H' D = some (.lst ((is.take i).map fun j => V.int (j : Nat)))) ⟨same_upd nD, upd_same⟩ (fun i H' _ ⟨sm, _⟩ => sm.seq ((s1.trans s2).seq ha)) (fun i x H' hx ⟨sm, hD⟩ => ?_) (fun H3 ⟨sm, hD⟩ => ?_)
    · obtain ⟨j, hj, rfl⟩ := at_mbn hx
      have hj7 := hi j (List.mem_of_getElem? hj)
      have m1 := mbn_eq j hj7
      refine ⟨rfl, ?_⟩
      unfold tYes
      dsimp only
      rw [if_pos rfl]
      have e3 := sm _ _ (s2 _ _ e1)
      refine ⟨_, rfl, .inl ⟨rfl, _, SqL.of e3⟩, _, rfl, p, marksL.map V.str, _, j, _, rfl, rfl, SqL.of e3, rfl, flatStrs _, m1.1, m1.2.1, m1.2.2, ?_⟩
      refine ⟨_, hD, ?_, fun b o hb => ?_, ?_⟩
      · rw [List.length_map, List.length_take]
        exact Nat.lt_of_le_of_lt (Nat.min_le_right _ _) (Nat.lt_of_le_of_lt hlen (by decide))
      · rw [upd_ne (ne_of_none hb nD)]
        exact sm b o hb
      · rw [upd_same, take_more hj, List.map_append]
        rfl
    · rw [List.length_map, List.length_map, List.take_length] at hD
      refine ⟨p2, D, _, _, rfl, rfl, sm _ _ e2, hD, ?_, fun p4 np4 => ?_⟩
      · rw [List.length_map]
        exact Nat.le_trans (show [V.int 6].length + is.length ≤ 200 by simp only [List.length_cons, List.length_nil]; omega) (by decide)
      have s4 := same_upd (o := .lst ([V.int 6] ++ is.map fun j => V.int (j : Nat))) np4
      refine ⟨p4, (6 : Int) :: is.map Int.ofNat, rfl, SqL.of ?_, Nat.succ_pos _, fun m h1 h2 => ?_⟩
      · rw [upd_same, List.map_cons, List.map_map]
        rfl
      rw [min_bst h1 h2]
      refine ⟨p, marksL.map V.str, _, .str (mbn (bst is)), rfl, rfl, SqL.of ((s2.trans (sm.trans s4)) _ _ e1), atI_nat (mbn_eq _ (bst_le is)).1, q _ (s1.trans (s2.trans (sm.trans s4)))⟩
/-! ### _law_often -/
def spOften : Sp := fun vs H Q _ => ∃ i : Nat, i < 7 ∧ vs = [.str (mkn i)] ∧ ∀ H', Same H H' → Q (.str (mkn (agn i))) H'
theorem scOften : FnScope ["_law_mark"] ["_law_mark"] (defScope sOften) := ⟨rfl, rfl, rfl, by decide +kernel, rfl, by decide +kernel, by decide +kernel⟩
def oftK : List (Key × V) := [(.inr "cent", .str "dear"), (.inr "coin", .str "dear")]
theorem oft_get : ∀ i, i < 7 → (valV oftK (.inr (mkn i))).getD (.str (mkn i)) = .str (mkn (agn i))
  | 0, _ => by decide +kernel
  | 1, _ => by decide +kernel
  | 2, _ => by decide +kernel
  | 3, _ => by decide +kernel
  | 4, _ => by decide +kernel
  | 5, _ => by decide +kernel
  | 6, _ => by decide +kernel
  | n + 7, h => by omega
theorem oft_merge : mergeK [] oftK = oftK := by decide +kernel
theorem ok_often {f : Addr} {fd : FuncData} {k : Nat} (F : Fun K "_law_often" "_law_often" sOften f fd) : FnOk P w K mg base CX0 (k + 1) f fd ["_law_mark"] spOften := by
  refine F.ok scOften (fun vs H Q E h => ?_) (fun cdv A outer s H vs Q E hr h => ?_)
  · obtain ⟨i, _, rfl, _⟩ := h
    rfl
  · obtain ⟨i, hi, rfl, q⟩ := h
    refine ⟨_, pss_one (ps_ret (pe_dget2 (Nat.lt_of_le_of_lt (Nat.add_le_add_left (by decide) _) hr.units) (pe_disp (pps_cons pe_str pe_str (pps_cons pe_str pe_str pps_nil)) rfl rfl (by simp) (by decide)) (pv 0) (pv 0) ⟨rfl, rfl, rfl, rfl⟩)), ?_⟩
    intro p np
    refine ⟨upd_same, oftK, rfl, by decide, ?_⟩
    rw [oft_merge]
    have e : (upd (upd H p (.dK [])) p (.dK oftK)) p = some (.dK oftK) := upd_same
    have s1 : Same H (upd (upd H p (.dK [])) p (.dK oftK)) := by
      rw [upd_upd]
      exact same_upd np
    refine ⟨p, rfl, .inl ⟨_, Rd.of e⟩, _, rfl, _, rfl, _, .inl ⟨oftK, .inr (mkn i), Rd.of e, rfl, rfl⟩, ?_⟩
    rw [oft_get i hi]
    exact q _ s1
end
end Onp
set_option maxHeartbeats 2000000
set_option autoImplicit false
/-! zip of any number of lists -/
namespace ZN
open PySem PySem.Spec PyProof.Rows L2
open PySem.W (kdx_alive)
/-- a list (true) or a tuple (false) -/
abbrev Kd := Bool × Addr
def IsIt (h : Heap) (it : Addr) (l : Kd) (i : Nat) : Prop := match l.1 with | true => h.IsListIter it l.2 i | false => h.IsTupleIter it l.2 i
def IsSq (h : Heap) (l : Kd) (items : Array Value) : Prop := match l.1 with | true => h.IsList l.2 items | false => h.IsTuple l.2 items
theorem IsIt.at {h h' : Heap} {a : Addr} {l : Kd} {i : Nat} (x : IsIt h a l i) (e : ∀ o, h.get? a = some o → h'.get? a = some o) : IsIt h' a l i := by
  obtain ⟨kd, l⟩ := l
  cases kd
  · exact Heap.IsTupleIter.at x e
  · exact Heap.IsListIter.at x e
theorem IsIt.extBut {h h' : Heap} {a b : Addr} {l : Kd} {i : Nat} (x : IsIt h a l i) (hs : Heap.ExtBut b h h') (hab : a ≠ b) : IsIt h' a l i := x.at fun o e => hs a o hab e
theorem IsIt.obj {h : Heap} {a : Addr} {l : Kd} {i : Nat} (x : IsIt h a l i) : ∃ o, h.get? a = some o ∧ ∀ v, o.data ≠ .cell v := by
  obtain ⟨kd, l⟩ := l
  cases kd
  · obtain ⟨o, e, _, d⟩ := (x : h.IsTupleIter a l i)
    exact ⟨o, e, fun v q => by rw [d] at q; cases q⟩
  · obtain ⟨o, e, _, d⟩ := (x : h.IsListIter a l i)
    exact ⟨o, e, fun v q => by rw [d] at q; cases q⟩
theorem IsSq.at {h h' : Heap} {l : Kd} {items : Array Value} (x : IsSq h l items) (e : ∀ o, h.get? l.2 = some o → h'.get? l.2 = some o) : IsSq h' l items := by
  obtain ⟨kd, l⟩ := l
  cases kd
  · exact Heap.IsTuple.at x e
  · exact Heap.IsList.at x e
theorem IsSq.lt {h : Heap} {l : Kd} {items : Array Value} (x : IsSq h l items) : l.2 < h.objs.size := by
  obtain ⟨kd, l⟩ := l
  cases kd
  · obtain ⟨o, e, _⟩ := (x : h.IsTuple l items)
    exact Heap.lt_size e
  · obtain ⟨o, e, _⟩ := (x : h.IsList l items)
    exact Heap.lt_size e
theorem IsSq.extBut {h h' : Heap} {b : Addr} {l : Kd} {items : Array Value} (x : IsSq h l items) (hs : Heap.ExtBut b h h') (hab : l.2 ≠ b) : IsSq h' l items := x.at fun o e => hs _ o hab e
section
variable {prog : Program} {w : World} {A : Around} {E : Value → Shared → Prop} {s : Shared}
theorem nextOf_item {it : Addr} {l : Kd} {i : Nat} {items : Array Value} {x : Value} {Q : Value → Shared → Prop} (hit : IsIt s.heap it l i) (hl : IsSq s.heap l items) (hx : items[i]? = some x)
    (hQ : ∀ h', IsIt h' it l (i + 1) → Heap.SameBut it s.heap h' → Q x { s with heap := h' }) : wpAny (model prog w) A (Builtin.SmallTypes.nextOf (.ref it)) Q E s := by
  obtain ⟨kd, l⟩ := l
  cases kd
  · exact RZ.nextOf_tuple_item (show s.heap.IsTupleIter it l i from hit) (show s.heap.IsTuple l items from hl) hx hQ
  · exact wpAny_nextOf_list_item (show s.heap.IsListIter it l i from hit) (show s.heap.IsList l items from hl) hx hQ
theorem nextOf_end {it : Addr} {l : Kd} {i : Nat} {items : Array Value} {Q : Value → Shared → Prop} (hh : A.handled = none) (hit : IsIt s.heap it l i) (hl : IsSq s.heap l items) (hx : items[i]? = none)
    (hE : ∀ h' e, Heap.ExtBut it s.heap h' → (∃ o, h'.get? e = some o ∧ o.cls = .type "StopIteration") → E (.ref e) { s with heap := h' }) : wpAny (model prog w) A (Builtin.SmallTypes.nextOf (.ref it)) Q E s := by
  obtain ⟨kd, l⟩ := l
  cases kd
  · exact RZ.nextOf_tuple_end hh (show s.heap.IsTupleIter it l i from hit) (show s.heap.IsTuple l items from hl) hx hE
  · exact wpAny_nextOf_list_end hh (show s.heap.IsListIter it l i from hit) (show s.heap.IsList l items from hl) hx hE
def itObj (l : Kd) : Obj := { cls := .type (if l.1 then "list_iterator" else "tuple_iterator"), data := .fields #[.ref l.2, .int 0 0] }
theorem it_new {h : Heap} {a : Addr} {l : Kd} (e : h.get? a = some (itObj l)) : IsIt h a l 0 := by
  obtain ⟨kd, l⟩ := l
  cases kd
  · exact ⟨_, e, rfl, rfl⟩
  · exact ⟨_, e, rfl, rfl⟩
theorem pyIter_sq {l : Kd} {items : Array Value} {Q : Value → Shared → Prop} (hl : IsSq s.heap l items) (hQ : Q (.ref s.heap.objs.size) { s with heap := s.heap.push (itObj l) }) : wpAny (model prog w) A (pyIter (.ref l.2)) Q E s := by
  obtain ⟨kd, l⟩ := l
  cases kd
  · exact wpAny_pyIter_tuple (show s.heap.IsTuple l items from hl) hQ
  · exact wpAny_pyIter_list (show s.heap.IsList l items from hl) hQ
end
section
variable {prog : Program} {w : World} {M : Model} {A : Around} {E : Value → Shared → Prop} {s : Shared}
theorem forIn_ix {α β : Type} (f : α → β → Sem (ForInStep β)) (l : List α) (P : Nat → β → Shared → Prop) (Q : β → Shared → Prop) {b : β} (h : P 0 b s)
    (turn : ∀ k x b s, l[k]? = some x → P k b s → wpAny M A (f x b) (fun r s' => ∃ b', r = .yield b' ∧ P (k + 1) b' s') E s) (fin : ∀ b s, P l.length b s → Q b s) : wpAny M A (forIn l b f) Q E s := by
  refine wpAny_forIn_list f (fun rest b s => ∃ k, k ≤ l.length ∧ rest = l.drop k ∧ P k b s) Q (fun x rest b s ⟨k, hk, e, p⟩ => ?_) (fun b s ⟨k, hk, e, p⟩ => ?_) l b ⟨0, Nat.zero_le _, rfl, h⟩
  · have hlt : k < l.length := by
      rcases Nat.lt_or_ge k l.length with q | q
      · exact q
      · rw [List.drop_eq_nil_of_le q] at e
        cases e
    rw [List.drop_eq_getElem_cons hlt] at e
    obtain ⟨rfl, rfl⟩ := List.cons.inj e
    refine wpAny_mono (turn k _ b s (List.getElem?_eq_getElem hlt) p) (fun r s' ⟨b', er, p'⟩ => ?_) fun _ _ z => z
    subst er
    exact ⟨k + 1, hlt, rfl, p'⟩
  · have : k = l.length := by
      rcases Nat.lt_or_ge k l.length with q | q
      · have := congrArg List.length e
        rw [List.length_drop, List.length_nil] at this
        omega
      · omega
    rw [this] at p
    exact fin b s p
/-- a zip -/
abbrev IsZ (h : Heap) (z TI TO : Addr) (f0 : Value) (f : Bool) : Prop :=
  h.get? z = some { cls := .type "zip", dict := none, data := .fields #[f0, .bool f, .bool false, .ref TI, .ref TO], slots := #[] }
abbrev IsTp (h : Heap) (T : Addr) (vs : List Value) : Prop := h.get? T = some { cls := .type "tuple", data := .seq vs.toArray }
def itv (b n : Nat) : List Value := (List.range n).map fun k => Value.ref (b + k)
theorem itv_at {b n k : Nat} (h : k < n) : (itv b n)[k]? = some (.ref (b + k)) := by
  unfold itv
  rw [List.getElem?_map, List.getElem?_range h]
  rfl
theorem itv_len (b n : Nat) : (itv b n).length = n := by simp [itv]
/-- the iterators at b, b + 1, ..: the first m are one further on -/
def Its (h : Heap) (b : Nat) (ls : List Kd) (i m : Nat) : Prop := ∀ k l, ls[k]? = some l → IsIt h (b + k) l (if k < m then i + 1 else i)
theorem Its.all {h : Heap} {b : Nat} {ls : List Kd} {i : Nat} (x : Its h b ls i ls.length) : Its h b ls (i + 1) 0 := fun k l e => by
  have hk : k < ls.length := (List.getElem?_eq_some_iff.mp e).1
  have := x k l e
  rw [if_pos hk] at this
  rw [if_neg (Nat.not_lt_zero k)]
  exact this
/-- but what the zip itself has, all stands -/
def Kp (z TO b n : Nat) (h h' : Heap) : Prop := h'.objs.size = h.objs.size ∧ ∀ c o, c ≠ z → c ≠ TO → (∀ k, k < n → c ≠ b + k) → h.get? c = some o → h'.get? c = some o
theorem Kp.refl (z TO b n : Nat) (h : Heap) : Kp z TO b n h h := ⟨rfl, fun _ _ _ _ _ e => e⟩
structure Apart (z TI TO b n : Nat) (ls : List Kd) : Prop where
  zT : z ≠ TO
  zI : z ≠ TI
  TT : TI ≠ TO
  zb : ∀ k, k < n → z ≠ b + k
  Ib : ∀ k, k < n → TI ≠ b + k
  Tb : ∀ k, k < n → TO ≠ b + k
  lz : ∀ l : Kd, l ∈ ls → l.2 ≠ z
  lT : ∀ l : Kd, l ∈ ls → l.2 ≠ TO
  lb : ∀ l : Kd, l ∈ ls → ∀ k, k < n → l.2 ≠ b + k
theorem its_next {z TI TO b i m : Nat} {ls : List Kd} {h h' : Heap} (x : Its h b ls i m) {l : Kd} (hm : ls[m]? = some l) (hs : Heap.SameBut (b + m) h h') (h1 : IsIt h' (b + m) l (i + 1)) : Its h' b ls i (m + 1) := fun (k : Nat) l' e => by
  by_cases q : k = m
  · subst q
    rw [hm] at e
    obtain rfl := Option.some.inj e
    rw [if_pos (Nat.lt_succ_self k)]
    exact h1
  · have e1 := x k l' e
    have e2 : (if k < m + 1 then i + 1 else i) = (if k < m then i + 1 else i) := by
      by_cases r : k < m
      · rw [if_pos r, if_pos (by omega)]
      · rw [if_neg r, if_neg (by omega)]
    rw [e2]
    exact e1.extBut hs.extBut (fun z => q (by have : b + k = b + m := z; omega))
theorem its_over {b i m : Nat} {ls : List Kd} {h h' : Heap} {c : Addr} (x : Its h b ls i m) (hs : Heap.SameBut c h h') (hc : ∀ k, k < ls.length → b + k ≠ c) : Its h' b ls i m := fun (k : Nat) l e =>
  (x k l e).extBut hs.extBut (hc k (List.getElem?_eq_some_iff.mp e).1)
theorem alive_no {a : Addr} {Q : Option Obj → Shared → Prop} (ho : s.heap.get? a = none) (h : Q none s) : wpAny (model prog w) A (loadIfAlive a) Q E s := by
  have h' : Q (s.heap.get? a) s := by rw [ho]; exact h
  exact fun _ _ _ => h'
/-- what the lists have at i -/
def Col (h : Heap) (ls : List Kd) (i : Nat) (xs : List Value) : Prop := xs.length = ls.length ∧ ∀ (k : Nat) l, ls[k]? = some l → ∃ items x, IsSq h l items ∧ items[i]? = some x ∧ xs[k]? = some x
theorem set_take {vs xs : List Value} {m : Nat} {x : Value} (hl : vs.length = xs.length) (ht : vs.take m = xs.take m) (hx : xs[m]? = some x) : (vs.set m x).take (m + 1) = xs.take (m + 1) := by
  have hm : m < xs.length := (List.getElem?_eq_some_iff.mp hx).1
  rw [List.take_succ, List.take_succ, List.take_set, List.set_eq_of_length_le (by rw [List.length_take]; omega), ht, List.getElem?_set_self (by omega), hx]
theorem free_next {z TI TO b i : Nat} {f : Bool} {f0 : Value} {ls : List Kd} {xs vs : List Value} {Q : Value → Shared → Prop} (D : Apart z TI TO b ls.length ls) (hn : 0 < ls.length) (hz : IsZ s.heap z TI TO f0 f) (hf : f0 = .none ∨ ∃ T : Nat, f0 = rawInt T ∧ s.heap.get? T = none)
    (hTI : IsTp s.heap TI (itv b ls.length)) (hTO : IsTp s.heap TO vs) (hv : vs.length = ls.length) (hi : Its s.heap b ls i 0) (hc : Col s.heap ls i xs) (hsz : ls.length ≤ 1000)
    (hQ : ∀ h', IsZ h' z TI TO (rawInt s.heap.objs.size) false → IsTp h' TO xs → Its h' b ls (i + 1) 0 → IsTp h' s.heap.objs.size xs → h'.objs.size = s.heap.objs.size + 1 →
      (∀ c o, c ≠ z → c ≠ TO → (∀ k, k < ls.length → c ≠ b + k) → s.heap.get? c = some o → h'.get? c = some o) → Q (.ref s.heap.objs.size) { s with heap := h' }) :
    wpAny (model prog w) A (Builtin.«zip.__next__» ⟨[.ref z], []⟩) (fun fin s' => ∃ v, fin = .done (.ret v) ∧ Q v s') E s := by
  show wpAny _ _ (field (.ref z) 2 >>= _) _ _ _
  refine wpAny_bind (wpAny_field hz rfl (x := .bool false) rfl ?_)
  show wpAny _ _ (field (.ref z) 3 >>= _) _ _ _
  refine wpAny_bind (wpAny_field hz rfl (x := .ref TI) rfl ?_)
  refine wpAny_bind (wpAny_seqItems hTI rfl ?_)
  have hne : (itv b ls.length).toArray.isEmpty = false := by
    rw [Array.isEmpty_eq_false_iff]
    intro e
    have := congrArg Array.size e
    rw [List.size_toArray, itv_len] at this
    exact absurd (show ls.length = 0 from this) (by omega)
  simp only [hne, Bool.false_eq_true, if_false]
  have hfree : ∀ {Q' : Bool → Shared → Prop}, Q' true s → wpAny (model prog w) A (Builtin.SmallTypes.ownedTupleIsFree (.ref z)) Q' E s := fun {Q'} hq => by
    unfold Builtin.SmallTypes.ownedTupleIsFree
    refine wpAny_bind (wpAny_field hz rfl (x := f0) rfl ?_)
    rcases hf with rfl | ⟨T, rfl, hT⟩
    · exact wpAny_pure hq
    · show wpAny _ _ (loadIfAlive ((T : Int).toNat) >>= _) _ _ _
      rw [Int.toNat_natCast]
      refine wpAny_bind (alive_no hT ?_)
      simp only [Option.isNone_none, if_true]
      exact wpAny_pure hq
  refine wpAny_bind (hfree ?_)
  simp only [if_true]
  refine wpAny_bind (wpAny_rule ?_)
  refine wpAny_bind (wpAny_field hz rfl (x := .ref TO) rfl ?_)
  refine wpAny_bind (wpAny_setField_rec hz (by simp) fun h₁ hz₁ hs₁ => ?_)
  replace hz₁ : IsZ h₁ z TI TO .ellipsis f := hz₁
  have hs₁ : Heap.SameBut z s.heap h₁ := hs₁
  refine wpAny_bind (forIn_ix _ _ (fun m b' s' => b' = ⟨none, ()⟩ ∧ ∃ h' vs', s' = { s with heap := h' } ∧ IsZ h' z TI TO .ellipsis f ∧ IsTp h' TO vs' ∧ vs'.length = ls.length ∧ vs'.take m = xs.take m ∧ Its h' b ls i m ∧ Kp z TO b ls.length s.heap h') _ ?_ ?_ ?_)
  · refine ⟨rfl, h₁, vs, rfl, hz₁, hs₁.extBut _ _ (Ne.symm D.zT) hTO, hv, rfl, its_over hi hs₁ fun k hk => (D.zb k hk).symm, hs₁.1, fun c o c1 _ _ e => hs₁.extBut _ _ c1 e⟩
  · rintro m ⟨it, k⟩ b' s' hx ⟨rfl, h', vs', rfl, gz, gT, gl, gt, gi, gk⟩
    have hx' : it = .ref (b + m) ∧ k = m ∧ m < ls.length := by
      rw [List.getElem?_zipIdx] at hx
      by_cases hm : m < ls.length
      · rw [itv_at hm] at hx
        have e := Option.some.inj hx
        refine ⟨(congrArg Prod.fst e).symm, ?_, hm⟩
        have e2 := congrArg Prod.snd e
        simpa using e2.symm
      · rw [List.getElem?_eq_none (by rw [itv_len]; omega)] at hx
        cases hx
    obtain ⟨rfl, rfl, hm⟩ := hx'
    obtain ⟨items, x, hL, hxi, hxk⟩ := hc.2 k _ (List.getElem?_eq_getElem hm)
    have gi0 := gi k _ (List.getElem?_eq_getElem hm)
    rw [if_neg (Nat.lt_irrefl k)] at gi0
    have hmem := List.getElem_mem hm
    have hL' : IsSq h' ls[k] items := hL.at fun o e => gk.2 _ o (D.lz _ hmem) (D.lT _ hmem) (fun j hj => D.lb _ hmem j hj) e
    refine wpAny_bind (wpAny_onRaise ?_)
    show wpAny _ _ (Builtin.SmallTypes.nextOf (.ref (b + k)) >>= _) _ _ _
    refine wpAny_bind (nextOf_item (s := { s with heap := h' }) gi0 hL' hxi fun h₂ h1₂ hs₂ => wpAny_pure ?_)
    have hs₂ : Heap.SameBut (b + k) h' h₂ := hs₂
    have hTO₂ : IsTp h₂ TO vs' := hs₂.extBut _ _ (D.Tb k hm) gT
    refine wpAny_bind (wpAny_seqItems (s := { s with heap := h₂ }) hTO₂ rfl ?_)
    refine wpAny_bind (wpAny_updateSeq (s := { s with heap := h₂ }) hTO₂ rfl ?_ ?_ ?_)
    · refine wpAny_bind (wpAny_letGo (wpAny_pure ⟨_, rfl, rfl, _, vs'.set k x, rfl, ?_, ?_, by rw [List.length_set]; exact gl, set_take (by rw [gl, hc.1]) gt hxk, ?_, ?_⟩))
      · have e := (Heap.SameBut.update h₂ TO (Obj.mapSeq (·.setIfInBounds k x))).extBut _ _ D.zT (hs₂.extBut _ _ (D.zb k hm) gz)
        exact e
      · show (h₂.update TO (Obj.mapSeq (·.setIfInBounds k x))).get? TO = _
        rw [Heap.get?_update_self _ hTO₂ rfl]
        simp [Obj.mapSeq]
      · have e := its_next (TI := TI) (TO := TO) (z := z) gi (List.getElem?_eq_getElem hm) hs₂ h1₂
        exact its_over e (Heap.SameBut.update h₂ TO (Obj.mapSeq (·.setIfInBounds k x))) fun j hj => (D.Tb j hj).symm
      · have e := Heap.SameBut.update h₂ TO (Obj.mapSeq (·.setIfInBounds k x))
        refine ⟨?_, fun c o c1 c2 c3 q => e.extBut _ _ c2 (hs₂.extBut _ _ (c3 k hm) (gk.2 c o c1 c2 c3 q))⟩
        have e2 := e.1
        rw [hs₂.1, gk.1] at e2
        exact e2
    · rw [List.size_toArray, gl]
      exact Nat.le_trans hsz (by decide)
    · rw [Array.size_setIfInBounds, List.size_toArray, gl]
      exact Nat.le_trans hsz (by decide)
  · rintro b' s' ⟨rfl, h₅, vs', rfl, gz, gT, gl, gt, gi, gk⟩
    have el : ((itv b ls.length).zipIdx).length = ls.length := by rw [List.length_zipIdx, itv_len]
    rw [show (List.toArray (itv b ls.length)).toList.zipIdx.length = ls.length from el] at gt gi
    have ev : vs' = xs := by
      rw [List.take_of_length_le (by omega), List.take_of_length_le (by rw [hc.1]; exact Nat.le_refl _)] at gt
      exact gt
    subst ev
    refine wpAny_bind (wpAny_seqItems (s := { s with heap := h₅ }) gT rfl ?_)
    refine wpAny_bind (wpAny_newTuple (s := { s with heap := h₅ }) ?_ ?_)
    · have hzlt : z < h₅.objs.size := Heap.lt_size gz
      show wpAny _ _ (Builtin.SmallTypes.ownedTupleHandOut (.ref z) (.ref h₅.objs.size) >>= _) _ _ _
      refine wpAny_bind ?_
      unfold Builtin.SmallTypes.ownedTupleHandOut
      have hz₆ : IsZ (h₅.push { cls := .type "tuple", data := .seq vs'.toArray }) z TI TO .ellipsis f := Heap.get?_push_of_some _ gz
      refine wpAny_bind (wpAny_setField_rec hz₆ (by simp) fun h₇ hz₇ hs₇ => ?_)
      replace hz₇ : IsZ h₇ z TI TO (rawInt h₅.objs.size) f := hz₇
      refine wpAny_setField_rec hz₇ (by simp) fun h₈ hz₈ hs₈ => ?_
      replace hz₈ : IsZ h₈ z TI TO (rawInt h₅.objs.size) false := hz₈
      have hs₇ : Heap.SameBut z (h₅.push { cls := .type "tuple", data := .seq vs'.toArray }) h₇ := hs₇
      have hs₈ : Heap.SameBut z h₇ h₈ := hs₈
      have up : ∀ c o, c ≠ z → h₅.get? c = some o → h₈.get? c = some o := fun c o c1 e => hs₈.extBut _ _ c1 (hs₇.extBut _ _ c1 (Heap.get?_push_of_some _ e))
      have hT₈ : IsTp h₈ h₅.objs.size vs' := hs₈.extBut _ _ (Nat.ne_of_gt hzlt) (hs₇.extBut _ _ (Nat.ne_of_gt hzlt) (Heap.get?_push_size _ rfl))
      have hz8 : h₈.objs.size = h₅.objs.size + 1 := by rw [hs₈.1, hs₇.1, Heap.size_push]
      have hsz5 : h₅.objs.size = s.heap.objs.size := gk.1
      rw [hsz5] at hz₈ hT₈ hz8
      refine wpAny_pure ⟨_, rfl, ?_⟩
      show Q (.ref h₅.objs.size) _
      rw [hsz5]
      exact hQ h₈ hz₈ (up _ _ (Ne.symm D.zT) gT) (fun (k : Nat) l e => (gi.all k l e).at fun o q => up _ o (D.zb k (List.getElem?_eq_some_iff.mp e).1).symm q) hT₈ hz8 fun c o c1 c2 c3 e => up c o c1 (gk.2 c o c1 c2 c3 e)
    · show vs'.length ≤ sizeLine
      rw [gl]
      exact Nat.le_trans hsz (by decide)
theorem forIn_first {α β : Type} (f : α → β → Sem (ForInStep β)) {l : List α} {x : α} {b : β} {Q : β → Shared → Prop} (hx : l[0]? = some x) (h : wpAny M A (f x b) (fun _ _ => False) E s) : wpAny M A (forIn l b f) Q E s := by
  cases l with
  | nil => cases hx
  | cons y r =>
    obtain rfl := Option.some.inj hx
    rw [List.forIn_cons]
    exact wpAny_bind (wpAny_mono h (fun _ _ z => z.elim) fun _ _ z => z)
theorem held_next {z TI TO b i T : Nat} {f : Bool} {oT : Obj} {ls : List Kd} {xs : List Value} {Q : Value → Shared → Prop} (D : Apart z TI TO b ls.length ls) (hn : 0 < ls.length) (hz : IsZ s.heap z TI TO (rawInt T) f) (hT : s.heap.get? T = some oT)
    (hTI : IsTp s.heap TI (itv b ls.length)) (hi : Its s.heap b ls i 0) (hc : Col s.heap ls i xs) (hsz : ls.length ≤ 1000)
    (hQ : ∀ h', IsZ h' z TI TO (rawInt T) true → Its h' b ls (i + 1) 0 → IsTp h' s.heap.objs.size xs → h'.objs.size = s.heap.objs.size + 1 →
      (∀ c o, c ≠ z → (∀ k, k < ls.length → c ≠ b + k) → s.heap.get? c = some o → h'.get? c = some o) → Q (.ref s.heap.objs.size) { s with heap := h' }) :
    wpAny (model prog w) A (Builtin.«zip.__next__» ⟨[.ref z], []⟩) (fun fin s' => ∃ v, fin = .done (.ret v) ∧ Q v s') E s := by
  show wpAny _ _ (field (.ref z) 2 >>= _) _ _ _
  refine wpAny_bind (wpAny_field hz rfl (x := .bool false) rfl ?_)
  show wpAny _ _ (field (.ref z) 3 >>= _) _ _ _
  refine wpAny_bind (wpAny_field hz rfl (x := .ref TI) rfl ?_)
  refine wpAny_bind (wpAny_seqItems hTI rfl ?_)
  have hne : (itv b ls.length).toArray.isEmpty = false := by
    rw [Array.isEmpty_eq_false_iff]
    intro e
    have := congrArg Array.size e
    rw [List.size_toArray, itv_len] at this
    exact absurd (show ls.length = 0 from this) (by omega)
  simp only [hne, Bool.false_eq_true, if_false]
  refine wpAny_bind (wpAny_tupleHeld_zip (TI := TI) (TO := TO) (T := T) (f := f) hz hT fun h₁ hz₁ hs₁ => ?_)
  have hz₁ : IsZ h₁ z TI TO (rawInt T) true := hz₁
  have hs₁ : Heap.SameBut z s.heap h₁ := hs₁
  simp only [Bool.false_eq_true, if_false]
  refine wpAny_bind ?_
  rw [← Array.forIn_toList]
  refine forIn_ix _ _ (fun m b' s' => ∃ acc : Array Value, b' = ⟨none, acc⟩ ∧ acc.toList = xs.take m ∧ ∃ h', s' = { s with heap := h' } ∧ IsZ h' z TI TO (rawInt T) true ∧ Its h' b ls i m ∧ h'.objs.size = s.heap.objs.size ∧ ∀ c o, c ≠ z → (∀ k, k < ls.length → c ≠ b + k) → s.heap.get? c = some o → h'.get? c = some o) _ ?_ ?_ ?_
  · exact ⟨#[], rfl, rfl, h₁, rfl, hz₁, its_over hi hs₁ fun k hk => (D.zb k hk).symm, hs₁.1, fun c o c1 _ e => hs₁.extBut _ _ c1 e⟩
  · rintro m it b' s' hx ⟨acc, rfl, ha, h', rfl, gz, gi, gs, gk⟩
    have hx' : it = .ref (b + m) ∧ m < ls.length := by
      by_cases hm : m < ls.length
      · have e : (itv b ls.length)[m]? = some it := hx
        rw [itv_at hm] at e
        exact ⟨(Option.some.inj e).symm, hm⟩
      · have e : (itv b ls.length)[m]? = some it := hx
        rw [List.getElem?_eq_none (by rw [itv_len]; omega)] at e
        cases e
    obtain ⟨rfl, hm⟩ := hx'
    obtain ⟨items, x, hL, hxi, hxk⟩ := hc.2 m _ (List.getElem?_eq_getElem hm)
    have gi0 := gi m _ (List.getElem?_eq_getElem hm)
    rw [if_neg (Nat.lt_irrefl m)] at gi0
    have hmem := List.getElem_mem hm
    have hL' : IsSq h' ls[m] items := hL.at fun o e => gk _ o (D.lz _ hmem) (fun j hj => D.lb _ hmem j hj) e
    refine wpAny_bind (wpAny_holding ?_)
    show wpAny _ _ (Builtin.SmallTypes.nextOf (.ref (b + m)) >>= _) _ _ _
    refine wpAny_bind (nextOf_item (s := { s with heap := h' }) gi0 hL' hxi fun h₂ h1₂ hs₂ => wpAny_pure (wpAny_pure ?_))
    have hs₂ : Heap.SameBut (b + m) h' h₂ := hs₂
    refine ⟨_, rfl, acc.push x, rfl, ?_, h₂, rfl, hs₂.extBut _ _ (D.zb m hm) gz, its_next (TI := TI) (TO := TO) (z := z) gi (List.getElem?_eq_getElem hm) hs₂ h1₂, hs₂.1.trans gs, fun c o c1 c3 q => hs₂.extBut _ _ (c3 m hm) (gk c o c1 c3 q)⟩
    rw [Array.toList_push, ha, List.take_succ, hxk]
    rfl
  · rintro b' s' ⟨acc, rfl, ha, h₅, rfl, gz, gi, gs, gk⟩
    have el : (itv b ls.length).length = ls.length := itv_len _ _
    rw [show (List.toArray (itv b ls.length)).toList.length = ls.length from el] at ha gi
    rw [List.take_of_length_le (by rw [hc.1]; exact Nat.le_refl _)] at ha
    show wpAny _ _ (newTuple acc.toList >>= _) _ _ _
    rw [ha]
    refine wpAny_bind (wpAny_newTuple (s := { s with heap := h₅ }) ?_ ?_)
    · refine wpAny_pure ⟨_, rfl, ?_⟩
      show Q (.ref h₅.objs.size) _
      have hp : IsTp (h₅.push { cls := .type "tuple", data := .seq xs.toArray }) h₅.objs.size xs := Heap.get?_push_size _ rfl
      have hz4 : (h₅.push { cls := .type "tuple", data := .seq xs.toArray }).objs.size = h₅.objs.size + 1 := Heap.size_push ..
      rw [gs] at hp hz4 ⊢
      exact hQ _ (Heap.get?_push_of_some _ gz) (fun (k : Nat) l e => (gi.all k l e).at fun o q => Heap.get?_push_of_some _ q) hp hz4 fun c o c1 c3 e => Heap.get?_push_of_some _ (gk c o c1 c3 e)
    · rw [hc.1]
      exact Nat.le_trans hsz (by decide)
theorem any_end {z TI TO b i : Nat} {f : Bool} {f0 : Value} {ls : List Kd} {vs : List Value} {l : Kd} {items : Array Value} {Q : Fin → Shared → Prop} (hh : A.handled = none) (D : Apart z TI TO b ls.length ls) (hz : IsZ s.heap z TI TO f0 f) (hf : f0 = .none ∨ ∃ T : Nat, f0 = rawInt T)
    (hTI : IsTp s.heap TI (itv b ls.length)) (hTO : IsTp s.heap TO vs) (hi : Its s.heap b ls i 0) (hl : ls[0]? = some l) (hL : IsSq s.heap l items) (hx : items[i]? = none)
    (hE : ∀ h' e, (∀ c o, c ≠ z → (∀ k, k < ls.length → c ≠ b + k) → s.heap.get? c = some o → h'.get? c = some o) → (∃ o, h'.get? e = some o ∧ o.cls = .type "StopIteration") → E (.ref e) { s with heap := h' }) :
    wpAny (model prog w) A (Builtin.«zip.__next__» ⟨[.ref z], []⟩) Q E s := by
  have hn : 0 < ls.length := (List.getElem?_eq_some_iff.mp hl).1
  have hmem := List.mem_of_getElem? hl
  have hi0 := hi 0 l hl
  rw [if_neg (Nat.lt_irrefl 0)] at hi0
  show wpAny _ _ (field (.ref z) 2 >>= _) _ _ _
  refine wpAny_bind (wpAny_field hz rfl (x := .bool false) rfl ?_)
  show wpAny _ _ (field (.ref z) 3 >>= _) _ _ _
  refine wpAny_bind (wpAny_field hz rfl (x := .ref TI) rfl ?_)
  refine wpAny_bind (wpAny_seqItems hTI rfl ?_)
  have hne : (itv b ls.length).toArray.isEmpty = false := by
    rw [Array.isEmpty_eq_false_iff]
    intro e
    have := congrArg Array.size e
    rw [List.size_toArray, itv_len] at this
    exact absurd (show ls.length = 0 from this) (by omega)
  simp only [hne, Bool.false_eq_true, if_false]
  by_cases hfr : f0 = .none ∨ ∃ T : Nat, f0 = rawInt T ∧ s.heap.get? T = none
  · have hfree : ∀ {Q' : Bool → Shared → Prop}, Q' true s → wpAny (model prog w) A (Builtin.SmallTypes.ownedTupleIsFree (.ref z)) Q' E s := fun {Q'} hq => by
      unfold Builtin.SmallTypes.ownedTupleIsFree
      refine wpAny_bind (wpAny_field hz rfl (x := f0) rfl ?_)
      rcases hfr with rfl | ⟨T, rfl, hT⟩
      · exact wpAny_pure hq
      · show wpAny _ _ (loadIfAlive ((T : Int).toNat) >>= _) _ _ _
        rw [Int.toNat_natCast]
        refine wpAny_bind (alive_no hT ?_)
        simp only [Option.isNone_none, if_true]
        exact wpAny_pure hq
    refine wpAny_bind (hfree ?_)
    simp only [if_true]
    refine wpAny_bind (wpAny_rule ?_)
    refine wpAny_bind (wpAny_field hz rfl (x := .ref TO) rfl ?_)
    refine wpAny_bind (wpAny_setField_rec hz (by simp) fun h₁ hz₁ hs₁ => ?_)
    replace hz₁ : IsZ h₁ z TI TO .ellipsis f := hz₁
    have hs₁ : Heap.SameBut z s.heap h₁ := hs₁
    refine wpAny_bind (forIn_first _ (x := (.ref (b + 0), 0)) ?_ ?_)
    · show (itv b ls.length).zipIdx[0]? = _
      rw [List.getElem?_zipIdx, itv_at hn]
      rfl
    · refine wpAny_bind (wpAny_onRaise ?_)
      show wpAny _ _ (Builtin.SmallTypes.nextOf (.ref (b + 0)) >>= _) _ _ _
      refine wpAny_bind (nextOf_end (s := { s with heap := h₁ }) hh (hi0.extBut hs₁.extBut (D.zb 0 hn).symm) (hL.extBut hs₁.extBut (D.lz _ hmem)) hx fun h₂ e hs₂ he => ?_)
      obtain ⟨oe, hoe, hce⟩ := he
      have hs₂ : Heap.ExtBut (b + 0) h₁ h₂ := hs₂
      have hz₂ : IsZ h₂ z TI TO .ellipsis f := hs₂ _ _ (D.zb 0 hn) hz₁
      have hez : e ≠ z := fun x => by subst x; rw [hz₂] at hoe; cases hoe; simp at hce
      refine wpAny_setField_rec (s := { s with heap := h₂ }) hz₂ (by simp) fun h₃ _ hs₃ => hE h₃ e (fun c o c1 c3 x => hs₃.extBut _ _ c1 (hs₂ _ _ (c3 0 hn) (hs₁.extBut _ _ c1 x))) ⟨oe, hs₃.extBut _ _ hez hoe, hce⟩
  · obtain ⟨T, rfl⟩ : ∃ T : Nat, f0 = rawInt T := by
      rcases hf with e | e
      · exact absurd (.inl e) hfr
      · exact e
    obtain ⟨oT, hT⟩ : ∃ oT, s.heap.get? T = some oT := by
      cases q : s.heap.get? T with
      | none => exact absurd (.inr ⟨T, rfl, q⟩) hfr
      | some o => exact ⟨o, rfl⟩
    refine wpAny_bind (wpAny_tupleHeld_zip (TI := TI) (TO := TO) (T := T) (f := f) hz hT fun h₁ hz₁ hs₁ => ?_)
    have hs₁ : Heap.SameBut z s.heap h₁ := hs₁
    simp only [Bool.false_eq_true, if_false]
    refine wpAny_bind ?_
    rw [← Array.forIn_toList]
    refine forIn_first _ (x := .ref (b + 0)) (itv_at hn) ?_
    refine wpAny_bind (wpAny_holding ?_)
    show wpAny _ _ (Builtin.SmallTypes.nextOf (.ref (b + 0)) >>= _) _ _ _
    refine wpAny_bind (nextOf_end (s := { s with heap := h₁ }) hh (hi0.extBut hs₁.extBut (D.zb 0 hn).symm) (hL.extBut hs₁.extBut (D.lz _ hmem)) hx fun h₂ e hs₂ he => ?_)
    exact hE h₂ e (fun c o c1 c3 x => hs₂ _ _ (c3 0 hn) (hs₁.extBut _ _ c1 x)) he
end
end ZN
set_option maxHeartbeats 2000000
set_option autoImplicit false
namespace ZN
open PySem PySem.Spec PyProof.Rows L2
/-- a new zip of these lists -/
def New (h : Heap) (ls : List Kd) (h' : Heap) : Prop :=
  IsZ h' (h.objs.size + ls.length + 2) (h.objs.size + ls.length) (h.objs.size + ls.length + 1) .none false ∧ IsTp h' (h.objs.size + ls.length) (itv h.objs.size ls.length) ∧ (∃ vs : List Value, vs.length = ls.length ∧ IsTp h' (h.objs.size + ls.length + 1) vs) ∧
    Its h' h.objs.size ls 0 0 ∧ h'.objs.size = h.objs.size + ls.length + 3 ∧ ∀ c o, h.get? c = some o → h'.get? c = some o
theorem meets_new (ls : List Kd) :
    Meets (Builtin.«zip.__new__» ⟨.type "zip" :: (ls.map fun l => Value.ref l.2), []⟩) (fun _ R s => (∀ l ∈ ls, ∃ items, IsSq s.heap l items) ∧ ls.length ≤ 1000 ∧ ∀ h', New s.heap ls h' → R (.ok (.ret (.ref (s.heap.objs.size + ls.length + 2)))) { s with heap := h' }) :=
  .of_wp fun prog w A R s h => by
    obtain ⟨hp, g, d, tk, os⟩ := s
    obtain ⟨hl, hsz, h⟩ := h
    have hsub := sub_zip
    unfold Builtin.«zip.__new__»
    refine wpAny_bind ?_
    unfold Builtin.SmallTypes.newClass
    refine wpAny_bind (wpAny_pure ?_)
    simp only [Bool.not_true, Bool.false_eq_true, if_false]
    rw [hsub]
    refine wpAny_bind (wpAny_pure ?_)
    simp only [Bool.not_true, Bool.false_eq_true, if_false]
    refine wpAny_pure ?_
    simp only [List.length_nil, Nat.not_lt_zero, gt_iff_lt, if_false]
    refine wpAny_bind ?_
    unfold Builtin.SmallTypes.iterAll
    refine wpAny_bind (forIn_ix _ _ (fun m (acc : Array Value) s' => acc.toList = itv hp.objs.size m ∧ m ≤ ls.length ∧ ∃ h', s' = ⟨h', g, d, tk, os⟩ ∧ h'.objs.size = hp.objs.size + m ∧ (∀ (k : Nat) l, k < m → ls[k]? = some l → h'.get? (hp.objs.size + k) = some (itObj l)) ∧ ∀ c o, hp.get? c = some o → h'.get? c = some o) _ ?_ ?_ ?_)
    · exact ⟨rfl, Nat.zero_le _, hp, rfl, rfl, fun k l hk => absurd hk (Nat.not_lt_zero _), fun _ _ e => e⟩
    · rintro m x acc s' hx ⟨ha, hm, h', rfl, hs, hi, hk⟩
      rw [List.getElem?_map] at hx
      have hlt : m < ls.length := by
        rcases Nat.lt_or_ge m ls.length with q | q
        · exact q
        · rw [List.getElem?_eq_none q] at hx
          cases hx
      rw [List.getElem?_eq_getElem hlt] at hx
      obtain rfl := Option.some.inj hx
      obtain ⟨items, hL⟩ := hl _ (List.getElem_mem hlt)
      have hL' : IsSq h' ls[m] items := hL.at fun o e => hk _ o e
      refine wpAny_bind (wpAny_holding (pyIter_sq (s := ⟨h', g, d, tk, os⟩) hL' (wpAny_pure ⟨_, rfl, ?_, hlt, _, rfl, ?_, ?_, ?_⟩)))
      · show (acc.push (.ref h'.objs.size)).toList = _
        rw [Array.toList_push, ha, hs]
        unfold itv
        rw [List.range_succ, List.map_append]
        rfl
      · rw [Heap.size_push]
        show h'.objs.size + 1 = _
        omega
      · intro k l hkm e
        rcases Nat.lt_or_ge k m with q | q
        · exact Heap.get?_push_of_some _ (hi k l q e)
        · obtain rfl : k = m := by omega
          rw [List.getElem?_eq_getElem hlt] at e
          obtain rfl := Option.some.inj e
          have z : (h'.push (itObj ls[k])).get? h'.objs.size = some (itObj ls[k]) := Heap.get?_push_size _ rfl
          rw [hs] at z
          exact z
      · exact fun c o e => Heap.get?_push_of_some _ (hk c o e)
    · rintro acc s' ⟨ha, hm, h', rfl, hs, hi, hk⟩
      rw [List.length_map] at ha hs hi
      refine wpAny_pure ?_
      rw [ha]
      refine wpAny_bind (wpAny_newTuple ?_ ?_)
      · refine wpAny_bind (wpAny_newTuple ?_ ?_)
        · refine wpAny_bind ?_
          unfold Builtin.SmallTypes.newRecord
          refine wpAny_newObj_type (wpAny_pure ⟨_, rfl, ?_⟩) (by show (5 : Nat) ≤ sizeLine + 2; decide)
          have z1 : (h'.push { cls := .type "tuple", data := .seq (itv hp.objs.size ls.length).toArray }).objs.size = hp.objs.size + ls.length + 1 := by rw [Heap.size_push, hs]
          have z2 : ((h'.push { cls := .type "tuple", data := .seq (itv hp.objs.size ls.length).toArray }).push { cls := .type "tuple", data := .seq ((itv hp.objs.size ls.length).map fun _ => Value.none).toArray }).objs.size = hp.objs.size + ls.length + 2 := by rw [Heap.size_push, z1]
          have g3 := Heap.get?_push_size ((h'.push { cls := .type "tuple", data := .seq (itv hp.objs.size ls.length).toArray }).push { cls := .type "tuple", data := .seq ((itv hp.objs.size ls.length).map fun _ => Value.none).toArray }) (o := { cls := .type "zip", data := .fields #[.none, .bool false, .bool false, .ref h'.objs.size, .ref (h'.push { cls := .type "tuple", data := .seq (itv hp.objs.size ls.length).toArray }).objs.size] }) rfl
          have g2 := Heap.get?_push_size (h'.push { cls := .type "tuple", data := .seq (itv hp.objs.size ls.length).toArray }) (o := { cls := .type "tuple", data := .seq ((itv hp.objs.size ls.length).map fun _ => Value.none).toArray }) rfl
          have g1 := Heap.get?_push_size h' (o := { cls := .type "tuple", data := .seq (itv hp.objs.size ls.length).toArray }) rfl
          rw [z2] at g3
          rw [z1] at g2 g3
          rw [hs] at g1 g3
          have q := h _ (show New hp ls _ from ⟨g3, Heap.get?_push_of_some _ (Heap.get?_push_of_some _ g1), ⟨_, by rw [List.length_map, itv_len], Heap.get?_push_of_some _ g2⟩, fun (k : Nat) l e => by rw [if_neg (Nat.not_lt_zero k)]; exact it_new (Heap.get?_push_of_some _ (Heap.get?_push_of_some _ (Heap.get?_push_of_some _ (hi k l (List.getElem?_eq_some_iff.mp e).1 e)))), by rw [Heap.size_push, z2], fun c o e => Heap.get?_push_of_some _ (Heap.get?_push_of_some _ (Heap.get?_push_of_some _ (hk c o e)))⟩)
          show R (.ok (.ret (.ref ((h'.push { cls := .type "tuple", data := .seq (itv hp.objs.size ls.length).toArray }).push { cls := .type "tuple", data := .seq ((itv hp.objs.size ls.length).map fun _ => Value.none).toArray }).objs.size))) ⟨((h'.push { cls := .type "tuple", data := .seq (itv hp.objs.size ls.length).toArray }).push { cls := .type "tuple", data := .seq ((itv hp.objs.size ls.length).map fun _ => Value.none).toArray }).push { cls := .type "zip", data := .fields #[.none, .bool false, .bool false, .ref h'.objs.size, .ref (h'.push { cls := .type "tuple", data := .seq (itv hp.objs.size ls.length).toArray }).objs.size] }, g, d, tk, os⟩
          rw [z2, z1, hs]
          exact q
        · rw [List.length_map, itv_len]
          exact Nat.le_trans hsz (by decide)
      · rw [itv_len]
        exact Nat.le_trans hsz (by decide)
theorem typeCall : ∀ vs : List Value, 0 < vs.length ∧ vs.length ≤ 8 → checkTypeCall "zip" ⟨vs, []⟩ = pure ()
  | [], h => absurd h.1 (Nat.lt_irrefl 0)
  | [a0], _ => by kernel_rfl
  | [a0, a1], _ => by kernel_rfl
  | [a0, a1, a2], _ => by kernel_rfl
  | [a0, a1, a2, a3], _ => by kernel_rfl
  | [a0, a1, a2, a3, a4], _ => by kernel_rfl
  | [a0, a1, a2, a3, a4, a5], _ => by kernel_rfl
  | [a0, a1, a2, a3, a4, a5, a6], _ => by kernel_rfl
  | [a0, a1, a2, a3, a4, a5, a6, a7], _ => by kernel_rfl
  | _ :: _ :: _ :: _ :: _ :: _ :: _ :: _ :: _ :: r, h => absurd h.2 (by simp only [List.length_cons]; omega)
theorem newCall : ∀ vs : List Value, 0 < vs.length ∧ vs.length ≤ 8 → checkBuiltinCall "zip.__new__" ⟨.type "zip" :: vs, []⟩ = pure ()
  | [], h => absurd h.1 (Nat.lt_irrefl 0)
  | [a0], _ => by kernel_rfl
  | [a0, a1], _ => by kernel_rfl
  | [a0, a1, a2], _ => by kernel_rfl
  | [a0, a1, a2, a3], _ => by kernel_rfl
  | [a0, a1, a2, a3, a4], _ => by kernel_rfl
  | [a0, a1, a2, a3, a4, a5], _ => by kernel_rfl
  | [a0, a1, a2, a3, a4, a5, a6], _ => by kernel_rfl
  | [a0, a1, a2, a3, a4, a5, a6, a7], _ => by kernel_rfl
  | _ :: _ :: _ :: _ :: _ :: _ :: _ :: _ :: _ :: r, h => absurd h.2 (by simp only [List.length_cons]; omega)
theorem initArgs : ∀ vs : List Value, 0 < vs.length ∧ vs.length ≤ 8 → ∀ obj, argsOk "object.__init__" ⟨obj :: vs, []⟩
  | [], h => absurd h.1 (Nat.lt_irrefl 0)
  | [a0], _ => fun obj => by
      unfold argsOk; rw [signature?_of (id := "object.__init__") (n := ['_', '_', 't', 'i', 'n', 'i', '_', '_']) (o := ['t', 'c', 'e', 'j', 'b', 'o']) (by kernel_rfl) F.owner_object]; kernel_rfl
  | [a0, a1], _ => fun obj => by
      unfold argsOk; rw [signature?_of (id := "object.__init__") (n := ['_', '_', 't', 'i', 'n', 'i', '_', '_']) (o := ['t', 'c', 'e', 'j', 'b', 'o']) (by kernel_rfl) F.owner_object]; kernel_rfl
  | [a0, a1, a2], _ => fun obj => by
      unfold argsOk; rw [signature?_of (id := "object.__init__") (n := ['_', '_', 't', 'i', 'n', 'i', '_', '_']) (o := ['t', 'c', 'e', 'j', 'b', 'o']) (by kernel_rfl) F.owner_object]; kernel_rfl
  | [a0, a1, a2, a3], _ => fun obj => by
      unfold argsOk; rw [signature?_of (id := "object.__init__") (n := ['_', '_', 't', 'i', 'n', 'i', '_', '_']) (o := ['t', 'c', 'e', 'j', 'b', 'o']) (by kernel_rfl) F.owner_object]; kernel_rfl
  | [a0, a1, a2, a3, a4], _ => fun obj => by
      unfold argsOk; rw [signature?_of (id := "object.__init__") (n := ['_', '_', 't', 'i', 'n', 'i', '_', '_']) (o := ['t', 'c', 'e', 'j', 'b', 'o']) (by kernel_rfl) F.owner_object]; kernel_rfl
  | [a0, a1, a2, a3, a4, a5], _ => fun obj => by
      unfold argsOk; rw [signature?_of (id := "object.__init__") (n := ['_', '_', 't', 'i', 'n', 'i', '_', '_']) (o := ['t', 'c', 'e', 'j', 'b', 'o']) (by kernel_rfl) F.owner_object]; kernel_rfl
  | [a0, a1, a2, a3, a4, a5, a6], _ => fun obj => by
      unfold argsOk; rw [signature?_of (id := "object.__init__") (n := ['_', '_', 't', 'i', 'n', 'i', '_', '_']) (o := ['t', 'c', 'e', 'j', 'b', 'o']) (by kernel_rfl) F.owner_object]; kernel_rfl
  | [a0, a1, a2, a3, a4, a5, a6, a7], _ => fun obj => by
      unfold argsOk; rw [signature?_of (id := "object.__init__") (n := ['_', '_', 't', 'i', 'n', 'i', '_', '_']) (o := ['t', 'c', 'e', 'j', 'b', 'o']) (by kernel_rfl) F.owner_object]; kernel_rfl
  | _ :: _ :: _ :: _ :: _ :: _ :: _ :: _ :: _ :: r, h => absurd h.2 (by simp only [List.length_cons]; omega)

section
variable {prog : Program} {w : World} {A : Around} {E : Value → Shared → Prop} {s : Shared}
theorem call_zipN {ls : List Kd} {Q : Value → Shared → Prop} (hl : ∀ l ∈ ls, ∃ items, IsSq s.heap l items) (hn : 0 < ls.length ∧ ls.length ≤ 8) (h : ∀ h', New s.heap ls h' → Q (.ref (s.heap.objs.size + ls.length + 2)) { s with heap := h' }) :
    wpAny (model prog w) A (call (.type "zip") (ls.map fun l => Value.ref l.2)) Q E s := by
  have hn' : 0 < (ls.map fun l => Value.ref l.2).length ∧ (ls.map fun l => Value.ref l.2).length ≤ 8 := by rw [List.length_map]; exact hn
  refine callType_new F.called_zip (by decide) (typeCall _ hn') (newCall _ hn') (initArgs _ hn') F.entry_zip_new (meets_new ls) ⟨hl, by omega, fun h' x => ⟨⟨_, x.1, rfl⟩, h h' x⟩⟩
end
end ZN
set_option maxHeartbeats 2000000
set_option autoImplicit false
namespace ZN
open PySem PySem.Spec PyProof.Rows L2
def Tn (z TI TO b : Nat) (ls : List Kd) (i : Nat) (h : Heap) : Prop :=
  ∃ (f0 : Value) (f : Bool) (vs : List Value), IsZ h z TI TO f0 f ∧ (f0 = .none ∨ ∃ T : Nat, f0 = rawInt T) ∧ IsTp h TI (itv b ls.length) ∧ vs.length = ls.length ∧ IsTp h TO vs ∧ Its h b ls i 0
def fpN (z TI TO b n : Nat) : List Addr := z :: TI :: TO :: (List.range n).map fun k => b + k
theorem mem_fp {z TI TO b n c : Nat} (h : c ∈ fpN z TI TO b n) : c = z ∨ c = TI ∨ c = TO ∨ ∃ k, k < n ∧ c = b + k := by
  unfold fpN at h
  rcases List.mem_cons.mp h with e | h
  · exact .inl e
  rcases List.mem_cons.mp h with e | h
  · exact .inr (.inl e)
  rcases List.mem_cons.mp h with e | h
  · exact .inr (.inr (.inl e))
  obtain ⟨k, hk, e⟩ := List.mem_map.mp h
  exact .inr (.inr (.inr ⟨k, List.mem_range.mp hk, e.symm⟩))
theorem fp_z {z TI TO b n : Nat} : z ∈ fpN z TI TO b n := List.mem_cons_self
theorem fp_I {z TI TO b n : Nat} : TI ∈ fpN z TI TO b n := List.mem_cons_of_mem _ List.mem_cons_self
theorem fp_T {z TI TO b n : Nat} : TO ∈ fpN z TI TO b n := List.mem_cons_of_mem _ (List.mem_cons_of_mem _ List.mem_cons_self)
theorem fp_b {z TI TO b n k : Nat} (h : k < n) : b + k ∈ fpN z TI TO b n := List.mem_cons_of_mem _ (List.mem_cons_of_mem _ (List.mem_cons_of_mem _ (List.mem_map.mpr ⟨k, List.mem_range.mpr h, rfl⟩)))
section
variable {prog : Program} {w : World} {A : Around} {E : Value → Shared → Prop} {s : Shared}
theorem next_item {z TI TO b i : Nat} {ls : List Kd} {xs : List Value} {Q : Option Value → Shared → Prop} (D : Apart z TI TO b ls.length ls) (hn : 0 < ls.length) (st : Tn z TI TO b ls i s.heap) (hc : Col s.heap ls i xs) (hsz : ls.length ≤ 1000)
    (hQ : ∀ h', Tn z TI TO b ls (i + 1) h' → IsTp h' s.heap.objs.size xs → h'.objs.size = s.heap.objs.size + 1 → (∀ c o, c ∉ fpN z TI TO b ls.length → s.heap.get? c = some o → h'.get? c = some o) → Q (some (.ref s.heap.objs.size)) { s with heap := h' }) :
    wpAny (model prog w) A (pyNext (.ref z)) Q E s := by
  obtain ⟨f0, f, vs, hz, hf, hTI, hv, hTO, hi⟩ := st
  have hT : s.TypeIs (.ref z) "zip" := ⟨_, hz, rfl⟩
  have out : ∀ {c}, c ∉ fpN z TI TO b ls.length → c ≠ z ∧ c ≠ TO ∧ ∀ k, k < ls.length → c ≠ b + k := fun {c} h => ⟨fun e => h (e ▸ fp_z), fun e => h (e ▸ fp_T), fun k hk e => h (e ▸ fp_b hk)⟩
  unfold pyNext
  by_cases hfr : f0 = .none ∨ ∃ T : Nat, f0 = rawInt T ∧ s.heap.get? T = none
  · refine wpAny_bind (wpAny_attempt (wpAny_callSpecial?_slot (name := Str.ofString "__next__") hT F.slot_zip_next
      (wpAny_call_entry F.slot_zip_next hT F.entry_zip_next (free_next D hn hz hfr hTI hTO hv hi hc hsz fun h' a1 a2 a3 a4 a5 a6 => wpAny_pure (hQ h' ⟨_, false, xs, a1, .inr ⟨_, rfl⟩, ?_, hc.1, a2, a3⟩ a4 a5 fun c o h e => a6 c o (out h).1 (out h).2.1 (out h).2.2 e)) (F.args_zip_next_1 _))))
    exact a6 _ _ (Ne.symm D.zI) D.TT (fun k hk => D.Ib k hk) hTI
  · obtain ⟨T, rfl⟩ : ∃ T : Nat, f0 = rawInt T := by
      rcases hf with e | e
      · exact absurd (.inl e) hfr
      · exact e
    obtain ⟨oT, hoT⟩ : ∃ oT, s.heap.get? T = some oT := by
      cases q : s.heap.get? T with
      | none => exact absurd (.inr ⟨T, rfl, q⟩) hfr
      | some o => exact ⟨o, rfl⟩
    refine wpAny_bind (wpAny_attempt (wpAny_callSpecial?_slot (name := Str.ofString "__next__") hT F.slot_zip_next
      (wpAny_call_entry F.slot_zip_next hT F.entry_zip_next (held_next D hn hz hoT hTI hi hc hsz fun h' a1 a3 a4 a5 a6 => wpAny_pure (hQ h' ⟨_, true, vs, a1, .inr ⟨_, rfl⟩, ?_, hv, ?_, a3⟩ a4 a5 fun c o h e => a6 c o (out h).1 (out h).2.2 e)) (F.args_zip_next_1 _))))
    · exact a6 _ _ (Ne.symm D.zI) (fun k hk => D.Ib k hk) hTI
    · exact a6 _ _ (Ne.symm D.zT) (fun k hk => D.Tb k hk) hTO
theorem next_end {z TI TO b i : Nat} {ls : List Kd} {l : Kd} {items : Array Value} {Q : Option Value → Shared → Prop} (hh : A.handled = none) (D : Apart z TI TO b ls.length ls) (st : Tn z TI TO b ls i s.heap) (hl : ls[0]? = some l) (hL : IsSq s.heap l items) (hx : items[i]? = none)
    (hQ : ∀ h', (∀ c o, c ∉ fpN z TI TO b ls.length → s.heap.get? c = some o → h'.get? c = some o) → Q none { s with heap := h' }) : wpAny (model prog w) A (pyNext (.ref z)) Q E s := by
  obtain ⟨f0, f, vs, hz, hf, hTI, hv, hTO, hi⟩ := st
  have hT : s.TypeIs (.ref z) "zip" := ⟨_, hz, rfl⟩
  unfold pyNext
  refine wpAny_bind (wpAny_attempt (wpAny_callSpecial?_slot (name := Str.ofString "__next__") hT F.slot_zip_next
    (wpAny_call_entry F.slot_zip_next hT F.entry_zip_next (any_end hh D hz hf hTI hTO hi hl hL hx fun h' e hk he => ?_) (F.args_zip_next_1 _))))
  obtain ⟨o, ho, hc⟩ := he
  refine wpAny_bind (wpAny_isInstance (T := "StopIteration") (b := true) ⟨o, ho, hc⟩ isSubtype_stop ?_)
  exact wpAny_pure (hQ _ fun c o h e => hk c o (fun q => h (q ▸ fp_z)) (fun k hk q => h (q ▸ fp_b hk)) e)
end

def SqK (K : PySem.W.Frag) (H : Hp) (l : Kd) (xs : List V) : Prop := match l.1 with | true => SqL K H l.2 xs | false => SqT K H l.2 xs
/-- what they have there, as it stands at each turn, in a new tuple -/
def ItzN (K : PySem.W.Frag) (ls : List Kd) : It :=
  ⟨fun i H => ∀ l ∈ ls, ∃ xs x, SqK K H l xs ∧ xs[i]? = some x,
    fun i H v H' => ∃ (T : Addr) (ys : List V), v = .ref T ∧ H T = none ∧ H' = upd H T (.tup ys) ∧ ys.length = ls.length ∧ ∀ (k : Nat) l xs, ls[k]? = some l → SqK K H l xs → xs[i]? = ys[k]?,
    fun i H => ∃ l xs, ls[0]? = some l ∧ SqK K H l xs ∧ xs.length ≤ i⟩
section
variable {X : Cx} {pins : List (Addr × Obj)} {σ : L2.St} {H : Hp} {s : Shared}
theorem sqk_is (I : Inv X pins σ H s) {l : Kd} {xs : List V} (h : SqK X.K H l xs) : ∃ its : List Value, Vals xs its ∧ IsSq s.heap l its.toArray := by
  obtain ⟨kd, l⟩ := l
  cases kd
  · obtain ⟨its, rv, p, _⟩ := I.tuple (show SqT X.K H l xs from h)
    exact ⟨its, rv, p⟩
  · obtain ⟨its, rv, p, _⟩ := I.list (show SqL X.K H l xs from h)
    exact ⟨its, rv, p.isList⟩
theorem sqk_inj (I : Inv X pins σ H s) {l : Kd} {xs ys : List V} (h : SqK X.K H l xs) (h' : SqK X.K H l ys) : xs = ys := by
  obtain ⟨kd, l⟩ := l
  cases kd
  · exact I.tuple_inj (show SqT X.K H l xs from h) h'
  · exact I.list_inj (show SqL X.K H l xs from h) h'
theorem cols {i : Nat} (I : Inv X pins σ H s) : ∀ ls : List Kd, (∀ l ∈ ls, ∃ xs x, SqK X.K H l xs ∧ xs[i]? = some x) →
    ∃ (ys : List V) (us : List Value), Vals ys us ∧ ys.length = ls.length ∧ Col s.heap ls i us ∧ ∀ (k : Nat) l xs, ls[k]? = some l → SqK X.K H l xs → xs[i]? = ys[k]?
  | [], _ => ⟨[], [], .nil, rfl, ⟨rfl, fun k l e => by simp at e⟩, fun k l xs e => by simp at e⟩
  | l :: r, h => by
    obtain ⟨ys, us, rv, hl, hc, hy⟩ := cols I r fun l' h' => h l' (List.mem_cons_of_mem _ h')
    obtain ⟨xs, x, hq, hx⟩ := h l List.mem_cons_self
    obtain ⟨its, rv2, p⟩ := sqk_is I hq
    obtain ⟨u, hu, ru⟩ := rv2.get hx
    refine ⟨x :: ys, u :: us, .cons ru rv, by rw [List.length_cons, List.length_cons, hl], ⟨by rw [List.length_cons, List.length_cons, hc.1], fun k l' e => ?_⟩, fun k l' xs' e q => ?_⟩
    · cases k with
      | zero =>
        obtain rfl := Option.some.inj e
        exact ⟨its.toArray, u, p, by simpa using hu, rfl⟩
      | succ k => exact hc.2 k l' e
    · cases k with
      | zero =>
        obtain rfl := Option.some.inj e
        rw [sqk_inj I q hq]
        exact hx
      | succ k => exact hy k l' xs' e q
end
/-- a name, or several -/
def IsTg : Expr → Prop
  | .Name .. => True
  | .Tuple .. => True
  | _ => False
theorem go_tg {prog : Program} {w : World} {A : Around} {E : Value → Shared → Prop} {s : Shared} {tg : Expr} {z TI TO T : Addr} {f0 : Value} {f : Bool} {Q : Unit → Shared → Prop} (ht : IsTg tg) (hz : IsZ s.heap z TI TO f0 f) (h1 : Q () s)
    (h2 : ∀ h', IsZ h' z TI TO .none f → Heap.SameBut z s.heap h' → Q () { s with heap := h' }) : wpAny (model prog w) A (letOwnedTupleGo tg (.ref z) (.ref T)) Q E s := by
  cases tg <;> first
    | exact wpAny_pure h1
    | exact ht.elim
    | skip
  unfold letOwnedTupleGo
  refine wpAny_bind (wpAny_load hz ?_)
  show wpAny _ _ (if (["enumerate", "zip", "dict_itemiterator", "dict_reverseitemiterator", "odict_iterator", "itertools.zip_longest", "itertools.pairwise"].contains "zip" &&
      (#[f0, .bool f, .bool false, .ref TI, .ref TO] : Array Value)[0]? == some (rawInt T)) = true then _ else _) Q E s
  split
  · refine wpAny_bind (wpAny_rule ?_)
    show wpAny _ _ (setField (.ref z) 0 .none) Q E s
    exact wpAny_setField_rec hz (by simp) fun h' hz' hs' => h2 h' hz' hs'
  · exact wpAny_pure h1
theorem turn_zipN {P : Program} {w : World} {K : PySem.W.Frag} {tg : Expr} {z TI TO b : Nat} {ls : List Kd} (ht : IsTg tg) (D : Apart z TI TO b ls.length ls) (hn : 0 < ls.length) (h8 : ls.length ≤ 8) :
    Turn P w K tg (ItzN K ls) (fpN z TI TO b ls.length) z (Tn z TI TO b ls) where
  mem := fp_z
  obj := fun i h st c hc => by
    obtain ⟨f0, f, vs, hz, hf, hTI, hv, hTO, hi⟩ := st
    rcases mem_fp hc with rfl | rfl | rfl | ⟨k, hk, rfl⟩
    · exact ⟨_, hz, fun v q => nomatch q⟩
    · exact ⟨_, hTI, fun v q => nomatch q⟩
    · exact ⟨_, hTO, fun v q => nomatch q⟩
    · exact (hi k _ (List.getElem?_eq_getElem hk)).obj
  keep := fun i h h' st k => by
    obtain ⟨f0, f, vs, hz, hf, hTI, hv, hTO, hi⟩ := st
    exact ⟨f0, f, vs, k _ fp_z _ hz, hf, k _ fp_I _ hTI, hv, k _ fp_T _ hTO, fun (j : Nat) l e => (hi j l e).at fun o q => k _ (fp_b (List.getElem?_eq_some_iff.mp e).1) o q⟩
  item := by
    intro X hP hw hK hc i pins s σ H E I hf st hg
    subst hP hw hK
    obtain ⟨ys, us, rv, hl, hcol, hy⟩ := cols I ls hg
    have hlt : ∀ c ∈ fpN z TI TO b ls.length, c < s.heap.objs.size := fun c hcm => by
      obtain ⟨f0, f, vs, hz, hf, hTI, hv, hTO, hi⟩ := st
      rcases mem_fp hcm with rfl | rfl | rfl | ⟨k, hk, rfl⟩
      · exact Heap.lt_size hz
      · exact Heap.lt_size hTI
      · exact Heap.lt_size hTO
      · obtain ⟨o, e, _⟩ := (hi k _ (List.getElem?_eq_getElem hk)).obj
        exact Heap.lt_size e
    have fin : ∀ h', Tn z TI TO b ls (i + 1) h' → IsTp h' s.heap.objs.size us → (∀ c o, c ∉ fpN z TI TO b ls.length → s.heap.get? c = some o → h'.get? c = some o) →
        ∃ x H', Inv X pins σ H' { s with heap := h' } ∧ RelV x (.ref s.heap.objs.size) ∧ (ItzN X.K ls).yld i H x H' ∧ Tn z TI TO b ls (i + 1) h' ∧ ∀ b_1 ∈ fpN z TI TO b ls.length, H' b_1 = none := fun h' st' hT hk => by
      have new : ObjOk X.prog X.w (upd H s.heap.objs.size (.tup ys)) h' s.heap.objs.size (.tup ys) :=
        ⟨by show ys.length ≤ sizeLine; rw [hl]; exact Nat.le_trans h8 (by decide), us, rv, ⟨_, hT, rfl, _, rfl⟩⟩
      have I1 : Inv X pins σ (upd H s.heap.objs.size (.tup ys)) { s with heap := h' } := I.turnedNew (t' := s.toks) (ch := fpN z TI TO b ls.length) hk hf (Nat.le_refl _) new
      refine ⟨.ref s.heap.objs.size, _, I1, rfl, ⟨_, ys, rfl, I.hok.fresh (Nat.le_refl _), rfl, hl, hy⟩, st', fun c hcm => ?_⟩
      rw [upd_ne (Nat.ne_of_lt (hlt c hcm))]
      exact (hf c hcm).1
    refine next_item D hn st hcol (by omega) fun h' st' hT hsz hk => ⟨_, rfl, ?_⟩
    obtain ⟨f0, f, vs, hz, hf0, hTI, hv, hTO, hi⟩ := id st'
    refine go_tg (s := { s with heap := h' }) ht hz (fin h' st' hT hk) fun h'' hz'' sb => ?_
    have sb : Heap.SameBut z h' h'' := sb
    refine fin h'' ⟨.none, f, vs, hz'', .inl rfl, sb.extBut _ _ (Ne.symm D.zI) hTI, hv, sb.extBut _ _ (Ne.symm D.zT) hTO, fun (k : Nat) l e => (hi k l e).extBut sb.extBut (D.zb k (List.getElem?_eq_some_iff.mp e).1).symm⟩ (sb.extBut _ _ (Nat.ne_of_gt (hlt z fp_z)) hT) fun c o h e => sb.extBut _ _ (fun q => h (q ▸ fp_z)) (hk c o h e)
  done := by
    intro X hP hw hK hc i pins s σ H E I hf st hg
    subst hP hw hK
    obtain ⟨l, xs, hl, hq, hle⟩ := hg
    obtain ⟨its, rv, p⟩ := sqk_is I hq
    have l1 := rv.length
    refine next_end (I.ok.hd hc) D st hl p (by simp; omega) fun h' hk => ⟨rfl, I.turnedL (t' := s.toks) (ch := fpN z TI TO b ls.length) hk hf⟩
  self := fun A i s Q E st h => by
    obtain ⟨f0, f, vs, hz, _⟩ := st
    have hT : s.TypeIs (.ref z) "zip" := ⟨_, hz, rfl⟩
    refine wpAny_pyIter_slot hT F.slot_zip_iter (wpAny_call_entry F.slot_zip_iter hT F.entry_zip_iter ?_ (F.args_zip_iter_1 _))
    show wpAny _ _ (ret (.ref z)) _ _ s
    exact wpAny_pure ⟨_, rfl, "zip", _, hT, F.slot_zip_next.lookup, h⟩
theorem zip_made {X : Cx} {pins : List (Addr × Obj)} {σ : L2.St} {H1 : Hp} {s2 : Shared} {tg : Expr} {ls : List Kd} {R : It → Hp → Prop} (ht : IsTg tg) (I2 : Inv X pins σ H1 s2) (hn : 0 < ls.length ∧ ls.length ≤ 8) (hl : ∀ l ∈ ls, ∃ xs, SqK X.K H1 l xs) (q : R (ItzN X.K ls) H1) :
    wpAny (model X.prog X.w) X.A (call (.type "zip") (ls.map fun l => Value.ref l.2)) (fun v s1 => wpAny (model X.prog X.w) X.A (pyIter v) (PIE X pins σ tg R) X.xe s1) X.xe s2 := by
  have hl2 : ∀ l ∈ ls, ∃ items, IsSq s2.heap l items := fun l h => by
    obtain ⟨xs, hq⟩ := hl l h
    obtain ⟨its, _, p⟩ := sqk_is I2 hq
    exact ⟨_, p⟩
  refine call_zipN hl2 hn fun h' N => ?_
  obtain ⟨hz, hTI, ⟨vs, hv, hTO⟩, hi, hsz, hk⟩ := N
  have lt : ∀ l ∈ ls, l.2 < s2.heap.objs.size := fun l h => by
    obtain ⟨_, p⟩ := hl2 l h
    exact p.lt
  have D : Apart (s2.heap.objs.size + ls.length + 2) (s2.heap.objs.size + ls.length) (s2.heap.objs.size + ls.length + 1) s2.heap.objs.size ls.length ls := by
    generalize s2.heap.objs.size = B at lt
    exact ⟨by omega, by omega, by omega, fun k h => by omega, fun k h => by omega, fun k h => by omega, fun l h => Nat.ne_of_lt (Nat.lt_of_lt_of_le (lt l h) (by omega)), fun l h => Nat.ne_of_lt (Nat.lt_of_lt_of_le (lt l h) (by omega)), fun l h k hk => Nat.ne_of_lt (Nat.lt_of_lt_of_le (lt l h) (by omega))⟩
  have st : Tn (s2.heap.objs.size + ls.length + 2) (s2.heap.objs.size + ls.length) (s2.heap.objs.size + ls.length + 1) s2.heap.objs.size ls 0 h' := ⟨.none, false, vs, hz, .inl rfl, hTI, hv, hTO, hi⟩
  refine (turn_zipN (P := X.prog) (w := X.w) (K := X.K) ht D hn.1 hn.2).self _ 0 { s2 with heap := h' } _ _ st ?_
  have I3 : Inv X pins σ H1 { s2 with heap := h' } := I2.kept (t' := s2.toks) hk
  refine ⟨_, _, _, _, H1, rfl, I3, turn_zipN ht D hn.1 hn.2, st, fun c hcm => ?_, q⟩
  have hle : s2.heap.objs.size ≤ c := by
    rcases mem_fp hcm with rfl | rfl | rfl | ⟨k, _, rfl⟩
    · exact Nat.le_trans (Nat.le_add_right _ _) (Nat.le_add_right _ _)
    · exact Nat.le_add_right _ _
    · exact Nat.le_trans (Nat.le_add_right _ _) (Nat.le_add_right _ _)
    · exact Nat.le_add_right _ _
  exact I2.fpOk hle (I2.hok.fresh hle)
/-! ### zip( *xs): a list of lists -/
def iZipN (K : PySem.W.Frag) (te : TE) : TI := fun σ H R => te σ H fun v H1 => ∃ (a : Addr) (ls : List Addr), v = .ref a ∧ SqL K H1 a (ls.map V.ref) ∧ (0 < ls.length ∧ ls.length ≤ 8) ∧ (∀ l ∈ ls, ∃ xs, SqL K H1 l xs) ∧ R (ItzN K (ls.map fun l => (true, l))) H1
theorem vals_refs : ∀ {ls : List Addr} {us : List Value}, Vals (ls.map V.ref) us → us = ls.map Value.ref
  | [], _, .nil => rfl
  | l :: r, _, .cons a q => by
    have e : _ = Value.ref l := a
    rw [vals_refs q, e]
    rfl
theorem pi_zipN {X : Cx} {e : Expr} {te : TE} {p sp pos tpos : Pos} {x : Str} (hg : Gl X "zip") (hm : X.mg "zip" = none) (he : PE X e te) (hst : starEach [.Starred e sp] X.env = [(true, eval e X.env)] := by rfl) :
    PI X (.Name x tpos) (.Call (.Name "zip" p) [.Starred e sp] [] pos) (iZipN X.K te) := by
  refine ⟨fun pins s σ H R I h => ?_⟩
  refine wpAny_Call_Name_kw (ld_blt I hg hm PyProof.Rows.boot_zip ?_)
  rw [hst]
  refine PySem.W.ks_call (P := fun _ => True) rfl (fun h _ => ⟨.machine, .inr (.inl rfl), PySem.W.Looks.of_pure rfl⟩) (PySem.W.ks_lone (thn (he.run pins s σ H _ I h) fun v s1 ⟨y, H1, I1, ry, a, ls, ey, hls, hn, hl, q⟩ => ?_))
  subst ey
  obtain rfl : v = Value.ref a := ry
  refine StX.star_lst I1 hls fun us s2 I2 rv => ⟨True.intro, ?_⟩
  obtain rfl := vals_refs rv
  have e : ls.map Value.ref = (ls.map fun l => ((true, l) : Kd)).map fun l => Value.ref l.2 := by rw [List.map_map]; rfl
  show wpAny _ _ (call (.type "zip") (ls.map Value.ref)) _ _ _
  rw [e]
  refine zip_made True.intro I2 (by rw [List.length_map]; exact hn) (fun l h => ?_) q
  obtain ⟨l', h', rfl⟩ := List.mem_map.mp h
  exact hl l' h'
/-! ### zip(x, y): each a list or a tuple -/
def iZip2 (K : PySem.W.Frag) (ta : TA) : TI := fun σ H R => ta σ H fun vs H1 => ∃ l1 l2 : Kd, vs = [.ref l1.2, .ref l2.2] ∧ (∃ xs, SqK K H1 l1 xs) ∧ (∃ ys, SqK K H1 l2 ys) ∧ R (ItzN K [l1, l2]) H1
theorem pi_zip2 {X : Cx} {e e2 : Expr} {ta : TA} {p pos tpos : Pos} {elts : List Expr} {kk : Nat} (hg : Gl X "zip") (hm : X.mg "zip" = none) (ha : PA X [e, e2] ta)
    (hs : starEach [e, e2] X.env = (false, eval e X.env) :: starEach [e2] X.env := by rfl) (hpl : (backTo pos (starEach [e2] X.env)).any (·.1) = false := by rfl) :
    PI X (.Tuple elts kk tpos) (.Call (.Name "zip" p) [e, e2] [] pos) (iZip2 X.K ta) := by
  refine ⟨fun pins s σ H R I h => ?_⟩
  refine Call_ (ld_blt I hg hm PyProof.Rows.boot_zip (PyProof.Rows.callWith_type1 (thn (ha.run pos pins s σ H _ I h) fun us s1 ⟨vs, H1, I1, r1, q1⟩ => ?_) hs hpl))
  obtain ⟨l1, l2, ex, h1, h2, q⟩ := q1
  subst ex
  cases r1 with
  | cons r rr =>
    cases rr with
    | cons r' rr =>
      cases rr
      cases r
      cases r'
      refine zip_made (ls := [l1, l2]) True.intro I1 ⟨Nat.succ_pos _, (by decide : 2 ≤ 8)⟩ (fun l h => ?_) q
      rcases List.mem_cons.mp h with rfl | h
      · exact h1
      rcases List.mem_cons.mp h with rfl | h
      · exact h2
      · cases h
/-- a comprehension over it, of lists of one length m -/
theorem lc_zipK {K : PySem.W.Frag} {ls : List Kd} {xss : List (List V)} {m : Nat} {g : TG} {tt : TT} {te : TE} {vs : List Nat} {σ : L2.St} {H1 : Hp} {D : Addr} {Qd : Hp → Prop} (hn : 0 < ls.length) (hlen : xss.length = ls.length) (hm : ∀ xs ∈ xss, xs.length = m) (Pv : Nat → Hp → Prop) (h0 : Pv 0 (upd H1 D (.lst [])))
    (hq : ∀ i H, Pv i H → ∀ (k : Nat) l xs, ls[k]? = some l → xss[k]? = some xs → SqK K H l xs)
    (hs : ∀ i (ys : List V) (T : Addr) H, i < m → (∀ (k : Nat) xs, xss[k]? = some xs → xs[i]? = ys[k]?) → ys.length = ls.length → Pv i H → H T = none → g (.ref T) (wipe σ vs) (upd H T (.tup ys)) fun σ2 H2 => wipe σ2 vs = wipe σ vs ∧ tt σ2 H2 fun b H3 =>
      if b = true then te σ2 H3 fun y H4 => ∃ acc, H4 D = some (.lst acc) ∧ acc.length < sizeLine ∧ Pv (i + 1) (upd H4 D (.lst (acc ++ [y]))) else Pv (i + 1) H3) (hd : ∀ H, Pv m H → Qd H) :
    ∃ W : Nat → Nat → Hp → Prop, (∃ m, W 0 m (upd H1 D (.lst []))) ∧ ∀ i m H, W i m H →
      ((ItzN K ls).stop i H ∧ Qd H) ∨ ((ItzN K ls).go i H ∧ ∃ Nx : Hp → Prop, (∀ H', Nx H' → ∃ m', m' < m ∧ W (i + 1) m' H') ∧ ∀ x H', (ItzN K ls).yld i H x H' → g x (wipe σ vs) H' fun σ2 H2 => wipe σ2 vs = wipe σ vs ∧ tt σ2 H2 fun b H3 =>
        if b = true then te σ2 H3 fun y H4 => ∃ acc, H4 D = some (.lst acc) ∧ acc.length < sizeLine ∧ Nx (upd H4 D (.lst (acc ++ [y]))) else Nx H3) := by
  refine ⟨fun i n H => n = m - i ∧ i ≤ m ∧ Pv i H, ⟨m, by simp, Nat.zero_le _, h0⟩, ?_⟩
  rintro i n H ⟨rfl, hi, p⟩
  have q := hq i H p
  by_cases hlt : i < m
  · refine .inr ⟨fun l h => ?_, Pv (i + 1), fun H' p' => ⟨m - (i + 1), by omega, rfl, hlt, p'⟩, fun x H' y => ?_⟩
    · obtain ⟨k, hk, e⟩ := List.getElem_of_mem h
      have hk2 : k < xss.length := by omega
      refine ⟨xss[k], xss[k][i]'(by rw [hm _ (List.getElem_mem hk2)]; exact hlt), q k l _ (by rw [List.getElem?_eq_getElem hk, e]) (List.getElem?_eq_getElem hk2), ?_⟩
      rw [List.getElem?_eq_getElem]
    · obtain ⟨T, ys, rfl, nT, rfl, hyl, hy⟩ := y
      refine hs i ys T H hlt (fun k xs e => ?_) hyl p nT
      have hk : k < ls.length := by rw [← hlen]; exact (List.getElem?_eq_some_iff.mp e).1
      exact hy k _ xs (List.getElem?_eq_getElem hk) (q k _ xs (List.getElem?_eq_getElem hk) e)
  · have e : i = m := by omega
    subst e
    have hk2 : 0 < xss.length := by omega
    exact .inl ⟨⟨_, _, List.getElem?_eq_getElem hn, q 0 _ _ (List.getElem?_eq_getElem hn) (List.getElem?_eq_getElem hk2), by rw [hm _ (List.getElem_mem hk2)]; exact Nat.le_refl _⟩, hd H p⟩
theorem lc_zip2 {K : PySem.W.Frag} {l1 l2 : Kd} {xs ys : List V} {g : TG} {tt : TT} {te : TE} {vs : List Nat} {σ : L2.St} {H1 : Hp} {D : Addr} {Qd : Hp → Prop} (hl : xs.length = ys.length) (Pv : Nat → Hp → Prop) (h0 : Pv 0 (upd H1 D (.lst []))) (hq : ∀ i H, Pv i H → SqK K H l1 xs ∧ SqK K H l2 ys)
    (hs : ∀ i x y T H, xs[i]? = some x → ys[i]? = some y → Pv i H → H T = none → g (.ref T) (wipe σ vs) (upd H T (.tup [x, y])) fun σ2 H2 => wipe σ2 vs = wipe σ vs ∧ tt σ2 H2 fun b H3 =>
      if b = true then te σ2 H3 fun y H4 => ∃ acc, H4 D = some (.lst acc) ∧ acc.length < sizeLine ∧ Pv (i + 1) (upd H4 D (.lst (acc ++ [y]))) else Pv (i + 1) H3) (hd : ∀ H, Pv xs.length H → Qd H) :
    ∃ W : Nat → Nat → Hp → Prop, (∃ m, W 0 m (upd H1 D (.lst []))) ∧ ∀ i m H, W i m H →
      ((ItzN K [l1, l2]).stop i H ∧ Qd H) ∨ ((ItzN K [l1, l2]).go i H ∧ ∃ Nx : Hp → Prop, (∀ H', Nx H' → ∃ m', m' < m ∧ W (i + 1) m' H') ∧ ∀ x H', (ItzN K [l1, l2]).yld i H x H' → g x (wipe σ vs) H' fun σ2 H2 => wipe σ2 vs = wipe σ vs ∧ tt σ2 H2 fun b H3 =>
        if b = true then te σ2 H3 fun y H4 => ∃ acc, H4 D = some (.lst acc) ∧ acc.length < sizeLine ∧ Nx (upd H4 D (.lst (acc ++ [y]))) else Nx H3) := by
  refine lc_zipK (xss := [xs, ys]) (m := xs.length) (Nat.succ_pos _) rfl (fun z h => ?_) Pv h0 (fun i H p k l z e e2 => ?_) (fun i zs T H hi hz hzl p nT => ?_) hd
  · rcases List.mem_cons.mp h with rfl | h
    · rfl
    rcases List.mem_cons.mp h with rfl | h
    · exact hl.symm
    · cases h
  · match k, e, e2 with
    | 0, e, e2 =>
      obtain rfl := Option.some.inj e
      obtain rfl := Option.some.inj e2
      exact (hq i H p).1
    | 1, e, e2 =>
      obtain rfl := Option.some.inj e
      obtain rfl := Option.some.inj e2
      exact (hq i H p).2
    | n + 2, e, e2 => simp at e
  · have hi2 : i < ys.length := by omega
    have e0 := hz 0 xs rfl
    have e1 := hz 1 ys rfl
    match zs, hzl, e0, e1 with
    | [x, y], _, e0, e1 => exact hs i x y T H e0 e1 p nT
end ZN
set_option maxHeartbeats 8000000
set_option autoImplicit false
namespace Onp
open PySem PySem.Spec PyProof.Rows L2 HotX L2H LamX
/-! ### marks as texts -/
def idm (z : Str) : Nat := makingL.idxOf z
theorem idm_mkn : ∀ i : Fin 7, idm (mkn i) = i := by decide +kernel
def bhd (x y : Str) : Str := mkn (max (idm x) (idm y))
theorem bhd_eq {i j : Nat} (hi : i < 7) (hj : j < 7) : bhd (mkn i) (mkn j) = mkn (max i j) := by
  unfold bhd
  rw [show idm (mkn i) = i from idm_mkn ⟨i, hi⟩, show idm (mkn j) = j from idm_mkn ⟨j, hj⟩]
theorem bhd_in {x y : Str} (hx : x ∈ marksL) (hy : y ∈ marksL) : bhd x y ∈ marksL := by
  obtain ⟨i, hi, rfl⟩ := in_mkn hx
  obtain ⟨j, hj, rfl⟩ := in_mkn hy
  rw [bhd_eq hi hj]
  exact mark_in ⟨max i j, by omega⟩
def idb (z : Str) : Nat := marksL.idxOf z
theorem idb_mbn : ∀ i : Fin 7, idb (mbn i) = i := by decide +kernel
def bestS (zs : List Str) : Str := mbn (bst (zs.map idb))
theorem bestS_of {is : List Nat} (h : ∀ i ∈ is, i < 7) : bestS (is.map mbn) = mbn (bst is) := by
  unfold bestS
  rw [List.map_map]
  congr 2
  conv => rhs; rw [← List.map_id is]
  exact List.map_congr_left fun i hi => idb_mbn ⟨i, h i hi⟩
theorem bestS_in (zs : List Str) : bestS zs ∈ marksL := mbn_mem ⟨_, bst_le _⟩
section
variable {K : PySem.W.Frag} {H : Hp} {Q : VK} {E : XK} {C a : Addr}
theorem use_behind {z1 z2 : Str} (h1 : z1 ∈ marksL) (h2 : z2 ∈ marksL) (q : Q (.str (bhd z1 z2)) H) : spBehind C [.str z1, .str z2] H Q E := by
  refine ⟨z1, z2, rfl, fun i j hi hj e1 e2 => ?_, fun n => ?_⟩
  · rw [← bhd_eq hi hj, ← e1, ← e2]
    exact q
  · rcases n with n | n
    · exact absurd h1 n
    · exact absurd h2 n
theorem use_best {zs : List Str} (ha : SqA K H a (zs.map V.str)) (hz : ∀ z ∈ zs, z ∈ marksL) (q : Q (.str (bestS zs)) H) : spBest K C [.ref a] H Q E := by
  refine ⟨a, zs, rfl, ha, fun is hi e => ?_, fun z h n => absurd (hz z h) n⟩
  rw [← bestS_of hi, ← e]
  exact q
theorem use_two {z1 z2 : Str} (h1 : z1 ∈ marksL) (h2 : z2 ∈ marksL) (q : ∀ H', Same H H' → Q (.str (bhd z1 z2)) H') : spTwoM [.str z1, .str z2] H Q E := by
  obtain ⟨i, hi, rfl⟩ := in_mkn h1
  obtain ⟨j, hj, rfl⟩ := in_mkn h2
  rw [bhd_eq hi hj] at q
  exact ⟨i, j, hi, hj, rfl, q⟩
theorem use_lbest {zs : List Str} (ha : SqL K H a (zs.map V.str)) (hz : ∀ z ∈ zs, z ∈ marksL) (hl : zs.length ≤ 100) (q : ∀ H', Same H H' → Q (.str (bestS zs)) H') : spLBest K [.ref a] H Q E := by
  obtain ⟨is, hi, rfl⟩ := idx_of zs hz
  rw [bestS_of hi] at q
  exact ⟨a, is, rfl, ha, hi, by rw [List.length_map] at hl; exact hl, q⟩
end
/-! ### tables -/
abbrev Tbl := List (List Str)
def cel (T : Tbl) (i j : Nat) : Str := (T.getD i []).getD j ""
def colS (row : List Str) (T : Tbl) (n j : Nat) : List Str := (List.range n).map fun k => bhd (row.getD k "") (cel T k j)
def rowT (row : List Str) (T : Tbl) (n : Nat) : List Str := (List.range n).map fun j => bestS (colS row T n j)
def timesT (A B : Tbl) (n : Nat) : Tbl := A.map fun row => rowT row B n
def OkR (n : Nat) (row : List Str) : Prop := row.length = n ∧ ∀ z ∈ row, z ∈ marksL
def OkT (n : Nat) (T : Tbl) : Prop := T.length = n ∧ ∀ row ∈ T, OkR n row
theorem okr_at {n k : Nat} {row : List Str} (h : OkR n row) (hk : k < n) : row[k]? = some (row.getD k "") ∧ row.getD k "" ∈ marksL := by
  have hk2 : k < row.length := by rw [h.1]; exact hk
  have e : row.getD k "" = row[k] := by simp [List.getD, hk2]
  rw [e]
  exact ⟨List.getElem?_eq_getElem hk2, h.2 _ (List.getElem_mem hk2)⟩
theorem okt_at {n k : Nat} {T : Tbl} (h : OkT n T) (hk : k < n) : T[k]? = some (T.getD k []) ∧ OkR n (T.getD k []) := by
  have hk2 : k < T.length := by rw [h.1]; exact hk
  have e : T.getD k [] = T[k] := by simp [List.getD, hk2]
  rw [e]
  exact ⟨List.getElem?_eq_getElem hk2, h.2 _ (List.getElem_mem hk2)⟩
theorem cel_at {n i j : Nat} {T : Tbl} (h : OkT n T) (hi : i < n) (hj : j < n) : (T.getD i [])[j]? = some (cel T i j) ∧ cel T i j ∈ marksL := okr_at (okt_at h hi).2 hj
theorem colS_in {n j : Nat} {row : List Str} {T : Tbl} (hr : OkR n row) (h : OkT n T) (hj : j < n) : ∀ z ∈ colS row T n j, z ∈ marksL := fun z hz => by
  obtain ⟨k, hk, rfl⟩ := List.mem_map.mp hz
  have hk := List.mem_range.mp hk
  exact bhd_in (okr_at hr hk).2 (cel_at h hk hj).2
theorem rowT_ok {n : Nat} {row : List Str} {T : Tbl} : OkR n (rowT row T n) := ⟨by simp [rowT], fun z hz => by
  obtain ⟨j, _, rfl⟩ := List.mem_map.mp hz
  exact bestS_in _⟩
theorem timesT_ok {n : Nat} {A B : Tbl} (h : A.length = n) : OkT n (timesT A B n) := ⟨by simp [timesT, h], fun row hr => by
  obtain ⟨r, _, rfl⟩ := List.mem_map.mp hr
  exact rowT_ok⟩
/-- a table in the heap: a tuple of tuples of texts -/
def Tab (H : Hp) (a : Addr) (T : Tbl) : Prop := ∃ rs : List Addr, H a = some (.tup (rs.map V.ref)) ∧ rs.length = T.length ∧ ∀ (k : Nat) r row, rs[k]? = some r → T[k]? = some row → H r = some (.tup (row.map V.str))
theorem Tab.same {H H' : Hp} {a : Addr} {T : Tbl} (x : Tab H a T) (s : Same H H') : Tab H' a T := by
  obtain ⟨rs, h1, h2, h3⟩ := x
  exact ⟨rs, s _ _ h1, h2, fun k r row e e2 => s _ _ (h3 k r row e e2)⟩
theorem Tab.keep {H H' : Hp} {a : Addr} {T : Tbl} {g : Bid} (x : Tab H a T) (B : Bg H g) (kp : Keep g.b H H') : Tab H' a T := by
  obtain ⟨rs, h1, h2, h3⟩ := x
  obtain ⟨i, r, s, c, hb, _⟩ := B
  have ne : ∀ {p : Addr} {xs : List V}, H p = some (.tup xs) → p ≠ g.b := fun {p xs} e q => by
    rw [q, hb] at e
    cases e
  exact ⟨rs, kp _ _ (ne h1) h1, h2, fun k r row e e2 => kp _ _ (ne (h3 k r row e e2)) (h3 k r row e e2)⟩
theorem Tab.put {H : Hp} {a D : Addr} {T : Tbl} {xs ys : List V} (x : Tab H a T) (h : H D = some (.lst xs)) : Tab (upd H D (.lst ys)) a T := by
  obtain ⟨rs, h1, h2, h3⟩ := x
  have ne : ∀ {p : Addr} {zs : List V}, H p = some (.tup zs) → p ≠ D := fun {p zs} e q => by
    rw [q, h] at e
    cases e
  exact ⟨rs, by rw [upd_ne (ne h1)]; exact h1, h2, fun k r row e e2 => by rw [upd_ne (ne (h3 k r row e e2))]; exact h3 k r row e e2⟩
/-- growing a list that is newer than H -/
theorem same_put {H H' : Hp} {D : Addr} {o : HO} (nD : H D = none) (s : Same H H') : Same H (upd H' D o) := fun b x e => by
  rw [upd_ne (ne_of_none e nD)]
  exact s b x e
theorem dp_strs {K : PySem.W.Frag} {H : Hp} : ∀ zs : List Str, DpAll K H (zs.map V.str) (zs.map PyData.str)
  | [] => .nil
  | z :: r => .cons (.str z) (dp_strs r)
theorem dp_rows {K : PySem.W.Frag} {H : Hp} : ∀ (rs : List Addr) (T : Tbl), rs.length = T.length → (∀ (k : Nat) r row, rs[k]? = some r → T[k]? = some row → H r = some (.tup (row.map V.str))) → DpAll K H (rs.map V.ref) (T.map fun row => PyData.tuple (row.map PyData.str))
  | [], [], _, _ => .nil
  | r :: rs, row :: T, hl, h => .cons (.tup (SqT.of (h 0 r row rfl rfl)) (dp_strs row)) (dp_rows rs T (by simpa using hl) fun k r' row' e e2 => h (k + 1) r' row' e e2)
def tblD (T : Tbl) : PyData := .tuple (T.map fun row => PyData.tuple (row.map PyData.str))
theorem Tab.dp {K : PySem.W.Frag} {H : Hp} {a : Addr} {T : Tbl} (x : Tab H a T) : Dp K H (.ref a) (tblD T) := by
  obtain ⟨rs, h1, h2, h3⟩ := x
  exact .tup (SqT.of h1) (dp_rows rs T h2 h3)
theorem lvl_tbl {n : Nat} {T : Tbl} (h : OkT n T) (hn : n ≤ 1000) : Lvl 2 (tblD T) := by
  refine ⟨by rw [List.length_map, h.1]; exact hn, fun d hd => ?_⟩
  obtain ⟨row, hr, rfl⟩ := List.mem_map.mp hd
  refine ⟨by rw [List.length_map, (h.2 row hr).1]; exact hn, fun d2 hd2 => ?_⟩
  obtain ⟨z, _, rfl⟩ := List.mem_map.mp hd2
  exact True.intro
theorem growS {H2 H' : Hp} {D : Addr} {zs : List Str} {i : Nat} {f : Str → Str} {z : Str} (nD : H2 D = none) (hz : zs[i]? = some z) (hl : zs.length ≤ 1000) (sm : Same H2 H') (hD : H' D = some (.lst (((zs.take i).map f).map V.str))) :
    ∃ acc, H' D = some (.lst acc) ∧ acc.length < sizeLine ∧ Same H2 (upd H' D (.lst (acc ++ [.str (f z)]))) ∧ (upd H' D (.lst (acc ++ [.str (f z)]))) D = some (.lst (((zs.take (i + 1)).map f).map V.str)) := by
  refine ⟨_, hD, ?_, same_put nD sm, ?_⟩
  · rw [List.length_map, List.length_map, List.length_take]
    exact Nat.lt_of_le_of_lt (Nat.min_le_right _ _) (small1000 hl)
  · rw [upd_same, take_more hz, List.map_append, List.map_append]
    rfl
/-- a list of texts that grows by the turn -/
theorem growF {H2 H' : Hp} {D : Addr} {i : Nat} {f : Nat → Str} (nD : H2 D = none) (hl : i ≤ 1000) (sm : Same H2 H') (hD : H' D = some (.lst (((List.range i).map f).map V.str))) :
    ∃ acc, H' D = some (.lst acc) ∧ acc.length < sizeLine ∧ Same H2 (upd H' D (.lst (acc ++ [.str (f i)]))) ∧ (upd H' D (.lst (acc ++ [.str (f i)]))) D = some (.lst (((List.range (i + 1)).map f).map V.str)) := by
  refine ⟨_, hD, ?_, same_put nD sm, ?_⟩
  · rw [List.length_map, List.length_map, List.length_range]
    exact small1000 hl
  · rw [upd_same, List.range_succ, List.map_append, List.map_append]
    rfl
/-- a list of new objects that grows by the turn -/
def Grown (H : Hp) (D : Addr) (ls : List Addr) (i : Nat) (P : Nat → HO → Prop) : Prop := ls.length = i ∧ H D = some (.lst (ls.map V.ref)) ∧ ∀ (k : Nat) l, ls[k]? = some l → l ≠ D ∧ ∃ o, H l = some o ∧ P k o
theorem Grown.nil {H : Hp} {D : Addr} {P : Nat → HO → Prop} (h : H D = some (.lst [])) : Grown H D [] 0 P := ⟨rfl, h, fun k l e => by simp at e⟩
theorem Grown.more {H H' : Hp} {D l : Addr} {ls : List Addr} {i : Nat} {P : Nat → HO → Prop} {o : HO} (x : Grown H D ls i P) (s : Same H H') (hi : i ≤ 1000) (nl : l ≠ D) (hl : H' l = some o) (p : P i o) :
    ∃ acc, H' D = some (.lst acc) ∧ acc.length < sizeLine ∧ Grown (upd H' D (.lst (acc ++ [.ref l]))) D (ls ++ [l]) (i + 1) P := by
  obtain ⟨h1, h2, h3⟩ := x
  refine ⟨_, s _ _ h2, by rw [List.length_map, h1]; exact small1000 hi, by rw [List.length_append, h1]; rfl, by rw [upd_same, List.map_append]; rfl, fun k m e => ?_⟩
  rcases Nat.lt_or_ge k ls.length with q | q
  · rw [List.getElem?_append_left q] at e
    obtain ⟨n1, o1, e1, p1⟩ := h3 k m e
    exact ⟨n1, o1, by rw [upd_ne n1]; exact s _ _ e1, p1⟩
  · rw [List.getElem?_append_right q] at e
    have hk : k - ls.length = 0 := by
      rcases Nat.eq_zero_or_pos (k - ls.length) with z | z
      · exact z
      · rw [List.getElem?_eq_none (by simp only [List.length_cons, List.length_nil]; omega)] at e
        cases e
    rw [hk] at e
    obtain rfl := Option.some.inj e
    have ek : k = i := by omega
    subst ek
    exact ⟨nl, o, by rw [upd_ne nl]; exact hl, p⟩
end Onp
set_option maxHeartbeats 8000000
set_option autoImplicit false
namespace Onp
open PySem PySem.Spec PyProof.Rows L2 HotX L2H LamX
abbrev sRow : Stmt := topS 34
def lcScope : Expr → Scope
  | .ListComp _ _ sc _ => sc
  | _ => defScope sRow
def asgVal : Stmt → Expr
  | .Assign _ v _ => v
  | .Return (some v) _ => v
  | _ => .Name "" ⟨0, 0, 0, 0⟩
def NR : List Str := ["row", "table", "by_rooms", "mark", "marks", "other"]
theorem scRow : FnScope NR ["row", "table"] (defScope sRow) := ⟨rfl, rfl, rfl, by decide +kernel, rfl, by decide +kernel, by decide +kernel⟩
def spRow (K : PySem.W.Frag) : Sp := fun vs H Q _ => ∃ (l : ZN.Kd) (b : Addr) (row : List Str) (T : Tbl) (n : Nat), vs = [.ref l.2, .ref b] ∧ ZN.SqK K H l (row.map V.str) ∧ Tab H b T ∧ OkR n row ∧ OkT n T ∧ (1 ≤ n ∧ n ≤ 8) ∧
  ∀ H' p, Same H H' → H' p = some (.tup ((rowT row T n).map V.str)) → Q (.ref p) H'
def cRow (row : List Str) (tab : Tbl) (k : Nat) : List Str := (tab.getD k []).map (bhd (row.getD k ""))
theorem yes1 {σ : L2.St} {H : Hp} {a b : Hp → Prop} (h : a H) : tYes σ H fun c H3 => if c = true then a H3 else b H3 := by
  show if true = true then a H else b H
  rw [if_pos rfl]
  exact h
theorem sqk_same {K : PySem.W.Frag} {H H' : Hp} {l : ZN.Kd} {xs : List V} (e : Same H H') (h : ZN.SqK K H l xs) : ZN.SqK K H' l xs := by
  obtain ⟨kd, l⟩ := l
  cases kd
  · exact same_seqT e h
  · exact e.seq h
section
variable {P : Program} {w : World} {K : PySem.W.Frag} {mg : Str → Option Value} {base : Heap} {tM tK : Addr}
theorem ok_row {f fN fBh fBe C fI : Addr} {fd fdN fdBh fdBe fdI : FuncData} {k : Nat} (F : Fun K "row_times" "row_times" sRow f fd) (Nm : Fns K mg fN fdN "need_mark" sNeedM ["mark"]) (Bh : Fns K mg fBh fdBh "behind" sBehind ["one", "other"]) (Be : Fns K mg fBe fdBe "best" sBest ["marks"])
    (B : BMk K mg C fI fdI) (T : TupM K mg tM tK) (mm : mg "max" = none) (mz : mg "zip" = none) (mt : mg "tuple" = none) : FnOk P w K mg base CX0 (k + 5) f fd ["row", "table"] (spRow K) := by
  have GBh : FnOk P w K mg base (L2N.CX P w) (k + 4) fBh fdBh ["one", "other"] (spBehind C) := ok_behind Bh.F Nm.F Nm.b Nm.g B T mm
  have GBe : FnOk P w K mg base (L2N.CX P w) (k + 4) fBe fdBe ["marks"] (spBest K C) := ok_best Be.F Nm.F Nm.b Nm.g B T
  refine F.ok scRow (fun vs H Q E h => ?_) (fun cdv A outer s H vs Q E hr h => ?_)
  · obtain ⟨a, b, r, t, n, rfl, _⟩ := h
    rfl
  · obtain ⟨l, b, row, tab, n, rfl, hrow, htab, okr, okt, hn, q⟩ := h
    refine ⟨_, pss_cons (ps_setLc (i := 2) (own := [("mark", 3), ("marks", 4)]) (g := gTup K 2 (gCons (gName 3) (gCons (gName 4) gNil))) (tt := tYes) (te := tLc (iTup K (tVar 4)) (gName 5) tYes (tCall (spBehind C) [] E0 (tCons (tVar 3) (tCons (tVar 5) tNil))) [5]) rfl scRow.nd rfl rfl (sw_true rfl rfl rfl (by decide +kernel))
        (ZN.pi_zip2 (by rfl) mz (pa_cons (pv 0) (pa_cons (pv 1) pa_nil))) (blkOk_by (own := [("mark", 3), ("marks", 4)]) (N := NR) (sc := defScope sRow) (by decide +kernel))
        (fun _ _ _ _ _ => pg_tup (n := 2) rfl (pgs_cons (pg_name (i := 3) scRow.nd rfl (.inr rfl) (.inl rfl)) (pgs_cons (pg_name (i := 4) scRow.nd rfl (.inl rfl) (.inr rfl)) pgs_nil))) (fun _ _ _ _ _ => pts_nil)
        (fun _ _ _ _ _ => pe_lc (own := [("other", 5)]) (g := gName 5) (tt := tYes) (te := tCall (spBehind C) [] E0 (tCons (tVar 3) (tCons (tVar 5) tNil))) rfl scRow.nd (pi_tup (pv 4)) (blkOk_by (own := [("other", 5)]) (N := NR) (sc := lcScope (asgVal ((defBody sRow).getD 0 (.Pass ⟨0, 0, 0, 0⟩)))) (by decide +kernel))
          (fun _ _ _ _ _ => pg_name (i := 5) scRow.nd rfl (Or.inl rfl)) (fun _ _ _ _ _ => pts_nil) (fun _ _ _ _ _ => pe_call GBh hr (by rfl) Bh.g Bh.F.kp Bh.b .nil passN (pa_cons (pv 3) (pa_cons (pv 5) pa_nil)))))
      (pss_one (ps_ret (pe_callTy call_tuple_of (by rfl) mt (by decide +kernel) (pa_cons
        (pe_lc (own := [("marks", 4)]) (g := gName 4) (tt := tYes) (te := tCall (spBest K C) [] E0 (tCons (tVar 4) tNil)) rfl scRow.nd (ZN.pi_zipN (by rfl) mz (pv 2)) (blkOk_by (own := [("marks", 4)]) (N := NR) (sc := defScope sRow) (by decide +kernel))
          (fun _ _ _ _ _ => pg_name (i := 4) scRow.nd rfl (Or.inl rfl)) (fun _ _ _ _ _ => pts_nil) (fun _ _ _ _ _ => pe_call GBe hr (by rfl) Be.g Be.F.kp Be.b .nil passN (pa_cons (pv 4) pa_nil))) pa_nil)))), ?_⟩
    obtain ⟨rs, hb, hrl, hrs⟩ := id htab
    have hn2 := hn.2
    refine ⟨_, rfl, _, rfl, l, (false, b), rfl, ⟨_, hrow⟩, ⟨_, SqT.of hb⟩, fun D nD => ?_⟩
    refine ZN.lc_zip2 (xs := row.map V.str) (ys := rs.map V.ref) (by rw [List.length_map, List.length_map, hrl, okr.1, okt.1]) (fun i H' => Same H H' ∧ ∃ ls, Grown H' D ls i fun k o => o = .lst ((cRow row tab k).map V.str))
      ⟨same_upd nD, [], Grown.nil upd_same⟩ (fun i H' ⟨sm, _⟩ => ⟨sqk_same sm hrow, SqT.of (sm _ _ hb)⟩) ?_ ?_
    · rintro i x y t Hx hx hy ⟨sm, ls, gr⟩ nt
      obtain ⟨m, hm, rfl⟩ := at_nm hx
      have hi : i < n := by rw [← okr.1]; exact (List.getElem?_eq_some_iff.mp hm).1
      have e1 := (okr_at okr hi)
      rw [hm] at e1
      obtain ⟨e1, hmm⟩ := e1
      have e1 := Option.some.inj e1
      rw [List.getElem?_map] at hy
      obtain ⟨r, hr2, rfl⟩ : ∃ r, rs[i]? = some r ∧ y = .ref r := by
        cases q : rs[i]? with
        | none => rw [q] at hy; cases hy
        | some r => rw [q] at hy; exact ⟨r, rfl, (Option.some.inj hy).symm⟩
      have e2 := okt_at okt hi
      have hrow2 := hrs i r _ hr2 e2.1
      have st : Same Hx (upd Hx t (.tup [V.str m, .ref r])) := same_upd nt
      refine ⟨t, _, rfl, SqT.of upd_same, rfl, _, _, rfl, _, _, rfl, rfl, rfl, ?_⟩
      generalize upd Hx t (.tup [V.str m, .ref r]) = H3 at st
      refine yes1 ?_
      refine ⟨_, rfl, r, rfl, ⟨_, SqT.of (st _ _ (sm _ _ hrow2))⟩, fun D2 nD2 => ?_⟩
      refine lc_tup (K := K) (a := r) (xs := (tab.getD i []).map V.str) (fun j H' => Same H3 H' ∧ H' D2 = some (.lst ((((tab.getD i []).take j).map (bhd m)).map V.str))) ⟨same_upd nD2, upd_same⟩ (fun j H' _ ⟨sm2, _⟩ => SqT.of (sm2 _ _ (st _ _ (sm _ _ hrow2)))) (fun j x H' hx ⟨sm2, hD2⟩ => ?_) (fun H4 ⟨s34, hD2⟩ => ?_)
      · obtain ⟨z, hz, rfl⟩ := at_nm hx
        refine ⟨rfl, ?_⟩
        refine yes1 ?_
        refine ⟨_, rfl, _, rfl, ?_⟩
        simp only [tNil, List.cons_append, List.nil_append]
        refine use_behind (by rw [e1]; exact hmm) (e2.2.2 z (List.mem_of_getElem? hz)) ?_
        exact growS (f := bhd m) nD2 hz (by rw [e2.2.1]; omega) sm2 hD2
      · rw [List.length_map, List.take_length] at hD2
        have nD2D : D2 ≠ D := fun z => by
          have q := st _ _ gr.2.1
          rw [z, q] at nD2
          cases nD2
        obtain ⟨acc, a1, a2, a3⟩ := gr.more (st.trans s34) (by omega) nD2D hD2 (by rw [e1]; rfl)
        exact ⟨acc, a1, a2, same_put nD (sm.trans (st.trans s34)), _, a3⟩
    · rintro H5 ⟨s5, ls, gr⟩
      have hln : ls.length = n := by rw [gr.1, List.length_map, okr.1]
      refine ⟨_, rfl, D, ls, rfl, SqL.of gr.2.1, ⟨by omega, by omega⟩, fun l' h' => ?_, fun D3 nD3 => ?_⟩
      · obtain ⟨k, hk, e⟩ := List.getElem_of_mem h'
        obtain ⟨_, o, ho, rfl⟩ := gr.2.2 k l' (by rw [List.getElem?_eq_getElem hk, e])
        exact ⟨_, SqL.of ho⟩
      refine ZN.lc_zipK (xss := (List.range n).map fun k => (cRow row tab k).map V.str) (m := n) (by rw [List.length_map]; omega) (by rw [List.length_map, List.length_map, List.length_range, hln]) (fun xs hxs => ?_) (fun j H' => Same H5 H' ∧ H' D3 = some (.lst (((List.range j).map fun j => bestS (colS row tab n j)).map V.str)))
        ⟨same_upd nD3, upd_same⟩ (fun i H' ⟨sm, _⟩ k l' xs e e2 => ?_) (fun i ys T Hx hi hcol hyl ⟨sm, hD3⟩ nT => ?_) (fun H6 ⟨s56, hD3⟩ => ?_)
      · obtain ⟨k, hk, rfl⟩ := List.mem_map.mp hxs
        rw [List.length_map]
        unfold cRow
        rw [List.length_map]
        exact (okt_at okt (List.mem_range.mp hk)).2.1
      · rw [List.getElem?_map] at e e2
        have hk : k < n := by
          rcases Nat.lt_or_ge k n with z | z
          · exact z
          · rw [List.getElem?_eq_none (by omega)] at e
            cases e
        rw [List.getElem?_range hk] at e2
        rw [List.getElem?_eq_getElem (by omega)] at e
        obtain rfl := Option.some.inj e
        obtain rfl := Option.some.inj e2
        obtain ⟨_, o, ho, rfl⟩ := gr.2.2 k _ (List.getElem?_eq_getElem (by omega))
        exact SqL.of (sm _ _ ho)
      · have ey : ys = (colS row tab n i).map V.str := by
          rw [List.length_map, hln] at hyl
          refine List.ext_getElem? fun k => ?_
          rcases Nat.lt_or_ge k n with hk | hk
          · have e := hcol k ((cRow row tab k).map V.str) (by rw [List.getElem?_map, List.getElem?_range hk]; rfl)
            rw [← e, List.getElem?_map, List.getElem?_map]
            unfold cRow colS
            rw [List.getElem?_map, (cel_at okt hk hi).1, List.getElem?_map, List.getElem?_range hk]
            rfl
          · rw [List.getElem?_eq_none (by omega), List.getElem?_eq_none (by rw [List.length_map]; simp only [colS, List.length_map, List.length_range]; omega)]
        subst ey
        have st : Same Hx (upd Hx T (.tup ((colS row tab n i).map V.str))) := same_upd nT
        refine ⟨rfl, ?_⟩
        refine yes1 ?_
        refine ⟨_, rfl, ?_⟩
        simp only [tNil, List.cons_append, List.nil_append]
        refine use_best (.inr (SqT.of upd_same)) (colS_in okr okt hi) ?_
        exact growF (f := fun j => bestS (colS row tab n j)) nD3 (by omega) (sm.trans st) (st _ _ hD3)
      · refine ⟨D3, _, rfl, .inl ⟨SqL.of hD3, fun p np => ?_⟩⟩
        exact q _ p (s5.trans (s56.trans (same_upd np))) upd_same
end
end Onp
set_option maxHeartbeats 8000000
set_option autoImplicit false
namespace Onp
open PySem PySem.Spec PyProof.Rows L2 HotX L2H LamX
def refuse (C : Addr) (wd : Str) (H : Hp) (E : XK) : Prop := ∀ d, H d = none → E (.ref C) (some d) (upd H d (.xd [("word", .str wd)]))
theorem Grown.tab {H : Hp} {D p : Addr} {ls : List Addr} {T : Tbl} (x : Grown H D ls T.length fun k o => o = .tup ((T.getD k []).map V.str)) (np : H p = none) : Tab (upd H p (.tup (ls.map V.ref))) p T := by
  obtain ⟨h1, h2, h3⟩ := x
  refine ⟨ls, upd_same, h1, fun k r row e e2 => ?_⟩
  obtain ⟨_, o, ho, rfl⟩ := h3 k r e
  rw [upd_ne (ne_of_none ho np), ho]
  have e3 : T.getD k [] = row := by simp [List.getD, e2]
  rw [e3]
theorem times_row {A B : Tbl} {n k : Nat} (hk : k < A.length) : (timesT A B n).getD k [] = rowT (A.getD k []) B n := by
  unfold timesT
  simp [List.getD, hk]
theorem Tab.row {H : Hp} {a : Addr} {T : Tbl} {n i : Nat} {rs : List Addr} (okt : OkT n T) (hrl : rs.length = T.length) (hrs : ∀ (k : Nat) r row, rs[k]? = some r → T[k]? = some row → H r = some (.tup (row.map V.str))) {x : V} (hx : (rs.map V.ref)[i]? = some x) :
    ∃ r, i < n ∧ x = .ref r ∧ H r = some (.tup ((T.getD i []).map V.str)) ∧ OkR n (T.getD i []) := by
  rw [List.getElem?_map] at hx
  cases q : rs[i]? with
  | none => rw [q] at hx; cases hx
  | some r =>
    rw [q] at hx
    have hi : i < n := by rw [← okt.1, ← hrl]; exact (List.getElem?_eq_some_iff.mp q).1
    have e := okt_at okt hi
    exact ⟨r, hi, (Option.some.inj hx).symm, hrs i r _ q e.1, e.2⟩
end Onp
set_option maxHeartbeats 8000000
set_option autoImplicit false
namespace Onp
open PySem PySem.Spec PyProof.Rows L2 HotX L2H LamX
abbrev sLTimes : Stmt := topS 50
def NLT : List Str := ["_law_one", "_law_other", "_law_rooms", "_law_found", "_law_row", "_law_to", "_law_k"]
theorem scLTimes : FnScope NLT ["_law_one", "_law_other"] (defScope sLTimes) := ⟨rfl, rfl, rfl, by decide +kernel, rfl, by decide +kernel, by decide +kernel⟩
def RowsAt (K : PySem.W.Frag) (H : Hp) (l : ZN.Kd) (A : Tbl) : Prop := ∃ rs : List Addr, ZN.SqK K H l (rs.map V.ref) ∧ rs.length = A.length ∧ ∀ (k : Nat) r row, rs[k]? = some r → A[k]? = some row → H r = some (.tup (row.map V.str))
theorem Tab.rows {K : PySem.W.Frag} {H : Hp} {a : Addr} {T : Tbl} (x : Tab H a T) : RowsAt K H (false, a) T := by
  obtain ⟨rs, h1, h2, h3⟩ := x
  exact ⟨rs, SqT.of h1, h2, h3⟩
def spLTimes (K : PySem.W.Frag) : Sp := fun vs H Q _ => ∃ (l : ZN.Kd) (b : Addr) (A B : Tbl) (n : Nat), vs = [.ref l.2, .ref b] ∧ RowsAt K H l A ∧ Tab H b B ∧ OkT n A ∧ OkT n B ∧ (1 ≤ n ∧ n ≤ 8) ∧ ∀ H' p, Same H H' → Tab H' p (timesT A B n) → Q (.ref p) H'
theorem rgV_at {n i : Nat} {x : V} (h : (rgV 0 (n : Nat))[i]? = some x) : i < n ∧ x = .int (i : Nat) := by
  unfold rgV at h
  rw [List.getElem?_map] at h
  have hi : i < n := by
    rcases Nat.lt_or_ge i n with q | q
    · exact q
    · rw [List.getElem?_eq_none (by rw [List.length_range]; omega)] at h
      cases h
  rw [List.getElem?_range (by omega)] at h
  have e := Option.some.inj h
  exact ⟨hi, by rw [← e]; simp⟩
theorem rgV_len (n : Nat) : (rgV 0 (n : Nat)).length = n := by rw [rgV_length]; omega
theorem atI_str {row : List Str} {i : Nat} {n : Nat} (h : OkR n row) (hi : i < n) : atI (row.map V.str) (i : Nat) = some (.str (row.getD i "")) := atI_nat (by rw [List.getElem?_map, (okr_at h hi).1]; rfl)
def outSc : Scope := { kind := .function, names := [(".0", .local), ("_law_to", .cell), ("_law_best", .globalImplicit), ("_law_other", .cell), ("_law_rooms", .cell), ("_law_row", .cell)], isGenerator := false, isCoroutine := false }
def inSc : Scope := { kind := .function, names := [(".0", .local), ("_law_k", .local), ("_law_two_marks", .globalImplicit), ("_law_other", .free), ("_law_row", .free), ("_law_to", .free)], isGenerator := false, isCoroutine := false }
theorem bk2 : BlkOk NLT outSc inSc [("_law_k", 6)] := blkOk_by (by decide +kernel)
section
variable {P : Program} {w : World} {K : PySem.W.Frag} {mg : Str → Option Value} {base : Heap} {tM tK : Addr}
theorem ok_ltimes {f fA fTw fLb : Addr} {fd fdA fdTw fdLb : FuncData} {k : Nat} (F : Fun K "_law_times" "_law_times" sLTimes f fd) (Al : Fns K mg fA fdA "_law_marks_all" sAllM []) (Tw : Fns K mg fTw fdTw "_law_two_marks" sTwoM ["_law_one", "_law_other"]) (Lb : Fns K mg fLb fdLb "_law_best" sLBest ["_law_marks_here"])
    (mn : mg "min" = none) (mm : mg "max" = none) (mt : mg "tuple" = none) (ml : mg "len" = none) (mli : mg "list" = none) (mr : mg "range" = none) : FnOk P w K mg base CX0 (k + 3) f fd ["_law_one", "_law_other"] (spLTimes K) := by
  have GLb : FnOk P w K mg base CX0 (k + 2) fLb fdLb ["_law_marks_here"] (spLBest K) := ok_lbest Lb.F Al mn
  have GTw : FnOk P w K mg base CX0 (k + 2) fTw fdTw ["_law_one", "_law_other"] spTwoM := ok_twoM Tw.F mm
  refine F.ok scLTimes (fun vs H Q E h => ?_) (fun cdv A outer s H vs Q E hr h => ?_)
  · obtain ⟨l, b, _, _, _, rfl, _⟩ := h
    rfl
  · obtain ⟨l, b, A1, B1, n, rfl, ⟨rs, ha1, hrl, hrs⟩, hb, okA, okB, hn, q⟩ := h
    obtain ⟨rs2, hb1, hrl2, hrs2⟩ := id hb
    have hn2 := hn.2
    obtain ⟨kd, l⟩ := l
    cases kd
    · have ha1 : SqT K H l (rs.map V.ref) := ha1
      refine ⟨_, pss_cons (ps_set (i := 2) scLTimes.nd rfl (.inr rfl) (pe_listRg rfl (by rfl) mli (prg_1 (by rfl) mr (pe_callB call_len_seq (by rfl) ml PySem.boot_len (pa_cons (pv 0) pa_nil)))))
        (pss_cons (ps_set (i := 3) scLTimes.nd rfl (.inl rfl) (pe_lst pa_nil))
        (pss_cons (ps_for PassesOwn.never rfl (pi_tup (pv 0)) (pg_name (i := 4) scLTimes.nd rfl (.inr rfl))
          (pss_one (ps_expr (pe_bm PySem.F.plainAttrs_list PySem.F.slot_list_append PySem.F.type_list_append mt_append (pv 3) (pa_cons (pe_callTy call_tuple_of (by rfl) mt (by decide +kernel) (pa_cons
            (pe_lc (own := [("_law_to", 5)]) (g := gName 5) (tt := tYes) (te := (tCall (spLBest K) [] E0 (tCons (tLc (iList K (tVar 2)) (gName 6) tYes (tCall spTwoM [] E0 (tCons (tOp (rIxT K) (tVar 4) (tVar 6)) (tCons (tOp (rIxT K) (tOp (rIxT K) (tVar 1) (tVar 6)) (tVar 5)) tNil))) [6]) tNil))) rfl scLTimes.nd (pi_list (pv 2)) (blkOk_by (own := [("_law_to", 5)]) (N := NLT) (sc := defScope sLTimes) (by decide +kernel))
              (fun _ _ _ _ _ => pg_name (i := 5) scLTimes.nd rfl (.inr rfl) (.inl rfl)) (fun _ _ _ _ _ => pts_nil) (fun _ _ _ _ _ => pe_call GLb hr (by rfl) Lb.g Lb.F.kp Lb.b .nil pass0 (pa_cons
                (pe_lc (own := [("_law_k", 6)]) (g := gName 6) (tt := tYes) (te := (tCall spTwoM [] E0 (tCons (tOp (rIxT K) (tVar 4) (tVar 6)) (tCons (tOp (rIxT K) (tOp (rIxT K) (tVar 1) (tVar 6)) (tVar 5)) tNil)))) rfl scLTimes.nd (pi_list (pv 2)) bk2
                  (fun _ _ _ _ _ => pg_name (i := 6) scLTimes.nd rfl (.inl rfl)) (fun _ _ _ _ _ => pts_nil) (fun _ _ _ _ _ => pe_call GTw hr (by rfl) Tw.g Tw.F.kp Tw.b .nil pass0 (pa_cons (pe_ix ix_tup (pv 4) (pv 6) (fun _ _ => rfl)) (pa_cons (pe_ix ix_tup (pe_ix ix_tup (pv 1) (pv 6) (fun _ _ => rfl)) (pv 5) (fun _ _ => rfl)) pa_nil)))) pa_nil))) pa_nil)) pa_nil)))))
        (pss_one (ps_ret (pe_callTy call_tuple_of (by rfl) mt (by decide +kernel) (pa_cons (pv 3) pa_nil)))))), ?_⟩
      refine ⟨_, rfl, l, rs.map V.ref, rfl, .inr ha1, _, rfl, ?_, fun rm nrm => ?_⟩
      · rw [List.length_map, hrl, okA.1]
        exact RgOk.of_le (by omega) (by omega) (by omega) (by omega)
      have s1 := same_upd (o := .lst (rgV 0 ((rs.map V.ref).length : Nat))) nrm
      have e1 : (upd H rm (.lst (rgV 0 ((rs.map V.ref).length : Nat)))) rm = some (.lst (rgV 0 (n : Nat))) := by rw [upd_same, List.length_map, hrl, okA.1]
      generalize upd H rm (.lst (rgV 0 ((rs.map V.ref).length : Nat))) = H1 at s1 e1
      refine ⟨(by decide : 0 ≤ sizeLine), fun fo nfo => ?_⟩
      refine ⟨_, rfl, l, rfl, ⟨_, same_seqT (s1.trans (same_upd nfo)) ha1⟩, for_tup (K := K) (a := l) (xs := rs.map V.ref)
        (fun i σ H' => ∃ y : Option V, σ = [some (.ref l), some (.ref b), some (.ref rm), some (.ref fo), y, none, none] ∧ Same H1 H' ∧ ∃ ls, Grown H' fo ls i fun k o => o = .tup (((timesT A1 B1 n).getD k []).map V.str))
        ⟨none, rfl, same_upd nfo, [], Grown.nil upd_same⟩ (fun i σ H' _ ⟨_, _, sm, _⟩ => same_seqT (s1.trans sm) ha1) ?_ ?_⟩
      · rintro i x σ H2 hx ⟨y, rfl, s2, ls, gr⟩
        obtain ⟨r, hi, rfl, hr2, okr⟩ := Tab.row (a := l) okA hrl hrs hx
        have sA := s1.trans s2
        refine ⟨_, rfl, .inl ⟨rfl, _, SqL.of gr.2.1⟩, _, rfl, rm, rfl, ⟨_, SqL.of (s2 _ _ e1)⟩, fun D nD => ?_⟩
        refine lc_list (K := K) (a := rm) (xs := rgV 0 (n : Nat)) (fun j H' => Same H2 H' ∧ H' D = some (.lst (((List.range j).map fun j => bestS (colS (A1.getD i []) B1 n j)).map V.str))) ⟨same_upd nD, upd_same⟩ (fun j H' _ ⟨sm, _⟩ => SqL.of (sm _ _ (s2 _ _ e1))) (fun j x H' hx ⟨sm, hD⟩ => ?_) (fun H3 ⟨s23, hD⟩ => ?_)
        · obtain ⟨hj, rfl⟩ := rgV_at hx
          refine ⟨rfl, ?_⟩
          refine yes1 ?_
          refine ⟨_, rfl, rm, rfl, ⟨_, SqL.of (sm _ _ (s2 _ _ e1))⟩, fun D2 nD2 => ?_⟩
          refine lc_list (K := K) (a := rm) (xs := rgV 0 (n : Nat)) (fun m H'' => Same H' H'' ∧ H'' D2 = some (.lst (((List.range m).map fun k => bhd ((A1.getD i []).getD k "") (cel B1 k j)).map V.str))) ⟨same_upd nD2, upd_same⟩ (fun m H'' _ ⟨sm2, _⟩ => SqL.of (sm2 _ _ (sm _ _ (s2 _ _ e1)))) (fun m x H'' hx ⟨sm2, hD2⟩ => ?_) (fun H4 ⟨s4, hD2⟩ => ?_)
          · obtain ⟨hm, rfl⟩ := rgV_at hx
            have sB := sA.trans (sm.trans sm2)
            have hb2 : (rs2.map V.ref)[m]? = some (.ref (rs2.getD m 0)) := by
              have hm2 : m < rs2.length := by rw [hrl2, okB.1]; exact hm
              rw [List.getElem?_map, List.getElem?_eq_getElem hm2]
              simp [List.getD, hm2]
            obtain ⟨r2, _, er2, hr3, okr2⟩ := Tab.row (a := b) okB hrl2 hrs2 hb2
            refine ⟨rfl, ?_⟩
            refine yes1 ?_
            refine ⟨_, rfl, _, rfl, r, _, _, _, rfl, rfl, SqT.of (sB _ _ hr2), atI_str okr hm, ?_⟩
            refine ⟨_, rfl, _, rfl, b, _, _, _, rfl, rfl, SqT.of (sB _ _ hb1), atI_nat (by rw [hb2, er2]), ?_⟩
            refine ⟨_, rfl, r2, _, _, _, rfl, rfl, SqT.of (sB _ _ hr3), atI_str okr2 hj, ?_⟩
            simp only [tNil, List.cons_append, List.nil_append]
            refine use_two (okr_at okr hm).2 (okr_at okr2 hj).2 fun H5 s5 => ?_
            exact growF (f := fun k => bhd ((A1.getD i []).getD k "") (cel B1 k j)) nD2 (by omega) (sm2.trans s5) (s5 _ _ hD2)
          · rw [rgV_len] at hD2
            simp only [tNil, List.cons_append, List.nil_append]
            refine use_lbest (zs := colS (A1.getD i []) B1 n j) (SqL.of hD2) (colS_in okr okB hj) (by simp only [colS, List.length_map, List.length_range]; omega) fun H5 s5 => ?_
            exact growF (f := fun j => bestS (colS (A1.getD i []) B1 n j)) nD (by omega) (sm.trans (s4.trans s5)) ((s4.trans s5) _ _ hD)
        · rw [rgV_len] at hD
          refine ⟨D, _, rfl, .inl ⟨SqL.of hD, fun p np => ?_⟩⟩
          have nfp : p ≠ fo := ne_of_none (s23 _ _ gr.2.1) np |>.symm
          obtain ⟨acc, a1, a2, a3⟩ := gr.more (s23.trans (same_upd np)) (by omega) nfp upd_same (by rw [times_row (by rw [okA.1]; exact hi)])
          refine ⟨fo, acc, _, rfl, rfl, a1, a2, _, rfl, same_put nfo (s2.trans (s23.trans (same_upd np))), _, a3⟩
      · rintro σ H5 ⟨y, rfl, s5, ls, gr⟩
        refine ⟨_, rfl, fo, _, rfl, .inl ⟨SqL.of gr.2.1, fun p np => ?_⟩⟩
        refine q _ p (s1.trans (s5.trans (same_upd np))) (Grown.tab (D := fo) ?_ np)
        have el : (timesT A1 B1 n).length = (rs.map V.ref).length := by rw [List.length_map, hrl]; simp [timesT]
        rw [el]
        exact gr
    · have ha1 : SqL K H l (rs.map V.ref) := ha1
      refine ⟨_, pss_cons (ps_set (i := 2) scLTimes.nd rfl (.inr rfl) (pe_listRg rfl (by rfl) mli (prg_1 (by rfl) mr (pe_callB call_len_seq (by rfl) ml PySem.boot_len (pa_cons (pv 0) pa_nil)))))
        (pss_cons (ps_set (i := 3) scLTimes.nd rfl (.inl rfl) (pe_lst pa_nil))
        (pss_cons (ps_for PassesOwn.never rfl (pi_list (pv 0)) (pg_name (i := 4) scLTimes.nd rfl (.inr rfl))
          (pss_one (ps_expr (pe_bm PySem.F.plainAttrs_list PySem.F.slot_list_append PySem.F.type_list_append mt_append (pv 3) (pa_cons (pe_callTy call_tuple_of (by rfl) mt (by decide +kernel) (pa_cons
            (pe_lc (own := [("_law_to", 5)]) (g := gName 5) (tt := tYes) (te := (tCall (spLBest K) [] E0 (tCons (tLc (iList K (tVar 2)) (gName 6) tYes (tCall spTwoM [] E0 (tCons (tOp (rIxT K) (tVar 4) (tVar 6)) (tCons (tOp (rIxT K) (tOp (rIxT K) (tVar 1) (tVar 6)) (tVar 5)) tNil))) [6]) tNil))) rfl scLTimes.nd (pi_list (pv 2)) (blkOk_by (own := [("_law_to", 5)]) (N := NLT) (sc := defScope sLTimes) (by decide +kernel))
              (fun _ _ _ _ _ => pg_name (i := 5) scLTimes.nd rfl (.inr rfl) (.inl rfl)) (fun _ _ _ _ _ => pts_nil) (fun _ _ _ _ _ => pe_call GLb hr (by rfl) Lb.g Lb.F.kp Lb.b .nil pass0 (pa_cons
                (pe_lc (own := [("_law_k", 6)]) (g := gName 6) (tt := tYes) (te := (tCall spTwoM [] E0 (tCons (tOp (rIxT K) (tVar 4) (tVar 6)) (tCons (tOp (rIxT K) (tOp (rIxT K) (tVar 1) (tVar 6)) (tVar 5)) tNil)))) rfl scLTimes.nd (pi_list (pv 2)) bk2
                  (fun _ _ _ _ _ => pg_name (i := 6) scLTimes.nd rfl (.inl rfl)) (fun _ _ _ _ _ => pts_nil) (fun _ _ _ _ _ => pe_call GTw hr (by rfl) Tw.g Tw.F.kp Tw.b .nil pass0 (pa_cons (pe_ix ix_tup (pv 4) (pv 6) (fun _ _ => rfl)) (pa_cons (pe_ix ix_tup (pe_ix ix_tup (pv 1) (pv 6) (fun _ _ => rfl)) (pv 5) (fun _ _ => rfl)) pa_nil)))) pa_nil))) pa_nil)) pa_nil)))))
        (pss_one (ps_ret (pe_callTy call_tuple_of (by rfl) mt (by decide +kernel) (pa_cons (pv 3) pa_nil)))))), ?_⟩
      refine ⟨_, rfl, l, rs.map V.ref, rfl, .inl ha1, _, rfl, ?_, fun rm nrm => ?_⟩
      · rw [List.length_map, hrl, okA.1]
        exact RgOk.of_le (by omega) (by omega) (by omega) (by omega)
      have s1 := same_upd (o := .lst (rgV 0 ((rs.map V.ref).length : Nat))) nrm
      have e1 : (upd H rm (.lst (rgV 0 ((rs.map V.ref).length : Nat)))) rm = some (.lst (rgV 0 (n : Nat))) := by rw [upd_same, List.length_map, hrl, okA.1]
      generalize upd H rm (.lst (rgV 0 ((rs.map V.ref).length : Nat))) = H1 at s1 e1
      refine ⟨(by decide : 0 ≤ sizeLine), fun fo nfo => ?_⟩
      refine ⟨_, rfl, l, rfl, ⟨_, (s1.trans (same_upd nfo)).seq ha1⟩, for_list (K := K) (a := l) (xs := rs.map V.ref)
        (fun i σ H' => ∃ y : Option V, σ = [some (.ref l), some (.ref b), some (.ref rm), some (.ref fo), y, none, none] ∧ Same H1 H' ∧ ∃ ls, Grown H' fo ls i fun k o => o = .tup (((timesT A1 B1 n).getD k []).map V.str))
        ⟨none, rfl, same_upd nfo, [], Grown.nil upd_same⟩ (fun i σ H' _ ⟨_, _, sm, _⟩ => (s1.trans sm).seq ha1) ?_ ?_⟩
      · rintro i x σ H2 hx ⟨y, rfl, s2, ls, gr⟩
        obtain ⟨r, hi, rfl, hr2, okr⟩ := Tab.row (a := l) okA hrl hrs hx
        have sA := s1.trans s2
        refine ⟨_, rfl, .inl ⟨rfl, _, SqL.of gr.2.1⟩, _, rfl, rm, rfl, ⟨_, SqL.of (s2 _ _ e1)⟩, fun D nD => ?_⟩
        refine lc_list (K := K) (a := rm) (xs := rgV 0 (n : Nat)) (fun j H' => Same H2 H' ∧ H' D = some (.lst (((List.range j).map fun j => bestS (colS (A1.getD i []) B1 n j)).map V.str))) ⟨same_upd nD, upd_same⟩ (fun j H' _ ⟨sm, _⟩ => SqL.of (sm _ _ (s2 _ _ e1))) (fun j x H' hx ⟨sm, hD⟩ => ?_) (fun H3 ⟨s23, hD⟩ => ?_)
        · obtain ⟨hj, rfl⟩ := rgV_at hx
          refine ⟨rfl, ?_⟩
          refine yes1 ?_
          refine ⟨_, rfl, rm, rfl, ⟨_, SqL.of (sm _ _ (s2 _ _ e1))⟩, fun D2 nD2 => ?_⟩
          refine lc_list (K := K) (a := rm) (xs := rgV 0 (n : Nat)) (fun m H'' => Same H' H'' ∧ H'' D2 = some (.lst (((List.range m).map fun k => bhd ((A1.getD i []).getD k "") (cel B1 k j)).map V.str))) ⟨same_upd nD2, upd_same⟩ (fun m H'' _ ⟨sm2, _⟩ => SqL.of (sm2 _ _ (sm _ _ (s2 _ _ e1)))) (fun m x H'' hx ⟨sm2, hD2⟩ => ?_) (fun H4 ⟨s4, hD2⟩ => ?_)
          · obtain ⟨hm, rfl⟩ := rgV_at hx
            have sB := sA.trans (sm.trans sm2)
            have hb2 : (rs2.map V.ref)[m]? = some (.ref (rs2.getD m 0)) := by
              have hm2 : m < rs2.length := by rw [hrl2, okB.1]; exact hm
              rw [List.getElem?_map, List.getElem?_eq_getElem hm2]
              simp [List.getD, hm2]
            obtain ⟨r2, _, er2, hr3, okr2⟩ := Tab.row (a := b) okB hrl2 hrs2 hb2
            refine ⟨rfl, ?_⟩
            refine yes1 ?_
            refine ⟨_, rfl, _, rfl, r, _, _, _, rfl, rfl, SqT.of (sB _ _ hr2), atI_str okr hm, ?_⟩
            refine ⟨_, rfl, _, rfl, b, _, _, _, rfl, rfl, SqT.of (sB _ _ hb1), atI_nat (by rw [hb2, er2]), ?_⟩
            refine ⟨_, rfl, r2, _, _, _, rfl, rfl, SqT.of (sB _ _ hr3), atI_str okr2 hj, ?_⟩
            simp only [tNil, List.cons_append, List.nil_append]
            refine use_two (okr_at okr hm).2 (okr_at okr2 hj).2 fun H5 s5 => ?_
            exact growF (f := fun k => bhd ((A1.getD i []).getD k "") (cel B1 k j)) nD2 (by omega) (sm2.trans s5) (s5 _ _ hD2)
          · rw [rgV_len] at hD2
            simp only [tNil, List.cons_append, List.nil_append]
            refine use_lbest (zs := colS (A1.getD i []) B1 n j) (SqL.of hD2) (colS_in okr okB hj) (by simp only [colS, List.length_map, List.length_range]; omega) fun H5 s5 => ?_
            exact growF (f := fun j => bestS (colS (A1.getD i []) B1 n j)) nD (by omega) (sm.trans (s4.trans s5)) ((s4.trans s5) _ _ hD)
        · rw [rgV_len] at hD
          refine ⟨D, _, rfl, .inl ⟨SqL.of hD, fun p np => ?_⟩⟩
          have nfp : p ≠ fo := ne_of_none (s23 _ _ gr.2.1) np |>.symm
          obtain ⟨acc, a1, a2, a3⟩ := gr.more (s23.trans (same_upd np)) (by omega) nfp upd_same (by rw [times_row (by rw [okA.1]; exact hi)])
          refine ⟨fo, acc, _, rfl, rfl, a1, a2, _, rfl, same_put nfo (s2.trans (s23.trans (same_upd np))), _, a3⟩
      · rintro σ H5 ⟨y, rfl, s5, ls, gr⟩
        refine ⟨_, rfl, fo, _, rfl, .inl ⟨SqL.of gr.2.1, fun p np => ?_⟩⟩
        refine q _ p (s1.trans (s5.trans (same_upd np))) (Grown.tab (D := fo) ?_ np)
        have el : (timesT A1 B1 n).length = (rs.map V.ref).length := by rw [List.length_map, hrl]; simp [timesT]
        rw [el]
        exact gr
end
end Onp
set_option maxHeartbeats 8000000
set_option autoImplicit false
namespace Onp
open PySem PySem.Spec PyProof.Rows L2 HotX L2H LamX
abbrev sAllD : Stmt := topS 45
abbrev sMarks : Stmt := topS 52
theorem Grown.mono {H : Hp} {D : Addr} {ls : List Addr} {i : Nat} {P P' : Nat → HO → Prop} (x : Grown H D ls i P) (h : ∀ k o, k < i → P k o → P' k o) : Grown H D ls i P' := by
  obtain ⟨h1, h2, h3⟩ := x
  refine ⟨h1, h2, fun k l e => ?_⟩
  obtain ⟨n, o, ho, p⟩ := h3 k l e
  exact ⟨n, o, ho, h k o (by rw [← h1]; exact (List.getElem?_eq_some_iff.mp e).1) p⟩
/-- a list that grows by rows -/
def GrownT (H : Hp) (D : Addr) (ls : List Addr) (T : Tbl) : Prop := Grown H D ls T.length fun k o => o = .tup ((T.getD k []).map V.str)
theorem GrownT.keep {H H' : Hp} {D : Addr} {ls : List Addr} {T : Tbl} {g : Bid} (x : GrownT H D ls T) (B : Bg H g) (kp : Keep g.b H H') (nD : D ≠ g.b) : GrownT H' D ls T := by
  obtain ⟨h1, h2, h3⟩ := x
  obtain ⟨i, r, s, c, hb, _⟩ := B
  refine ⟨h1, kp _ _ nD h2, fun k l e => ?_⟩
  obtain ⟨n, o, ho, rfl⟩ := h3 k l e
  exact ⟨n, _, kp _ _ (fun q => by rw [q, hb] at ho; cases ho) ho, rfl⟩
theorem GrownT.more {H H' : Hp} {D l : Addr} {ls : List Addr} {T : Tbl} {row : List Str} (x : GrownT H D ls T) (s : Same H H') (hi : T.length ≤ 1000) (nl : l ≠ D) (hl : H' l = some (.tup (row.map V.str))) :
    ∃ acc, H' D = some (.lst acc) ∧ acc.length < sizeLine ∧ GrownT (upd H' D (.lst (acc ++ [.ref l]))) D (ls ++ [l]) (T ++ [row]) := by
  have y : Grown H D ls T.length fun k o => o = .tup (((T ++ [row]).getD k []).map V.str) := Grown.mono x fun k o hk e => by
    rw [e]
    simp [List.getD, List.getElem?_append_left hk]
  obtain ⟨acc, a1, a2, a3⟩ := Grown.more y s hi nl hl (by simp [List.getD])
  refine ⟨acc, a1, a2, ?_⟩
  unfold GrownT
  rw [List.length_append]
  exact a3
theorem GrownT.tab {H : Hp} {D p : Addr} {ls : List Addr} {T : Tbl} (x : GrownT H D ls T) (np : H p = none) : Tab (upd H p (.tup (ls.map V.ref))) p T := Grown.tab (D := D) x np
theorem growZ {g : Bid} {H3 H' H4 : Hp} {D : Addr} {zs : List Str} {z : Str} (nD : H3 D = none) (B3 : Bg H3 g) (hl : zs.length ≤ 100) (hD : H' D = some (.lst (zs.map V.str))) (kp : Keep g.b H3 H') (kp4 : Keep g.b H' H4) (B4 : Bg H4 g) :
    ∃ acc, H4 D = some (.lst acc) ∧ acc.length < sizeLine ∧ (upd H4 D (.lst (acc ++ [.str z]))) D = some (.lst ((zs ++ [z]).map V.str)) ∧ Keep g.b H3 (upd H4 D (.lst (acc ++ [.str z]))) ∧ Bg (upd H4 D (.lst (acc ++ [.str z]))) g := by
  refine ⟨_, kp4 _ _ (B3.ne nD) hD, ?_, by rw [upd_same, List.map_append]; rfl, fun x o n e => ?_, B4.put (B3.ne nD) (B3.neL nD)⟩
  · rw [List.length_map]
    exact small1000 (by omega)
  · rw [upd_ne (ne_of_none e nD)]
    exact kp4 _ _ n (kp _ _ n e)
def rTupOf (K : PySem.W.Frag) : List V → Hp → VK → Prop := fun xs H Q => ∃ p ys, xs = [.ref p] ∧ ((SqL K H p ys ∧ ∀ l, H l = none → Q (.ref l) (upd H l (.tup ys))) ∨ (SqT K H p ys ∧ Q (.ref p) H))
theorem deed_mark : ∀ z ∈ deedsL, z ∈ marksL := by decide +kernel
def l3 : List Str := ["shut", "cent", "fill"]
def l4 : List Str := ["shut", "keep", "coin"]
theorem l3_in : ∀ z ∈ l3, z ∈ marksL := by decide +kernel
theorem l4_in : ∀ z ∈ l4, z ∈ marksL := by decide +kernel
section
variable {P : Program} {w : World} {K : PySem.W.Frag} {mg : Str → Option Value} {base : Heap} {tM tK : Addr}
def spAllD : Sp := fun vs H Q _ => vs = [] ∧ ∀ p, H p = none → Q (.ref p) (upd H p (.lst (deedsL.map V.str)))
theorem scAllD : FnScope [] [] (defScope sAllD) := ⟨rfl, rfl, rfl, by decide +kernel, rfl, by decide +kernel, by decide +kernel⟩
theorem ok_allD {f : Addr} {fd : FuncData} {k : Nat} (F : Fun K "_law_deeds_all" "_law_deeds_all" sAllD f fd) : FnOk P w K mg base CX0 (k + 1) f fd [] spAllD := by
  refine F.ok scAllD (fun vs H Q E h => ?_) (fun cdv A outer s H vs Q E hr h => ?_)
  · obtain ⟨rfl, _⟩ := h
    rfl
  · obtain ⟨rfl, q⟩ := h
    refine ⟨_, pss_one (ps_ret (pe_lst (pa_cons pe_str (pa_cons pe_str (pa_cons pe_str (pa_cons pe_str (pa_cons pe_str pa_nil))))))), ?_⟩
    exact ⟨(by decide : 5 ≤ sizeLine), fun p np => q p np⟩
def spMarks (K : PySem.W.Frag) : Sp := fun vs H Q _ => ∃ (g : Bid) (n : Nat), vs = [.ref g.b, .int n] ∧ Bg H g ∧ (1 ≤ n ∧ n ≤ 8) ∧ ∀ T p H', OkT n T → Tab H' p T → Keep g.b H H' → Bg H' g → Q (.ref p) H'
def NM : List Str := ["_law_bag_here", "_law_many", "_law_kind_here", "_law_some", "_law_a", "_law_b"]
theorem scMarks : FnScope NM ["_law_bag_here", "_law_many"] (defScope sMarks) := ⟨rfl, rfl, rfl, by decide +kernel, rfl, by decide +kernel, by decide +kernel⟩
def outM : Scope := { kind := .function, names := [(".0", .local), ("_law_a", .local), ("tuple", .globalImplicit), ("range", .globalImplicit), ("_law_bag_here", .cell), ("_law_many", .cell), ("_law_some", .cell)], isGenerator := false, isCoroutine := false }
def inM : Scope := { kind := .function, names := [(".0", .local), ("_law_b", .local), ("_law_of", .globalImplicit), ("_law_bag_here", .free), ("_law_some", .free)], isGenerator := false, isCoroutine := false }
theorem bkM : BlkOk NM outM inM [("_law_b", 5)] := blkOk_by (by decide +kernel)
theorem ok_marks {f fP fO fA fD : Addr} {fd fdP fdO fdA fdD : FuncData} {k : Nat} (F : Fun K "_law_marks" "_law_marks" sMarks f fd) (Pu : Fns K mg fP fdP "_law_pull" sPull ["_law_bag_here", "_law_many"]) (O : Fns K mg fO fdO "_law_of" sOf ["_law_bag_here", "_law_some"]) (Al : Fns K mg fA fdA "_law_marks_all" sAllM []) (Ad : Fns K mg fD fdD "_law_deeds_all" sAllD [])
    (mt : mg "tuple" = none) (ml : mg "len" = none) (mr : mg "range" = none) : FnOk P w K mg base CX0 (k + 3) f fd ["_law_bag_here", "_law_many"] (spMarks K) := by
  have GP : FnOk P w K mg base CX0 (k + 2) fP fdP ["_law_bag_here", "_law_many"] (spPull K) := ok_pull Pu.F ml
  have GO : FnOk P w K mg base CX0 (k + 2) fO fdO ["_law_bag_here", "_law_some"] (spOf K) := ok_of O.F Pu.F Pu.b Pu.g ml
  have GA : FnOk P w K mg base CX0 (k + 2) fA fdA [] spAllM := ok_allM Al.F
  have GD : FnOk P w K mg base CX0 (k + 2) fD fdD [] spAllD := ok_allD Ad.F
  refine F.ok scMarks (fun vs H Q E h => ?_) (fun cdv A outer s H vs Q E hr h => ?_)
  · obtain ⟨g, n, rfl, _⟩ := h
    rfl
  · obtain ⟨g, n, rfl, B0, hn, q⟩ := h
    have hn2 := hn.2
    refine ⟨_, pss_cons (ps_set (i := 2) scMarks.nd rfl (.inl rfl) (pe_call GP hr (by rfl) Pu.g Pu.F.kp Pu.b .nil pass0 (pa_cons (pv 0) (pa_cons pe_int pa_nil))))
      (pss_cons (ps_set (i := 3) scMarks.nd rfl (.inr rfl) (pe_ix ix_list (pe_lst (pa_cons (pe_call0 GA hr (by rfl) Al.g Al.F.kp Al.b .nil pass0) (pa_cons (pe_lst (pa_cons pe_str (pa_cons pe_str (pa_cons pe_str pa_nil)))) (pa_cons (pe_lst (pa_cons pe_str (pa_cons pe_str (pa_cons pe_str pa_nil)))) (pa_cons (pe_call0 GD hr (by rfl) Ad.g Ad.F.kp Ad.b .nil pass0) pa_nil))))) (pv 2) (fun _ _ => rfl)))
      (pss_one (ps_ret (pe_callTy call_tuple_of (by rfl) mt (by decide +kernel) (pa_cons
        (pe_lc (own := [("_law_a", 4)]) (g := gName 4) (tt := tYes) (te := tCB (rTupOf K) (tCons (tLc (iRng1 (tCons (tVar 1) tNil)) (gName 5) tYes (tCall (spOf K) [] E0 (tCons (tVar 0) (tCons (tVar 3) tNil))) [5]) tNil)) rfl scMarks.nd (pi_range1 (by rfl) mr (pa_cons (pv 1) pa_nil)) (blkOk_by (own := [("_law_a", 4)]) (N := NM) (sc := defScope sMarks) (by decide +kernel))
          (fun _ _ _ _ _ => pg_name (i := 4) scMarks.nd rfl (.inl rfl)) (fun _ _ _ _ _ => pts_nil) (fun _ _ _ _ _ => pe_callTy call_tuple_of (by rfl) mt (by decide +kernel) (pa_cons
            (pe_lc (own := [("_law_b", 5)]) (g := gName 5) (tt := tYes) (te := tCall (spOf K) [] E0 (tCons (tVar 0) (tCons (tVar 3) tNil))) rfl scMarks.nd (pi_range1 (by rfl) mr (pa_cons (pv 1) pa_nil)) bkM
              (fun _ _ _ _ _ => pg_name (i := 5) scMarks.nd rfl (.inl rfl)) (fun _ _ _ _ _ => pts_nil) (fun _ _ _ _ _ => pe_call GO hr (by rfl) O.g O.F.kp O.b .nil pass0 (pa_cons (pv 0) (pa_cons (pv 3) pa_nil)))) pa_nil))) pa_nil))))), ?_⟩
    refine ⟨_, rfl, g, 4, rfl, by decide, by decide, B0, fun z H1 z0 z1 k1 B1 => ?_⟩
    refine ⟨rfl, fun p1 n1 => ?_⟩
    have sm1 := same_upd (o := .lst (marksL.map V.str)) n1
    have e1 : (upd H1 p1 (.lst (marksL.map V.str))) p1 = some (.lst (marksL.map V.str)) := upd_same
    generalize upd H1 p1 (.lst (marksL.map V.str)) = H2 at sm1 e1
    refine ⟨(by decide : 3 ≤ sizeLine), fun p2 n2 => ?_⟩
    refine ⟨(by decide : 3 ≤ sizeLine), fun p3 n3 => ?_⟩
    refine ⟨rfl, fun p4 n4 => ?_⟩
    refine ⟨(by decide : 4 ≤ sizeLine), fun pl npl => ?_⟩
    have hv : ∃ (ps : Addr) (zs : List Str), atI [V.ref p1, .ref p2, .ref p3, .ref p4] z = some (.ref ps) ∧ (∀ y ∈ zs, y ∈ marksL) ∧ (0 < zs.length ∧ zs.length < 1000) ∧ ps ≠ g.b ∧ (upd (upd (upd (upd H2 p2 (.lst [V.str "shut", V.str "cent", V.str "fill"])) p3 (.lst [V.str "shut", V.str "keep", V.str "coin"])) p4 (.lst (deedsL.map V.str))) pl (.lst [V.ref p1, .ref p2, .ref p3, .ref p4])) ps = some (.lst (zs.map V.str)) := by
      have s2 : Same H2 _ := same_upd (o := .lst [V.str "shut", V.str "cent", V.str "fill"]) n2
      have s3 := same_upd (o := .lst [V.str "shut", V.str "keep", V.str "coin"]) n3
      have s4 := same_upd (o := .lst (deedsL.map V.str)) n4
      have s5 := same_upd (o := .lst [V.ref p1, .ref p2, .ref p3, .ref p4]) npl
      have b2 := B1.same sm1
      have b3 := b2.same s2
      have b4 := b3.same s3
      rcases (by omega : z = 0 ∨ z = 1 ∨ z = 2 ∨ z = 3) with rfl | rfl | rfl | rfl
      · exact ⟨p1, marksL, rfl, fun _ h => h, by decide, B1.ne n1, s5 _ _ (s4 _ _ (s3 _ _ (s2 _ _ e1)))⟩
      · exact ⟨p2, l3, rfl, l3_in, by decide, b2.ne n2, s5 _ _ (s4 _ _ (s3 _ _ upd_same))⟩
      · exact ⟨p3, l4, rfl, l4_in, by decide, b3.ne n3, s5 _ _ (s4 _ _ upd_same)⟩
      · exact ⟨p4, deedsL, rfl, deed_mark, by decide, b4.ne n4, s5 _ _ upd_same⟩
    obtain ⟨ps, zs, hat, hz, hlz, nps, hps⟩ := hv
    have sN : Same H1 (upd (upd (upd (upd H2 p2 (.lst [V.str "shut", V.str "cent", V.str "fill"])) p3 (.lst [V.str "shut", V.str "keep", V.str "coin"])) p4 (.lst (deedsL.map V.str))) pl (.lst [V.ref p1, .ref p2, .ref p3, .ref p4])) := sm1.trans ((same_upd n2).trans ((same_upd n3).trans ((same_upd n4).trans (same_upd npl))))
    have hpl : (upd (upd (upd (upd H2 p2 (.lst [V.str "shut", V.str "cent", V.str "fill"])) p3 (.lst [V.str "shut", V.str "keep", V.str "coin"])) p4 (.lst (deedsL.map V.str))) pl (.lst [V.ref p1, .ref p2, .ref p3, .ref p4])) pl = some (.lst [V.ref p1, .ref p2, .ref p3, .ref p4]) := upd_same
    generalize upd (upd (upd (upd H2 p2 (.lst [V.str "shut", V.str "cent", V.str "fill"])) p3 (.lst [V.str "shut", V.str "keep", V.str "coin"])) p4 (.lst (deedsL.map V.str))) pl (.lst [V.ref p1, .ref p2, .ref p3, .ref p4]) = HN at hps sN hpl
    have BN := B1.same sN
    have kN : Keep g.b H HN := k1.trans (.of sN)
    have lrl : zs.length = (zs.map V.str).length := by rw [List.length_map]
    refine ⟨_, rfl, pl, _, z, _, rfl, rfl, SqL.of hpl, hat, ?_⟩
    refine ⟨_, rfl, (n : Int), rfl, by omega, by omega, fun D nD => ?_⟩
    have nDb := BN.ne nD
    refine lc_range (lo := 0) (n := (n : Int).toNat) (fun i H' => Keep g.b HN H' ∧ Bg H' g ∧ ∃ ls T, T.length = i ∧ (∀ row ∈ T, OkR n row) ∧ GrownT H' D ls T) ⟨Keep.new nD, BN.new nD, [], [], rfl, fun _ h => (nomatch h), Grown.nil upd_same⟩ (fun i H' hi ⟨kp, B', ls, T, hT, okT, gr⟩ => ?_) (fun H5 ⟨kp, B', ls, T, hT, okT, gr⟩ => ?_)
    · refine ⟨rfl, ?_⟩
      refine yes1 ?_
      refine ⟨_, rfl, (n : Int), rfl, by omega, by omega, fun D2 nD2 => ?_⟩
      refine lc_range (lo := 0) (n := (n : Int).toNat) (fun j H'' => ∃ ys : List Str, ys.length = j ∧ (∀ y ∈ ys, y ∈ marksL) ∧ H'' D2 = some (.lst (ys.map V.str)) ∧ Keep g.b H' H'' ∧ Bg H'' g) ⟨[], rfl, fun _ h => (nomatch h), upd_same, Keep.new nD2, B'.new nD2⟩ (fun j H'' hj ⟨ys, hl, hy, hD2, kp2, B2⟩ => ?_) (fun H4 ⟨ys, hl, hy, hD2, kp4, B4⟩ => ?_)
      · refine ⟨rfl, ?_⟩
        refine yes1 ?_
        refine ⟨_, rfl, _, rfl, g, ps, zs.map V.str, rfl, B2, nps, SqL.of (kp2 _ _ nps (kp _ _ nps hps)), by omega, by omega, fun v H8 hv k8 B8 => ?_⟩
        obtain ⟨zz, hzz, rfl⟩ := List.mem_map.mp hv
        obtain ⟨acc, a1, a2, a3, a4, a5⟩ := growZ (z := zz) nD2 B' (by omega) hD2 kp2 k8 B8
        refine ⟨acc, a1, a2, ys ++ [zz], by rw [List.length_append, hl]; rfl, fun y h => ?_, a3, a4, a5⟩
        rcases List.mem_append.mp h with h | h
        · exact hy y h
        · rw [List.mem_singleton.mp h]
          exact hz _ hzz
      · refine ⟨D2, _, rfl, .inl ⟨SqL.of hD2, fun p np => ?_⟩⟩
        have gr4 := gr.keep B' kp4 nDb
        obtain ⟨acc, a1, a2, a3⟩ := gr4.more (row := ys) (same_upd np) (by omega) (ne_of_none gr4.2.1 np).symm upd_same
        have kk : Keep g.b HN (upd H4 p (.tup (ys.map V.str))) := kp.trans (kp4.trans (Keep.new np))
        refine ⟨acc, a1, a2, fun x o nx e => by rw [upd_ne (ne_of_none e nD)]; exact kk x o nx e, (B4.new np).put nDb (BN.neL nD), _, T ++ [ys], by rw [List.length_append, hT]; rfl, fun row h => ?_, a3⟩
        rcases List.mem_append.mp h with h | h
        · exact okT row h
        · rw [List.mem_singleton.mp h]
          exact ⟨by omega, hy⟩
    · refine ⟨D, _, rfl, .inl ⟨SqL.of gr.2.1, fun p np => ?_⟩⟩
      exact q T p _ ⟨by omega, okT⟩ (gr.tab np) (kN.trans (kp.trans (Keep.new np))) (B'.new np)
end
end Onp
set_option maxHeartbeats 8000000
set_option autoImplicit false
namespace Onp
open PySem PySem.Spec PyProof.Rows L2 HotX L2H LamX
/-! ### marks: two orders, one behind the other, again and again -/
def agS (z : Str) : Str := mkn (agn (idm z))
theorem idm_lt : ∀ z ∈ marksL, idm z < 7 ∧ mkn (idm z) = z := by decide +kernel
theorem agn_lt {i : Nat} (h : i < 7) : agn i < 7 := by
  unfold agn
  split <;> omega
theorem agS_in {z : Str} (h : z ∈ marksL) : agS z ∈ marksL := mark_in ⟨_, agn_lt (idm_lt z h).1⟩
theorem agS_of {i : Nat} (h : i < 7) : agS (mkn i) = mkn (agn i) := by
  unfold agS
  rw [show idm (mkn i) = i from idm_mkn ⟨i, h⟩]
theorem idm_bhd {x y : Str} (hx : x ∈ marksL) (hy : y ∈ marksL) : idm (bhd x y) = max (idm x) (idm y) := idm_mkn ⟨max (idm x) (idm y), by have := (idm_lt x hx).1; have := (idm_lt y hy).1; omega⟩
theorem idm_agS {x : Str} (hx : x ∈ marksL) : idm (agS x) = agn (idm x) := idm_mkn ⟨_, agn_lt (idm_lt x hx).1⟩
theorem idm_inj {x y : Str} (hx : x ∈ marksL) (hy : y ∈ marksL) (h : idm x = idm y) : x = y := by
  rw [← (idm_lt x hx).2, ← (idm_lt y hy).2, h]
theorem idb_inj {x y : Str} (hx : x ∈ marksL) (hy : y ∈ marksL) (h : idb x = idb y) : x = y := by
  obtain ⟨i, hi, rfl⟩ := in_mbn hx
  obtain ⟨j, hj, rfl⟩ := in_mbn hy
  rw [show idb (mbn i) = i from idb_mbn ⟨i, hi⟩, show idb (mbn j) = j from idb_mbn ⟨j, hj⟩] at h
  rw [h]
theorem idb_le {x : Str} (hx : x ∈ marksL) : idb x ≤ 6 := by
  obtain ⟨i, hi, rfl⟩ := in_mbn hx
  rw [show idb (mbn i) = i from idb_mbn ⟨i, hi⟩]
  omega
theorem shut_in : ("shut" : Str) ∈ marksL := by decide +kernel
theorem idb_shut : idb "shut" = 6 := by decide +kernel
theorem bhd_comm (x y : Str) : bhd x y = bhd y x := by
  unfold bhd
  rw [Nat.max_comm]
theorem mono_l : ∀ x ∈ marksL, ∀ x' ∈ marksL, ∀ y ∈ marksL, idb x ≤ idb x' → idb (bhd x y) ≤ idb (bhd x' y) := by decide +kernel
theorem mono2 {x x' y y' : Str} (hx : x ∈ marksL) (hx' : x' ∈ marksL) (hy : y ∈ marksL) (hy' : y' ∈ marksL) (h1 : idb x ≤ idb x') (h2 : idb y ≤ idb y') : idb (bhd x y) ≤ idb (bhd x' y') := by
  have a := mono_l x hx x' hx' y hy h1
  have b := mono_l y hy y' hy' x' hx' h2
  rw [bhd_comm y, bhd_comm y'] at b
  omega
theorem ag_worse : ∀ x ∈ marksL, idb x ≤ idb (agS x) := by decide +kernel
theorem ag_mono : ∀ x ∈ marksL, ∀ y ∈ marksL, idb x ≤ idb y → idb (agS x) ≤ idb (agS y) := by decide +kernel
theorem bhd_shut {x : Str} (hx : x ∈ marksL) : bhd x "shut" = "shut" ∧ bhd "shut" x = "shut" := by
  have : ∀ x ∈ marksL, bhd x "shut" = "shut" := by decide +kernel
  exact ⟨this x hx, by rw [bhd_comm]; exact this x hx⟩
theorem assoc {x y z : Str} (hx : x ∈ marksL) (hy : y ∈ marksL) (hz : z ∈ marksL) : bhd (bhd x y) z = bhd x (bhd y z) := by
  refine idm_inj (bhd_in (bhd_in hx hy) hz) (bhd_in hx (bhd_in hy hz)) ?_
  rw [idm_bhd (bhd_in hx hy) hz, idm_bhd hx hy, idm_bhd hx (bhd_in hy hz), idm_bhd hy hz]
  omega
theorem best_le {zs : List Str} {z : Str} (h : z ∈ zs) : idb (bestS zs) ≤ idb z := by
  unfold bestS
  rw [show idb (mbn (bst (zs.map idb))) = bst (zs.map idb) from idb_mbn ⟨_, bst_le _⟩]
  exact (foldl_min_le (zs.map idb) 6).2 _ (List.mem_map_of_mem h)
theorem best_or {zs : List Str} (hz : ∀ z ∈ zs, z ∈ marksL) : bestS zs = "shut" ∨ bestS zs ∈ zs := by
  rcases foldl_min_mem (zs.map idb) 6 with b | b
  · left
    unfold bestS
    rw [show bst (zs.map idb) = 6 from b]
    decide +kernel
  · right
    obtain ⟨z, h1, h2⟩ := List.mem_map.mp b
    have e : bestS zs = z := by
      refine idb_inj (bestS_in zs) (hz z h1) ?_
      unfold bestS
      rw [show idb (mbn (bst (zs.map idb))) = bst (zs.map idb) from idb_mbn ⟨_, bst_le _⟩]
      exact h2.symm
    rw [e]
    exact h1
/-! ### tables: cells of products -/
theorem tcel {n i j : Nat} {A B : Tbl} (hA : OkT n A) (hi : i < n) (hj : j < n) : cel (timesT A B n) i j = bestS (colS (A.getD i []) B n j) := by
  have hi2 : i < A.length := by rw [hA.1]; exact hi
  unfold cel timesT rowT
  simp [List.getD, hi2, hj]
theorem tcel_le {n i j k : Nat} {A B : Tbl} (hA : OkT n A) (hi : i < n) (hj : j < n) (hk : k < n) : idb (cel (timesT A B n) i j) ≤ idb (bhd (cel A i k) (cel B k j)) := by
  rw [tcel hA hi hj]
  exact best_le (List.mem_map.mpr ⟨k, List.mem_range.mpr hk, rfl⟩)
theorem tcel_or {n i j : Nat} {A B : Tbl} (hA : OkT n A) (hB : OkT n B) (hi : i < n) (hj : j < n) : cel (timesT A B n) i j = "shut" ∨ ∃ k, k < n ∧ cel (timesT A B n) i j = bhd (cel A i k) (cel B k j) := by
  rw [tcel hA hi hj]
  rcases best_or (colS_in (okt_at hA hi).2 hB hj) with e | e
  · exact .inl e
  · obtain ⟨k, hk, e2⟩ := List.mem_map.mp e
    exact .inr ⟨k, List.mem_range.mp hk, e2.symm⟩
theorem tbl_ext {n : Nat} {A B : Tbl} (hA : OkT n A) (hB : OkT n B) (h : ∀ i j, i < n → j < n → cel A i j = cel B i j) : A = B := by
  refine List.ext_getElem? fun i => ?_
  rcases Nat.lt_or_ge i n with hi | hi
  · have a := okt_at hA hi
    have b := okt_at hB hi
    rw [a.1, b.1]
    congr 1
    refine List.ext_getElem? fun j => ?_
    rcases Nat.lt_or_ge j n with hj | hj
    · rw [(cel_at hA hi hj).1, (cel_at hB hi hj).1, h i j hi hj]
    · rw [List.getElem?_eq_none (by rw [a.2.1]; exact hj), List.getElem?_eq_none (by rw [b.2.1]; exact hj)]
  · rw [List.getElem?_eq_none (by rw [hA.1]; exact hi), List.getElem?_eq_none (by rw [hB.1]; exact hi)]
def wideR (T : Tbl) (n : Nat) (row : List Str) : List Str := (List.range n).map fun k => bhd (row.getD k "") (agS (cel T k k))
def wideT (T : Tbl) (n : Nat) : Tbl := T.map (wideR T n)
def raisT (T : Tbl) (n : Nat) : Tbl := timesT (wideT T n) T n
theorem wideR_ok {n : Nat} {T : Tbl} {row : List Str} (hT : OkT n T) (hr : OkR n row) : OkR n (wideR T n row) := by
  refine ⟨by simp [wideR], fun z hz => ?_⟩
  obtain ⟨k, hk, rfl⟩ := List.mem_map.mp hz
  have hk := List.mem_range.mp hk
  exact bhd_in (okr_at hr hk).2 (agS_in (cel_at hT hk hk).2)
theorem wideT_ok {n : Nat} {T : Tbl} (hT : OkT n T) : OkT n (wideT T n) := by
  refine ⟨by simp [wideT, hT.1], fun row h => ?_⟩
  obtain ⟨r, hr, rfl⟩ := List.mem_map.mp h
  exact wideR_ok hT (hT.2 r hr)
theorem raisT_ok {n : Nat} {T : Tbl} (hT : OkT n T) : OkT n (raisT T n) := timesT_ok (wideT_ok hT).1
theorem wcel {n i k : Nat} {T : Tbl} (hT : OkT n T) (hi : i < n) (hk : k < n) : cel (wideT T n) i k = bhd (cel T i k) (agS (cel T k k)) := by
  have hi2 : i < T.length := by rw [hT.1]; exact hi
  show ((T.map (wideR T n)).getD i []).getD k "" = _
  have e : (T.map (wideR T n)).getD i [] = wideR T n (T.getD i []) := by simp [List.getD, hi2]
  rw [e]
  unfold wideR cel
  simp [List.getD, hk]
/-- a steady table, raised: no dearer than by any room, and by some room or shut -/
theorem rcel_le {n i j r : Nat} {T : Tbl} (hT : OkT n T) (hi : i < n) (hj : j < n) (hr : r < n) : idb (cel (raisT T n) i j) ≤ idb (bhd (bhd (cel T i r) (agS (cel T r r))) (cel T r j)) := by
  have h := tcel_le (B := T) (wideT_ok hT) hi hj hr
  rw [wcel hT hi hr] at h
  exact h
theorem rcel_or {n i j : Nat} {T : Tbl} (hT : OkT n T) (hi : i < n) (hj : j < n) : cel (raisT T n) i j = "shut" ∨ ∃ r, r < n ∧ cel (raisT T n) i j = bhd (bhd (cel T i r) (agS (cel T r r))) (cel T r j) := by
  rcases tcel_or (wideT_ok hT) hT hi hj with e | ⟨r, hr, e⟩
  · exact .inl e
  · rw [wcel hT hi hr] at e
    exact .inr ⟨r, hr, e⟩
theorem st_le {n i j k : Nat} {T : Tbl} (hT : OkT n T) (st : timesT T T n = T) (hi : i < n) (hj : j < n) (hk : k < n) : idb (cel T i j) ≤ idb (bhd (cel T i k) (cel T k j)) := by
  have h := tcel_le (B := T) hT hi hj hk
  rw [st] at h
  exact h
theorem raised_steady {n : Nat} {T : Tbl} (hT : OkT n T) (st : timesT T T n = T) : timesT (raisT T n) (raisT T n) n = raisT T n := by
  have hR := raisT_ok hT
  refine tbl_ext (timesT_ok hR.1) hR fun i j hi hj => ?_
  have c : ∀ {a b : Nat}, a < n → b < n → cel T a b ∈ marksL := fun ha hb => (cel_at hT ha hb).2
  have cR : ∀ {a b : Nat}, a < n → b < n → cel (raisT T n) a b ∈ marksL := fun ha hb => (cel_at hR ha hb).2
  have cP := (cel_at (timesT_ok (B := raisT T n) hR.1) hi hj).2
  refine idb_inj cP (cR hi hj) (Nat.le_antisymm ?_ ?_)
  · rcases rcel_or hT hi hj with e | ⟨r, hr, e⟩
    · rw [e, idb_shut]
      exact idb_le cP
    · refine Nat.le_trans (tcel_le (B := raisT T n) hR hi hj hr) ?_
      have m := c hr hr
      have a := agS_in m
      have w1 := bhd_in (bhd_in (c hi hr) a) m
      have w2 := bhd_in (bhd_in m a) (c hr hj)
      have q := mono2 (cR hi hr) w1 (cR hr hj) w2 (rcel_le hT hi hr hr) (rcel_le hT hr hj hr)
      have e2 : bhd (bhd (bhd (cel T i r) (agS (cel T r r))) (cel T r r)) (bhd (bhd (cel T r r) (agS (cel T r r))) (cel T r j)) = bhd (bhd (cel T i r) (agS (cel T r r))) (cel T r j) := by
        refine idm_inj (bhd_in w1 w2) (bhd_in (bhd_in (c hi hr) a) (c hr hj)) ?_
        rw [idm_bhd w1 w2, idm_bhd (bhd_in (c hi hr) a) m, idm_bhd (c hi hr) a, idm_bhd (bhd_in m a) (c hr hj), idm_bhd m a, idm_bhd (bhd_in (c hi hr) a) (c hr hj), idm_bhd (c hi hr) a, idm_agS m]
        have hm := (idm_lt _ m).1
        unfold agn
        split <;> omega
      rw [e2, ← e] at q
      exact q
  · rcases tcel_or hR hR hi hj with e | ⟨s, hs, e⟩
    · rw [e, idb_shut]
      exact idb_le (cR hi hj)
    · rw [e]
      rcases rcel_or hT hi hs with e1 | ⟨r, hr, e1⟩
      · rw [e1, (bhd_shut (cR hs hj)).2, idb_shut]
        exact idb_le (cR hi hj)
      rcases rcel_or hT hs hj with e2 | ⟨t, ht, e2⟩
      · rw [e2, (bhd_shut (cR hi hs)).1, idb_shut]
        exact idb_le (cR hi hj)
      rw [e1, e2]
      have ar := agS_in (c hr hr)
      have at_ := agS_in (c ht ht)
      have p1 := rcel_le hT hi hj hr
      -- from r to j by s and t
      have s1 := st_le hT st hr hj hs
      have s2 := st_le hT st hs hj ht
      have s3 := st_le hT st ht hj ht
      have s4 := mono2 (c ht ht) at_ (c ht hj) (c ht hj) (ag_worse _ (c ht ht)) (Nat.le_refl _)
      have s5 := mono2 (c hs ht) (c hs ht) (c ht hj) (bhd_in at_ (c ht hj)) (Nat.le_refl _) (Nat.le_trans s3 s4)
      have s6 := mono2 (c hr hs) (c hr hs) (c hs hj) (bhd_in (c hs ht) (bhd_in at_ (c ht hj))) (Nat.le_refl _) (Nat.le_trans s2 s5)
      have s7 := mono2 (bhd_in (c hi hr) ar) (bhd_in (c hi hr) ar) (c hr hj) (bhd_in (c hr hs) (bhd_in (c hs ht) (bhd_in at_ (c ht hj)))) (Nat.le_refl _) (Nat.le_trans s1 s6)
      have e3 : bhd (bhd (bhd (cel T i r) (agS (cel T r r))) (cel T r s)) (bhd (bhd (cel T s t) (agS (cel T t t))) (cel T t j)) = bhd (bhd (cel T i r) (agS (cel T r r))) (bhd (cel T r s) (bhd (cel T s t) (bhd (agS (cel T t t)) (cel T t j)))) := by
        rw [assoc (bhd_in (c hi hr) ar) (c hr hs) (bhd_in (bhd_in (c hs ht) at_) (c ht hj)), assoc (c hs ht) at_ (c ht hj)]
      rw [e3]
      exact Nat.le_trans p1 s7
theorem raised_again {n : Nat} {T : Tbl} (hT : OkT n T) (st : timesT T T n = T) : raisT (raisT T n) n = raisT T n := by
  have hR := raisT_ok hT
  have sR := raised_steady hT st
  refine tbl_ext (raisT_ok hR) hR fun i j hi hj => ?_
  have c : ∀ {a b : Nat}, a < n → b < n → cel T a b ∈ marksL := fun ha hb => (cel_at hT ha hb).2
  have cR : ∀ {a b : Nat}, a < n → b < n → cel (raisT T n) a b ∈ marksL := fun ha hb => (cel_at hR ha hb).2
  have cP := (cel_at (raisT_ok hR) hi hj).2
  refine idb_inj cP (cR hi hj) (Nat.le_antisymm ?_ ?_)
  · rcases rcel_or hT hi hj with e | ⟨r, hr, e⟩
    · rw [e, idb_shut]
      exact idb_le cP
    · refine Nat.le_trans (rcel_le hR hi hj hr) ?_
      have m := c hr hr
      have a := agS_in m
      have w0 := bhd_in (bhd_in m a) m
      have w1 := bhd_in (bhd_in (c hi hr) a) m
      have w2 := bhd_in (bhd_in m a) (c hr hj)
      have g := ag_mono _ (cR hr hr) _ w0 (rcel_le hT hr hr hr)
      have q1 := mono2 (cR hi hr) w1 (agS_in (cR hr hr)) (agS_in w0) (rcel_le hT hi hr hr) g
      have q := mono2 (bhd_in (cR hi hr) (agS_in (cR hr hr))) (bhd_in w1 (agS_in w0)) (cR hr hj) w2 q1 (rcel_le hT hr hj hr)
      have e2 : bhd (bhd (bhd (bhd (cel T i r) (agS (cel T r r))) (cel T r r)) (agS (bhd (bhd (cel T r r) (agS (cel T r r))) (cel T r r)))) (bhd (bhd (cel T r r) (agS (cel T r r))) (cel T r j)) = bhd (bhd (cel T i r) (agS (cel T r r))) (cel T r j) := by
        refine idm_inj (bhd_in (bhd_in w1 (agS_in w0)) w2) (bhd_in (bhd_in (c hi hr) a) (c hr hj)) ?_
        have ew0 : idm (bhd (bhd (cel T r r) (agS (cel T r r))) (cel T r r)) = agn (idm (cel T r r)) := by
          rw [idm_bhd (bhd_in m a) m, idm_bhd m a, idm_agS m]
          have hm := (idm_lt _ m).1
          unfold agn
          split <;> omega
        rw [idm_bhd (bhd_in w1 (agS_in w0)) w2, idm_bhd w1 (agS_in w0), idm_agS w0, ew0, idm_bhd (bhd_in (c hi hr) a) m, idm_bhd (c hi hr) a, idm_bhd (bhd_in m a) (c hr hj), idm_bhd m a, idm_bhd (bhd_in (c hi hr) a) (c hr hj), idm_bhd (c hi hr) a, idm_agS m]
        have hm := (idm_lt _ m).1
        unfold agn
        split <;> (first | omega | (split <;> omega))
      rw [e2, ← e] at q
      exact q
  · rcases rcel_or hR hi hj with e | ⟨k, hk, e⟩
    · rw [e, idb_shut]
      exact idb_le (cR hi hj)
    · rw [e]
      have s1 := st_le hR sR hi hj hk
      have s2 := st_le hR sR hk hj hk
      have s3 := mono2 (cR hi hk) (cR hi hk) (cR hk hj) (bhd_in (cR hk hk) (cR hk hj)) (Nat.le_refl _) s2
      have s4 := mono2 (cR hi hk) (cR hi hk) (bhd_in (cR hk hk) (cR hk hj)) (bhd_in (agS_in (cR hk hk)) (cR hk hj)) (Nat.le_refl _) (mono2 (cR hk hk) (agS_in (cR hk hk)) (cR hk hj) (cR hk hj) (ag_worse _ (cR hk hk)) (Nat.le_refl _))
      rw [← assoc (cR hi hk) (agS_in (cR hk hk)) (cR hk hj)] at s4
      exact Nat.le_trans s1 (Nat.le_trans s3 s4)
section
variable {K : PySem.W.Frag} {H : Hp} {Q : VK} {E : XK} {C a : Addr}
theorem use_again {z : Str} (h : z ∈ marksL) (q : ∀ H', Same H H' → Q (.str (agS z)) H') : spAgain C [.str z] H Q E := by
  refine ⟨z, rfl, fun i H' hi e s => ?_, fun n => absurd h n⟩
  rw [← agS_of hi, ← e]
  exact q H' s
theorem use_often {z : Str} (h : z ∈ marksL) (q : ∀ H', Same H H' → Q (.str (agS z)) H') : spOften [.str z] H Q E := by
  obtain ⟨i, hi, rfl⟩ := in_mkn h
  rw [agS_of hi] at q
  exact ⟨i, hi, rfl, q⟩
end
end Onp
set_option maxHeartbeats 2000000
set_option autoImplicit false
/-! enumerate of a tuple -/
namespace EnT
open PySem PySem.Spec PyProof.Rows L2
def itO (t : Addr) : Obj := { cls := .type "tuple_iterator", data := .fields #[.ref t, .int 0 0] }
def enO (it : Addr) : Obj := { cls := .type "enumerate", data := .fields #[.none, .bool false, .ref it, rawInt 0, .none, .none] }
theorem meets_new (t : Addr) (items : Array Value) :
    Meets (Builtin.«enumerate.__new__» ⟨[.type "enumerate", .ref t], []⟩) (fun _ R s => s.heap.IsTuple t items ∧ R (.ok (.ret (.ref (s.heap.objs.size + 1)))) { s with heap := (s.heap.push (itO t)).push (enO s.heap.objs.size) }) :=
  .of_wp fun prog w A R s h => by
    obtain ⟨ht, h⟩ := h
    have hsub := sub_enumerate
    have e1 : (s.heap.push (itO t)).objs.size = s.heap.objs.size + 1 := Heap.size_push ..
    rw [← e1] at h
    obtain ⟨hp, g, d, tk, os⟩ := s
    have walk : ∀ {A' : Around} {E : Value → Shared → Prop} {Q : Value → Shared → Prop}, Q (.ref hp.objs.size) ⟨hp.push (itO t), g, d, tk, os⟩ → wpAny (model prog w) A' (pyIter (.ref t)) Q E ⟨hp, g, d, tk, os⟩ := fun q => wpAny_pyIter_tuple ht q
    obtain ⟨o, ho, hc, n, hd⟩ := ht
    obtain ⟨c, dct, dt, sl⟩ := o
    obtain rfl : c = .type "tuple" := hc
    obtain rfl : dt = .seq items n := hd
    wp_walk using walk, AutoSeq1.wpAny_loadPart' ho
    refine wpAny_stack_any fun st => wpAny_pure ?_
    split
    · rename_i c _ _ _ _ _
      cases (c == Value.type "enumerate") <;> (wp_walk using walk, AutoSeq1.wpAny_loadPart' ho; exact ⟨_, rfl, h⟩)
    · wp_walk using walk, AutoSeq1.wpAny_loadPart' ho
      exact ⟨_, rfl, h⟩
theorem call_new {prog : Program} {w : World} {A : Around} {E : Value → Shared → Prop} {s : Shared} {t : Addr} {items : Array Value} {Q : Value → Shared → Prop} (ht : s.heap.IsTuple t items)
    (h : Q (.ref (s.heap.objs.size + 1)) { s with heap := (s.heap.push (itO t)).push (enO s.heap.objs.size) }) : wpAny (model prog w) A (call (.type "enumerate") [.ref t]) Q E s := by
  have e1 : (s.heap.push (itO t)).objs.size = s.heap.objs.size + 1 := Heap.size_push ..
  refine callType_new F.called_enumerate (by decide) (F.typeCall_enumerate_1 _) (F.newCall_enumerate_1 _) (fun obj => F.args_object_init_2 obj _) F.entry_enumerate_new (meets_new t items) ⟨ht, ⟨enO s.heap.objs.size, ?_, rfl⟩, h⟩
  rw [← e1]
  exact Heap.get?_push_size _ rfl
/-- the tuple at a as it stands at each turn: the place and the item, in a new pair -/
def IteT (K : PySem.W.Frag) (a : Addr) : It :=
  ⟨fun i H => ∃ (xs : List V) (x : V), SqT K H a xs ∧ xs[i]? = some x,
   fun i H v H' => ∃ (T : Addr) (x : V), v = .ref T ∧ H T = none ∧ H' = upd H T (.tup [.int (i : Nat), x]) ∧ ∀ xs, SqT K H a xs → xs[i]? = some x,
   fun i H => ∃ xs : List V, SqT K H a xs ∧ xs.length = i⟩
def TnE (a e it : Addr) (i : Nat) (h : Heap) : Prop := (∃ old, IsEnum h e it ((i : Nat) : Int) old) ∧ h.IsTupleIter it a i ∧ e ≠ it ∧ a ≠ it ∧ a ≠ e
theorem turn_enumT {P : Program} {w : World} {K : PySem.W.Frag} {elts : List Expr} {kk : Nat} {tpos : Pos} (a e it : Addr) : Turn P w K (.Tuple elts kk tpos) (IteT K a) [e, it] e (TnE a e it) where
  mem := List.mem_cons_self
  obj := fun i h st b hb => by
    obtain ⟨⟨old, he⟩, ⟨o, ho, _, hd⟩, _⟩ := st
    rcases List.mem_cons.mp hb with rfl | hb
    · exact ⟨_, he, fun v q => nomatch q⟩
    · obtain rfl := List.mem_singleton.mp hb
      exact ⟨o, ho, fun v q => by rw [hd] at q; cases q⟩
  keep := fun i h h' st k => by
    obtain ⟨⟨old, he⟩, hi, r⟩ := st
    exact ⟨⟨old, k e List.mem_cons_self _ he⟩, hi.at fun o q => k it (List.mem_cons_of_mem _ List.mem_cons_self) o q, r⟩
  item := by
    intro X hP hw hK hc i pins s σ H E I hf st hg
    subst hP hw hK
    obtain ⟨⟨old, he⟩, hit, hne, ha1, ha2⟩ := st
    obtain ⟨xs, x, hq, hx⟩ := hg
    obtain ⟨its, rv, p, hz⟩ := I.tuple hq
    obtain ⟨u, hu, ru⟩ := rv.get hx
    have hil : it < s.heap.objs.size := by
      obtain ⟨_, q, _⟩ := hit
      exact Heap.lt_size q
    have hel : e < s.heap.objs.size := Heap.lt_size he
    have hlt : i < its.toArray.size := by
      rw [List.size_toArray]
      exact (List.getElem?_eq_some_iff.mp hu).1
    have D : Draws X.prog X.w X.A.in1 it [it, a] its.toArray.size _ _ := Draws.tuple (A := X.A.in1) (I.ok.hd hc) it a ha1 its.toArray
    refine wpAny_pyNext_enum_itemD D he ⟨hit, p⟩ hlt hne (fun q => ?_) fun y h' tk hy ho hst hT hsz hk => ?_
    · rcases List.mem_cons.mp q with q | q
      · exact hne q
      · exact ha2 (List.mem_singleton.mp q).symm
    obtain rfl : u = y := by
      have hy : its.toArray[i]? = some y := hy
      rw [List.getElem?_toArray, hu] at hy
      exact Option.some.inj hy
    refine ⟨_, rfl, wpAny_letOwnedTupleGo_enum (s := { s with heap := h', toks := tk + 1 }) ho fun h'' he' sb => ?_⟩
    have hT2 : h''.get? s.heap.objs.size = some { cls := .type "tuple", data := .seq #[.int i tk, u] } := (sb.2 _ (Nat.ne_of_gt hel)).trans hT
    have out : ∀ c o, c ∉ [e, it] → s.heap.get? c = some o → h''.get? c = some o := fun c o hn q =>
      (sb.2 c fun z => hn (z ▸ List.mem_cons_self)).trans (hk c o (fun z => hn (z ▸ List.mem_cons_self)) (fun z => hn (z ▸ List.mem_cons_of_mem _ List.mem_cons_self)) q)
    have J := I.turnedNew (t' := tk + 1) (ob := .tup [.int (i : Nat), x]) out hf (Nat.le_refl _) (show ObjOk X.prog X.w _ h'' s.heap.objs.size (.tup [.int (i : Nat), x]) from ⟨(by decide : 2 ≤ sizeLine), [.int i tk, u], .cons ⟨tk, rfl⟩ (.cons ru .nil), _, hT2, rfl, _, rfl⟩)
    refine ⟨.ref s.heap.objs.size, _, J, rfl, ⟨_, x, rfl, I.hok.fresh (Nat.le_refl _), rfl, fun ys hy => by rw [I.tuple_inj hy hq]; exact hx⟩, ⟨⟨u, ?_⟩, hst.1.at fun o q => (sb.2 it (Ne.symm hne)).trans q, hne, ha1, ha2⟩, fun b hb => ?_⟩
    · rw [show ((i + 1 : Nat) : Int) = (i : Int) + 1 by omega]
      exact he'
    · have hb' : b < s.heap.objs.size := by
        rcases List.mem_cons.mp hb with rfl | hb
        · exact hel
        · rw [List.mem_singleton.mp hb]
          exact hil
      rw [upd_ne (Nat.ne_of_lt hb')]
      exact (hf b hb).1
  done := by
    intro X hP hw hK hc i pins s σ H E I hf st hg
    subst hP hw hK
    obtain ⟨⟨old, he⟩, hit, hne, ha1, ha2⟩ := st
    obtain ⟨xs, hq, hx⟩ := hg
    obtain ⟨its, rv, p, hz⟩ := I.tuple hq
    have hl : its.toArray.size = i := by
      rw [List.size_toArray, ← rv.length, hx]
    have D : Draws X.prog X.w X.A.in1 it [it, a] its.toArray.size _ _ := Draws.tuple (A := X.A.in1) (I.ok.hd hc) it a ha1 its.toArray
    rw [← hl] at hit
    exact wpAny_pyNext_enum_endD D he ⟨hit, p⟩ fun h' eb => ⟨rfl, I.turnedL (t' := s.toks) (fun b o hb q => eb b o (fun z => hb (z ▸ List.mem_cons_of_mem _ List.mem_cons_self)) q) hf⟩
  self := fun A i s Q E st h => by
    obtain ⟨⟨_, he⟩, _⟩ := st
    exact wpAny_pyIter_enum he h
def iEnumT (K : PySem.W.Frag) (ta : TA) : TI := fun σ H R => ta σ H fun vs H1 => ∃ a xs, vs = [.ref a] ∧ SqT K H1 a xs ∧ R (IteT K a) H1
theorem pi_enumT {X : Cx} {e : Expr} {ta : TA} {p pos tpos : Pos} {elts : List Expr} {kk : Nat} (hg : Gl X "enumerate") (hm : X.mg "enumerate" = none) (ha : PA X [e] ta) (hs : starEach [e] X.env = [(false, eval e X.env)] := by rfl) :
    PI X (.Tuple elts kk tpos) (.Call (.Name "enumerate" p) [e] [] pos) (iEnumT X.K ta) := by
  refine ⟨fun pins s σ H R I h => Call_ (ld_blt I hg hm boot_enumerate (PyProof.Rows.callWith_type1 (thn (ha.run pos pins s σ H _ I h) fun us s1 q => ?_) hs rfl))⟩
  obtain ⟨vs, H1, I1, r1, a, xs, rfl, hq, q⟩ := q
  obtain ⟨u, rfl, ru⟩ := vals1 r1
  obtain rfl : u = Value.ref a := ru
  obtain ⟨its, rv, pt, hz⟩ := I1.tuple hq
  have la : a < s1.heap.objs.size := by
    obtain ⟨_, e0, _⟩ := id pt
    exact Heap.lt_size e0
  have sz : (s1.heap.push (itO a)).objs.size = s1.heap.objs.size + 1 := Heap.size_push ..
  refine call_new (items := its.toArray) pt ?_
  have he : IsEnum ((s1.heap.push (itO a)).push (enO s1.heap.objs.size)) (s1.heap.objs.size + 1) s1.heap.objs.size 0 .none := by
    have z := Heap.get?_push_size (s1.heap.push (itO a)) (o := enO s1.heap.objs.size) rfl
    rw [sz] at z
    exact z
  refine wpAny_pyIter_enum he ?_
  refine ⟨s1.heap.objs.size + 1, [s1.heap.objs.size + 1, s1.heap.objs.size], _, _, H1, rfl, I1.kept (t' := s1.toks) fun b o z => Heap.get?_push_of_some _ (Heap.get?_push_of_some _ z), turn_enumT a _ _,
    ⟨⟨.none, he⟩, ⟨_, Heap.get?_push_of_some _ (Heap.get?_push_size _ rfl), rfl, rfl⟩, Nat.succ_ne_self _, Nat.ne_of_lt la, Nat.ne_of_lt (Nat.lt_succ_of_lt la)⟩, fun b hb => ?_, q⟩
  have hle : s1.heap.objs.size ≤ b := by
    rcases List.mem_cons.mp hb with z | z
    · rw [z]
      exact Nat.le_succ _
    · rw [List.mem_singleton.mp z]
      exact Nat.le_refl _
  exact I1.fpOk hle (I1.hok.fresh hle)
theorem lc_enumT {K : PySem.W.Frag} {a : Addr} {xs : List V} {g : TG} {tt : TT} {te : TE} {vs : List Nat} {σ : L2.St} {H1 : Hp} {D : Addr} {Qd : Hp → Prop} (Pv : Nat → Hp → Prop) (h0 : Pv 0 (upd H1 D (.lst []))) (hq : ∀ i H, Pv i H → SqT K H a xs)
    (hs : ∀ i x T H, xs[i]? = some x → Pv i H → H T = none → g (.ref T) (wipe σ vs) (upd H T (.tup [.int (i : Nat), x])) fun σ2 H2 => wipe σ2 vs = wipe σ vs ∧ tt σ2 H2 fun b H3 =>
      if b = true then te σ2 H3 fun y H4 => ∃ acc, H4 D = some (.lst acc) ∧ acc.length < sizeLine ∧ Pv (i + 1) (upd H4 D (.lst (acc ++ [y]))) else Pv (i + 1) H3) (hd : ∀ H, Pv xs.length H → Qd H) :
    ∃ W : Nat → Nat → Hp → Prop, (∃ m, W 0 m (upd H1 D (.lst []))) ∧ ∀ i m H, W i m H →
      ((IteT K a).stop i H ∧ Qd H) ∨ ((IteT K a).go i H ∧ ∃ Nx : Hp → Prop, (∀ H', Nx H' → ∃ m', m' < m ∧ W (i + 1) m' H') ∧ ∀ x H', (IteT K a).yld i H x H' → g x (wipe σ vs) H' fun σ2 H2 => wipe σ2 vs = wipe σ vs ∧ tt σ2 H2 fun b H3 =>
        if b = true then te σ2 H3 fun y H4 => ∃ acc, H4 D = some (.lst acc) ∧ acc.length < sizeLine ∧ Nx (upd H4 D (.lst (acc ++ [y]))) else Nx H3) := by
  refine ⟨fun i m H => m + i = xs.length ∧ Pv i H, ⟨xs.length, rfl, h0⟩, fun i m H ⟨em, p⟩ => ?_⟩
  have q := hq i H p
  rcases Nat.lt_or_ge i xs.length with hlt | hge
  · refine .inr ⟨⟨xs, xs[i], q, List.getElem?_eq_getElem hlt⟩, Pv (i + 1), fun H' p' => ⟨m - 1, by omega, by omega, p'⟩, fun v H' y => ?_⟩
    obtain ⟨T, x, rfl, nT, rfl, hx⟩ := y
    exact hs i x T H (hx xs q) p nT
  · obtain rfl : i = xs.length := by omega
    exact .inl ⟨⟨xs, q, rfl⟩, hd H p⟩
end EnT
set_option maxHeartbeats 8000000
set_option autoImplicit false
namespace Onp
open PySem PySem.Spec PyProof.Rows L2 HotX L2H LamX
abbrev sSteady : Stmt := topS 35
abbrev sRaised : Stmt := topS 36
abbrev sRaiseS : Stmt := topS 37
/-! ### rows and tables as data -/
theorem eqv_strs : ∀ xs ys : List Str, PyData.eqvAll (xs.map PyData.str) (ys.map PyData.str) = decide (xs = ys)
  | [], [] => rfl
  | [], y :: ys => rfl
  | x :: xs, [] => rfl
  | x :: xs, y :: ys => by
    have ih := eqv_strs xs ys
    simp only [List.map_cons, PyData.eqvAll, PyData.eqv, ih]
    by_cases h : x = y
    · subst h
      by_cases h2 : xs = ys
      · subst h2; simp
      · simp [h2]
    · simp [h]
theorem eqv_row (xs ys : List Str) : PyData.eqv (.tuple (xs.map PyData.str)) (.tuple (ys.map PyData.str)) = decide (xs = ys) := by
  rw [← eqv_strs]
  simp only [PyData.eqv]
theorem eqv_rows : ∀ A B : Tbl, PyData.eqvAll (A.map fun row => PyData.tuple (row.map PyData.str)) (B.map fun row => PyData.tuple (row.map PyData.str)) = decide (A = B)
  | [], [] => rfl
  | [], y :: ys => rfl
  | x :: xs, [] => rfl
  | x :: xs, y :: ys => by
    have ih := eqv_rows xs ys
    simp only [List.map_cons, PyData.eqvAll, eqv_row, ih]
    by_cases h : x = y
    · subst h
      by_cases h2 : xs = ys
      · subst h2; simp
      · simp [h2]
    · simp [h]
theorem eqv_tbl (A B : Tbl) : PyData.eqv (tblD A) (tblD B) = decide (A = B) := by
  rw [← eqv_rows]
  simp only [tblD, PyData.eqv]
theorem mk_ok : ∀ z ∈ marksL, PyData.strOk z = true := by decide +kernel
theorem lay_strs : ∀ zs : List Str, (∀ z ∈ zs, z ∈ marksL) → PyData.canLayAll0 (zs.map PyData.str) = true
  | [], _ => rfl
  | z :: r, h => by
    simp only [List.map_cons, PyData.canLayAll0, PyData.canLay0, lay_strs r (fun j hj => h j (List.mem_cons_of_mem _ hj)), mk_ok z (h z List.mem_cons_self)]
    rfl
theorem depth_strs : ∀ zs : List Str, PyData.depthAll (zs.map PyData.str) = 0
  | [] => rfl
  | d :: r => by
    simp only [List.map_cons, PyData.depthAll, PyData.depth, depth_strs r]
    rfl
theorem shaped_row {n : Nat} {row : List Str} (h : OkR n row) : SeqAt.shaped (.tuple (row.map PyData.str)) = true := by
  simp only [SeqAt.shaped, PyData.canLay0, PyData.depth, lay_strs row h.2, depth_strs]
  rfl
theorem lay_rows {n : Nat} : ∀ T : Tbl, (∀ row ∈ T, OkR n row) → PyData.canLayAll0 (T.map fun row => PyData.tuple (row.map PyData.str)) = true ∧ PyData.depthAll (T.map fun row => PyData.tuple (row.map PyData.str)) ≤ 1
  | [], _ => ⟨rfl, Nat.zero_le _⟩
  | row :: r, h => by
    have ih := lay_rows r fun x hx => h x (List.mem_cons_of_mem _ hx)
    have a := h row List.mem_cons_self
    simp only [List.map_cons, PyData.canLayAll0, PyData.canLay0, PyData.depthAll, PyData.depth, lay_strs row a.2, depth_strs, ih.1]
    exact ⟨rfl, by omega⟩
theorem shaped_tbl {n : Nat} {T : Tbl} (h : OkT n T) : SeqAt.shaped (tblD T) = true := by
  have a := lay_rows T h.2
  simp only [SeqAt.shaped, tblD, PyData.canLay0, PyData.depth, a.1, Bool.true_and]
  first
    | exact decide_eq_true (by omega)
    | (simp only [decide_eq_true_eq]; omega)
theorem steady_rows {n : Nat} {T : Tbl} (h : OkT n T) : timesT T T n = T ↔ ∀ k, k < n → rowT (T.getD k []) T n = T.getD k [] := by
  constructor
  · intro e k hk
    have z := times_row (A := T) (B := T) (n := n) (k := k) (by rw [h.1]; exact hk)
    rw [e] at z
    exact z.symm
  · intro e
    refine List.ext_getElem? fun k => ?_
    rcases Nat.lt_or_ge k n with hk | hk
    · rw [(okt_at (timesT_ok (B := T) h.1) hk).1, (okt_at h hk).1, times_row (by rw [h.1]; exact hk), e k hk]
    · rw [List.getElem?_eq_none (by rw [(timesT_ok (B := T) h.1).1]; exact hk), List.getElem?_eq_none (by rw [h.1]; exact hk)]
section
variable {P : Program} {w : World} {K : PySem.W.Frag} {mg : Str → Option Value} {base : Heap} {tM tK : Addr}
def spSteady : Sp := fun vs H Q _ => ∃ (a : Addr) (T : Tbl) (n : Nat), vs = [.ref a] ∧ Tab H a T ∧ OkT n T ∧ (1 ≤ n ∧ n ≤ 8) ∧ ∀ H', Same H H' → Q (.bl (decide (timesT T T n = T))) H'
def NSd : List Str := ["table", "row"]
theorem scSteady : FnScope NSd ["table"] (defScope sSteady) := ⟨rfl, rfl, rfl, by decide +kernel, rfl, by decide +kernel, by decide +kernel⟩
theorem ok_steady {f fR fN fBh fBe C fI : Addr} {fd fdR fdN fdBh fdBe fdI : FuncData} {k : Nat} (F : Fun K "is_steady" "is_steady" sSteady f fd) (R : Fns K mg fR fdR "row_times" sRow ["row", "table"]) (Nm : Fns K mg fN fdN "need_mark" sNeedM ["mark"]) (Bh : Fns K mg fBh fdBh "behind" sBehind ["one", "other"]) (Be : Fns K mg fBe fdBe "best" sBest ["marks"])
    (B : BMk K mg C fI fdI) (TM : TupM K mg tM tK) (mm : mg "max" = none) (mz : mg "zip" = none) (mt : mg "tuple" = none) : FnOk P w K mg base CX0 (k + 6) f fd ["table"] spSteady := by
  have GR : FnOk P w K mg base CX0 (k + 5) fR fdR ["row", "table"] (spRow K) := ok_row R.F Nm Bh Be B TM mm mz mt
  refine F.ok scSteady (fun vs H Q E h => ?_) (fun cdv A outer s H vs Q E hr h => ?_)
  · obtain ⟨a, T, n, rfl, _⟩ := h
    rfl
  · obtain ⟨a, T, n, rfl, ha, okT, hn, q⟩ := h
    obtain ⟨rs, ha1, hrl, hrs⟩ := id ha
    refine ⟨_, pss_cons (ps_for PassesOwn.never rfl (pi_tup (pv 0)) (pg_name (i := 1) scSteady.nd rfl (.inl rfl))
        (pss_one (ps_if (pt_cmpR (op_neD hr.units) (pe_call GR hr (by rfl) R.g R.F.kp R.b .nil pass0 (pa_cons (pv 1) (pa_cons (pv 0) pa_nil))) (pe_callTy call_tuple_of (by rfl) mt (by decide +kernel) (pa_cons (pv 1) pa_nil)) (nomark _)) (pss_one (ps_ret pe_bl)) pss_nil)))
      (pss_one (ps_ret pe_bl)), ?_⟩
    refine ⟨_, rfl, a, rfl, ⟨_, SqT.of ha1⟩, for_tup (K := K) (a := a) (xs := rs.map V.ref)
      (fun i σ H' => ∃ y : Option V, σ = [some (.ref a), y] ∧ Same H H' ∧ ∀ k, k < i → rowT (T.getD k []) T n = T.getD k [])
      ⟨none, rfl, fun _ _ h => h, fun k h => absurd h (Nat.not_lt_zero _)⟩ (fun i σ H' _ ⟨_, _, sm, _⟩ => SqT.of (sm _ _ ha1)) ?_ ?_⟩
    · rintro i x σ H2 hx ⟨y, rfl, s2, hk⟩
      obtain ⟨r, hi, rfl, hr2, okr⟩ := Tab.row (a := a) okT hrl hrs hx
      refine ⟨_, rfl, _, rfl, (false, r), a, T.getD i [], T, n, rfl, SqT.of (s2 _ _ hr2), ha.same s2, okr, okT, hn, fun H3 p s3 hp => ?_⟩
      refine ⟨_, rfl, r, _, rfl, .inr ⟨SqT.of (s3 _ _ (s2 _ _ hr2)), ?_⟩⟩
      refine ⟨.tuple ((rowT (T.getD i []) T n).map PyData.str), .tuple ((T.getD i []).map PyData.str), .tup (SqT.of hp) (dp_strs _), .tup (SqT.of (s3 _ _ (s2 _ _ hr2))) (dp_strs _), shaped_row rowT_ok, shaped_row okr, _, rfl, ?_⟩
      rw [eqv_row]
      by_cases e : rowT (T.getD i []) T n = T.getD i []
      · refine iteNS e ⟨_, rfl, s2.trans s3, fun k h => ?_⟩
        by_cases ek : k = i
        · rw [ek]
          exact e
        · exact hk k (by omega)
      · rw [decide_eq_false e]
        refine iteT ?_
        have ne : ¬ timesT T T n = T := fun z => e ((steady_rows okT).mp z i hi)
        have q1 := q H3 (s2.trans s3)
        rw [decide_eq_false ne] at q1
        exact q1
    · rintro σ H2 ⟨y, rfl, s2, hk⟩
      have en : (rs.map V.ref).length = n := by rw [List.length_map, hrl, okT.1]
      rw [en] at hk
      have q1 := q H2 s2
      rw [decide_eq_true ((steady_rows okT).mpr hk)] at q1
      exact q1
def spRaiseS : Sp := fun vs H Q _ => ∃ (a : Addr) (T : Tbl) (n : Nat), vs = [.ref a] ∧ Tab H a T ∧ OkT n T ∧ (1 ≤ n ∧ n ≤ 8) ∧ ∀ H' p, Same H H' → Tab H' p (raisT T n) → Q (.ref p) H'
def NRs : List Str := ["table", "loops", "room", "row", "mark", "loop"]
theorem scRaiseS : FnScope NRs ["table"] (defScope sRaiseS) := ⟨rfl, rfl, rfl, by decide +kernel, rfl, by decide +kernel, by decide +kernel⟩
def outR : Scope := { kind := .function, names := [(".0", .local), ("row", .local), ("row_times", .globalImplicit), ("zip", .globalImplicit), ("loops", .cell), ("table", .cell)], isGenerator := false, isCoroutine := false }
def inR : Scope := { kind := .function, names := [(".0", .local), ("mark", .local), ("loop", .local), ("behind", .globalImplicit)], isGenerator := false, isCoroutine := false }
theorem bkR : BlkOk NRs outR inR [("mark", 4), ("loop", 5)] := blkOk_by (by decide +kernel)
theorem rais_row {T : Tbl} {n k : Nat} (hk : k < T.length) : (raisT T n).getD k [] = rowT (wideR T n (T.getD k [])) T n := by
  unfold raisT
  rw [times_row (by simp [wideT, hk])]
  congr 1
  simp [wideT, List.getD, hk]
theorem ok_raiseS {f fR fN fBh fBe fAg C fI : Addr} {fd fdR fdN fdBh fdBe fdAg fdI : FuncData} {k : Nat} (F : Fun K "raised_steady" "raised_steady" sRaiseS f fd) (R : Fns K mg fR fdR "row_times" sRow ["row", "table"]) (Nm : Fns K mg fN fdN "need_mark" sNeedM ["mark"]) (Bh : Fns K mg fBh fdBh "behind" sBehind ["one", "other"]) (Be : Fns K mg fBe fdBe "best" sBest ["marks"]) (Ag : Fns K mg fAg fdAg "again" sAgain ["mark"])
    (B : BMk K mg C fI fdI) (TM : TupM K mg tM tK) (mm : mg "max" = none) (mz : mg "zip" = none) (mt : mg "tuple" = none) (me : mg "enumerate" = none) : FnOk P w K mg base CX0 (k + 6) f fd ["table"] spRaiseS := by
  have GR : FnOk P w K mg base CX0 (k + 5) fR fdR ["row", "table"] (spRow K) := ok_row R.F Nm Bh Be B TM mm mz mt
  have GBh : FnOk P w K mg base (L2N.CX P w) (k + 5) fBh fdBh ["one", "other"] (spBehind C) := ok_behind Bh.F Nm.F Nm.b Nm.g B TM mm
  have GAg : FnOk P w K mg base (L2N.CX P w) (k + 5) fAg fdAg ["mark"] (spAgain C) := ok_again Ag.F Nm.F Nm.b Nm.g B TM
  refine F.ok scRaiseS (fun vs H Q E h => ?_) (fun cdv A outer s H vs Q E hr h => ?_)
  · obtain ⟨a, T, n, rfl, _⟩ := h
    rfl
  · obtain ⟨a, T, n, rfl, ha, okT, hn, q⟩ := h
    obtain ⟨rs, ha1, hrl, hrs⟩ := id ha
    have hn2 := hn.2
    refine ⟨_, pss_cons (ps_set (i := 1) scRaiseS.nd rfl (.inr rfl)
        (pe_lc (own := [("room", 2), ("row", 3)]) (g := gTup K 2 (gCons (gName 2) (gCons (gName 3) gNil))) (tt := tYes) (te := tCall (spAgain C) [] E0 (tCons (tOp (rIxT K) (tVar 3) (tVar 2)) tNil)) rfl scRaiseS.nd (EnT.pi_enumT (by rfl) me (pa_cons (pv 0) pa_nil)) (blkOk_by (own := [("room", 2), ("row", 3)]) (N := NRs) (sc := defScope sRaiseS) (by decide +kernel))
          (fun _ _ _ _ _ => pg_tup (n := 2) rfl (pgs_cons (pg_name (i := 2) scRaiseS.nd rfl (.inl rfl) (.inr rfl)) (pgs_cons (pg_name (i := 3) scRaiseS.nd rfl (.inl rfl) (.inr rfl)) pgs_nil))) (fun _ _ _ _ _ => pts_nil)
          (fun _ _ _ _ _ => pe_call GAg hr (by rfl) Ag.g Ag.F.kp Ag.b .nil passN (pa_cons (pe_ix ix_tup (pv 3) (pv 2) (fun _ _ => rfl)) pa_nil))))
      (pss_one (ps_ret (pe_callTy call_tuple_of (by rfl) mt (by decide +kernel) (pa_cons
        (pe_lc (own := [("row", 3)]) (g := gName 3) (tt := tYes) (te := tCall (spRow K) [] E0 (tCons (tLc (ZN.iZip2 K (tCons (tVar 3) (tCons (tVar 1) tNil))) (gTup K 2 (gCons (gName 4) (gCons (gName 5) gNil))) tYes (tCall (spBehind C) [] E0 (tCons (tVar 4) (tCons (tVar 5) tNil))) [4, 5]) (tCons (tVar 0) tNil))) rfl scRaiseS.nd (pi_tup (pv 0)) (blkOk_by (own := [("row", 3)]) (N := NRs) (sc := defScope sRaiseS) (by decide +kernel))
          (fun _ _ _ _ _ => pg_name (i := 3) scRaiseS.nd rfl (.inl rfl)) (fun _ _ _ _ _ => pts_nil)
          (fun _ _ _ _ _ => pe_call GR hr (by rfl) R.g R.F.kp R.b .nil pass0 (pa_cons
            (pe_lc (own := [("mark", 4), ("loop", 5)]) (g := gTup K 2 (gCons (gName 4) (gCons (gName 5) gNil))) (tt := tYes) (te := tCall (spBehind C) [] E0 (tCons (tVar 4) (tCons (tVar 5) tNil))) rfl scRaiseS.nd (ZN.pi_zip2 (by rfl) mz (pa_cons (pv 3) (pa_cons (pv 1) pa_nil))) bkR
              (fun _ _ _ _ _ => pg_tup (n := 2) rfl (pgs_cons (pg_name (i := 4) scRaiseS.nd rfl (.inl rfl) (.inr rfl)) (pgs_cons (pg_name (i := 5) scRaiseS.nd rfl (.inl rfl) (.inr rfl)) pgs_nil))) (fun _ _ _ _ _ => pts_nil)
              (fun _ _ _ _ _ => pe_call GBh hr (by rfl) Bh.g Bh.F.kp Bh.b .nil passN (pa_cons (pv 4) (pa_cons (pv 5) pa_nil)))) (pa_cons (pv 0) pa_nil)))) pa_nil)))), ?_⟩
    refine ⟨_, rfl, a, rs.map V.ref, rfl, SqT.of ha1, fun D nD => ?_⟩
    refine EnT.lc_enumT (xs := rs.map V.ref) (fun i H' => Same H H' ∧ H' D = some (.lst (((List.range i).map fun k => agS (cel T k k)).map V.str))) ⟨same_upd nD, upd_same⟩ (fun i H' ⟨sm, _⟩ => SqT.of (sm _ _ ha1)) ?_ ?_
    · rintro i x t Hx hx ⟨sm, hD⟩ nt
      obtain ⟨r, hi, rfl, hr2, okr⟩ := Tab.row (a := a) okT hrl hrs hx
      have st : Same Hx (upd Hx t (.tup [V.int (i : Nat), .ref r])) := same_upd nt
      refine ⟨t, _, rfl, SqT.of upd_same, rfl, _, _, rfl, _, _, rfl, rfl, rfl, ?_⟩
      generalize upd Hx t (.tup [V.int (i : Nat), .ref r]) = H3 at st
      refine yes1 ?_
      refine ⟨_, rfl, _, rfl, r, _, _, _, rfl, rfl, SqT.of (st _ _ (sm _ _ hr2)), atI_str okr hi, ?_⟩
      simp only [tNil, List.cons_append, List.nil_append]
      refine use_again (okr_at okr hi).2 fun H4 s4 => ?_
      exact growF (f := fun k => agS (cel T k k)) nD (by omega) (sm.trans (st.trans s4)) ((st.trans s4) _ _ hD)
    · rintro H2 ⟨s2, hD⟩
      have en : (rs.map V.ref).length = n := by rw [List.length_map, hrl, okT.1]
      rw [en] at hD
      refine ⟨_, rfl, a, rfl, ⟨_, SqT.of (s2 _ _ ha1)⟩, fun D2 nD2 => ?_⟩
      refine lc_tup (K := K) (a := a) (xs := rs.map V.ref) (fun i H' => Same H2 H' ∧ ∃ ls, Grown H' D2 ls i fun k o => o = .tup (((raisT T n).getD k []).map V.str)) ⟨same_upd nD2, [], Grown.nil upd_same⟩ (fun i H' _ ⟨sm, _⟩ => SqT.of (sm _ _ (s2 _ _ ha1))) (fun i x H' hx ⟨sm, ls, gr⟩ => ?_) (fun H5 ⟨s5, ls, gr⟩ => ?_)
      · obtain ⟨r, hi, rfl, hr2, okr⟩ := Tab.row (a := a) okT hrl hrs hx
        have s2m := s2.trans sm
        refine ⟨rfl, ?_⟩
        refine yes1 ?_
        refine ⟨_, rfl, _, rfl, (false, r), (true, D), rfl, ⟨_, SqT.of (s2m _ _ hr2)⟩, ⟨_, SqL.of (sm _ _ hD)⟩, fun D3 nD3 => ?_⟩
        refine ZN.lc_zip2 (xs := (T.getD i []).map V.str) (ys := ((List.range n).map fun k => agS (cel T k k)).map V.str) (by rw [List.length_map, List.length_map, List.length_map, List.length_range, okr.1]) (fun j H'' => Same H' H'' ∧ H'' D3 = some (.lst (((List.range j).map fun k => bhd ((T.getD i []).getD k "") (agS (cel T k k))).map V.str)))
          ⟨same_upd nD3, upd_same⟩ (fun j H'' ⟨sm2, _⟩ => ⟨SqT.of (sm2 _ _ (s2m _ _ hr2)), SqL.of (sm2 _ _ (sm _ _ hD))⟩) ?_ ?_
        · rintro j x y t Hx hx hy ⟨sm2, hD3⟩ nt
          have hj : j < n := by
            have z := (List.getElem?_eq_some_iff.mp hx).1
            rw [List.length_map, okr.1] at z
            exact z
          have ej := okr_at okr hj
          rw [List.getElem?_map, ej.1] at hx
          obtain rfl := Option.some.inj hx
          rw [List.getElem?_map, List.getElem?_map, List.getElem?_range hj] at hy
          obtain rfl := Option.some.inj hy
          have st : Same Hx (upd Hx t (.tup [V.str ((T.getD i []).getD j ""), V.str (agS (cel T j j))])) := same_upd nt
          refine ⟨t, _, rfl, SqT.of upd_same, rfl, _, _, rfl, _, _, rfl, rfl, rfl, ?_⟩
          refine yes1 ?_
          refine ⟨_, rfl, _, rfl, ?_⟩
          simp only [tNil, List.cons_append, List.nil_append]
          refine use_behind ej.2 (agS_in (cel_at okT hj hj).2) ?_
          exact growF (f := fun k => bhd ((T.getD i []).getD k "") (agS (cel T k k))) nD3 (by omega) (sm2.trans st) (st _ _ hD3)
        · rintro H4 ⟨s4, hD3⟩
          rw [List.length_map, okr.1] at hD3
          refine ⟨_, rfl, (true, D3), a, wideR T n (T.getD i []), T, n, rfl, SqL.of hD3, (ha.same s2m).same s4, wideR_ok okT okr, okT, hn, fun H6 p s6 hp => ?_⟩
          have s46 := s4.trans s6
          have nDp : p ≠ D2 := fun z => by
            have q := s46 _ _ gr.2.1
            rw [← z, hp] at q
            cases q
          obtain ⟨acc, a1, a2, a3⟩ := gr.more s46 (by omega) nDp hp (by rw [rais_row (by rw [okT.1]; exact hi)])
          exact ⟨acc, a1, a2, same_put nD2 (sm.trans s46), _, a3⟩
      · refine ⟨D2, _, rfl, .inl ⟨SqL.of gr.2.1, fun p np => ?_⟩⟩
        refine q _ p (s2.trans (s5.trans (same_upd np))) (Grown.tab (D := D2) ?_ np)
        rw [(raisT_ok okT).1]
        rw [en] at gr
        exact gr
def spRaised (C : Addr) : Sp := fun vs H Q E => ∃ (a : Addr) (T : Tbl) (n : Nat), vs = [.ref a] ∧ Tab H a T ∧ OkT n T ∧ (1 ≤ n ∧ n ≤ 8) ∧ (timesT T T n = T → ∀ H' p, Same H H' → Tab H' p (raisT T n) → Q (.ref p) H') ∧ (timesT T T n ≠ T → ∀ H', Same H H' → refuse C "badtable" H' E)
theorem scRaised : FnScope ["table"] ["table"] (defScope sRaised) := ⟨rfl, rfl, rfl, by decide +kernel, rfl, by decide +kernel, by decide +kernel⟩
theorem ok_raised {f fSd fRs fR fN fBh fBe fAg C CB fI fIB : Addr} {fd fdSd fdRs fdR fdN fdBh fdBe fdAg fdI fdIB : FuncData} {k : Nat} (F : Fun K "raised" "raised" sRaised f fd) (Sd : Fns K mg fSd fdSd "is_steady" sSteady ["table"]) (Rs : Fns K mg fRs fdRs "raised_steady" sRaiseS ["table"]) (R : Fns K mg fR fdR "row_times" sRow ["row", "table"]) (Nm : Fns K mg fN fdN "need_mark" sNeedM ["mark"]) (Bh : Fns K mg fBh fdBh "behind" sBehind ["one", "other"]) (Be : Fns K mg fBe fdBe "best" sBest ["marks"]) (Ag : Fns K mg fAg fdAg "again" sAgain ["mark"])
    (B : BMk K mg C fI fdI) (U : MkBadTable K mg CB fIB fdIB) (TM : TupM K mg tM tK) (mm : mg "max" = none) (mz : mg "zip" = none) (mt : mg "tuple" = none) (me : mg "enumerate" = none) : FnOk P w K mg base (L2N.CX P w) (k + 7) f fd ["table"] (spRaised CB) := by
  have GSd : FnOk P w K mg base CX0 (k + 6) fSd fdSd ["table"] spSteady := ok_steady Sd.F R Nm Bh Be B TM mm mz mt
  have GRs : FnOk P w K mg base CX0 (k + 6) fRs fdRs ["table"] spRaiseS := ok_raiseS Rs.F R Nm Bh Be Ag B TM mm mz mt me
  refine okN F scRaised (fun vs H Q E h => ?_) (fun cdv A outer s H vs Q E hr h => ?_)
  · obtain ⟨a, T, n, rfl, _⟩ := h
    rfl
  · obtain ⟨a, T, n, rfl, ha, okT, hn, q, e⟩ := h
    refine ⟨_, pss_cons (ps_if (pt_not (pt_val (pe_call GSd hr (by rfl) Sd.g Sd.F.kp Sd.b .nil pass0 (pa_cons (pv 0) pa_nil)))) (pss_one (L2N.ps_raise rfl (L2N.takes_of rfl rfl rfl rfl) (pmk_word (k := k + 5) U.T U.iC U.tI (ok_initBadTable U) hr U.b (by rfl) U.g))) pss_nil)
      (pss_one (ps_ret (pe_call GRs hr (by rfl) Rs.g Rs.F.kp Rs.b .nil pass0 (pa_cons (pv 0) pa_nil)))), ?_⟩
    refine ⟨_, rfl, a, T, n, rfl, ha, okT, hn, fun H2 s2 => ⟨_, rfl, ?_⟩⟩
    by_cases st : timesT T T n = T
    · rw [decide_eq_true st]
      refine iteF ?_
      exact ⟨_, rfl, a, T, n, rfl, ha.same s2, okT, hn, fun H3 p s3 hp => q st H3 p (s2.trans s3) hp⟩
    · rw [decide_eq_false st]
      exact iteT (fun d hd => e st H2 s2 d hd)
end
end Onp
set_option maxHeartbeats 8000000
set_option autoImplicit false
namespace Onp
open PySem PySem.Spec PyProof.Rows L2 HotX L2H LamX
abbrev sLRaised : Stmt := topS 51
section
variable {P : Program} {w : World} {K : PySem.W.Frag} {mg : Str → Option Value} {base : Heap} {tM tK : Addr}
def spLRaised : Sp := fun vs H Q _ => ∃ (a : Addr) (T : Tbl) (n : Nat), vs = [.ref a] ∧ Tab H a T ∧ OkT n T ∧ (1 ≤ n ∧ n ≤ 8) ∧ ∀ H' p, Same H H' → Tab H' p (raisT T n) → Q (.ref p) H'
def NLR : List Str := ["_law_table", "_law_rooms", "_law_wide", "_law_row", "_law_k"]
theorem scLRaised : FnScope NLR ["_law_table"] (defScope sLRaised) := ⟨rfl, rfl, rfl, by decide +kernel, rfl, by decide +kernel, by decide +kernel⟩
def outW : Scope := { kind := .function, names := [(".0", .local), ("_law_row", .cell), ("tuple", .globalImplicit), ("_law_rooms", .cell), ("_law_table", .cell)], isGenerator := false, isCoroutine := false }
def inW : Scope := { kind := .function, names := [(".0", .local), ("_law_k", .local), ("_law_two_marks", .globalImplicit), ("_law_often", .globalImplicit), ("_law_row", .free), ("_law_table", .free)], isGenerator := false, isCoroutine := false }
theorem bkW : BlkOk NLR outW inW [("_law_k", 4)] := blkOk_by (by decide +kernel)
theorem wide_row {T : Tbl} {n k : Nat} (hk : k < T.length) : (wideT T n).getD k [] = wideR T n (T.getD k []) := by
  simp [wideT, List.getD, hk]
theorem ok_lraised {f fA fTw fLb fOf fLt : Addr} {fd fdA fdTw fdLb fdOf fdLt : FuncData} {k : Nat} (F : Fun K "_law_raised" "_law_raised" sLRaised f fd) (Lt : Fns K mg fLt fdLt "_law_times" sLTimes ["_law_one", "_law_other"]) (Al : Fns K mg fA fdA "_law_marks_all" sAllM []) (Tw : Fns K mg fTw fdTw "_law_two_marks" sTwoM ["_law_one", "_law_other"]) (Lb : Fns K mg fLb fdLb "_law_best" sLBest ["_law_marks_here"]) (Of : Fns K mg fOf fdOf "_law_often" sOften ["_law_mark"])
    (mn : mg "min" = none) (mm : mg "max" = none) (mt : mg "tuple" = none) (ml : mg "len" = none) (mli : mg "list" = none) (mr : mg "range" = none) : FnOk P w K mg base CX0 (k + 4) f fd ["_law_table"] spLRaised := by
  have GLt : FnOk P w K mg base CX0 (k + 3) fLt fdLt ["_law_one", "_law_other"] (spLTimes K) := ok_ltimes Lt.F Al Tw Lb mn mm mt ml mli mr
  have GTw : FnOk P w K mg base CX0 (k + 3) fTw fdTw ["_law_one", "_law_other"] spTwoM := ok_twoM Tw.F mm
  have GOf : FnOk P w K mg base CX0 (k + 3) fOf fdOf ["_law_mark"] spOften := ok_often Of.F
  refine F.ok scLRaised (fun vs H Q E h => ?_) (fun cdv A outer s H vs Q E hr h => ?_)
  · obtain ⟨a, T, n, rfl, _⟩ := h
    rfl
  · obtain ⟨a, T, n, rfl, ha, okT, hn, q⟩ := h
    obtain ⟨rs, ha1, hrl, hrs⟩ := id ha
    have hn2 := hn.2
    refine ⟨_, pss_cons (ps_set (i := 1) scLRaised.nd rfl (.inr rfl) (pe_listRg rfl (by rfl) mli (prg_1 (by rfl) mr (pe_callB call_len_seq (by rfl) ml PySem.boot_len (pa_cons (pv 0) pa_nil)))))
      (pss_cons (ps_setLc (i := 2) (own := [("_law_row", 3)]) (g := gName 3) (tt := tYes) (te := tCB (rTupOf K) (tCons (tLc (iList K (tVar 1)) (gName 4) tYes (tCall spTwoM [] E0 (tCons (tOp (rIxT K) (tVar 3) (tVar 4)) (tCons (tCall spOften [] E0 (tCons (tOp (rIxT K) (tOp (rIxT K) (tVar 0) (tVar 4)) (tVar 4)) tNil)) tNil))) [4]) tNil)) rfl scLRaised.nd rfl rfl (sw_true rfl rfl rfl (by decide +kernel)) (pi_tup (pv 0)) (blkOk_by (own := [("_law_row", 3)]) (N := NLR) (sc := defScope sLRaised) (by decide +kernel))
          (fun _ _ _ _ _ => pg_name (i := 3) scLRaised.nd rfl (.inr rfl) (.inl rfl)) (fun _ _ _ _ _ => pts_nil) (fun _ _ _ _ _ => pe_callTy call_tuple_of (by rfl) mt (by decide +kernel) (pa_cons
            (pe_lc (own := [("_law_k", 4)]) (g := gName 4) (tt := tYes) (te := (tCall spTwoM [] E0 (tCons (tOp (rIxT K) (tVar 3) (tVar 4)) (tCons (tCall spOften [] E0 (tCons (tOp (rIxT K) (tOp (rIxT K) (tVar 0) (tVar 4)) (tVar 4)) tNil)) tNil)))) rfl scLRaised.nd (pi_list (pv 1)) bkW
              (fun _ _ _ _ _ => pg_name (i := 4) scLRaised.nd rfl (.inl rfl)) (fun _ _ _ _ _ => pts_nil) (fun _ _ _ _ _ => pe_call GTw hr (by rfl) Tw.g Tw.F.kp Tw.b .nil pass0 (pa_cons (pe_ix ix_tup (pv 3) (pv 4) (fun _ _ => rfl)) (pa_cons
                (pe_call GOf hr (by rfl) Of.g Of.F.kp Of.b .nil pass0 (pa_cons (pe_ix ix_tup (pe_ix ix_tup (pv 0) (pv 4) (fun _ _ => rfl)) (pv 4) (fun _ _ => rfl)) pa_nil)) pa_nil)))) pa_nil)))
      (pss_one (ps_ret (pe_call GLt hr (by rfl) Lt.g Lt.F.kp Lt.b .nil pass0 (pa_cons (pv 2) (pa_cons (pv 0) pa_nil)))))), ?_⟩
    refine ⟨_, rfl, a, rs.map V.ref, rfl, .inr (SqT.of ha1), _, rfl, ?_, fun rm nrm => ?_⟩
    · rw [List.length_map, hrl, okT.1]
      exact RgOk.of_le (by omega) (by omega) (by omega) (by omega)
    have s1 := same_upd (o := .lst (rgV 0 ((rs.map V.ref).length : Nat))) nrm
    have e1 : (upd H rm (.lst (rgV 0 ((rs.map V.ref).length : Nat)))) rm = some (.lst (rgV 0 (n : Nat))) := by rw [upd_same, List.length_map, hrl, okT.1]
    generalize upd H rm (.lst (rgV 0 ((rs.map V.ref).length : Nat))) = H1 at s1 e1
    refine ⟨_, rfl, a, rfl, ⟨_, SqT.of (s1 _ _ ha1)⟩, fun D nD => ?_⟩
    refine lc_tup (K := K) (a := a) (xs := rs.map V.ref) (fun i H' => Same H1 H' ∧ ∃ ls, Grown H' D ls i fun k o => o = .tup (((wideT T n).getD k []).map V.str)) ⟨same_upd nD, [], Grown.nil upd_same⟩ (fun i H' _ ⟨sm, _⟩ => SqT.of (sm _ _ (s1 _ _ ha1))) (fun i x H' hx ⟨sm, ls, gr⟩ => ?_) (fun H5 ⟨s5, ls, gr⟩ => ?_)
    · obtain ⟨r, hi, rfl, hr2, okr⟩ := Tab.row (a := a) okT hrl hrs hx
      have sA := s1.trans sm
      refine ⟨rfl, ?_⟩
      refine yes1 ?_
      refine ⟨_, rfl, rm, rfl, ⟨_, SqL.of (sm _ _ e1)⟩, fun D2 nD2 => ?_⟩
      refine lc_list (K := K) (a := rm) (xs := rgV 0 (n : Nat)) (fun m H'' => Same H' H'' ∧ H'' D2 = some (.lst (((List.range m).map fun k => bhd ((T.getD i []).getD k "") (agS (cel T k k))).map V.str))) ⟨same_upd nD2, upd_same⟩ (fun m H'' _ ⟨sm2, _⟩ => SqL.of (sm2 _ _ (sm _ _ e1))) (fun m x H'' hx ⟨sm2, hD2⟩ => ?_) (fun H4 ⟨s4, hD2⟩ => ?_)
      · obtain ⟨hm, rfl⟩ := rgV_at hx
        have sB := sA.trans sm2
        have hb2 : (rs.map V.ref)[m]? = some (.ref (rs.getD m 0)) := by
          have hm2 : m < rs.length := by rw [hrl, okT.1]; exact hm
          rw [List.getElem?_map, List.getElem?_eq_getElem hm2]
          simp [List.getD, hm2]
        obtain ⟨r2, _, er2, hr3, okr2⟩ := Tab.row (a := a) okT hrl hrs hb2
        refine ⟨rfl, ?_⟩
        refine yes1 ?_
        refine ⟨_, rfl, _, rfl, r, _, _, _, rfl, rfl, SqT.of (sB _ _ hr2), atI_str okr hm, ?_⟩
        refine ⟨_, rfl, _, rfl, a, _, _, _, rfl, rfl, SqT.of (sB _ _ ha1), atI_nat (by rw [hb2, er2]), ?_⟩
        refine ⟨_, rfl, r2, _, _, _, rfl, rfl, SqT.of (sB _ _ hr3), atI_str okr2 hm, ?_⟩
        simp only [tNil, List.cons_append, List.nil_append]
        refine use_often (okr_at okr2 hm).2 fun H5 s5 => ?_
        refine use_two (okr_at okr hm).2 (agS_in (okr_at okr2 hm).2) fun H6 s6 => ?_
        exact growF (f := fun k => bhd ((T.getD i []).getD k "") (agS (cel T k k))) nD2 (by omega) (sm2.trans (s5.trans s6)) ((s5.trans s6) _ _ hD2)
      · rw [rgV_len] at hD2
        refine ⟨D2, _, rfl, .inl ⟨SqL.of hD2, fun p np => ?_⟩⟩
        have nDp : p ≠ D := (ne_of_none (s4 _ _ gr.2.1) np).symm
        obtain ⟨acc, a1, a2, a3⟩ := gr.more (o := .tup ((wideR T n (T.getD i [])).map V.str)) (s4.trans (same_upd np)) (by omega) nDp upd_same (by rw [wide_row (by rw [okT.1]; exact hi)])
        exact ⟨acc, a1, a2, same_put nD (sm.trans (s4.trans (same_upd np))), _, a3⟩
    · have en : (rs.map V.ref).length = n := by rw [List.length_map, hrl, okT.1]
      rw [en] at gr
      have s15 := s1.trans s5
      refine ⟨_, rfl, _, rfl, (true, D), a, wideT T n, T, n, rfl, ⟨ls, SqL.of gr.2.1, by rw [gr.1, (wideT_ok okT).1], fun k r row e e2 => ?_⟩, ha.same s15, wideT_ok okT, okT, hn, fun H6 p s6 hp => q H6 p (s15.trans s6) hp⟩
      obtain ⟨_, o, ho, rfl⟩ := gr.2.2 k r e
      rw [ho]
      have e3 : (wideT T n).getD k [] = row := by simp [List.getD, e2]
      rw [e3]
end
end Onp
set_option maxHeartbeats 4000000
set_option autoImplicit false
namespace Onp
open PySem PySem.Spec PyProof.Rows L2 HotX L2H LamX
/-! ### a lambda with one parameter, which has a whole number as its default and isn't used -/
abbrev dOb (q : Str) (ar : Arguments) (e : Expr) (sc : Scope) (cl : List (Str × Addr)) (T : Addr) (dc pm : Value) (c' : Addr) (ct : Value) : Obj := PySem.W.kdv_obj "<lambda>" q ar (.expr e) sc cl (.ref T) dc pm c' ct
structure LamD (sc scope : Scope) (x : Str) : Prop where
  kind : scope.kind = .function
  co : scope.isCoroutine = false
  gen : scope.isGenerator = false
  own : ∀ y ∈ scope.names, y.2 ≠ .cell ∧ (y.2 = .local → y.1 = x)
  par : scope.names.lookup x = some .local
  free : ∀ y ∈ scope.names, y.2 = .free → sc.names.lookup y.1 = some .cell ∨ sc.names.lookup y.1 = some .free
  non : ∀ y ∈ scope.names, y.1 ≠ ("" : Str)
def lamDB (sc scope : Scope) (x : Str) : Bool :=
  decide (scope.kind = .function) && !scope.isCoroutine && !scope.isGenerator && decide (scope.names.lookup x = some .local) &&
    scope.names.all fun y => !decide (y.2 = .cell) && (!decide (y.2 = .local) || decide (y.1 = x)) && !decide (y.1 = ("" : Str)) && (!decide (y.2 = .free) || decide (sc.names.lookup y.1 = some .cell) || decide (sc.names.lookup y.1 = some .free))
theorem lamD_by {sc scope : Scope} {x : Str} (h : lamDB sc scope x = true) : LamD sc scope x := by
  unfold lamDB at h
  simp only [Bool.and_eq_true, Bool.or_eq_true, Bool.not_eq_true', decide_eq_true_eq, decide_eq_false_iff_not, List.all_eq_true] at h
  obtain ⟨⟨⟨⟨h1, h2⟩, h3⟩, h5⟩, h4⟩ := h
  refine ⟨h1, h2, h3, fun y hy => ⟨(h4 y hy).1.1.1, fun z => ?_⟩, h5, fun y hy e => ?_, fun y hy => (h4 y hy).1.2⟩
  · exact (h4 y hy).1.1.2.elim (fun q => absurd z q) id
  · exact (h4 y hy).2.elim (fun q => q.elim (fun q => absurd e q) .inl) .inr
theorem LamD.has {X : Cx} {scope : Scope} {x : Str} (L : LamD X.env.scope scope x) (ok : X.Ok) : ∀ y ∈ scope.names, y.2 = .free → ∃ c, X.env.cells.lookup y.1 = some c := fun y hy e =>
  (L.free y hy e).elim (fun k => ok.has _ (.inl k)) (fun k => ok.has _ (.inr k))
def mask (x y : Str) : Str := if y = x then "" else y
def lamCxD (X : Cx) (A : Around) (outer : List Env) (s : Shared) (H : Hp) (E : XK) (scope : Scope) (f c' : Addr) (x : Str) : Cx := { lamCxN X A outer s H E scope f c' with N := X.N.map (mask x) }
section
variable {X : Cx} {pins : List (Addr × Obj)} {σ : L2.St} {H : Hp} {s : Shared}
theorem lam_makeD {T : List (Addr × Str)} {c P : Addr} {ar : Arguments} {body : Expr} {sc : Scope} {pos p0 : Pos} {z : Int} {u0 : Nat} {Er : Value → Shared → Prop} {Qv : Value → Shared → Prop} (I : Inv X pins σ H s) (TB : TabB X.base X.mg c P) (hcode : X.env.code = .ref c)
    (hm : (P, X.env.qual ++ "<lambda>") ∈ T) (hu : ∀ p ∈ T, p.1 = P → p.2 = X.env.qual ++ "<lambda>") (hT : Tabs T H) (hd1 : ar.defaults = [.Constant (.int z) u0 p0]) (hd2 : ar.kw_defaults = []) (hfree : ∀ y ∈ sc.names, y.2 = .free → ∃ c, X.env.cells.lookup y.1 = some c)
    (h : ∀ (f c' t : Addr) (dc pm ct : Value) (H1 : Hp) (s' : Shared), Inv X pins σ H1 s' → ExtN H H1 → Tabs T H1 → s'.heap.get? f = some (dOb (X.env.qual ++ "<lambda>") ar body sc (cloFrom X.env.cells sc.names []) t dc pm c' ct) →
      H1 f = none → f ∉ frs X.stack → H1 c' = some (CodeO c' (X.env.qual ++ "<lambda>")) → H1 t = some (.tup [.int z]) → Qv (.ref f) s') :
    wpAny (model X.prog X.w) X.A (eval (.Lambda ar body sc pos) X.env) Qv Er s := by
  refine PySem.W.kdv_lam (by rw [hd1]; rfl) hd2 ?_
  rw [hd1]
  refine PySem.W.kdv_all1 (wpAny_Constant_int (PySem.W.kdv_all0 ?_))
  have I1 := I.tok (s.toks + 1)
  have r1 : RelV (.int z) (.int z s.toks) := ⟨_, rfl⟩
  generalize (Value.int z s.toks) = uv at r1
  generalize ({ s with toks := s.toks + 1 } : Shared) = s1 at I1
  rw [makeFunction_eq]
  simp only [List.zip_nil_right, List.filterMap_nil, List.isEmpty_nil, if_true, pure_bind, List.isEmpty_cons, Bool.false_eq_true, if_false]
  refine wpAny_bind (wpAny_newTextTuple ?_)
  have nT : H s1.heap.objs.size = none := I1.hok.fresh (Nat.le_refl _)
  have I2 : Inv X pins σ (upd H s1.heap.objs.size (.tup [.int z])) { s1 with heap := s1.heap.push { cls := .type "tuple", data := .seq [uv].toArray } } :=
    I1.laid (t' := s1.toks) (fun b u e => Heap.get?_push_of_some _ e) (Nat.le_refl _) ⟨(by decide : 1 ≤ sizeLine), [uv], .cons r1 .nil, ⟨_, Heap.get?_push_size _ rfl, rfl, _, rfl⟩⟩
  have hT2 : Tabs T (upd H s1.heap.objs.size (.tup [.int z])) := hT.ext fun b o e => by
    rw [upd_ne (ne_of_none e nT)]
    exact e
  have e2 : ExtN H (upd H s1.heap.objs.size (.tup [.int z])) := ExtN.of fun b o e => by
    rw [upd_ne (ne_of_none e nT)]
    exact e
  have hTt : (upd H s1.heap.objs.size (.tup [.int z])) s1.heap.objs.size = some (.tup [.int z]) := upd_same
  generalize upd H s1.heap.objs.size (.tup [.int z]) = H2 at I2 hT2 e2 hTt
  generalize s1.heap.objs.size = t at hTt
  generalize ({ s1 with heap := s1.heap.push { cls := .type "tuple", data := .seq [uv].toArray } } : Shared) = s2 at I2
  obtain ⟨ps, hP, ht, ha⟩ := hT2 _ hm
  have bP : s2.heap.BuiltinsAt X.mg P := TB.bm.keeps I2.bk
  have hP' : s2.heap.get? P = some { cls := .none, data := .fields ps } := I2.hok P _ hP
  have nofr : ∀ f, s2.heap.objs.size ≤ f → f ∉ frs X.stack := fun f hf w => by
    rcases List.mem_cons.mp (I2.stkSub _ w) with e | e
    · have q := I2.lt
      rw [← e] at q
      exact absurd (Nat.lt_of_lt_of_le q hf) (Nat.lt_irrefl f)
    · exact I2.nofs hf e
  cases hc : codeAmong pos ps.toList with
  | none =>
    refine PySem.W.kdv_makeTail (mg := X.mg) (c := c) (P := P) (ps := ps) (dV := .ref t) (closure_ok hfree) I2.ok.glob (I2.mod.glob.keeps I2.bk) hcode (TB.code.keeps I2.bk) hP' ht hc TB.gP bP fun c' ct dc h' tk hx hge hlt hrec htb => ?_
    obtain ⟨c2, oc, vs, tq, e3, hoc, hd, hv⟩ := hrec
    cases e3
    have hsz : s2.heap.objs.size ≤ h'.objs.size := by omega
    have nC : H2 c' = none := I2.hok.fresh hge
    have J := inv_table (t' := tk) (more := #[rawInt pos.line, rawInt pos.col, .ref c']) (h' := h'.push (dOb (X.env.qual ++ "<lambda>") ar body sc (cloFrom X.env.cells sc.names []) t dc ((X.mg "__name__").getD .none) c' ct)) I2 hP
      (fun b o hb e => Heap.get?_push_of_some _ (hx b o hb e)) (Heap.get?_push_of_some _ htb) hge ⟨oc, vs, tq, Heap.get?_push_of_some _ hoc, hd, hv⟩
    have hE : ExtN H2 (upd (upd H2 P (.tbl (ps ++ #[rawInt pos.line, rawInt pos.col, .ref c']))) c' (CodeO c' (X.env.qual ++ "<lambda>"))) := fun b o e n => by
      rw [upd_ne (ne_of_none e nC), upd_ne (fun w => n ps (Option.some.inj (e.symm.trans (by rw [w]; exact hP))))]
      exact e
    have eL : (ps ++ #[rawInt pos.line, rawInt pos.col, .ref c']).toList = ps.toList ++ [rawInt pos.line, rawInt pos.col, .ref c'] := by simp
    refine h h'.objs.size c' t dc ((X.mg "__name__").getD .none) ct _ _ J (e2.trans hE) (fun p hp => ?_) (Heap.get?_push_size _ rfl) ?_ (nofr _ hsz) upd_same (hE _ _ hTt fun ps w => by cases w)
    · by_cases hb : p.1 = P
      · rw [hu p hp hb, hb]
        refine ⟨_, by rw [upd_ne (ne_of_none hP nC), upd_same], by rw [eL]; exact PySem.TriplesOk_snoc _ _ _ _ ht, fun p' cv hcv => ?_⟩
        rw [eL] at hcv
        rcases among_app _ ht hcv with w | w
        · obtain ⟨c0, q1, q2⟩ := ha p' cv w
          exact ⟨c0, q1, hE _ _ q2 codeO_ne⟩
        · exact ⟨c', w, upd_same⟩
      · obtain ⟨ps', a1, a2, a3⟩ := hT2 p hp
        refine ⟨ps', by rw [upd_ne (ne_of_none a1 nC), upd_ne hb]; exact a1, a2, fun p' cv hcv => ?_⟩
        obtain ⟨c0, q1, q2⟩ := a3 p' cv hcv
        exact ⟨c0, q1, hE _ _ q2 codeO_ne⟩
    · have n1 : h'.objs.size ≠ c' := by omega
      have n2 : h'.objs.size ≠ P := by
        exact Nat.ne_of_gt (Nat.lt_of_lt_of_le (Heap.lt_size hP') (by omega))
      rw [upd_ne n1, upd_ne n2]
      exact I2.hok.fresh hsz
  | some cv =>
    obtain ⟨c', e, hco⟩ := ha pos cv hc
    subst e
    refine PySem.W.kdv_makeTailHit (mg := X.mg) (c := c) (P := P) (ps := ps) (dV := .ref t) (closure_ok hfree) I2.ok.glob (I2.mod.glob.keeps I2.bk) hcode (TB.code.keeps I2.bk) hP' ht hc bP fun ct dc h' tk hx hsz => ?_
    have J : Inv X pins σ H2 { s2 with heap := h'.push (dOb (X.env.qual ++ "<lambda>") ar body sc (cloFrom X.env.cells sc.names []) t dc ((X.mg "__name__").getD .none) c' ct), toks := tk } := I2.kept fun b o e => Heap.get?_push_of_some _ (hx b o e)
    exact h h'.objs.size c' t dc ((X.mg "__name__").getD .none) ct H2 _ J e2 hT2 (Heap.get?_push_size _ rfl) (I2.hok.fresh hsz) (nofr _ hsz) hco hTt
theorem lam_startD {HZ : Hp} {s1 : Shared} {A : Around} {outer : List Env} {E : XK} {sc : Scope} {f c' : Addr} {x : Str} {uz : Value} {j : Heap} {tk : Nat} (I : Inv X pins σ H s) (L : LamD X.env.scope sc x) (e0 : Env0 X.prog X.w X.K X.mg X.base A outer s1 HZ) (hd : A.handled = none)
    (un : Un (frs X.stack) [] H HZ s.heap s1.heap) (hns : j.Ns s1.heap.objs.size fun y => ([(x, uz)] : List (Str × Value)).reverse.lookup y) (kp : ∀ b o, s1.heap.get? b = some o → j.get? b = some o) : Inv (lamCxD X A outer s1 HZ E sc f c' x) [] σ HZ { s1 with heap := j, toks := tk } := by
  have hfree := L.has I.ok
  have cm : ∀ {y c}, (cloFrom X.env.cells sc.names []).lookup y = some c → X.env.cells.lookup y = some c := fun {y c} e => by
    rcases cloFrom_mem (PySem.mem_of_lookup e) with q | ⟨q1, q2⟩
    · cases q
    · obtain ⟨c1, hc⟩ := hfree _ q1 rfl
      have hc : X.env.cells.lookup y = some c1 := hc
      rw [hc] at q2
      rw [q2]
      exact hc
  have look : ∀ {y}, sc.names.lookup y = some .free → ∃ c, (cloFrom X.env.cells sc.names []).lookup y = some c := fun {y} q => mem_lookup (cloFrom_has (cells := X.env.cells) (acc := []) (PySem.mem_of_lookup q))
  have cellK : ∀ {c : Addr} {v : Option Value}, H c = none → s.heap.IsCell c v → j.IsCell c v := fun {c v} n ⟨o, ho, hd⟩ => by
    obtain ⟨sl, q⟩ := un.any ho n (by simp)
    exact ⟨_, kp _ _ q, hd⟩
  have noA : ∀ b : Addr, b ∉ (lamCxD X A outer s1 HZ E sc f c' x).ex := fun b w => nomatch (show b ∈ ([] : List Addr) from w)
  refine ⟨⟨e0.mod, L.kind, rfl, rfl, Nat.le_refl _, fun y w c e1 e2 => I.ok.inj y w c (cm e1) (cm e2), fun y hy => ?_, fun y c w _ => ?_, fun _ => hd, Around.frames_deeper e0.frames, .inr ⟨rfl, rfl⟩, fun b w => absurd w (noA b), e0.bs, e0.bsz, fun b _ _ => noA b,
      fun b w => absurd w (noA b), e0.funs, e0.frf⟩, rfl, e0.bare, Un.kept kp, ⟨_, hns, fun i y v e1 e2 e3 => ?_⟩, fun y c e => ?_, e0.hok.fresh (Nat.le_refl _), fun y c e => ?_, fun q hq => (nomatch (show q ∈ ([] : List (Addr × Obj)) from hq)), e0.hok.kept kp, ?_⟩
  · have hy : sc.names.lookup y = some .cell ∨ sc.names.lookup y = some .free := hy
    rcases hy with hy | hy
    · exact absurd rfl (L.own _ (PySem.mem_of_lookup hy)).1
    · exact look hy
  · exact absurd (show false = true from w) (by decide)
  · have e1 : (X.N.map (mask x))[i]? = some y := e1
    rw [List.getElem?_map] at e1
    obtain ⟨y0, ey, em⟩ := Option.map_eq_some_iff.mp e1
    have e3 : Vis sc y := e3
    by_cases hx : y0 = x
    · have ym : y = "" := by
        rw [← em]
        unfold mask
        rw [if_pos hx]
      rcases e3 with k | k | k <;> exact absurd ym (L.non _ (PySem.mem_of_lookup k))
    · have ym : y0 = y := by
        rw [← em]
        unfold mask
        rw [if_neg hx]
      subst ym
      rcases e3 with k | k | k
      · exact absurd ((L.own _ (PySem.mem_of_lookup k)).2 rfl) hx
      · exact absurd rfl (L.own _ (PySem.mem_of_lookup k)).1
      · obtain ⟨m, hn, hl⟩ := I.loc
        have hf := L.free _ (PySem.mem_of_lookup k) rfl
        have hvis : Vis X.env.scope y0 := hf.elim (fun k => .inr (.inl k)) (fun k => .inr (.inr k))
        obtain ⟨u', r, q⟩ := hl i y0 v ey e2 hvis
        obtain ⟨c2, h2⟩ := look k
        refine ⟨u', r, .inr ⟨.inr k, c2, h2, ?_⟩⟩
        have c1 := cm h2
        rcases q with ⟨k', _⟩ | ⟨_, c3, e', w⟩
        · have k' : X.env.scope.names.lookup y0 = some .local := k'
          rcases hf with k2 | k2 <;> rw [show X.env.scope.names.lookup y0 = _ from k2] at k' <;> cases k'
        · rw [c1] at e'
          cases e'
          exact cellK (I.freeC y0 _ c1) w
  · obtain ⟨u', w⟩ := I.cell y c (cm e)
    exact ⟨u', cellK (I.freeC y c (cm e)) w⟩
  · obtain ⟨v, o, ho, hd⟩ := I.cell y c (cm e)
    exact un.free c o ho (I.freeC y c (cm e)) (by simp)
  · show σ.length = (X.N.map (mask x)).length
    rw [List.length_map]
    exact I.len
/-- how a default is bound -/
def BindD (ar : Arguments) (body : Expr) (sc : Scope) (x : Str) : Prop := ∀ (q : Str) (cl : List (Str × Addr)) (T : Addr) (dc pm cv ct : Value), ∃ k, bindArgs (PySem.W.kdv_fn "<lambda>" q ar (.expr body) sc cl (.ref T) dc pm cv ct) ⟨[], []⟩ = seqItems? (.ref T) >>= k ∧ ∀ u, k (some #[u]) = pure [(x, u)]
theorem pe_actD {CXg : CXT} {Eg : XK} {Ng : List Str} {qg : Str} {sg : Scope} {g f c' t : Addr} {cdg dc pm ct : Value} {ar : Arguments} {body : Expr} {sc : Scope} {k i : Nat} {a x : Str} {z : Int} {pn : List (Addr × Obj)} {xe : Value → Shared → Prop} {W : WX} {E : XK} {tb : TE} {p1 p2 : Pos}
    (I : Inv X pins σ H s) (L : LamD X.env.scope sc x) (hf : s.heap.get? f = some (dOb (X.env.qual ++ "<lambda>") ar body sc (cloFrom X.env.cells sc.names []) t dc pm c' ct)) (hfn : H f = none) (hfr : f ∉ frs X.stack) (hbind : BindD ar body sc x)
    (tk : L2N.Takes ((cxOf CXg X.prog X.w X.K X.mg X.base Ng qg sg g cdg X.A X.stack s H Eg).tr pn xe) W) (hW : ∀ cls d σ' H', E cls d H' → W cls d σ' H') (hr : Room (k + 1) (X.A.deeper (envOfC qg sg s.heap.objs.size g cdg)))
    (hbody : ∀ (A : Around) (outer : List Env) (s : Shared) (H : Hp), Room k (A.deeper (lamEnv X sc s.heap.objs.size f c')) → PE (lamCxD X A outer s H E sc f c' x) body tb)
    (hN : Ng[i]? = some a) (hv : Vis sg a) (hd : (a == ("__debug__" : Str)) = false) (hcd : (a == ("__classdict__" : Str)) = false) :
    PE ((cxOf CXg X.prog X.w X.K X.mg X.base Ng qg sg g cdg X.A X.stack s H Eg).tr pn xe) (.Call (.Name a p1) [] [] p2) (fun σZ HZ Q => σZ[i]? = some (some (.ref f)) ∧ HZ c' = some (CodeO c' (X.env.qual ++ "<lambda>")) ∧ HZ t = some (.tup [.int z]) ∧ tb σ HZ Q) := by
  refine ⟨fun pinsZ sZ σZ HZ Q IZ ⟨hs, hc, hz, ht⟩ => ?_⟩
  refine wpAny_Call_Name_kw (thn ((pe_var (pos := p1) (i := i) hN hv hd hcd).run pinsZ sZ σZ HZ (fun v H1 => v = .ref f ∧ H1 = HZ) IZ ⟨.ref f, hs, rfl, rfl⟩) fun u s1 ⟨v, H1, I1, r1, ev, eH⟩ => ?_)
  subst ev
  rw [eH] at I1
  obtain rfl : u = Value.ref f := r1
  have of1 := I1.base.keep f _ hf hfn hfr (fun w => nomatch (show f ∈ ([] : List Addr) from w))
  refine PySem.W.callWith_F0 ⟨_, _, _, _, of1⟩ ?_
  obtain ⟨⟨oc, vs, tq, hoc, hdc, hvc⟩, _, _⟩ := I1.hok c' _ hc
  obtain ⟨_, us, rz, ⟨ot, hot, hcl, n, hdt⟩⟩ := I1.hok t _ hz
  obtain ⟨uz, rfl⟩ : ∃ uz, us = [uz] := by
    cases rz with
    | cons r1 r2 =>
      cases r2
      exact ⟨_, rfl⟩
  obtain ⟨kb, b1, b2⟩ := hbind (X.env.qual ++ "<lambda>") (cloFrom X.env.cells sc.names []) t dc pm (.ref c') ct
  have rc : codeAny (model X.prog X.w) (X.A.deeper (envOfC qg sg s.heap.objs.size g cdg)) (.call (.ref f) ⟨[], []⟩) (CR (L2N.CX X.prog X.w) (envOfC qg sg s.heap.objs.size g cdg :: X.stack) X.prog X.w HZ s1 Q E) s1 := by
    refine PySem.W.kla_callFunE hr.depth of1 rfl L.co L.gen rfl ⟨c', oc, vs, tq, rfl, hoc, hdc, hvc⟩ (BindsTo.of_defaults (T := t) rfl hot hdt b1 (b2 uz) _ _ _ _ ?_)
    refine wpAny_newFunctionEnv (fun y hy => (L.own y hy).1) (fun y hy => ?_) (fun j hns hsb => ⟨I1.nolimit.fresh _ hsb, ?_⟩) L.kind
    · rw [List.mem_singleton.mp hy]
      exact L.par
    show codeAny _ _ (.expr body (lamEnv X sc s1.heap.objs.size f c')) _ _
    have kp : ∀ b o, s1.heap.get? b = some o → j.get? b = some o := fun b o e => hsb.extBut b o (Nat.ne_of_lt (Heap.lt_size e)) (Heap.get?_push_of_some _ e)
    have J : Inv (lamCxD X (X.A.deeper (envOfC qg sg s.heap.objs.size g cdg)) (envOfC qg sg s.heap.objs.size g cdg :: X.stack) s1 HZ E sc f c' x) [] σ HZ { s1 with heap := j, toks := s1.toks + ([(x, uz)] : List (Str × Value)).length } := lam_startD I L I1.env0 hr.hd I1.base hns kp
    refine PySem.W.kla_codeExpr (wpAny_mono ((hbody _ _ s1 HZ (hr.deeper _)).run [] _ _ HZ Q J ht) (fun v s' hq => ?_) fun e s' hq => hq)
    obtain ⟨w', H', J', rv, q⟩ := hq
    exact ⟨w', H', J'.os, J'.bare, J'.base, J'.hok, rv, q⟩
  have hx := L2N.passes_call tk hW
  refine wpAny_call (codeAny_mono rc fun r s' hq => ?_)
  rcases r with e | fl
  · exact hx pinsZ σZ HZ s1 e s' I1 hq
  · cases fl with
    | ret u => exact I1.after hq
    | next => exact False.elim hq
    | brk => exact False.elim hq
    | cont => exact False.elim hq
/-- what the def makes of the lambda may also be told that a fact of the heap holds -/
def Adds (TT : (XK → Hp → VK → Prop) → Hp → VK → Prop) : Prop := ∀ (c : Hp → Prop) (tl : XK → Hp → VK → Prop) (H : Hp) (Q : VK), c H → TT tl H Q → TT (fun E H' Q' => c H' ∧ tl E H' Q') H Q
theorem pe_lamD {T : List (Addr × Str)} {TT : (XK → Hp → VK → Prop) → Hp → VK → Prop} {x a y : Str} {g c P : Addr} {k : Nat} {pg : Arguments} {bg : List Stmt} {sg : Scope} {dV kV doc pm cdv ct oc : Value} {an od : Option Addr} {osl : Array (Option Value)} {Ng : List Str}
    {ar : Arguments} {body : Expr} {sc : Scope} {t : XK → TE} {z : Int} {u0 : Nat} {p p0 lpos pos : Pos} (hg : Gl X x) (hm : X.mg x = some (.ref g)) (hk : PySem.W.keepIn X.K (.ref g) = true) (lk : X.K.lookup g = some ⟨oc, od, .func (PySem.W.fnOf x x pg bg sg dV kV doc pm an cdv ct), osl⟩)
    (hcg : PySem.W.codeIn X.K cdv x = true) (hb : L2.Binds X.K (PySem.W.fnOf x x pg bg sg dV kV doc pm an cdv ct) [a] []) (Sg : FnScope Ng [a] sg) (hNg : Ng[0]? = some a) (hva : Vis sg a) (hG : GivesN X k Ng x sg g cdv bg a (X.env.qual ++ "<lambda>") TT) (hA : Adds TT)
    (TB : TabB X.base X.mg c P) (hcode : X.env.code = .ref c) (hmT : (P, X.env.qual ++ "<lambda>") ∈ T) (hu : ∀ p ∈ T, p.1 = P → p.2 = X.env.qual ++ "<lambda>") (hr : Room (k + 2) X.A) (L : LamD X.env.scope sc y) (hd1 : ar.defaults = [.Constant (.int z) u0 p0]) (hd2 : ar.kw_defaults = []) (hbind : BindD ar body sc y)
    (hbody : ∀ (A : Around) (outer : List Env) (s : Shared) (H : Hp) (E : XK) (f c' : Addr), Room k (A.deeper (lamEnv X sc s.heap.objs.size f c')) → PE (lamCxD X A outer s H E sc f c' y) body (t E))
    (hdb : (x == ("__debug__" : Str)) = false := by decide) (hd : (a == ("__debug__" : Str)) = false := by decide) (hcd : (a == ("__classdict__" : Str)) = false := by decide) : PE X (.Call (.Name x p) [.Lambda ar body sc lpos] [] pos) (tLam T TT t) := by
  refine ⟨fun pins s σ H Q I ⟨hT, h⟩ => wpAny_Call_Name_kw (ld_glob I hg hm ?_ hdb)⟩
  refine PySem.W.callWith_K (h₀ := X.base) I.ok.mod.kin hk ?_ (by rfl) (by rfl)
  show wpAny _ _ (spliced ((false, eval (.Lambda ar body sc lpos) X.env) :: backTo pos (starEach [] X.env))) _ _ s
  refine Calls.spliced_cons (lam_makeD I TB hcode hmT hu hT hd1 hd2 (L.has I.ok) fun f c' tt dc pm' ctv H1 s' I1 eN T1 hf hfn hfr hco htt => Calls.spliced_nil ⟨I1.kIn, ?_⟩)
  have rc : codeAny (model X.prog X.w) X.A (.call (.ref g) ⟨[.ref f], []⟩) (CR CX0 X.stack X.prog X.w H1 s' Q E0) s' := by
    refine run_ofS (N := Ng) (ps := [a]) (us := [.ref f]) (vs := [.ref f]) lk hcg Sg hr I1.env0 (hb s' [.ref f] I1.kIn rfl) (.cons rfl .nil) rfl fun hr' => ?_
    obtain ⟨t', ht', hq'⟩ := hG f c' s' H1 Q (fun E H' Q' => H' tt = some (.tup [.int z]) ∧ t E σ H' Q') hr' (fun W pn xe E p1 p2 tk hW => pe_actD (i := 0) I1 L hf hfn hfr hbind tk hW hr' (fun A outer s H hr2 => hbody A outer s H E f c' hr2) hNg hva hd hcd) hco (hA _ _ _ _ htt (h H1 eN T1))
    exact ⟨t', ht'.nox, hq'⟩
  refine wpAny_call (codeAny_mono rc fun r s2 hq => ?_)
  rcases r with e | fl
  · exact (show False from hq).elim
  · cases fl with
    | ret u => exact I1.after hq
    | next => exact False.elim hq
    | brk => exact False.elim hq
    | cont => exact False.elim hq
end
end Onp
set_option maxHeartbeats 8000000
set_option autoImplicit false
namespace Onp
open PySem PySem.Spec PyProof.Rows L2 HotX L2H LamX
def NL : List Str := ["_law_script", "_law_bag_here", "_law_turn", "_law_table", "_law_powers", "_law_k", "_law_steady", "_law_found", "_law_one"]
theorem scLaw : FnScope NL ["_law_script"] (defScope sLaw) := ⟨rfl, rfl, rfl, by decide +kernel, rfl, by decide +kernel, by decide +kernel⟩
def LQ : Str := ("law" : Str) ++ ".<locals>." ++ "<lambda>"
def spLaw (K : PySem.W.Frag) (tb : Addr) : Sp := fun vs H Q _ => ∃ (a : Addr) (ns : List Int), vs = [.ref a] ∧ SqL K H a (ns.map V.int) ∧ H tb = some (.tbl #[]) ∧ ∀ H', Q (.bl true) H'
theorem table_word : wordOf "BadTable" = "badtable" := by decide +kernel
/-- a refusal BadTable, as it is told -/
theorem eh_bt {ec : Str → Addr} {Q : VK} {H : Hp} (h : ∀ H' p, Same H H' → H' p = some (.tup [.str "badtable", .non]) → Q (.ref p) H') : refuse (ec "BadTable") "badtable" H (Eh ec ["BadMark", "BadTable"] Q) := fun dd ndd => by
  refine ⟨"BadTable", dd, _, List.mem_cons_of_mem _ List.mem_cons_self, rfl, rfl, upd_same, by rw [table_word]; rfl, fun z => absurd z (by decide +kernel), fun H2 p s2 np => ?_⟩
  refine h _ p (((same_upd ndd).trans s2).trans (same_upd np)) ?_
  rw [table_word, upd_same]
  rfl
theorem tabs_put {T : List (Addr × Str)} {H : Hp} {a : Addr} {xs ys : List V} (t : Tabs T H) (h : H a = some (.lst xs)) : Tabs T (upd H a (.lst ys)) := fun p hp => by
  obtain ⟨ps, h1, h2, h3⟩ := t p hp
  refine ⟨ps, by rw [upd_ne (ne_of h1 h (fun z => by cases z))]; exact h1, h2, fun pos cv hc => ?_⟩
  obtain ⟨c0, e1, e2⟩ := h3 pos cv hc
  refine ⟨c0, e1, ?_⟩
  rw [upd_ne (ne_of e2 h (fun z => ?_))]
  · exact e2
  · unfold CodeO at z
    cases z
theorem Tab.extN {H H' : Hp} {a : Addr} {T : Tbl} (x : Tab H a T) (s : ExtN H H') : Tab H' a T := by
  obtain ⟨rs, h1, h2, h3⟩ := x
  exact ⟨rs, s _ _ h1 (fun ps z => by cases z), h2, fun k r row e e2 => s _ _ (h3 k r row e e2) (fun ps z => by cases z)⟩
/-- all of them tables of n rooms -/
def AllTab (H : Hp) (xs : List V) (n : Nat) : Prop := ∀ x ∈ xs, ∃ t T, x = .ref t ∧ Tab H t T ∧ OkT n T
theorem AllTab.same {H H' : Hp} {xs : List V} {n : Nat} (x : AllTab H xs n) (s : Same H H') : AllTab H' xs n := fun v h => by
  obtain ⟨t, T, e, hT, ok⟩ := x v h
  exact ⟨t, T, e, hT.same s, ok⟩
theorem AllTab.extN {H H' : Hp} {xs : List V} {n : Nat} (x : AllTab H xs n) (s : ExtN H H') : AllTab H' xs n := fun v h => by
  obtain ⟨t, T, e, hT, ok⟩ := x v h
  exact ⟨t, T, e, hT.extN s, ok⟩
theorem AllTab.put {H : Hp} {xs us ys : List V} {n : Nat} {D : Addr} (x : AllTab H xs n) (h : H D = some (.lst us)) : AllTab (upd H D (.lst ys)) xs n := fun v hv => by
  obtain ⟨t, T, e, hT, ok⟩ := x v hv
  exact ⟨t, T, e, hT.put h, ok⟩
theorem AllTab.cut {H : Hp} {xs : List V} {n : Nat} (x : AllTab H xs n) (lo hi : Option Int) : AllTab H (cutV xs lo hi) n := fun v h => x v (by
  unfold cutV at h
  exact List.mem_of_mem_drop (List.mem_of_mem_take h))
theorem AllTab.app {H : Hp} {xs ys : List V} {n : Nat} (x : AllTab H xs n) (y : AllTab H ys n) : AllTab H (xs ++ ys) n := fun v h => by
  rcases List.mem_append.mp h with h | h
  · exact x v h
  · exact y v h
theorem AllTab.one {H : Hp} {t : Addr} {T : Tbl} {n : Nat} (h : Tab H t T) (ok : OkT n T) : AllTab H [.ref t] n := fun v hv => by
  rw [List.mem_singleton.mp hv]
  exact ⟨t, T, rfl, h, ok⟩
section
variable {P : Program} {w : World} {K : PySem.W.Frag} {mg : Str → Option Value} {base : Heap}
theorem ok_law {f fB fP fO fS fK fT fM fBe fBh fAg fR fSd fRs fRa fA fD fTw fLb fOf fLt fLr fMa tM tK fI fIU cL tb cP cM : Addr} {fdB fdP fdO fdS fdK fdT fdM fdBe fdBh fdAg fdR fdSd fdRs fdRa fdA fdD fdTw fdLb fdOf fdLt fdLr fdMa fdI fdIU : FuncData} {ec : Str → Addr} {oc : Value} {od : Option Addr} {kV doc pm ct : Value} {an : Option Addr} {osl : Array (Option Value)}
    (lk : K.lookup f = some ⟨oc, od, .func (PySem.W.fnOf "law" "law" (defArgs sLaw) (defBody sLaw) (defScope sLaw) .none kV doc pm an (.ref cL) ct), osl⟩) (hcd : PySem.W.codeIn K (.ref cL) "law" = true)
    (B : Fns K mg fB fdB "_law_bag" sBag ["_law_script"]) (Pu : Fns K mg fP fdP "_law_pull" sPull ["_law_bag_here", "_law_many"]) (O : Fns K mg fO fdO "_law_of" sOf ["_law_bag_here", "_law_some"]) (Sm : Fns K mg fS fdS "_law_same" sSame ["_law_found", "_law_due"])
    (Kn : Fns K mg fK fdK "_law_kind" sKind ["_law_e"]) (To : Fns K mg fT fdT "_law_told" sTold ["_law_ask"]) (M : Fns K mg fM fdM "need_mark" sNeedM ["mark"]) (Bh : Fns K mg fBh fdBh "behind" sBehind ["one", "other"]) (Be : Fns K mg fBe fdBe "best" sBest ["marks"]) (Ag : Fns K mg fAg fdAg "again" sAgain ["mark"]) (R : Fns K mg fR fdR "row_times" sRow ["row", "table"]) (Sd : Fns K mg fSd fdSd "is_steady" sSteady ["table"]) (Rs : Fns K mg fRs fdRs "raised_steady" sRaiseS ["table"]) (Ra : Fns K mg fRa fdRa "raised" sRaised ["table"])
    (Al : Fns K mg fA fdA "_law_marks_all" sAllM []) (Ad : Fns K mg fD fdD "_law_deeds_all" sAllD []) (Tw : Fns K mg fTw fdTw "_law_two_marks" sTwoM ["_law_one", "_law_other"]) (Lb : Fns K mg fLb fdLb "_law_best" sLBest ["_law_marks_here"]) (Of : Fns K mg fOf fdOf "_law_often" sOften ["_law_mark"]) (Lt : Fns K mg fLt fdLt "_law_times" sLTimes ["_law_one", "_law_other"]) (Lr : Fns K mg fLr fdLr "_law_raised" sLRaised ["_law_table"]) (Ma : Fns K mg fMa fdMa "_law_marks" sMarks ["_law_bag_here", "_law_many"])
    (BM : BMk K mg (ec "BadMark") fI fdI) (U : MkBadTable K mg (ec "BadTable") fIU fdIU) (TM : TupM K mg tM tK) (KD : Kd K mg ec ["BadMark", "BadTable"] cP cM) (Bl : Blt mg) (mr : mg "range" = none) (mm : mg "max" = none) (mn : mg "min" = none) (me : mg "enumerate" = none) (TB : TabB base mg cL tb) :
    FnOk P w K mg base CX0 10 f (PySem.W.fnOf "law" "law" (defArgs sLaw) (defBody sLaw) (defScope sLaw) .none kV doc pm an (.ref cL) ct) ["_law_script"] (spLaw K tb) := by
  have GB : FnOk P w K mg base CX0 9 fB fdB ["_law_script"] (spBag K) := ok_bag B.F Bl.list
  have GP : FnOk P w K mg base CX0 9 fP fdP ["_law_bag_here", "_law_many"] (spPull K) := ok_pull Pu.F Bl.len
  have GS : FnOk P w K mg base CX0 9 fS fdS ["_law_found", "_law_due"] (spSame K 2) := ok_same Sm.F Sm.b Sm.g Bl 2 6
  have GSd : FnOk P w K mg base CX0 9 fSd fdSd ["table"] spSteady := ok_steady Sd.F R M Bh Be BM TM mm Bl.zip Bl.tuple
  have GR : FnOk P w K mg base (L2N.CX P w) 9 fRa fdRa ["table"] (spRaised (ec "BadTable")) := ok_raised Ra.F Sd Rs R M Bh Be Ag BM U TM mm Bl.zip Bl.tuple me
  have GR7 : FnOk P w K mg base (L2N.CX P w) 7 fRa fdRa ["table"] (spRaised (ec "BadTable")) := ok_raised Ra.F Sd Rs R M Bh Be Ag BM U TM mm Bl.zip Bl.tuple me
  have GLt : FnOk P w K mg base CX0 9 fLt fdLt ["_law_one", "_law_other"] (spLTimes K) := ok_ltimes Lt.F Al Tw Lb mn mm Bl.tuple Bl.len Bl.list mr
  have GLr : FnOk P w K mg base CX0 9 fLr fdLr ["_law_table"] spLRaised := ok_lraised Lr.F Lt Al Tw Lb Of mn mm Bl.tuple Bl.len Bl.list mr
  have GM : FnOk P w K mg base CX0 9 fMa fdMa ["_law_bag_here", "_law_many"] (spMarks K) := ok_marks Ma.F Pu O Al Ad Bl.tuple Bl.len mr
  obtain ⟨oc2, od2, kV2, doc2, pm2, an2, cdv2, ct2, osl2, rfl, lkT, hcdT⟩ := To.F.ex
  refine fn_of lk hcd scLaw (fun vs H Q E h => ?_) (fun A outer s H vs Q E hr h => ?_)
  · obtain ⟨a, ns, rfl, _⟩ := h
    rfl
  · obtain ⟨a, ns, rfl, hS, htb, q⟩ := h
    refine ⟨_, PSs.nox (pss_cons (ps_set (i := 1) scLaw.nd rfl (.inl rfl) (pe_call GB hr (by rfl) B.g B.F.kp B.b .nil pass0 (pa_cons (pv 0) pa_nil)))
      (pss_cons (ps_for PassesOwn.never rfl (pi_range1 (by rfl) mr (pa_cons pe_int pa_nil)) (pg_name (i := 2) scLaw.nd rfl (.inl rfl))
        (pss_cons (ps_set (i := 3) scLaw.nd rfl (.inl rfl) (pe_call GM hr (by rfl) Ma.g Ma.F.kp Ma.b .nil pass0 (pa_cons (pv 1) (pa_cons (pe_op op_add pe_int (pe_call GP hr (by rfl) Pu.g Pu.F.kp Pu.b .nil pass0 (pa_cons (pv 1) (pa_cons pe_int pa_nil)))) pa_nil))))
        (pss_cons (ps_set (i := 4) scLaw.nd rfl (.inl rfl) (pe_lst (pa_cons (pv 3) pa_nil)))
        (pss_cons (ps_for PassesOwn.never rfl (pi_range1 (by rfl) mr (pa_cons pe_int pa_nil)) (pg_name (i := 5) scLaw.nd rfl (.inl rfl))
          (pss_one (ps_expr (pe_bm PySem.F.plainAttrs_list PySem.F.slot_list_append PySem.F.type_list_append mt_append (pv 4) (pa_cons (pe_call GLt hr (by rfl) Lt.g Lt.F.kp Lt.b .nil pass0 (pa_cons (pe_ix ix_list (pv 4) (pe_un un_neg pe_int) (fun _ _ => rfl)) (pa_cons (pv 3) pa_nil))) pa_nil)))))
        (pss_one (ps_for PassesOwn.never rfl (pi_list (pe_op op_cat (pe_op op_cat (pe_slice sl_list (pv 4) po_none (po_some pe_int)) (pe_slice sl_list (pv 4) (po_some pe_int) (po_some pe_int))) (pe_lst (pa_cons (pe_ix ix_list (pv 4) pe_int (fun _ _ => rfl)) pa_nil)))) (pg_name (i := 8) scLaw.nd rfl (.inr rfl))
          (pss_cons (ps_set (i := 6) scLaw.nd rfl (.inl rfl) (pe_cmpR (op_eqD hr.units) (pe_call GLt hr (by rfl) Lt.g Lt.F.kp Lt.b .nil pass0 (pa_cons (pv 8) (pa_cons (pv 8) pa_nil))) (pv 8) (nomark _)))
          (pss_cons (ps_if (pt_not (pt_val (pe_call GS hr (by rfl) Sm.g Sm.F.kp Sm.b .nil pass0 (pa_cons (pe_call GSd hr (by rfl) Sd.g Sd.F.kp Sd.b .nil pass0 (pa_cons (pv 8) pa_nil)) (pa_cons (pv 6) pa_nil))))) pss_never pss_nil)
          (pss_one (ps_if (pt_not (pt_val (pv 6)))
            (pss_one (ps_if (pt_cmpR (op_neD hr.units) (pe_lamN (k := 7) (T := [(tb, LQ)]) (TT := TTold ec ["BadMark", "BadTable"]) (t := fun E => tCall (spRaised (ec "BadTable")) [] E (tCons (tVar 8) tNil)) (by rfl) To.g To.F.kp lkT hcdT To.b scTold rfl (.inl rfl)
              (told_gives KD ⟨by decide +kernel, by decide +kernel⟩ (fun z => absurd z (by decide +kernel)) Kn.F Kn.b Kn.g Bl.isi Bl.zip) TB rfl List.mem_cons_self (fun p hp _ => by rw [List.mem_singleton.mp hp]; rfl) hr (show LamS (defScope sLaw) _ from lamS_by (by decide +kernel)) rfl (fun _ _ _ _ _ => rfl)
              (fun A outer s H E f c' hr2 => (pe_call (E := E) GR7 hr2 (by rfl) Ra.g Ra.F.kp Ra.b .nil (L2N.passes_call (L2N.takes_of (E := E) rfl rfl rfl rfl) fun _ _ _ _ z => z) (pa_cons (pv 8) pa_nil)))) (pe_tup (pa_cons pe_str (pa_cons pe_non pa_nil))) (nomark _)) pss_never pss_nil))
            (pss_cons (ps_set (i := 7) scLaw.nd rfl (.inl rfl) (pe_call GR hr (by rfl) Ra.g Ra.F.kp Ra.b .nil passN (pa_cons (pv 8) pa_nil)))
            (pss_cons (ps_if (pt_not (pt_val (pe_call GS hr (by rfl) Sm.g Sm.F.kp Sm.b .nil pass0 (pa_cons (pv 7) (pa_cons (pe_call GLr hr (by rfl) Lr.g Lr.F.kp Lr.b .nil pass0 (pa_cons (pv 8) pa_nil)) pa_nil))))) pss_never pss_nil)
            (pss_one (ps_if (PW.pt (pw_or (pt_cmpR op_isnot_bl (pe_call GSd hr (by rfl) Sd.g Sd.F.kp Sd.b .nil pass0 (pa_cons (pv 7) pa_nil)) pe_bl (by rfl)) (pw_or1 (pt_cmpR (op_neD hr.units) (pe_call GR hr (by rfl) Ra.g Ra.F.kp Ra.b .nil passN (pa_cons (pv 7) pa_nil)) (pv 7) (nomark _))))) pss_never pss_nil))))))))))))))
      (pss_one (ps_ret pe_bl)))), ?_⟩
    refine ⟨_, rfl, a, ns, rfl, hS, fun g H1 nb sm1 B1 => ?_⟩
    have T1 : Tabs [(tb, LQ)] H1 := fun p hp => by
      rw [List.mem_singleton.mp hp]
      exact TabS.nil (sm1 _ _ htb)
    refine ⟨6, rfl, by decide, by decide, for_range (lo := 0) (n := 6) (fun i σ H' => ∃ y2 y3 y4 y5 y6 y7 y8 : Option V, σ = [some (.ref a), some (.ref g.b), y2, y3, y4, y5, y6, y7, y8] ∧ Bg H' g ∧ Tabs [(tb, LQ)] H')
      ⟨none, none, none, none, none, none, none, rfl, B1, T1⟩ ?_ ?_⟩
    · rintro i σ H2 hi ⟨y2, y3, y4, y5, y6, y7, y8, rfl, B2, T2⟩
      -- a table
      refine ⟨_, rfl, _, rfl, g, 5, rfl, by decide, by decide, B2, fun z H3 z0 z1 k3 B3 => ?_⟩
      have T3 := tabs_keep T2 B2 k3
      obtain ⟨n, hn1, hn4, en⟩ : ∃ n : Nat, 1 ≤ n ∧ n ≤ 5 ∧ (1 : Int) + z = (n : Nat) := ⟨(1 + z).toNat, by omega, by omega, by omega⟩
      have hn : 1 ≤ n ∧ n ≤ 8 := ⟨hn1, by omega⟩
      refine ⟨1, z, rfl, rfl, ?_⟩
      dsimp only
      rw [en]
      refine ⟨g, n, rfl, B3, hn, fun T p H4 okT tT k4 B4 => ?_⟩
      have T4 := tabs_keep T3 B3 k4
      -- its powers
      refine ⟨_, rfl, (by decide : 1 ≤ sizeLine), fun pw npw => ?_⟩
      have npb := B4.ne npw
      have npl := B4.neL npw
      have s5 := same_upd (o := .lst [V.ref p]) npw
      refine ⟨12, rfl, by decide, by decide, for_range (lo := 0) (n := 12) (fun j σ H' => ∃ z5 : Option V, σ = [some (.ref a), some (.ref g.b), some (.int ((0 : Int) + (i : Nat))), some (.ref p), some (.ref pw), z5, y6, y7, y8] ∧ Bg H' g ∧ Tabs [(tb, LQ)] H' ∧ Tab H' p T ∧ ∃ xs, H' pw = some (.lst xs) ∧ xs.length = j + 1 ∧ AllTab H' xs n)
        ⟨_, rfl, B4.same s5, T4.ext s5, tT.same s5, _, upd_same, rfl, AllTab.one (tT.same s5) okT⟩ ?_ ?_⟩
      · rintro j σ H5 hj ⟨z5, rfl, B5, T5, tT5, xs, hpw, hl, al⟩
        have hjl : j < xs.length := by omega
        obtain ⟨t, U, eU, tU, okU⟩ := al xs[j] (List.getElem_mem hjl)
        have hlast : atI xs (-1) = some (.ref t) := by
          unfold atI
          rw [show ixN xs.length (-1) = some j from ?_]
          · show xs[j]? = _
            rw [List.getElem?_eq_getElem hjl, eU]
          · unfold ixN
            rw [if_neg (by decide), if_pos (by omega)]
            congr 1
            omega
        refine ⟨_, rfl, .inl ⟨rfl, _, SqL.of hpw⟩, _, rfl, 1, rfl, pw, xs, -1, _, rfl, rfl, SqL.of hpw, hlast, ?_⟩
        refine ⟨_, rfl, (false, t), p, U, T, n, rfl, tU.rows, tT5, okU, okT, hn, fun H6 p6 s6 hp6 => ?_⟩
        have hpw6 := s6 _ _ hpw
        refine ⟨pw, xs, .ref p6, rfl, rfl, hpw6, by rw [hl]; exact small1000 (by omega), ?_⟩
        refine ⟨_, rfl, (B5.same s6).put npb npl, tabs_put (T5.ext s6) hpw6, (tT5.same s6).put hpw6, _, upd_same, by rw [List.length_append, hl]; rfl, ?_⟩
        exact ((al.same s6).put hpw6).app (AllTab.one (hp6.put hpw6) (timesT_ok okU.1))
      · rintro σ H5 ⟨z5, rfl, B5, T5, tT5, xs, hpw, hl, al⟩
        -- some of them
        refine ⟨_, rfl, 2, rfl, pw, xs, rfl, SqL.of hpw, fun b1 nb1 => ?_⟩
        have s6 := same_upd (o := .lst (cutV xs none (some 2))) nb1
        refine ⟨_, rfl, 5, rfl, 7, rfl, pw, xs, rfl, SqL.of (s6 _ _ hpw), fun b2 nb2 => ?_⟩
        have s7 := same_upd (o := .lst (cutV xs (some 5) (some 7))) nb2
        have l1 := cutV_length xs none (some 2)
        have l2 := cutV_length xs (some 5) (some 7)
        refine ⟨b1, b2, _, _, rfl, rfl, s7 _ _ upd_same, upd_same, Nat.le_trans (show (cutV xs none (some 2)).length + (cutV xs (some 5) (some 7)).length ≤ 100 by omega) (by decide), fun b3 nb3 => ?_⟩
        have s8 := same_upd (o := .lst (cutV xs none (some 2) ++ cutV xs (some 5) (some 7))) nb3
        have s68 := s6.trans (s7.trans s8)
        have h11 : 11 < xs.length := by omega
        obtain ⟨t11, U11, e11, tU11, okU11⟩ := al xs[11] (List.getElem_mem h11)
        refine ⟨_, rfl, pw, xs, 11, .ref t11, rfl, rfl, SqL.of (s68 _ _ hpw), atI_nat (j := 11) (by rw [List.getElem?_eq_getElem h11, e11]), ?_⟩
        refine ⟨(by decide : 1 ≤ sizeLine), fun b4 nb4 => ?_⟩
        have s9 := same_upd (o := .lst [V.ref t11]) nb4
        refine ⟨b3, b4, _, _, rfl, rfl, s9 _ _ upd_same, upd_same, Nat.le_trans (show (cutV xs none (some 2) ++ cutV xs (some 5) (some 7)).length + [V.ref t11].length ≤ 100 by simp only [List.length_append, List.length_cons, List.length_nil]; omega) (by decide), fun b5 nb5 => ?_⟩
        have s10 := same_upd (o := .lst (cutV xs none (some 2) ++ cutV xs (some 5) (some 7) ++ [V.ref t11])) nb5
        have sA := s68.trans (s9.trans s10)
        have alL : AllTab H5 (cutV xs none (some 2) ++ cutV xs (some 5) (some 7) ++ [V.ref t11]) n := ((al.cut _ _).app (al.cut _ _)).app (AllTab.one tU11 okU11)
        have B6 := B5.same sA
        have T6 := T5.ext sA
        have al6 := alL.same sA
        have h5 : (upd (upd (upd (upd (upd H5 b1 (.lst (cutV xs none (some 2)))) b2 (.lst (cutV xs (some 5) (some 7)))) b3 (.lst (cutV xs none (some 2) ++ cutV xs (some 5) (some 7)))) b4 (.lst [V.ref t11])) b5 (.lst (cutV xs none (some 2) ++ cutV xs (some 5) (some 7) ++ [V.ref t11]))) b5 = some (.lst (cutV xs none (some 2) ++ cutV xs (some 5) (some 7) ++ [V.ref t11])) := upd_same
        generalize upd (upd (upd (upd (upd H5 b1 (.lst (cutV xs none (some 2)))) b2 (.lst (cutV xs (some 5) (some 7)))) b3 (.lst (cutV xs none (some 2) ++ cutV xs (some 5) (some 7)))) b4 (.lst [V.ref t11])) b5 (.lst (cutV xs none (some 2) ++ cutV xs (some 5) (some 7) ++ [V.ref t11])) = H6 at sA B6 T6 al6 h5
        generalize cutV xs none (some 2) ++ cutV xs (some 5) (some 7) ++ [V.ref t11] = L at al6 h5
        refine ⟨b5, rfl, ⟨_, SqL.of h5⟩, for_list (K := K) (a := b5) (xs := L)
          (fun j σ H' => ∃ z6 z7 z8 : Option V, σ = [some (.ref a), some (.ref g.b), some (.int ((0 : Int) + (i : Nat))), some (.ref p), some (.ref pw), z5, z6, z7, z8] ∧ Bg H' g ∧ Tabs [(tb, LQ)] H' ∧ H' b5 = some (.lst L) ∧ AllTab H' L n)
          ⟨_, _, _, rfl, B6, T6, h5, al6⟩ (fun j σ H' _ ⟨_, _, _, _, _, _, h, _⟩ => SqL.of h) ?_ ?_⟩
        · rintro j x σ H7 hx ⟨z6, z7, z8, rfl, B7, T7, h7, al7⟩
          obtain ⟨t, U, rfl, tU, okU⟩ := al7 x (List.mem_of_getElem? hx)
          -- steady or not
          refine ⟨_, rfl, _, rfl, (false, t), t, U, U, n, rfl, tU.rows, tU, okU, okU, hn, fun H8 p8 s8 hp8 => ?_⟩
          refine ⟨_, rfl, tblD (timesT U U n), tblD U, hp8.dp, (tU.same s8).dp, shaped_tbl (timesT_ok okU.1), shaped_tbl okU, ?_⟩
          rw [eqv_tbl]
          refine ⟨_, rfl, t, U, n, rfl, tU.same s8, okU, hn, fun H9 s9 => ?_⟩
          refine ⟨_, rfl, _, _, .bool (decide (timesT U U n = U)), rfl, .bl _, .bl _, True.intro, fun H10 s10 => ⟨_, rfl, iteF ?_⟩⟩
          have s710 := s8.trans (s9.trans s10)
          have B10 := B7.same s710
          have T10 := T7.ext s710
          have h10 := s710 _ _ h7
          have al10 := al7.same s710
          have tU10 := tU.same s710
          refine ⟨_, rfl, _, rfl, ?_⟩
          by_cases st : timesT U U n = U
          · rw [decide_eq_true st]
            refine iteF ?_
            refine ⟨_, rfl, t, U, n, rfl, tU10, okU, hn, fun _ H11 p11 s11 hp11 => ?_, fun h => absurd st h⟩
            refine ⟨_, rfl, _, rfl, t, U, n, rfl, tU10.same s11, okU, hn, fun H12 p12 s12 hp12 => ?_⟩
            refine ⟨_, _, tblD (raisT U n), rfl, (hp11.same s12).dp, hp12.dp, lvl_tbl (raisT_ok okU) (by omega), fun H13 s13 => ⟨_, rfl, iteF ?_⟩⟩
            have hp13 := hp11.same (s12.trans s13)
            have sR := raised_steady okU st
            refine ⟨_, rfl, p11, raisT U n, n, rfl, hp13, raisT_ok okU, hn, fun H14 s14 => ?_⟩
            rw [decide_eq_true sR]
            refine ⟨_, _, rfl, rfl, _, rfl, ?_⟩
            refine iteNS rfl ?_
            refine ⟨_, rfl, p11, raisT U n, n, rfl, hp13.same s14, raisT_ok okU, hn, fun _ H15 p15 s15 hp15 => ?_, fun h => absurd sR h⟩
            rw [raised_again okU st] at hp15
            refine ⟨_, rfl, tblD (raisT U n), tblD (raisT U n), hp15.dp, ((hp13.same s14).same s15).dp, shaped_tbl (raisT_ok okU), shaped_tbl (raisT_ok okU), _, rfl, ?_⟩
            rw [eqv_tbl, decide_eq_true rfl]
            have s1015 := s11.trans (s12.trans (s13.trans (s14.trans s15)))
            exact iteF ⟨_, _, _, rfl, B10.same s1015, T10.ext s1015, s1015 _ _ h10, al10.same s1015⟩
          · rw [decide_eq_false st]
            refine iteT ?_
            refine ⟨T10, fun H11 x11 T11 => ?_⟩
            have B11 := bg_ext B10 x11
            have h11' := x11 _ _ h10 (fun ps z => by cases z)
            have al11 := al10.extN x11
            refine ⟨_, rfl, t, U, n, rfl, tU10.extN x11, okU, hn, fun h => absurd h st, fun _ H12 s12 => eh_bt fun H13 r1 s13 er1 => ?_⟩
            refine ⟨(by decide : 2 ≤ sizeLine), fun tq ntq => ?_⟩
            have s14 := same_upd (o := .tup [.str "badtable", .non]) ntq
            have one : ∀ {r : Addr} {H : Hp}, H r = some (.tup [.str "badtable", .non]) → Dp K H (.ref r) (.tuple [.str "badtable", .none]) := fun e => .tup (SqT.of e) (.cons (.str _) (.cons .non .nil))
            refine ⟨.tuple [.str "badtable", .none], .tuple [.str "badtable", .none], one (s14 _ _ er1), one upd_same, by decide +kernel, by decide +kernel, _, rfl, ?_⟩
            have s1114 := s12.trans (s13.trans s14)
            exact iteF ⟨_, _, _, rfl, B11.same s1114, T11.ext s1114, s1114 _ _ h11', al11.same s1114⟩
        · rintro σ H7 ⟨z6, z7, z8, rfl, B7, T7, h7, al7⟩
          exact ⟨_, _, _, _, _, _, _, rfl, B7, T7⟩
    · rintro σ H2 ⟨y2, y3, y4, y5, y6, y7, y8, rfl, B2, T2⟩
      exact q H2
end
end Onp
set_option maxHeartbeats 4000000
set_option autoImplicit false
namespace Onp
open PySem PySem.Spec PyProof.Rows L2 HotX L2H LamX
/-! ### facts of the classes of refusals, name by name -/
def ecOf (mg : Str → Option Value) (x : Str) : Addr := match mg x with
  | some (.ref c) => c
  | _ => 0
theorem ecOf_eq {mg : Str → Option Value} {x : Str} {c : Addr} (h : mg x = some (.ref c)) : ecOf mg x = c := by
  unfold ecOf
  rw [h]
def NsAt (K : PySem.W.Frag) : List Str → List Addr → Prop
  | n :: ns, c :: cs => PySem.W.nsIn K mainGlobals n = some (some (.ref c)) ∧ NsAt K ns cs
  | [], [] => True
  | _, _ => False
def SubAll (K : PySem.W.Frag) (X : Value) (x : Str) : List Str → List Addr → Prop
  | n :: ns, c :: cs => PySem.W.subIn K X (.ref c) = some (n == x) ∧ SubAll K X x ns cs
  | [], [] => True
  | _, _ => False
def TyAll (K : PySem.W.Frag) : List Addr → Prop
  | c :: cs => PySem.W.typeIn K (.ref c) = some (.type "type") ∧ TyAll K cs
  | [] => True
def IsAll (K : PySem.W.Frag) : List Addr → Prop
  | c :: cs => PySem.W.isClsIn K c = true ∧ IsAll K cs
  | [] => True
section
variable {K : PySem.W.Frag} {h : Heap} {mg : Str → Option Value}
theorem ns_of (X : K.In h) (G : h.Ns mainGlobals mg) : ∀ (ns : List Str) (cs : List Addr), NsAt K ns cs → ∀ x ∈ ns, mg x = some (.ref (ecOf mg x))
  | n :: ns, c :: cs, e, x, hx => by
    rcases List.mem_cons.mp hx with rfl | hx
    · have q := PySem.W.mg_of X G e.1
      rw [ecOf_eq q]
      exact q
    · exact ns_of X G ns cs e.2 x hx
theorem sub_of (X : K.In h) (G : h.Ns mainGlobals mg) {Y : Value} {y : Str} : ∀ (ns : List Str) (cs : List Addr), NsAt K ns cs → SubAll K Y y ns cs → ∀ x ∈ ns, PySem.W.subIn K Y (.ref (ecOf mg x)) = some (x == y)
  | n :: ns, c :: cs, e, s, x, hx => by
    rcases List.mem_cons.mp hx with rfl | hx
    · rw [ecOf_eq (PySem.W.mg_of X G e.1)]
      exact s.1
    · exact sub_of X G ns cs e.2 s.2 x hx
theorem cl_of (X : K.In h) (G : h.Ns mainGlobals mg) : ∀ (ns : List Str) (cs : List Addr), NsAt K ns cs → TyAll K cs → IsAll K cs → ∀ x ∈ ns, PySem.W.typeIn K (.ref (ecOf mg x)) = some (.type "type") ∧ PySem.W.isClsIn K (ecOf mg x) = true
  | n :: ns, c :: cs, e, s, t, x, hx => by
    rcases List.mem_cons.mp hx with rfl | hx
    · rw [ecOf_eq (PySem.W.mg_of X G e.1)]
      exact ⟨s.1, t.1⟩
    · exact cl_of X G ns cs e.2 s.2 t.2 x hx
end
end Onp
set_option maxHeartbeats 8000000
namespace Onp
open PySem PySem.Spec PyProof.Rows L2 HotX L2H LamX
theorem all_mk {l : PySem.W.OpenLaw} {w : World} {K : PySem.W.Frag} {h : Heap} {mg : Str → Option Value} {fa : Addr} (X : K.In h) (G : h.Ns mainGlobals mg) (hfa : mg "law" = some (.ref fa)) (own : LamX.OwnTab K fa h)
    {fB : Addr} {odB anB : Option Addr} {slB : Array (Option Value)} {ocB kVB dcB pmB cdB ctB : Value}
    {fPu : Addr} {odPu anPu : Option Addr} {slPu : Array (Option Value)} {ocPu kVPu dcPu pmPu cdPu ctPu : Value}
    {fO : Addr} {odO anO : Option Addr} {slO : Array (Option Value)} {ocO kVO dcO pmO cdO ctO : Value}
    {fSm : Addr} {odSm anSm : Option Addr} {slSm : Array (Option Value)} {ocSm kVSm dcSm pmSm cdSm ctSm : Value}
    {fKn : Addr} {odKn anKn : Option Addr} {slKn : Array (Option Value)} {ocKn kVKn dcKn pmKn cdKn ctKn : Value}
    {fTo : Addr} {odTo anTo : Option Addr} {slTo : Array (Option Value)} {ocTo kVTo dcTo pmTo cdTo ctTo : Value}
    {fNm : Addr} {odNm anNm : Option Addr} {slNm : Array (Option Value)} {ocNm kVNm dcNm pmNm cdNm ctNm : Value}
    {fBh : Addr} {odBh anBh : Option Addr} {slBh : Array (Option Value)} {ocBh kVBh dcBh pmBh cdBh ctBh : Value}
    {fBe : Addr} {odBe anBe : Option Addr} {slBe : Array (Option Value)} {ocBe kVBe dcBe pmBe cdBe ctBe : Value}
    {fAg : Addr} {odAg anAg : Option Addr} {slAg : Array (Option Value)} {ocAg kVAg dcAg pmAg cdAg ctAg : Value}
    {fR : Addr} {odR anR : Option Addr} {slR : Array (Option Value)} {ocR kVR dcR pmR cdR ctR : Value}
    {fSd : Addr} {odSd anSd : Option Addr} {slSd : Array (Option Value)} {ocSd kVSd dcSd pmSd cdSd ctSd : Value}
    {fRs : Addr} {odRs anRs : Option Addr} {slRs : Array (Option Value)} {ocRs kVRs dcRs pmRs cdRs ctRs : Value}
    {fRa : Addr} {odRa anRa : Option Addr} {slRa : Array (Option Value)} {ocRa kVRa dcRa pmRa cdRa ctRa : Value}
    {fAl : Addr} {odAl anAl : Option Addr} {slAl : Array (Option Value)} {ocAl kVAl dcAl pmAl cdAl ctAl : Value}
    {fAd : Addr} {odAd anAd : Option Addr} {slAd : Array (Option Value)} {ocAd kVAd dcAd pmAd cdAd ctAd : Value}
    {fTw : Addr} {odTw anTw : Option Addr} {slTw : Array (Option Value)} {ocTw kVTw dcTw pmTw cdTw ctTw : Value}
    {fLb : Addr} {odLb anLb : Option Addr} {slLb : Array (Option Value)} {ocLb kVLb dcLb pmLb cdLb ctLb : Value}
    {fOf : Addr} {odOf anOf : Option Addr} {slOf : Array (Option Value)} {ocOf kVOf dcOf pmOf cdOf ctOf : Value}
    {fLt : Addr} {odLt anLt : Option Addr} {slLt : Array (Option Value)} {ocLt kVLt dcLt pmLt cdLt ctLt : Value}
    {fLr : Addr} {odLr anLr : Option Addr} {slLr : Array (Option Value)} {ocLr kVLr dcLr pmLr cdLr ctLr : Value}
    {fMa : Addr} {odMa anMa : Option Addr} {slMa : Array (Option Value)} {ocMa kVMa dcMa pmMa cdMa ctMa : Value}
    {fL cL tb : Addr} {odL anL ddL : Option Addr} {slL sl2L : Array (Option Value)} {ocL kVL dcL pmL ctL eL : Value} {vsL : Array Value}
    {tM_ : Addr} {itsM_ : Array Value} {nM_ : Nat} {stM_ : Array (Option Value)}
    {tK_ : Addr} {itsK_ : Array Value} {nK_ : Nat} {stK_ : Array (Option Value)}
    {e0 e1 e2 e3 e4 e5 e6 e7 e8 e9 e10 e11 e12 e13 e14 e15 e16 e17 e18 e19 e20 e21 e22 cP cM : Addr}
    {nmM qM : Str} {NM fIM : Addr} {bsM : List Value} {snM : List Str} {subM : List Value} {abM : Bool} {colM : Option Bool} {ddM odIM anIM : Option Addr} {m0M m1M m2M m3M m5M : Option Value} {slIM : Array (Option Value)} {ocIM kVIM dcIM pmIM cdIM ctIM : Value}
    {nmU qU : Str} {NU fIU : Addr} {bsU : List Value} {snU : List Str} {subU : List Value} {abU : Bool} {colU : Option Bool} {ddU odIU anIU : Option Addr} {m0U m1U m2U m3U m5U : Option Value} {slIU : Array (Option Value)} {ocIU kVIU dcIU pmIU cdIU ctIU : Value}
    (aB : PySem.W.nsIn K mainGlobals "_law_bag" = some (some (.ref fB))) (lB : K.lookup fB = some ⟨ocB, odB, .func (PySem.W.fnOf "_law_bag" "_law_bag" (defArgs sBag) (defBody sBag) (defScope sBag) .none kVB dcB pmB anB cdB ctB), slB⟩) (cB : PySem.W.codeIn K cdB "_law_bag" = true) (kB : PySem.W.keepIn K (.ref fB) = true)
    (aPu : PySem.W.nsIn K mainGlobals "_law_pull" = some (some (.ref fPu))) (lPu : K.lookup fPu = some ⟨ocPu, odPu, .func (PySem.W.fnOf "_law_pull" "_law_pull" (defArgs sPull) (defBody sPull) (defScope sPull) .none kVPu dcPu pmPu anPu cdPu ctPu), slPu⟩) (cPu : PySem.W.codeIn K cdPu "_law_pull" = true) (kPu : PySem.W.keepIn K (.ref fPu) = true)
    (aO : PySem.W.nsIn K mainGlobals "_law_of" = some (some (.ref fO))) (lO : K.lookup fO = some ⟨ocO, odO, .func (PySem.W.fnOf "_law_of" "_law_of" (defArgs sOf) (defBody sOf) (defScope sOf) .none kVO dcO pmO anO cdO ctO), slO⟩) (cO : PySem.W.codeIn K cdO "_law_of" = true) (kO : PySem.W.keepIn K (.ref fO) = true)
    (aSm : PySem.W.nsIn K mainGlobals "_law_same" = some (some (.ref fSm))) (lSm : K.lookup fSm = some ⟨ocSm, odSm, .func (PySem.W.fnOf "_law_same" "_law_same" (defArgs sSame) (defBody sSame) (defScope sSame) .none kVSm dcSm pmSm anSm cdSm ctSm), slSm⟩) (cSm : PySem.W.codeIn K cdSm "_law_same" = true) (kSm : PySem.W.keepIn K (.ref fSm) = true)
    (aKn : PySem.W.nsIn K mainGlobals "_law_kind" = some (some (.ref fKn))) (lKn : K.lookup fKn = some ⟨ocKn, odKn, .func (PySem.W.fnOf "_law_kind" "_law_kind" (defArgs sKind) (defBody sKind) (defScope sKind) .none kVKn dcKn pmKn anKn cdKn ctKn), slKn⟩) (cKn : PySem.W.codeIn K cdKn "_law_kind" = true) (kKn : PySem.W.keepIn K (.ref fKn) = true)
    (aTo : PySem.W.nsIn K mainGlobals "_law_told" = some (some (.ref fTo))) (lTo : K.lookup fTo = some ⟨ocTo, odTo, .func (PySem.W.fnOf "_law_told" "_law_told" (defArgs sTold) (defBody sTold) (defScope sTold) .none kVTo dcTo pmTo anTo cdTo ctTo), slTo⟩) (cTo : PySem.W.codeIn K cdTo "_law_told" = true) (kTo : PySem.W.keepIn K (.ref fTo) = true)
    (aNm : PySem.W.nsIn K mainGlobals "need_mark" = some (some (.ref fNm))) (lNm : K.lookup fNm = some ⟨ocNm, odNm, .func (PySem.W.fnOf "need_mark" "need_mark" (defArgs sNeedM) (defBody sNeedM) (defScope sNeedM) .none kVNm dcNm pmNm anNm cdNm ctNm), slNm⟩) (cNm : PySem.W.codeIn K cdNm "need_mark" = true) (kNm : PySem.W.keepIn K (.ref fNm) = true)
    (aBh : PySem.W.nsIn K mainGlobals "behind" = some (some (.ref fBh))) (lBh : K.lookup fBh = some ⟨ocBh, odBh, .func (PySem.W.fnOf "behind" "behind" (defArgs sBehind) (defBody sBehind) (defScope sBehind) .none kVBh dcBh pmBh anBh cdBh ctBh), slBh⟩) (cBh : PySem.W.codeIn K cdBh "behind" = true) (kBh : PySem.W.keepIn K (.ref fBh) = true)
    (aBe : PySem.W.nsIn K mainGlobals "best" = some (some (.ref fBe))) (lBe : K.lookup fBe = some ⟨ocBe, odBe, .func (PySem.W.fnOf "best" "best" (defArgs sBest) (defBody sBest) (defScope sBest) .none kVBe dcBe pmBe anBe cdBe ctBe), slBe⟩) (cBe : PySem.W.codeIn K cdBe "best" = true) (kBe : PySem.W.keepIn K (.ref fBe) = true)
    (aAg : PySem.W.nsIn K mainGlobals "again" = some (some (.ref fAg))) (lAg : K.lookup fAg = some ⟨ocAg, odAg, .func (PySem.W.fnOf "again" "again" (defArgs sAgain) (defBody sAgain) (defScope sAgain) .none kVAg dcAg pmAg anAg cdAg ctAg), slAg⟩) (cAg : PySem.W.codeIn K cdAg "again" = true) (kAg : PySem.W.keepIn K (.ref fAg) = true)
    (aR : PySem.W.nsIn K mainGlobals "row_times" = some (some (.ref fR))) (lR : K.lookup fR = some ⟨ocR, odR, .func (PySem.W.fnOf "row_times" "row_times" (defArgs sRow) (defBody sRow) (defScope sRow) .none kVR dcR pmR anR cdR ctR), slR⟩) (cR : PySem.W.codeIn K cdR "row_times" = true) (kR : PySem.W.keepIn K (.ref fR) = true)
    (aSd : PySem.W.nsIn K mainGlobals "is_steady" = some (some (.ref fSd))) (lSd : K.lookup fSd = some ⟨ocSd, odSd, .func (PySem.W.fnOf "is_steady" "is_steady" (defArgs sSteady) (defBody sSteady) (defScope sSteady) .none kVSd dcSd pmSd anSd cdSd ctSd), slSd⟩) (cSd : PySem.W.codeIn K cdSd "is_steady" = true) (kSd : PySem.W.keepIn K (.ref fSd) = true)
    (aRs : PySem.W.nsIn K mainGlobals "raised_steady" = some (some (.ref fRs))) (lRs : K.lookup fRs = some ⟨ocRs, odRs, .func (PySem.W.fnOf "raised_steady" "raised_steady" (defArgs sRaiseS) (defBody sRaiseS) (defScope sRaiseS) .none kVRs dcRs pmRs anRs cdRs ctRs), slRs⟩) (cRs : PySem.W.codeIn K cdRs "raised_steady" = true) (kRs : PySem.W.keepIn K (.ref fRs) = true)
    (aRa : PySem.W.nsIn K mainGlobals "raised" = some (some (.ref fRa))) (lRa : K.lookup fRa = some ⟨ocRa, odRa, .func (PySem.W.fnOf "raised" "raised" (defArgs sRaised) (defBody sRaised) (defScope sRaised) .none kVRa dcRa pmRa anRa cdRa ctRa), slRa⟩) (cRa : PySem.W.codeIn K cdRa "raised" = true) (kRa : PySem.W.keepIn K (.ref fRa) = true)
    (aAl : PySem.W.nsIn K mainGlobals "_law_marks_all" = some (some (.ref fAl))) (lAl : K.lookup fAl = some ⟨ocAl, odAl, .func (PySem.W.fnOf "_law_marks_all" "_law_marks_all" (defArgs sAllM) (defBody sAllM) (defScope sAllM) .none kVAl dcAl pmAl anAl cdAl ctAl), slAl⟩) (cAl : PySem.W.codeIn K cdAl "_law_marks_all" = true) (kAl : PySem.W.keepIn K (.ref fAl) = true)
    (aAd : PySem.W.nsIn K mainGlobals "_law_deeds_all" = some (some (.ref fAd))) (lAd : K.lookup fAd = some ⟨ocAd, odAd, .func (PySem.W.fnOf "_law_deeds_all" "_law_deeds_all" (defArgs sAllD) (defBody sAllD) (defScope sAllD) .none kVAd dcAd pmAd anAd cdAd ctAd), slAd⟩) (cAd : PySem.W.codeIn K cdAd "_law_deeds_all" = true) (kAd : PySem.W.keepIn K (.ref fAd) = true)
    (aTw : PySem.W.nsIn K mainGlobals "_law_two_marks" = some (some (.ref fTw))) (lTw : K.lookup fTw = some ⟨ocTw, odTw, .func (PySem.W.fnOf "_law_two_marks" "_law_two_marks" (defArgs sTwoM) (defBody sTwoM) (defScope sTwoM) .none kVTw dcTw pmTw anTw cdTw ctTw), slTw⟩) (cTw : PySem.W.codeIn K cdTw "_law_two_marks" = true) (kTw : PySem.W.keepIn K (.ref fTw) = true)
    (aLb : PySem.W.nsIn K mainGlobals "_law_best" = some (some (.ref fLb))) (lLb : K.lookup fLb = some ⟨ocLb, odLb, .func (PySem.W.fnOf "_law_best" "_law_best" (defArgs sLBest) (defBody sLBest) (defScope sLBest) .none kVLb dcLb pmLb anLb cdLb ctLb), slLb⟩) (cLb : PySem.W.codeIn K cdLb "_law_best" = true) (kLb : PySem.W.keepIn K (.ref fLb) = true)
    (aOf : PySem.W.nsIn K mainGlobals "_law_often" = some (some (.ref fOf))) (lOf : K.lookup fOf = some ⟨ocOf, odOf, .func (PySem.W.fnOf "_law_often" "_law_often" (defArgs sOften) (defBody sOften) (defScope sOften) .none kVOf dcOf pmOf anOf cdOf ctOf), slOf⟩) (cOf : PySem.W.codeIn K cdOf "_law_often" = true) (kOf : PySem.W.keepIn K (.ref fOf) = true)
    (aLt : PySem.W.nsIn K mainGlobals "_law_times" = some (some (.ref fLt))) (lLt : K.lookup fLt = some ⟨ocLt, odLt, .func (PySem.W.fnOf "_law_times" "_law_times" (defArgs sLTimes) (defBody sLTimes) (defScope sLTimes) .none kVLt dcLt pmLt anLt cdLt ctLt), slLt⟩) (cLt : PySem.W.codeIn K cdLt "_law_times" = true) (kLt : PySem.W.keepIn K (.ref fLt) = true)
    (aLr : PySem.W.nsIn K mainGlobals "_law_raised" = some (some (.ref fLr))) (lLr : K.lookup fLr = some ⟨ocLr, odLr, .func (PySem.W.fnOf "_law_raised" "_law_raised" (defArgs sLRaised) (defBody sLRaised) (defScope sLRaised) .none kVLr dcLr pmLr anLr cdLr ctLr), slLr⟩) (cLr : PySem.W.codeIn K cdLr "_law_raised" = true) (kLr : PySem.W.keepIn K (.ref fLr) = true)
    (aMa : PySem.W.nsIn K mainGlobals "_law_marks" = some (some (.ref fMa))) (lMa : K.lookup fMa = some ⟨ocMa, odMa, .func (PySem.W.fnOf "_law_marks" "_law_marks" (defArgs sMarks) (defBody sMarks) (defScope sMarks) .none kVMa dcMa pmMa anMa cdMa ctMa), slMa⟩) (cMa : PySem.W.codeIn K cdMa "_law_marks" = true) (kMa : PySem.W.keepIn K (.ref fMa) = true)
    (aL : PySem.W.nsIn K mainGlobals "law" = some (some (.ref fL))) (lL : K.lookup fL = some ⟨ocL, odL, .func (PySem.W.fnOf "law" "law" (defArgs sLaw) (defBody sLaw) (defScope sLaw) .none kVL dcL pmL anL (.ref cL) ctL), slL⟩) (c2L : PySem.W.codeIn K (.ref cL) "law" = true) (clL : K.lookup cL = some ⟨eL, ddL, .fields vsL, sl2L⟩) (v11 : vsL[11]? = some (.ref tb)) (ntb : K.lookup tb = none) (hdL : PySem.W.codeHdIn K cL tb = true)
    (taM_ : PySem.W.nsIn K mainGlobals "MARKS" = some (some (.ref tM_))) (tlM_ : K.lookup tM_ = some ⟨.type "tuple", none, .seq itsM_ nM_, stM_⟩) (tvM_ : Vals (marksL.map V.str) itsM_.toList)
    (taK_ : PySem.W.nsIn K mainGlobals "MAKING" = some (some (.ref tK_))) (tlK_ : K.lookup tK_ = some ⟨.type "tuple", none, .seq itsK_ nK_, stK_⟩) (tvK_ : Vals (makingL.map V.str) itsK_.toList)
    (z_isinstance : PySem.W.nsIn K mainGlobals "isinstance" = some none)
    (z_list : PySem.W.nsIn K mainGlobals "list" = some none)
    (z_tuple : PySem.W.nsIn K mainGlobals "tuple" = some none)
    (z_bool : PySem.W.nsIn K mainGlobals "bool" = some none)
    (z_int : PySem.W.nsIn K mainGlobals "int" = some none)
    (z_str : PySem.W.nsIn K mainGlobals "str" = some none)
    (z_len : PySem.W.nsIn K mainGlobals "len" = some none)
    (z_all : PySem.W.nsIn K mainGlobals "all" = some none)
    (z_zip : PySem.W.nsIn K mainGlobals "zip" = some none)
    (z_range : PySem.W.nsIn K mainGlobals "range" = some none)
    (z_max : PySem.W.nsIn K mainGlobals "max" = some none)
    (z_min : PySem.W.nsIn K mainGlobals "min" = some none)
    (z_enumerate : PySem.W.nsIn K mainGlobals "enumerate" = some none)
    (nE : NsAt K errNames [e0, e1, e2, e3, e4, e5, e6, e7, e8, e9, e10, e11, e12, e13, e14, e15, e16, e17, e18, e19, e20, e21, e22]) (kE : TyAll K [e0, e1, e2, e3, e4, e5, e6, e7, e8, e9, e10, e11, e12, e13, e14, e15, e16, e17, e18, e19, e20, e21, e22]) (kE2 : IsAll K [e0, e1, e2, e3, e4, e5, e6, e7, e8, e9, e10, e11, e12, e13, e14, e15, e16, e17, e18, e19, e20, e21, e22])
    (bx1 : PySem.W.subIn K (.ref e9) (.type "BaseException") = some true) (bx2 : PySem.W.subIn K (.ref e12) (.type "BaseException") = some true) (bx3 : PySem.W.subIn K (.ref e18) (.type "BaseException") = some true)
    (aP : PySem.W.nsIn K mainGlobals "PurseError" = some (some (.ref cP))) (aMi : PySem.W.nsIn K mainGlobals "Missing" = some (some (.ref cM)))
    (xLM : K.lookup e0 = some (excClassObj nmM qM e0 NM bsM [.ref cP, .type "ValueError", .type "Exception", .type "BaseException", .type "object"] true snM subM abM colM ddM m0M m1M m2M m3M m5M "ValueError.__new__"))
    (saM : PySem.W.findIn K (.ref e0) "__setattr__" = some (some (.builtin "object.__setattr__"))) (eCM : PySem.W.subIn K (.ref e0) (.type "BaseException") = some true) (tyM : PySem.W.typeIn K (.ref e0) = some (.type "type")) (kCM : PySem.W.keepIn K (.ref e0) = true)
    (iCM : PySem.W.findIn K (.ref e0) "__init__" = some (some (.ref fIM))) (tIM : PySem.W.typeIn K (.ref fIM) = some (.type "function")) (lIM : K.lookup fIM = some ⟨ocIM, odIM, .func (PySem.W.fnOf "__init__" "BadMark.__init__" (defArgs sInitBM) (defBody sInitBM) (defScope sInitBM) .none kVIM dcIM pmIM anIM cdIM ctIM), slIM⟩) (cIM : PySem.W.codeIn K cdIM "BadMark.__init__" = true) (kIM : PySem.W.keepIn K (.ref fIM) = true)
    (wdM : PySem.W.findIn K (.ref e0) "word" = some none) (xcM : PySem.W.isClsIn K e0 = true) (gaM : PySem.W.findIn K (.ref e0) "__getattribute__" = some (some (.builtin "BaseException.__getattribute__"))) (ggM : PySem.W.findIn K (.ref e0) "__getattr__" = some none) (ccM : PySem.W.findIn K (.ref e0) "__class__" = some (some (.builtin "object.__class__"))) (moM : PySem.W.mroIn K e0 (.type "object") = some true) (hxM : PySem.W.hasDictIn K e0 = true)
    (suM : SubAll K (.ref e0) "BadMark" errNames [e0, e1, e2, e3, e4, e5, e6, e7, e8, e9, e10, e11, e12, e13, e14, e15, e16, e17, e18, e19, e20, e21, e22]) (anM : PySem.W.exmAny K (.ref e0) [.ref cP, .ref cM, .ref e22] = some true)
    (xLU : K.lookup e7 = some (excClassObj nmU qU e7 NU bsU [.ref cP, .type "ValueError", .type "Exception", .type "BaseException", .type "object"] true snU subU abU colU ddU m0U m1U m2U m3U m5U "ValueError.__new__"))
    (saU : PySem.W.findIn K (.ref e7) "__setattr__" = some (some (.builtin "object.__setattr__"))) (eCU : PySem.W.subIn K (.ref e7) (.type "BaseException") = some true) (tyU : PySem.W.typeIn K (.ref e7) = some (.type "type")) (kCU : PySem.W.keepIn K (.ref e7) = true)
    (iCU : PySem.W.findIn K (.ref e7) "__init__" = some (some (.ref fIU))) (tIU : PySem.W.typeIn K (.ref fIU) = some (.type "function")) (lIU : K.lookup fIU = some ⟨ocIU, odIU, .func (PySem.W.fnOf "__init__" "BadTable.__init__" (defArgs sInitBadTable) (defBody sInitBadTable) (defScope sInitBadTable) .none kVIU dcIU pmIU anIU cdIU ctIU), slIU⟩) (cIU : PySem.W.codeIn K cdIU "BadTable.__init__" = true) (kIU : PySem.W.keepIn K (.ref fIU) = true)
    (wdU : PySem.W.findIn K (.ref e7) "word" = some none) (xcU : PySem.W.isClsIn K e7 = true) (gaU : PySem.W.findIn K (.ref e7) "__getattribute__" = some (some (.builtin "BaseException.__getattribute__"))) (ggU : PySem.W.findIn K (.ref e7) "__getattr__" = some none) (ccU : PySem.W.findIn K (.ref e7) "__class__" = some (some (.builtin "object.__class__"))) (moU : PySem.W.mroIn K e7 (.type "object") = some true) (hxU : PySem.W.hasDictIn K e7 = true)
    (suU : SubAll K (.ref e7) "BadTable" errNames [e0, e1, e2, e3, e4, e5, e6, e7, e8, e9, e10, e11, e12, e13, e14, e15, e16, e17, e18, e19, e20, e21, e22]) (anU : PySem.W.exmAny K (.ref e7) [.ref cP, .ref cM, .ref e22] = some true)
    (gsX : PySem.W.specialIn K (.builtin "object.__class__") "__get__" = some (some (.builtin "getset_descriptor.__get__"))) (tkX : PySem.W.takesIn K (.builtin "object.__class__") = some true) :
    LamX.LawAtS l w K CX0 10 63 "_law_script" mg fa h := by
  have e := hfa.symm.trans (PySem.W.mg_of X G aL)
  cases e
  have FB := fun_mk (st := sBag) lB cB kB
  have bB := FB.binds (ps := ["_law_script"]) fun _ _ _ _ _ _ us hl => match us, hl with | [_], _ => rfl
  have NB := PySem.W.mg_of X G aB
  have FPu := fun_mk (st := sPull) lPu cPu kPu
  have bPu := FPu.binds (ps := ["_law_bag_here", "_law_many"]) fun _ _ _ _ _ _ us hl => match us, hl with | [_, _], _ => rfl
  have NPu := PySem.W.mg_of X G aPu
  have FO := fun_mk (st := sOf) lO cO kO
  have bO := FO.binds (ps := ["_law_bag_here", "_law_some"]) fun _ _ _ _ _ _ us hl => match us, hl with | [_, _], _ => rfl
  have NO := PySem.W.mg_of X G aO
  have FSm := fun_mk (st := sSame) lSm cSm kSm
  have bSm := FSm.binds (ps := ["_law_found", "_law_due"]) fun _ _ _ _ _ _ us hl => match us, hl with | [_, _], _ => rfl
  have NSm := PySem.W.mg_of X G aSm
  have FKn := fun_mk (st := sKind) lKn cKn kKn
  have bKn := FKn.binds (ps := ["_law_e"]) fun _ _ _ _ _ _ us hl => match us, hl with | [_], _ => rfl
  have NKn := PySem.W.mg_of X G aKn
  have FTo := fun_mk (st := sTold) lTo cTo kTo
  have bTo := FTo.binds (ps := ["_law_ask"]) fun _ _ _ _ _ _ us hl => match us, hl with | [_], _ => rfl
  have NTo := PySem.W.mg_of X G aTo
  have FNm := fun_mk (st := sNeedM) lNm cNm kNm
  have bNm := FNm.binds (ps := ["mark"]) fun _ _ _ _ _ _ us hl => match us, hl with | [_], _ => rfl
  have NNm := PySem.W.mg_of X G aNm
  have FBh := fun_mk (st := sBehind) lBh cBh kBh
  have bBh := FBh.binds (ps := ["one", "other"]) fun _ _ _ _ _ _ us hl => match us, hl with | [_, _], _ => rfl
  have NBh := PySem.W.mg_of X G aBh
  have FBe := fun_mk (st := sBest) lBe cBe kBe
  have bBe := FBe.binds (ps := ["marks"]) fun _ _ _ _ _ _ us hl => match us, hl with | [_], _ => rfl
  have NBe := PySem.W.mg_of X G aBe
  have FAg := fun_mk (st := sAgain) lAg cAg kAg
  have bAg := FAg.binds (ps := ["mark"]) fun _ _ _ _ _ _ us hl => match us, hl with | [_], _ => rfl
  have NAg := PySem.W.mg_of X G aAg
  have FR := fun_mk (st := sRow) lR cR kR
  have bR := FR.binds (ps := ["row", "table"]) fun _ _ _ _ _ _ us hl => match us, hl with | [_, _], _ => rfl
  have NR := PySem.W.mg_of X G aR
  have FSd := fun_mk (st := sSteady) lSd cSd kSd
  have bSd := FSd.binds (ps := ["table"]) fun _ _ _ _ _ _ us hl => match us, hl with | [_], _ => rfl
  have NSd := PySem.W.mg_of X G aSd
  have FRs := fun_mk (st := sRaiseS) lRs cRs kRs
  have bRs := FRs.binds (ps := ["table"]) fun _ _ _ _ _ _ us hl => match us, hl with | [_], _ => rfl
  have NRs := PySem.W.mg_of X G aRs
  have FRa := fun_mk (st := sRaised) lRa cRa kRa
  have bRa := FRa.binds (ps := ["table"]) fun _ _ _ _ _ _ us hl => match us, hl with | [_], _ => rfl
  have NRa := PySem.W.mg_of X G aRa
  have FAl := fun_mk (st := sAllM) lAl cAl kAl
  have bAl := FAl.binds (ps := []) fun _ _ _ _ _ _ us hl => match us, hl with | [], _ => rfl
  have NAl := PySem.W.mg_of X G aAl
  have FAd := fun_mk (st := sAllD) lAd cAd kAd
  have bAd := FAd.binds (ps := []) fun _ _ _ _ _ _ us hl => match us, hl with | [], _ => rfl
  have NAd := PySem.W.mg_of X G aAd
  have FTw := fun_mk (st := sTwoM) lTw cTw kTw
  have bTw := FTw.binds (ps := ["_law_one", "_law_other"]) fun _ _ _ _ _ _ us hl => match us, hl with | [_, _], _ => rfl
  have NTw := PySem.W.mg_of X G aTw
  have FLb := fun_mk (st := sLBest) lLb cLb kLb
  have bLb := FLb.binds (ps := ["_law_marks_here"]) fun _ _ _ _ _ _ us hl => match us, hl with | [_], _ => rfl
  have NLb := PySem.W.mg_of X G aLb
  have FOf := fun_mk (st := sOften) lOf cOf kOf
  have bOf := FOf.binds (ps := ["_law_mark"]) fun _ _ _ _ _ _ us hl => match us, hl with | [_], _ => rfl
  have NOf := PySem.W.mg_of X G aOf
  have FLt := fun_mk (st := sLTimes) lLt cLt kLt
  have bLt := FLt.binds (ps := ["_law_one", "_law_other"]) fun _ _ _ _ _ _ us hl => match us, hl with | [_, _], _ => rfl
  have NLt := PySem.W.mg_of X G aLt
  have FLr := fun_mk (st := sLRaised) lLr cLr kLr
  have bLr := FLr.binds (ps := ["_law_table"]) fun _ _ _ _ _ _ us hl => match us, hl with | [_], _ => rfl
  have NLr := PySem.W.mg_of X G aLr
  have FMa := fun_mk (st := sMarks) lMa cMa kMa
  have bMa := FMa.binds (ps := ["_law_bag_here", "_law_many"]) fun _ _ _ _ _ _ us hl => match us, hl with | [_, _], _ => rfl
  have NMa := PySem.W.mg_of X G aMa
  have sq : ∀ {t : Addr} {its : Array Value} {n : Nat} {st : Array (Option Value)} {xs : List V}, xs.length ≤ 1000 → K.lookup t = some ⟨.type "tuple", none, .seq its n, st⟩ → Vals xs its.toList → ∀ H, SqT K H t xs := fun hx e v H =>
    .inr ⟨_, _, _, e, rfl, rfl, by have q := v.length; simp only [Array.length_toList] at q; have q2 := small1000 hx; omega, v⟩
  have NM_ := PySem.W.mg_of X G taM_
  have SM_ := sq (by decide) tlM_ tvM_
  have NK_ := PySem.W.mg_of X G taK_
  have SK_ := sq (by decide) tlK_ tvK_
  have y_isinstance := PySem.W.mg_none_of X G z_isinstance
  have y_list := PySem.W.mg_none_of X G z_list
  have y_tuple := PySem.W.mg_none_of X G z_tuple
  have y_bool := PySem.W.mg_none_of X G z_bool
  have y_int := PySem.W.mg_none_of X G z_int
  have y_str := PySem.W.mg_none_of X G z_str
  have y_len := PySem.W.mg_none_of X G z_len
  have y_all := PySem.W.mg_none_of X G z_all
  have y_zip := PySem.W.mg_none_of X G z_zip
  have y_range := PySem.W.mg_none_of X G z_range
  have y_max := PySem.W.mg_none_of X G z_max
  have y_min := PySem.W.mg_none_of X G z_min
  have y_enumerate := PySem.W.mg_none_of X G z_enumerate
  have gE0 : mg "BadMark" = some (.ref e0) := PySem.W.mg_of X G (show NsAt K errNames _ from nE).1
  have qE0 : ecOf mg "BadMark" = e0 := ecOf_eq gE0
  have gE7 : mg "BadTable" = some (.ref e7) := PySem.W.mg_of X G (show NsAt K errNames _ from nE).2.2.2.2.2.2.2.1
  have qE7 : ecOf mg "BadTable" = e7 := ecOf_eq gE7
  have gE9 : mg "BadText" = some (.ref e9) := PySem.W.mg_of X G (show NsAt K errNames _ from nE).2.2.2.2.2.2.2.2.2.1
  have qE9 : ecOf mg "BadText" = e9 := ecOf_eq gE9
  have gE12 : mg "BadPage" = some (.ref e12) := PySem.W.mg_of X G (show NsAt K errNames _ from nE).2.2.2.2.2.2.2.2.2.2.2.2.1
  have qE12 : ecOf mg "BadPage" = e12 := ecOf_eq gE12
  have gE18 : mg "TooWide" = some (.ref e18) := PySem.W.mg_of X G (show NsAt K errNames _ from nE).2.2.2.2.2.2.2.2.2.2.2.2.2.2.2.2.2.2.1
  have qE18 : ecOf mg "TooWide" = e18 := ecOf_eq gE18
  have gE22 : mg "NothingLeft" = some (.ref e22) := PySem.W.mg_of X G (show NsAt K errNames _ from nE).2.2.2.2.2.2.2.2.2.2.2.2.2.2.2.2.2.2.2.2.2.2.1
  have qE22 : ecOf mg "NothingLeft" = e22 := ecOf_eq gE22
  have FIM : Fun K "__init__" "BadMark.__init__" sInitBM fIM _ := ⟨⟨_, _, _, _, _, _, _, _, _, rfl, lIM, cIM⟩, kIM⟩
  have bIM := FIM.binds (ps := ["self"]) fun _ _ _ _ _ _ us hl => match us, hl with | [_], _ => rfl
  have OM : OexC K (ecOf mg "BadMark") := by
    rw [qE0]
    exact ⟨⟨_, _, _, _, _, _, _, _, _, _, _, _, _, _, _, xLM, by show PySem.HandSPX.refsVE [.type "ValueError", .type "Exception", .type "BaseException", .type "object"] = true; decide +kernel⟩, saM, eCM, tyM, kCM⟩
  have ErM : ErrC K (ecOf mg "BadMark") := by
    rw [qE0]
    exact ⟨xcM, gaM, ggM, eCM, ccM, gsX, tkX, moM, hxM⟩
  have FIU : Fun K "__init__" "BadTable.__init__" sInitBadTable fIU _ := ⟨⟨_, _, _, _, _, _, _, _, _, rfl, lIU, cIU⟩, kIU⟩
  have bIU := FIU.binds (ps := ["self"]) fun _ _ _ _ _ _ us hl => match us, hl with | [_], _ => rfl
  have OU : OexC K (ecOf mg "BadTable") := by
    rw [qE7]
    exact ⟨⟨_, _, _, _, _, _, _, _, _, _, _, _, _, _, _, xLU, by show PySem.HandSPX.refsVE [.type "ValueError", .type "Exception", .type "BaseException", .type "object"] = true; decide +kernel⟩, saU, eCU, tyU, kCU⟩
  have ErU : ErrC K (ecOf mg "BadTable") := by
    rw [qE7]
    exact ⟨xcU, gaU, ggU, eCU, ccU, gsX, tkX, moU, hxU⟩
  have KD : Kd K mg (ecOf mg) ["BadMark", "BadTable"] cP cM := ⟨ns_of X G _ _ nE, cl_of X G _ _ nE kE kE2, by decide +kernel, List.forall_mem_cons.mpr ⟨ErM, List.forall_mem_cons.mpr ⟨ErU, fun _ z => nomatch z⟩⟩, List.forall_mem_cons.mpr ⟨by rw [qE0]; exact wdM, List.forall_mem_cons.mpr ⟨by rw [qE7]; exact wdU, fun _ z => nomatch z⟩⟩, List.forall_mem_cons.mpr ⟨by rw [qE0]; exact sub_of X G _ _ nE suM, List.forall_mem_cons.mpr ⟨by rw [qE7]; exact sub_of X G _ _ nE suU, fun _ z => nomatch z⟩⟩, List.forall_mem_cons.mpr ⟨by rw [qE9]; exact bx1, List.forall_mem_cons.mpr ⟨by rw [qE12]; exact bx2, List.forall_mem_cons.mpr ⟨by rw [qE18]; exact bx3, fun _ z => nomatch z⟩⟩⟩, PySem.W.mg_of X G aP, PySem.W.mg_of X G aMi, List.forall_mem_cons.mpr ⟨by rw [qE0, qE22]; exact anM, List.forall_mem_cons.mpr ⟨by rw [qE7, qE22]; exact anU, fun _ z => nomatch z⟩⟩⟩
  have M : BMk K mg (ecOf mg "BadMark") fIM _ := ⟨OM, by rw [qE0]; exact iCM, tIM, FIM, bIM, by rw [qE0]; exact gE0, by rw [qE0]; exact wdM⟩
  have UU : MkBadTable K mg (ecOf mg "BadTable") fIU _ := ⟨OU, by rw [qE7]; exact iCU, tIU, FIU, bIU, by rw [qE7]; exact gE7, by rw [qE7]; exact wdU⟩
  refine ⟨_, [(cL, tb)], spLaw K tb, fun p hp => ?_, fun p hp => ?_, fun p hp => ?_, fun s v => .of_eq rfl, fun H a ns hl hb hH hS => ⟨a, ns, rfl, hS, hH _ List.mem_cons_self, fun _ => rfl⟩, fun base KB GB TB =>
    ok_law lL c2L ⟨FB, bB, NB⟩ ⟨FPu, bPu, NPu⟩ ⟨FO, bO, NO⟩ ⟨FSm, bSm, NSm⟩ ⟨FKn, bKn, NKn⟩ ⟨FTo, bTo, NTo⟩ ⟨FNm, bNm, NNm⟩ ⟨FBh, bBh, NBh⟩ ⟨FBe, bBe, NBe⟩ ⟨FAg, bAg, NAg⟩ ⟨FR, bR, NR⟩ ⟨FSd, bSd, NSd⟩ ⟨FRs, bRs, NRs⟩ ⟨FRa, bRa, NRa⟩ ⟨FAl, bAl, NAl⟩ ⟨FAd, bAd, NAd⟩ ⟨FTw, bTw, NTw⟩ ⟨FLb, bLb, NLb⟩ ⟨FOf, bOf, NOf⟩ ⟨FLt, bLt, NLt⟩ ⟨FLr, bLr, NLr⟩ ⟨FMa, bMa, NMa⟩
      M UU ⟨NM_, NK_, SM_, SK_, ⟨_, tlK_, rfl, rfl⟩⟩ KD ⟨y_isinstance, y_list, y_tuple, y_bool, y_int, y_str, y_len, y_all, y_zip⟩ y_range y_max y_min y_enumerate (TB _ List.mem_cons_self)⟩
  · rw [List.mem_singleton.mp hp]
    exact own _ _ _ _ _ _ _ _ lL rfl rfl clL v11
  · rw [List.mem_singleton.mp hp]
    exact ntb
  · rw [List.mem_singleton.mp hp]
    exact PySem.W.codeHd_of_K X hdL
end Onp
open PySem PySem.W PyProof.Rows
set_option maxRecDepth 100000 in
set_option maxHeartbeats 0 in
theorem PySem.Challenge.cw_onepurse_k21_steady_tables_raised_holds : PySem.Challenge.rw_onepurse_k21_steady_tables_raised.Holds := by
  w_on; o_law; k_head; (case hw => w_witness2)
  k_fill
  refine LamX.walk_ofOwn (l := PySem.Challenge.rw_onepurse_k21_steady_tables_raised) (n := 63) (k := 10) (x := "_law_script") (CX := fun _ => L2.CX0) rfl (by decide) rfl ⟨rfl, by decide, by decide⟩ (by decide +kernel) (fun w h Y => PySem.W.km_in_of Y) ?F (fun _ _ _ _ _ h => h)
  case F =>
    intro w mg fa h Y KX G hmg own
    refine' Onp.all_mk KX G hmg own ?aB ?lB ?cB ?kB ?aPu ?lPu ?cPu ?kPu ?aO ?lO ?cO ?kO ?aSm ?lSm ?cSm ?kSm ?aKn ?lKn ?cKn ?kKn ?aTo ?lTo ?cTo ?kTo ?aNm ?lNm ?cNm ?kNm ?aBh ?lBh ?cBh ?kBh ?aBe ?lBe ?cBe ?kBe ?aAg ?lAg ?cAg ?kAg ?aR ?lR ?cR ?kR ?aSd ?lSd ?cSd ?kSd ?aRs ?lRs ?cRs ?kRs ?aRa ?lRa ?cRa ?kRa ?aAl ?lAl ?cAl ?kAl ?aAd ?lAd ?cAd ?kAd ?aTw ?lTw ?cTw ?kTw ?aLb ?lLb ?cLb ?kLb ?aOf ?lOf ?cOf ?kOf ?aLt ?lLt ?cLt ?kLt ?aLr ?lLr ?cLr ?kLr ?aMa ?lMa ?cMa ?kMa ?aL ?lL ?c2L ?clL ?v11 ?ntb ?hdL ?taM_ ?tlM_ ?tvM_ ?taK_ ?tlK_ ?tvK_ ?z_isinstance ?z_list ?z_tuple ?z_bool ?z_int ?z_str ?z_len ?z_all ?z_zip ?z_range ?z_max ?z_min ?z_enumerate ?nE ?kE ?kE2 ?bx1 ?bx2 ?bx3 ?aP ?aMi ?xLM ?saM ?eCM ?tyM ?kCM ?iCM ?tIM ?lIM ?cIM ?kIM ?wdM ?xcM ?gaM ?ggM ?ccM ?moM ?hxM ?suM ?anM ?xLU ?saU ?eCU ?tyU ?kCU ?iCU ?tIU ?lIU ?cIU ?kIU ?wdU ?xcU ?gaU ?ggU ?ccU ?moU ?hxU ?suU ?anU ?gsX ?tkX
    (case aB => k_is)
    (case lB => k_is)
    (case cB => k_is)
    (case kB => k_is)
    (case aPu => k_is)
    (case lPu => k_is)
    (case cPu => k_is)
    (case kPu => k_is)
    (case aO => k_is)
    (case lO => k_is)
    (case cO => k_is)
    (case kO => k_is)
    (case aSm => k_is)
    (case lSm => k_is)
    (case cSm => k_is)
    (case kSm => k_is)
    (case aKn => k_is)
    (case lKn => k_is)
    (case cKn => k_is)
    (case kKn => k_is)
    (case aTo => k_is)
    (case lTo => k_is)
    (case cTo => k_is)
    (case kTo => k_is)
    (case aNm => k_is)
    (case lNm => k_is)
    (case cNm => k_is)
    (case kNm => k_is)
    (case aBh => k_is)
    (case lBh => k_is)
    (case cBh => k_is)
    (case kBh => k_is)
    (case aBe => k_is)
    (case lBe => k_is)
    (case cBe => k_is)
    (case kBe => k_is)
    (case aAg => k_is)
    (case lAg => k_is)
    (case cAg => k_is)
    (case kAg => k_is)
    (case aR => k_is)
    (case lR => k_is)
    (case cR => k_is)
    (case kR => k_is)
    (case aSd => k_is)
    (case lSd => k_is)
    (case cSd => k_is)
    (case kSd => k_is)
    (case aRs => k_is)
    (case lRs => k_is)
    (case cRs => k_is)
    (case kRs => k_is)
    (case aRa => k_is)
    (case lRa => k_is)
    (case cRa => k_is)
    (case kRa => k_is)
    (case aAl => k_is)
    (case lAl => k_is)
    (case cAl => k_is)
    (case kAl => k_is)
    (case aAd => k_is)
    (case lAd => k_is)
    (case cAd => k_is)
    (case kAd => k_is)
    (case aTw => k_is)
    (case lTw => k_is)
    (case cTw => k_is)
    (case kTw => k_is)
    (case aLb => k_is)
    (case lLb => k_is)
    (case cLb => k_is)
    (case kLb => k_is)
    (case aOf => k_is)
    (case lOf => k_is)
    (case cOf => k_is)
    (case kOf => k_is)
    (case aLt => k_is)
    (case lLt => k_is)
    (case cLt => k_is)
    (case kLt => k_is)
    (case aLr => k_is)
    (case lLr => k_is)
    (case cLr => k_is)
    (case kLr => k_is)
    (case aMa => k_is)
    (case lMa => k_is)
    (case cMa => k_is)
    (case kMa => k_is)
    (case aL => k_is)
    (case lL => k_is)
    (case c2L => k_is)
    (case clL => k_is)
    (case v11 => rfl)
    (case ntb => rfl)
    (case hdL => kernel_rfl)
    (case taM_ => k_is)
    (case tlM_ => k_is)
    (case tvM_ => (repeat first | exact .nil | refine .cons ⟨_, rfl⟩ ?_))
    (case taK_ => k_is)
    (case tlK_ => k_is)
    (case tvK_ => (repeat first | exact .nil | refine .cons ⟨_, rfl⟩ ?_))
    (case z_isinstance => k_is)
    (case z_list => k_is)
    (case z_tuple => k_is)
    (case z_bool => k_is)
    (case z_int => k_is)
    (case z_str => k_is)
    (case z_len => k_is)
    (case z_all => k_is)
    (case z_zip => k_is)
    (case z_range => k_is)
    (case z_max => k_is)
    (case z_min => k_is)
    (case z_enumerate => k_is)
    (case nE => (iterate 23 (refine And.intro ?_ ?_; focus k_is)); exact True.intro)
    (case kE => (iterate 23 (refine And.intro ?_ ?_; focus k_is)); exact True.intro)
    (case kE2 => (iterate 23 (refine And.intro ?_ ?_; focus k_is)); exact True.intro)
    (case bx1 => k_is)
    (case bx2 => k_is)
    (case bx3 => k_is)
    (case aP => k_is)
    (case aMi => k_is)
    (case xLM => k_is)
    (case saM => k_is)
    (case eCM => k_is)
    (case tyM => k_is)
    (case kCM => k_is)
    (case iCM => k_is)
    (case tIM => k_is)
    (case lIM => k_is)
    (case cIM => k_is)
    (case kIM => k_is)
    (case wdM => k_is)
    (case xcM => k_is)
    (case gaM => k_is)
    (case ggM => k_is)
    (case ccM => k_is)
    (case moM => k_is)
    (case hxM => k_is)
    (case suM => (iterate 23 (refine And.intro ?_ ?_; focus k_is)); exact True.intro)
    (case anM => kernel_rfl)
    (case xLU => k_is)
    (case saU => k_is)
    (case eCU => k_is)
    (case tyU => k_is)
    (case kCU => k_is)
    (case iCU => k_is)
    (case tIU => k_is)
    (case lIU => k_is)
    (case cIU => k_is)
    (case kIU => k_is)
    (case wdU => k_is)
    (case xcU => k_is)
    (case gaU => k_is)
    (case ggU => k_is)
    (case ccU => k_is)
    (case moU => k_is)
    (case hxU => k_is)
    (case suU => (iterate 23 (refine And.intro ?_ ?_; focus k_is)); exact True.intro)
    (case anU => kernel_rfl)
    (case gsX => k_is)
    (case tkX => k_is)
