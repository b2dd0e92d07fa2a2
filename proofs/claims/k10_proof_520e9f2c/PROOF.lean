import PyProof.Rows.All
import Wide.All
import OpenK.AllK
import Wide.FinOn
import PyProof.ZipIter
import HandS.Base
import HandS.Call
import HandS.List
import HandS.Comp
import HandS.Iter
import HandS.Exc
import HandS.Hot
import HandS.HotCalls
import KE.KTurns
import HandS.Words
import HandS.ExcOwn
import HandS.ExcCtx
import HandS.ExcInit
import HandS.ExcIs
import HandS.ExcField
import KE.KExcIs
import HandS.Text
import HandS.Lambda
import HandS.CallSlots
import PyProof.MaxThree
import HandS.Ends
import HandS.Wide
import HandS.Codes
import HandS.Strs
import HandS.ForMost
import HandS.IsInst
import HandS.Zip
import KE.KDflt
import PyProof.StrOps2
import PyProof.ListStr
import HandS.ReplaceList
import HandS.StrMore
import HandS.Walk
import HandS.Steps
import KE.KNestM
import HandS.EndOwn
import HandS.Style
import HandS.Replace
import HandS.ReplaceLit
import PySem.Challenge.RW_onepurse_k10_patterns_gone_so_often
set_option Elab.async false
set_option linter.all false
set_option maxRecDepth 100000
set_option maxHeartbeats 2000000
/-! while an exception is handled: the ends of walks -/
namespace Onp
open PySem PySem.Spec PyProof.Rows L2 HotX L2H
section
variable {prog : Program} {w : World} {A : Around} {E : Value → Shared → Prop} {s : Shared}
/-- a StopIteration raised while x1 is handled -/
theorem stopHot {α : Type} {x1 : Addr} {Q : α → Shared → Prop} (hot : HotAt A x1 s.heap)
    (hE : ∀ h' e, (∀ b o, s.heap.get? b = some o → h'.get? b = some o) → (∃ o, h'.get? e = some o ∧ o.cls = .type "StopIteration") → E (.ref e) { s with heap := h' }) :
    wpAny (model prog w) A ((newExc (.type "StopIteration") [] >>= fun v => raiseNew v) : Sem α) Q E s := by
  obtain ⟨hh, o1, vs1, g1, g2, g3⟩ := hot
  refine wpAny_bind ?_
  simp only [newExc, newTuple]
  refine wpAny_bind (wpAny_newObj_type (wpAny_bind (m := firstArgMember _ _) (wpAny_of_eq (a := Value.none) (by first | rfl | (simp only [firstArgMember]; rfl)) (wpAny_newObj_type ?_ (by size_fits)))) (by size_fits))
  have k1 : (s.heap.push { cls := .type "tuple", data := .seq #[] }).get? x1 = some o1 := Heap.get?_push_of_some _ g1
  refine raiseNew_hot (x1 := x1) ⟨hh, o1, vs1, Heap.get?_push_of_some _ k1, g2, g3⟩ (Nat.ne_of_lt (Heap.lt_size k1)) (Heap.get?_push_size _ rfl) rfl (by first | (simp; done) | (simp; omega)) ?_
  refine hE _ _ (fun b o e => ?_) ⟨_, Heap.get?_update_self _ (Heap.get?_push_size _ rfl) rfl, rfl⟩
  have k2 : (s.heap.push { cls := .type "tuple", data := .seq #[] }).get? b = some o := Heap.get?_push_of_some _ e
  rw [Heap.get?_update_other _ _ (Nat.ne_of_gt (Heap.lt_size k2))]
  exact Heap.get?_push_of_some _ k2
theorem hot_but {x1 a : Addr} {h h' : Heap} (t : HotAt A x1 h) (n : x1 ≠ a) (k : ∀ b o, b ≠ a → h.get? b = some o → h'.get? b = some o) : HotAt A x1 h' := by
  obtain ⟨hh, o1, vs1, g1, g2, g3⟩ := t
  exact ⟨hh, o1, vs1, k _ _ n g1, g2, g3⟩
/-- the end of a list, asked by nextOf -/
theorem listEndHot {x1 it l : Addr} {i : Nat} {items : Array Value} {Q : Value → Shared → Prop} (hot : HotAt A x1 s.heap) (nx : x1 ≠ it) (hit : s.heap.IsListIter it l i) (hl : s.heap.IsList l items) (hx : items[i]? = none)
    (hE : ∀ h' e, Heap.ExtBut it s.heap h' → (∃ o, h'.get? e = some o ∧ o.cls = .type "StopIteration") → E (.ref e) { s with heap := h' }) : wpAny (model prog w) A (Builtin.SmallTypes.nextOf (.ref it)) Q E s := by
  obtain ⟨ob, g1, g2, g3⟩ := id hit
  obtain ⟨lb, k1, _, kn, k3⟩ := hl
  unfold Builtin.SmallTypes.nextOf
  refine wpAny_bind (wpAny_callSpecial?_slot (name := Str.ofString "__next__") hit.typeIs slot_listiter_next (wpAny_call_entry slot_listiter_next hit.typeIs entry_listiter_next ?_ (args_listiter_next _)))
  show wpAny _ _ (field (.ref it) 0 >>= _) _ _ s
  refine wpAny_bind (wpAny_field g1 g3 (x := .ref l) rfl ?_)
  show wpAny _ _ (if (Value.ref l == Value.none) = true then _ else _) _ _ s
  rw [if_neg (by exact Bool.false_ne_true : ¬ ((Value.ref l == Value.none) = true))]
  show wpAny _ _ (field (.ref it) 1 >>= _) _ _ s
  refine wpAny_bind (wpAny_field g1 g3 (x := .int i 0) rfl ?_)
  show wpAny _ _ (seqItems? (.ref l) >>= _) _ _ s
  refine wpAny_bind (wpAny_seqItems k1 k3 ?_)
  simp only [hx, Int.toNat_natCast]
  refine wpAny_bind (wpAny_rule (wpAny_bind (wpAny_setField g1 g3 (by simp) ?_)))
  have sb : Heap.SameBut it s.heap (s.heap.update it (Obj.mapFields (·.setIfInBounds 0 Value.none))) := Heap.SameBut.update ..
  refine stopHot (x1 := x1) (hot_but (A := A.in1) hot nx fun b o n e => sb.extBut b o n e) fun h' e k he => hE h' e (fun b o n q => k b o (sb.extBut b o n q)) he
/-- the end of a tuple -/
theorem tupEndHot {x1 it t : Addr} {i : Nat} {items : Array Value} {Q : Option Value → Shared → Prop} (hot : HotAt A x1 s.heap) (nx : x1 ≠ it) (hit : IsTupIter s.heap it t i) (ht : IsTup s.heap t items) (hx : items[i]? = none)
    (hQ : ∀ h', Heap.ExtBut it s.heap h' → Q none { s with heap := h' }) : wpAny (model prog w) A (pyNext (.ref it)) Q E s := by
  obtain ⟨ob, g1, g2, g3⟩ := id hit
  obtain ⟨lb, k1, _, kn, k3⟩ := ht
  unfold pyNext
  refine wpAny_bind (wpAny_attempt (wpAny_callSpecial?_slot (name := Str.ofString "__next__") hit.typeIs slot_tupleiter_next (wpAny_call_entry slot_tupleiter_next hit.typeIs entry_tupleiter_next ?_ (args_tupleiter_next _))))
  show wpAny _ _ (field (.ref it) 0 >>= _) _ _ s
  refine wpAny_bind (wpAny_field g1 g3 (x := .ref t) rfl ?_)
  show wpAny _ _ (if (Value.ref t == Value.none) = true then _ else _) _ _ s
  rw [if_neg (by exact Bool.false_ne_true : ¬ ((Value.ref t == Value.none) = true))]
  show wpAny _ _ (field (.ref it) 1 >>= _) _ _ s
  refine wpAny_bind (wpAny_field g1 g3 (x := .int i 0) rfl ?_)
  show wpAny _ _ (seqItems? (.ref t) >>= _) _ _ s
  refine wpAny_bind (wpAny_seqItems k1 k3 ?_)
  simp only [hx, Int.toNat_natCast]
  refine wpAny_bind (wpAny_rule (wpAny_bind (wpAny_setField g1 g3 (by simp) ?_)))
  have sb : Heap.SameBut it s.heap (s.heap.update it (Obj.mapFields (·.setIfInBounds 0 Value.none))) := Heap.SameBut.update ..
  refine stopHot (x1 := x1) (hot_but (A := A.in1) hot nx fun b o n e => sb.extBut b o n e) fun h' e k he => ?_
  obtain ⟨oe, q1, q2⟩ := he
  exact wpAny_bind (wpAny_isInstance (T := "StopIteration") (b := true) ⟨oe, q1, q2⟩ isSubtype_stop (wpAny_pure (hQ h' fun b o n q => k b o (sb.extBut b o n q))))
/-- a tuple unpacked -/
theorem unpackHot {x1 t : Addr} {items : Array Value} {Q : List Value → Shared → Prop} (hot : HotAt A x1 s.heap) (ht : IsTup s.heap t items)
    (hQ : ∀ h', Heap.ExtBut s.heap.objs.size s.heap h' → Q items.toList { s with heap := h' }) : wpAny (model prog w) A (unpackItems (.ref t) items.size none) Q E s := by
  have n1 : t ≠ s.heap.objs.size := by
    obtain ⟨o, ho, _⟩ := ht
    exact Nat.ne_of_lt (Heap.lt_size ho)
  have n2 : x1 ≠ s.heap.objs.size := by
    obtain ⟨_, o, _, ho, _⟩ := hot
    exact Nat.ne_of_lt (Heap.lt_size ho)
  unfold unpackItems
  refine wpAny_bind ?_
  unfold notIterableAtAll
  refine wpAny_bind (wpAny_specialOf ht.typeIs slot_tuple_iter.lookup (wpAny_pure ?_))
  simp only [if_false, Bool.false_eq_true]
  refine wpAny_bind (wpAny_holding (iter_tuple ht (wpAny_bind (wpAny_holding (draw_tuple n1 items.size 0 _ _ ⟨_, Heap.get?_push_size _ rfl, rfl, rfl⟩ (ht.push _) (by omega) fun j1 c1 c2 => ?_)))))
  have whole : List.take items.size (List.drop 0 items.toList) = items.toList := by rw [List.drop_zero, List.take_of_length_le (by simp)]
  rw [whole, if_neg (by simp)]
  have tj : IsTup j1 t items := (ht.push _).extBut c2.extBut n1
  have hj : HotAt A x1 j1 := hot_but hot n2 fun b o n e => c2.extBut b o n (Heap.get?_push_of_some _ e)
  refine wpAny_bind (wpAny_holding (tupEndHot hj n2 c1 tj (by simp) fun j2 c3 => ?_))
  simp only [if_false, Option.isSome_none, Bool.false_eq_true]
  exact wpAny_pure (hQ j2 fun b o n e => c3 b o n (c2.extBut b o n (Heap.get?_push_of_some _ e)))
theorem assignTupHot {x1 : Addr} {env : Env} {elts : List Expr} {k} {pos : Pos} {t : Addr} {items : Array Value} {Q : Unit → Shared → Prop} (hot : HotAt A x1 s.heap) (ht : IsTup s.heap t items)
    (hn : (assignEach elts env).length = items.size) (hstar : (assignEach elts env).findIdx? (·.1) = none)
    (h : ∀ h', Heap.ExtBut s.heap.objs.size s.heap h' → wpAny (model prog w) A (assignInOrder ((assignEach elts env).map (·.2)) items.toList) Q E { s with heap := h' }) :
    wpAny (model prog w) A (assign (.Tuple elts k pos) env (.ref t)) Q E s := by
  rw [assign_Tuple]
  refine wpAny_bind (wpAny_standAt ?_)
  unfold unpack
  rw [hn, hstar]
  exact wpAny_bind (wpAny_holding (unpackHot hot ht h))
/-- zip's end: the first list is through -/
theorem zipEndHot {x1 z TI TO i1 i2 l1 l2 : Addr} {k1 : Nat} {xs : Array Value} {a b : Value} {Q : Option Value → Shared → Prop} (hot : HotAt A x1 s.heap) (nx : x1 ≠ z ∧ x1 ≠ i1) (D : ZipApart z TI TO i1 i2 l1 l2)
    (hz : IsZip s.heap z TI TO .none) (hTI : IsPair s.heap TI (.ref i1) (.ref i2)) (hTO : IsPair s.heap TO a b) (h1 : s.heap.IsListIter i1 l1 k1) (hl1 : s.heap.IsList l1 xs) (hx : xs[k1]? = none)
    (hQ : ∀ h', (∀ c o, c ≠ z → c ≠ i1 → s.heap.get? c = some o → h'.get? c = some o) → Q none { s with heap := h' }) : wpAny (model prog w) A (pyNext (.ref z)) Q E s := by
  have hT : s.TypeIs (.ref z) "zip" := ⟨_, hz, rfl⟩
  unfold pyNext
  refine wpAny_bind (wpAny_attempt (wpAny_callSpecial?_slot (name := Str.ofString "__next__") hT F.slot_zip_next (wpAny_call_entry F.slot_zip_next hT F.entry_zip_next ?_ (F.args_zip_next_1 _))))
  show wpAny _ _ (field (.ref z) 2 >>= _) _ _ _
  refine wpAny_bind (wpAny_field hz rfl (x := .bool false) rfl ?_)
  show wpAny _ _ (field (.ref z) 3 >>= _) _ _ _
  refine wpAny_bind (wpAny_field hz rfl (x := .ref TI) rfl (wpAny_bind (wpAny_seqItems hTI rfl ?_)))
  show wpAny _ _ (Builtin.SmallTypes.ownedTupleIsFree (.ref z) >>= _) _ _ _
  refine wpAny_bind ?_
  unfold Builtin.SmallTypes.ownedTupleIsFree
  refine wpAny_bind (wpAny_field hz rfl (x := .none) rfl (wpAny_pure ?_))
  simp only [if_true]
  refine wpAny_bind (wpAny_rule (wpAny_bind (wpAny_field hz rfl (x := .ref TO) rfl (wpAny_bind (wpAny_setField_rec hz (by simp) fun j1 zj sj => ?_)))))
  replace zj : IsZip j1 z TI TO .ellipsis := zj
  refine wpAny_bind ?_
  simp only [List.zipIdx_cons, List.zipIdx_nil, List.forIn_cons, List.forIn_nil]
  refine wpAny_bind (wpAny_bind (wpAny_onRaise ?_))
  show wpAny _ _ (Builtin.SmallTypes.nextOf (.ref i1) >>= _) _ _ _
  refine wpAny_bind (listEndHot (x1 := x1) (hot_but (A := A.in1) hot nx.1 fun b o n e => sj.extBut b o n e) nx.2 (h1.extBut sj.extBut D.i1z) (hl1.extBut sj.extBut D.l1z) hx fun j2 e c2 he => ?_)
  obtain ⟨oe, q1, q2⟩ := he
  have z2 : IsZip j2 z TI TO .ellipsis := c2 _ _ D.i1z.symm zj
  have ez : e ≠ z := fun x => by subst x; rw [z2] at q1; cases q1; simp at q2
  refine wpAny_setField_rec z2 (by simp) fun j3 _ c3 => ?_
  exact wpAny_bind (wpAny_isInstance (T := "StopIteration") (b := true) ⟨oe, c3.extBut _ _ ez q1, q2⟩ isSubtype_stop (wpAny_pure (hQ j3 fun c o n1 n2 q => c3.extBut _ _ n1 (c2 _ _ n2 (sj.extBut _ _ n1 q)))))
end
end Onp
set_option maxHeartbeats 4000000
namespace Onp
open PySem PySem.Spec PyProof.Rows L2 HotX L2H
/-! ### (a, b) = a tuple, while an exception is handled -/
theorem pg_tupH {X : Cx} {es : List Expr} {k : Nat} {t : TGs} {n : Nat} {pos : Pos} (hc : HotC X) (h : PGs X es t) (hn : (assignEach es X.env).length = n := by rfl) (hst : (assignEach es X.env).findIdx? (·.1) = none := by rfl) :
    PG X (.Tuple es k pos) (gTup X.K n t) := by
  refine ⟨fun pins s σ H v u Q I r hw => ?_⟩
  obtain ⟨p, xs, rfl, hq, hl, hw⟩ := hw
  obtain rfl : u = Value.ref p := r
  obtain ⟨its, rv, ht, hz⟩ := I.tuple hq
  obtain ⟨x1, hot⟩ := hc.at I
  refine assignTupHot hot ht (by simp [hn, ← hl, rv.length]) hst fun h' hx => ?_
  exact h.run pins _ σ H xs _ Q (I.kept (t' := s.toks) fun b o e => hx b o (Nat.ne_of_lt (Heap.lt_size e)) e) (by simpa using rv) hw
/-! ### zip of two lists, the first no longer than the second -/
def Itz1 (K : PySem.W.Frag) (a b : Addr) : It := ⟨(Itz K a b).go, (Itz K a b).yld, fun i H => ∃ xs ys : List V, SqL K H a xs ∧ SqL K H b ys ∧ xs.length ≤ i⟩
def zipSt (a b z TI TO i1 i2 : Addr) (i : Nat) (h : Heap) : Prop := IsZip h z TI TO .none ∧ IsPair h TI (.ref i1) (.ref i2) ∧ (∃ x y, IsPair h TO x y) ∧ h.IsListIter i1 a i ∧ h.IsListIter i2 b i
theorem turnZipH {P : Program} {w : World} {K : PySem.W.Frag} {elts : List Expr} {kk : Nat} {tpos : Pos} {a b z TI TO i1 i2 : Addr} (D : ZipApart z TI TO i1 i2 a b) :
    TurnH P w K (.Tuple elts kk tpos) (Itz1 K a b) [z, TI, TO, i1, i2] z (zipSt a b z TI TO i1 i2) where
  mem := List.mem_cons_self
  obj := (turn_zip (P := P) (w := w) (K := K) (elts := elts) (kk := kk) (tpos := tpos) D).obj
  keep := (turn_zip (P := P) (w := w) (K := K) (elts := elts) (kk := kk) (tpos := tpos) D).keep
  self := (turn_zip (P := P) (w := w) (K := K) (elts := elts) (kk := kk) (tpos := tpos) D).self
  item := by
    intro X eP ew eK hc i pins s σ H E I hf st hg
    subst eP ew eK
    obtain ⟨z1, z2, ⟨v1, v2, z3⟩, z4, z5⟩ := st
    obtain ⟨xs, ys, x, y, qx, qy, ex, ey⟩ := hg
    obtain ⟨us, ru, pu, _⟩ := I.list qx
    obtain ⟨ws, rw', pw, _⟩ := I.list qy
    obtain ⟨u1, e1, r1⟩ := ru.get ex
    obtain ⟨u2, e2, r2⟩ := rw'.get ey
    have lz : z < s.heap.objs.size := Heap.lt_size z1
    refine wpAny_pyNext_zip_item D z1 z2 z3 z4 z5 pu.isList pw.isList (x := u1) (y := u2) (by simpa using e1) (by simpa using e2) fun j n1 n2 n3 n4 n5 n6 n7 => ⟨_, rfl, ?_⟩
    refine wpAny_letOwnedTupleGo_zip (s := { s with heap := j }) n1 fun j2 m1 sb => ?_
    have old : ∀ c, c ∈ [z, TI, TO, i1, i2] → c < s.heap.objs.size := fun c hm => by
      have e' : c = z ∨ c = TI ∨ c = TO ∨ c = i1 ∨ c = i2 := by simpa using hm
      obtain ⟨_, q4, _⟩ := z4
      obtain ⟨_, q5, _⟩ := z5
      rcases e' with rfl | rfl | rfl | rfl | rfl
      · exact lz
      · exact Heap.lt_size z2
      · exact Heap.lt_size z3
      · exact Heap.lt_size q4
      · exact Heap.lt_size q5
    have tj : j2.get? s.heap.objs.size = some { cls := .type "tuple", data := .seq #[u1, u2] } := (sb.2 _ (Nat.ne_of_gt lz)).trans n5
    have kp : ∀ c o, c ∉ [z, TI, TO, i1, i2] → s.heap.get? c = some o → j2.get? c = some o := fun c o nm q => by
      have nn : c ≠ z ∧ c ≠ TI ∧ c ≠ TO ∧ c ≠ i1 ∧ c ≠ i2 := by simpa using nm
      exact (sb.2 c nn.1).trans (n7 c o nn.1 nn.2.2.1 nn.2.2.2.1 nn.2.2.2.2 q)
    have J := I.turnedNew (t' := s.toks) (ch := [z, TI, TO, i1, i2]) (ob := .tup [x, y]) kp hf (Nat.le_refl _) ⟨(by decide : 2 ≤ sizeLine), [u1, u2], .cons r1 (.cons r2 .nil), ⟨_, tj, rfl, _, rfl⟩⟩
    refine ⟨.ref s.heap.objs.size, _, J, rfl, ⟨_, x, y, rfl, I.hok.fresh (Nat.le_refl _), rfl, fun l hl => by rw [I.list_inj hl qx]; exact ex, fun l hl => by rw [I.list_inj hl qy]; exact ey⟩, ⟨m1, ?_, ⟨u1, u2, ?_⟩, ?_, ?_⟩, fun c hm => ?_⟩
    · exact (sb.2 _ D.TIz).trans (n7 _ _ D.TIz D.TITO D.TIi1 D.TIi2 z2)
    · exact (sb.2 _ D.TOz).trans n2
    · exact n3.at fun o q => (sb.2 _ D.i1z).trans q
    · exact n4.at fun o q => (sb.2 _ D.i2z).trans q
    · rw [upd_ne (Nat.ne_of_lt (old c hm))]
      exact (hf c hm).1
  done := by
    intro X eP ew eK hc i pins s σ H E I hf st hg
    subst eP ew eK
    obtain ⟨z1, z2, ⟨v1, v2, z3⟩, z4, z5⟩ := st
    obtain ⟨xs, ys, qx, qy, he⟩ := hg
    obtain ⟨us, ru, pu, _⟩ := I.list qx
    have l1 := ru.length
    obtain ⟨p, ⟨hh, v, e1, c1⟩, hp⟩ := hc
    have P1 := (I.pin p (List.mem_append_left _ hp)).1
    have np : ∀ c, c ∈ [z, TI, TO, i1, i2] → p.1 ≠ c := fun c hm => (hf c hm).2.2.2.2.2 p (List.mem_append_left _ hp)
    refine zipEndHot (x1 := p.1) ⟨hh, p.2, v, P1, e1, c1⟩ ⟨np z (by simp), np i1 (by simp)⟩ D z1 z2 z3 z4 pu.isList (by simp; omega) fun j kj => ⟨rfl, I.turnedL (t' := s.toks) (ch := [z, TI, TO, i1, i2]) (fun c o nm q => ?_) hf⟩
    have nn : c ≠ z ∧ c ≠ TI ∧ c ≠ TO ∧ c ≠ i1 ∧ c ≠ i2 := by simpa using nm
    exact kj c o nn.1 nn.2.2.2.1 q
def iZip1 (K : PySem.W.Frag) (ta : TA) : TI := fun σ H R => ta σ H fun vs H1 => ∃ a b xs ys, vs = [.ref a, .ref b] ∧ SqL K H1 a xs ∧ SqL K H1 b ys ∧ R (Itz1 K a b) H1
theorem pi_zipH {X : Cx} {e e2 : Expr} {ta : TA} {p pos tpos : Pos} {elts : List Expr} {kk : Nat} (hg : Gl X "zip") (hm : X.mg "zip" = none) (ha : PA X [e, e2] ta)
    (hs : starEach [e, e2] X.env = (false, eval e X.env) :: starEach [e2] X.env := by rfl) (hpl : (backTo pos (starEach [e2] X.env)).any (·.1) = false := by rfl) : PIH X (.Tuple elts kk tpos) (.Call (.Name "zip" p) [e, e2] [] pos) (iZip1 X.K ta) := by
  refine ⟨fun pins s σ H R I h => Call_ (ld_blt I hg hm PyProof.Rows.boot_zip (PyProof.Rows.callWith_type1 (thn (ha.run pos pins s σ H _ I h) fun us s1 ⟨vs, H1, I1, r1, q1⟩ => ?_) hs hpl))⟩
  obtain ⟨a, b, xs, ys, rfl, qx, qy, q⟩ := q1
  obtain ⟨w1, w2, rfl, ra, rb⟩ := vals2 r1
  cases ra
  cases rb
  obtain ⟨us, ru, pu, _⟩ := I1.list qx
  obtain ⟨ws, rw', pw, _⟩ := I1.list qy
  refine call_zip_2 pu.isList pw.isList fun j y1 y2 y3 y4 y5 y6 y7 => wpAny_pyIter_zip y1 ⟨s1.heap.objs.size + 4, [s1.heap.objs.size + 4, s1.heap.objs.size + 2, s1.heap.objs.size + 3, s1.heap.objs.size, s1.heap.objs.size + 1], _, _, H1, rfl, I1.kept (t' := s1.toks) y7, turnZipH (PySem.W.ktu_apart s1.heap.objs.size a b pu.lt pw.lt), ⟨y1, y2, ⟨_, _, y3⟩, y4, y5⟩, fun c hm => ?_, q⟩
  have hle : s1.heap.objs.size ≤ c := by
    have e' : c = s1.heap.objs.size + 4 ∨ c = s1.heap.objs.size + 2 ∨ c = s1.heap.objs.size + 3 ∨ c = s1.heap.objs.size ∨ c = s1.heap.objs.size + 1 := by simpa using hm
    rcases e' with z | z | z | z | z <;> rw [z] <;> first | exact Nat.le_refl _ | exact Nat.le_add_right _ _
  exact I1.fpOk hle (I1.hok.fresh hle)
/-! ### the block of a comprehension that keeps a pin -/
abbrev blkH (X : Cx) (p : Addr × Obj) (s : Shared) (H : Hp) (scope : Scope) (cenv : Env) (fp : List Addr) : Cx := { X.blk s H scope cenv fp with pn := [p] }
theorem addPn {X : Cx} {p : Addr × Obj} {pins : List (Addr × Obj)} {σ : L2.St} {H : Hp} {s : Shared} (hX : X.pn = []) (I : Inv X pins σ H s) (hp : s.heap.get? p.1 = some p.2 ∧ H p.1 = none ∧ p.1 ≠ X.env.locals ∧ p.1 ∉ X.fs ∧ ∀ v, p.2.data ≠ .cell v) : Inv { X with pn := [p] } pins σ H s := by
  have ok := I.ok
  refine ⟨⟨ok.mod, ok.kind, ok.glob, ok.blt, ok.above, ok.inj, ok.has, ok.cab, ok.hd, ok.frames, ok.stk, ok.exf, ok.bs, ok.bsz, ok.noex, ok.exfs, ok.funs, ok.frf⟩, I.os, I.bare, I.base, I.loc, I.cell, I.free, I.freeC, fun q hq => ?_, I.hok, I.len⟩
  have hq' : q ∈ [p] ++ pins := hq
  rcases List.mem_append.mp hq' with z | z
  · have e : q = p := by simpa using z
    rw [e]
    exact hp
  · exact I.pin q (by rw [hX]; exact z)
theorem hotBlk {X : Cx} {p : Addr × Obj} {s : Shared} {H : Hp} {scope : Scope} {cenv : Env} {fp : List Addr} (h : Hot1 X.A p) : HotC (blkH X p s H scope cenv fp) := ⟨p, h, List.mem_cons_self⟩
theorem lcHot {X : Cx} {p : Addr × Obj} {pins : List (Addr × Obj)} {s : Shared} {σ : L2.St} {H : Hp} {Q : VK} {elt tg iter : Expr} {ifs : List Expr} {scope : Scope} {own : List (Str × Nat)} {pos : Pos} {wi : TI} {g : TG} {tt : TT} {te : TE}
    (hot : Hot1 X.A p) (hp : p ∈ X.pn) (hN : X.N.Nodup) (I : Inv X pins σ H s) (hi : PIH X tg iter wi) (ok : BlkOk X.N X.env.scope scope own)
    (hg : ∀ s H C cl fp, PG (blkH X p s H scope (compEnvC scope cl C X.env) fp) tg g) (ht : ∀ s H C cl fp, PTs (blkH X p s H scope (compEnvC scope cl C X.env) fp) ifs tt) (he : ∀ s H C cl fp, PE (blkH X p s H scope (compEnvC scope cl C X.env) fp) elt te)
    (hs : ∀ x, foldedSetIterable iter X.env x = pure x) (h : tLc wi g tt te (own.map (·.2)) σ H Q) : wpAny (model X.prog X.w) X.A (eval (.ListComp elt [⟨tg, iter, ifs, 0⟩] scope pos) X.env) (EP X pins σ Q) X.xe s := by
  rw [eval_ListComp]
  have caps : ∀ y ∈ scope.names, y.2 = .free → ∃ c, X.env.cells.lookup y.1 = some c := fun y hy e => (ok.free y hy e).elim (fun k => I.ok.has _ (.inl k)) (fun k => I.ok.has _ (.inr k))
  refine wpAny_comprehension_free (use := none) rfl hs (closure_ok caps) ok.kind (fun y hy e => by rw [ok.uniq y hy, e]) (thn (hi.run pins s σ H _ I h) fun xv s1 hx => thn hx fun itv s2 hx2 => ?_)
  obtain ⟨it, fp, tn, J, H2, rfl, I2, T, t2, f2, q⟩ := hx2
  refine wpAny_newObj_type (newEnv_comp ?_) (Nat.zero_le _)
  generalize eD : s2.heap.objs.size = D
  have freeD : H2 D = none := I2.hok.fresh (Nat.le_of_eq eD)
  obtain ⟨W, ⟨m0, w0⟩, turn⟩ := q D freeD
  generalize e3 : ({ s2 with heap := s2.heap.push { cls := .type "list", data := .seq ([] : List Value).toArray } } : Shared) = u3
  have hu3 : u3.heap = s2.heap.push { cls := .type "list", data := .seq ([] : List Value).toArray } := by rw [← e3]
  have I3 : Inv X pins σ (upd H2 D (.lst [])) u3 := by
    rw [← e3]
    exact I2.laid (t' := s2.toks) (fun b o e => Heap.get?_push_of_some _ e) (Nat.le_of_eq eD) ⟨Nat.zero_le _, [], 0, .nil, by rw [← eD]; exact Heap.get?_push_size _ rfl⟩
  have f3 : ∀ b ∈ fp, FpOk X pins (upd H2 D (.lst [])) b ∧ b < u3.heap.objs.size := fun b hb => by
    obtain ⟨o, e, _⟩ := T.obj _ _ t2 b hb
    have lt := Heap.lt_size e
    exact ⟨⟨by rw [upd_ne (by rw [← eD]; exact Nat.ne_of_lt lt)]; exact (f2 b hb).1, (f2 b hb).2⟩, by rw [hu3, Heap.size_push]; exact Nat.lt_succ_of_lt lt⟩
  have I4' := block_start I3 ok hN f3
  generalize eH : upd H2 D (.lst []) = H3 at I3 I4' w0 f3
  generalize ece : compEnvC scope (cellsFrom (u3.heap.objs.size + 1) scope.names (cloFrom X.env.cells scope.names [])) u3.heap.objs.size X.env = ce at I4'
  have cl0 : ce.locals = u3.heap.objs.size := by subst ece; rfl
  generalize e4 : ({ u3 with heap := pushCells (u3.heap.push { cls := .type "dict", data := .dict #[] }) scope.names } : Shared) = u4 at I4'
  have kept4 : ∀ b o, u3.heap.get? b = some o → u4.heap.get? b = some o := fun b o e => by rw [← e4]; exact pushCells_keeps _ _ _ _ (Heap.get?_push_of_some _ e)
  have p3 := I3.pin p (List.mem_append_left _ hp)
  have I4 : Inv (blkH X p u3 H3 scope ce fp) [] (wipe σ (own.map (·.2))) H3 u4 := by
    refine addPn rfl I4' ⟨kept4 _ _ p3.1, p3.2.1, ?_, fun z => ?_, p3.2.2.2.2⟩
    · show p.1 ≠ ce.locals
      rw [cl0]
      exact Nat.ne_of_lt (Heap.lt_size p3.1)
    · rcases List.mem_cons.mp (I3.stkSub p.1 z) with y | y
      · exact p3.2.2.1 y
      · exact p3.2.2.2.1 y
  have pg := hg u3 H3 u3.heap.objs.size (cellsFrom (u3.heap.objs.size + 1) scope.names (cloFrom X.env.cells scope.names [])) fp
  have pt := ht u3 H3 u3.heap.objs.size (cellsFrom (u3.heap.objs.size + 1) scope.names (cloFrom X.env.cells scope.names [])) fp
  have pe := he u3 H3 u3.heap.objs.size (cellsFrom (u3.heap.objs.size + 1) scope.names (cloFrom X.env.cells scope.names [])) fp
  rw [ece] at pg pt pe
  have t4 : tn 0 u4.heap := T.keep _ _ _ t2 fun b _ o e => kept4 b o (by rw [hu3]; exact Heap.get?_push_of_some _ e)
  have hb := hotBlk (X := X) (s := u3) (H := H3) (scope := scope) (cenv := ce) (fp := fp) hot
  have stat : ∀ {σ' : L2.St} {H' : Hp} {s' : Shared}, Inv (blkH X p u3 H3 scope ce fp) [] σ' H' s' → (∀ b ∈ fp, H' b = none) → ∀ b ∈ fp, FpOk (blkH X p u3 H3 scope ce fp) [] H' b := fun {σ' H' s'} I' hn b hb' => by
    refine ⟨hn b hb', (I'.ok.exf b hb').1, I'.ok.exfs b hb', .inl hb', fun x c e => (I'.ok.exf b hb').2 x c e, fun q hq => ?_⟩
    have eq : q = p := by simpa using (show q ∈ [p] ++ ([] : List (Addr × Obj)) from hq)
    rw [eq]
    exact (f3 b hb').1.2.2.2.2.2 p (List.mem_append_left _ hp)
  show codeAny _ _ (.compStart (.ListComp elt [⟨tg, iter, ifs, 0⟩] scope pos) 0 (.ref it) (.ref D) (compEnvC scope (cellsFrom (u3.heap.objs.size + 1) scope.names (cloFrom X.env.cells scope.names [])) u3.heap.objs.size X.env)) (compPost (model X.prog X.w) X.A X.xe none (EP X pins σ Q) (.ref D) u3.heap.objs.size) u4
  rw [ece]
  have loop : codeAny (model X.prog X.w) X.A (.compLoop (.ListComp elt [⟨tg, iter, ifs, 0⟩] scope pos) 0 (.ref it) (.ref D) ce) (compPost (model X.prog X.w) X.A X.xe none (EP X pins σ Q) (.ref D) u3.heap.objs.size) u4 := by
    refine compLoop_any (fun n s' => ∃ i H', Inv (blkH X p u3 H3 scope ce fp) [] (wipe σ (own.map (·.2))) H' s' ∧ tn i s'.heap ∧ (∀ b ∈ fp, H' b = none) ∧ W i n H') (fun n u5 ⟨i, H5, I5, t5, n5, w5⟩ => ?_) m0 ⟨0, H3, I4, t4, fun b hb' => (f3 b hb').1.1, w0⟩
    rcases turn i n H5 w5 with ⟨stop, qq⟩ | ⟨go, Nx, hNx, step⟩
    · refine thnF (T.done (blkH X p u3 H3 scope ce fp) rfl rfl rfl hb i [] u5 _ H5 (fun _ _ => False) I5 (stat I5 n5) t5 stop) fun r u6 ⟨hr, I6⟩ => ?_
      subst hr
      have I7 : Inv X pins σ H5 u6 := I3.call' (ch := fp) I6.os I6.base I6.hok I6.bare fun b hb' => ⟨(f3 b hb').1.2.2.2.1, (f3 b hb').1.2.1, (f3 b hb').1.2.2.2.2.1, (f3 b hb').1.2.2.2.2.2⟩
      obtain ⟨m, hn, _⟩ := I6.loc
      have fr : H5 ce.locals = none := I6.free
      replace hn : u6.heap.Ns ce.locals m := hn
      rw [cl0] at hn fr
      obtain ⟨y0, y1, y2, y3, y4, y5⟩ := I3.fpOk (H' := H5) (Nat.le_refl _) fr
      exact ⟨m, hn, fun h'' sb => ⟨.ref D, H5, I7.turned (t' := u6.toks) (fun b o hb' e => (sb.2 b hb').trans e) y0 y1 y3 y4 y5, rfl, qq⟩⟩
    · refine thnF (T.item (blkH X p u3 H3 scope ce fp) rfl rfl rfl hb i [] u5 _ H5 (fun _ _ => False) I5 (stat I5 n5) t5 go) fun r u6 ⟨v, hr, h6⟩ => ?_
      subst hr
      refine thnF h6 fun _ u7 ⟨x, H7, I7, r7, y7, t7, n7⟩ => ?_
      have J7 := I7.pinned (stat I7 n7) (T.obj _ _ t7)
      refine thnF (pg.run _ u7 _ H7 x v _ J7 r7 (step x H7 y7)) fun _ u8 ⟨σ8, H8, I8, hw8, q8⟩ => ?_
      refine thnF (pt.run _ u8 σ8 H8 _ I8 q8) fun b u9 ⟨H9, I9, q9⟩ => ?_
      have back : ∀ {s' : Shared} {H' : Hp}, Inv (blkH X p u3 H3 scope ce fp) ([] ++ pinsAt fp u7.heap) σ8 H' s' → Nx H' → ∃ m, m < n ∧ ∃ i H', Inv (blkH X p u3 H3 scope ce fp) [] (wipe σ (own.map (·.2))) H' s' ∧ tn i s'.heap ∧ (∀ b ∈ fp, H' b = none) ∧ W i m H' := fun {s' H'} K' nx => by
        obtain ⟨m', hm, w'⟩ := hNx H' nx
        have pin' : ∀ b ∈ fp, ∀ o, u7.heap.get? b = some o → s'.heap.get? b = some o ∧ H' b = none := fun b hb' o e => by
          have z := K'.pin (b, o) (List.mem_append_right _ (List.mem_append_right _ (mem_pinsAt hb' e)))
          exact ⟨z.1, z.2.1⟩
        refine ⟨m', hm, i + 1, H', (K'.unpinned (pins := [])).weak (by rw [← hw8, wipe_length]) (fun j v e => ?_), T.keep _ _ _ t7 fun b hb' o e => (pin' b hb' o e).1, fun b hb' => ?_, w'⟩
        · rw [← hw8] at e
          exact (wipe_some e).1
        · obtain ⟨o, e, _⟩ := T.obj _ _ t7 b hb'
          exact (pin' b hb' o e).2
      cases b with
      | false =>
        simp only [if_false, Bool.false_eq_true] at q9 ⊢
        exact back I9 q9
      | true =>
        simp only [if_true] at q9 ⊢
        refine thnF (pe.run _ u9 σ8 H9 _ I9 q9) fun z u10 ⟨yv, H10, I10, r10, acc, d10, z10, nx⟩ => ?_
        exact app_ok (X := blkH X p u3 H3 scope ce fp) I10 d10 z10 r10 fun u11 I11 => back I11 nx
  exact codeAny_compStart_list loop (T.self X.A 0 _ _ _ t4 loop)
theorem pe_lcH {X : Cx} {p : Addr × Obj} {elt tg iter : Expr} {ifs : List Expr} {scope : Scope} {own : List (Str × Nat)} {pos : Pos} {wi : TI} {g : TG} {tt : TT} {te : TE} (hot : Hot1 X.A p) (hp : p ∈ X.pn) (hN : X.N.Nodup) (hi : PIH X tg iter wi) (ok : BlkOk X.N X.env.scope scope own)
    (hg : ∀ s H C cl fp, PG (blkH X p s H scope (compEnvC scope cl C X.env) fp) tg g) (ht : ∀ s H C cl fp, PTs (blkH X p s H scope (compEnvC scope cl C X.env) fp) ifs tt) (he : ∀ s H C cl fp, PE (blkH X p s H scope (compEnvC scope cl C X.env) fp) elt te)
    (hs : ∀ x, foldedSetIterable iter X.env x = pure x := by intro _; rfl) : PE X (.ListComp elt [⟨tg, iter, ifs, 0⟩] scope pos) (tLc wi g tt te (own.map (·.2))) :=
  ⟨fun pins s σ H Q I h => lcHot hot hp hN I hi ok hg ht he hs h⟩
end Onp
set_option maxHeartbeats 4000000
set_option autoImplicit false
namespace Onp
open PySem PySem.Spec PyProof.Rows L2 HotX L2H
/-! ### try: body, except t1 as n: .. except t2 as n: .. -/
theorem fly_more {B h h' : Heap} {l : List Env} {e : Addr} {Z : Obj → Prop} (x : HandSPX.FlyingZ B l e Z h) (k : ∀ b o, h.get? b = some o → h'.get? b = some o) : HandSPX.FlyingZ B l e Z h' := by
  obtain ⟨x1, x2, x3, oe, vs, T, oT, ts, y1, y2, y3, y4, y5, y6, y7, y8, y9⟩ := x
  exact ⟨fun b o q => k _ _ (x1 b o q), x2, x3.of_keeps fun b o q _ => ⟨o, k b o q, rfl⟩, oe, vs, T, oT, ts, k _ _ y1, y2, y3, y4, y5, y6, k _ _ y7, y8, y9⟩
def TestOk (X : Cx) (t : Expr) (m : Value → Option Bool) : Prop :=
  ∀ (a : Addr) (pn : List (Addr × Obj)) (s : Shared) (σ : L2.St) (H : Hp) (cls : Value) (b : Bool) (Q : Bool → Shared → Prop) (E : Value → Shared → Prop), Inv (X.suite a pn) [] σ H s → PySem.W.Looks (model X.prog X.w) s.heap (typeOf (.ref a)) cls → m cls = some b →
    (∀ h', (∀ c o, s.heap.get? c = some o → h'.get? c = some o) → Q b { s with heap := h' }) →
    wpAny (model X.prog X.w) (X.A.mark (some (.ref a))) (eval t X.env) (fun c s1 => wpAny (model X.prog X.w) (X.A.mark (some (.ref a))) (excMatches (.ref a) c) Q E s1) E s
theorem test_name {X : Cx} {x : Str} {c : Value} {np : Pos} (hg : Gl X x) (hd : (x == ("__debug__" : Str)) = false) (hm : X.mg x = some c) : TestOk X (.Name x np) (fun cls => PySem.W.exmOne X.K cls c) := by
  intro a pn s σ H cls b Q E I LT hb q
  have LM := PySem.W.exm_one (M := model X.prog X.w) I.kIn LT hb
  exact ld_glob (X := X.suite a pn) I hg hm (LM.here (q _ fun _ _ z => z)) hd
theorem test_three {X : Cx} {x y z : Str} {c1 c2 c3 : Addr} {p1 p2 p3 tp : Pos} {k : Nat} (g1 : Gl X x) (g2 : Gl X y) (g3 : Gl X z) (d1 : (x == ("__debug__" : Str)) = false) (d2 : (y == ("__debug__" : Str)) = false) (d3 : (z == ("__debug__" : Str)) = false)
    (m1 : X.mg x = some (.ref c1)) (m2 : X.mg y = some (.ref c2)) (m3 : X.mg z = some (.ref c3)) (hst : starEach [.Name x p1, .Name y p2, .Name z p3] X.env = [(false, eval (.Name x p1) X.env), (false, eval (.Name y p2) X.env), (false, eval (.Name z p3) X.env)] := by rfl) :
    TestOk X (.Tuple [.Name x p1, .Name y p2, .Name z p3] k tp) (fun cls => PySem.W.exmAny X.K cls [.ref c1, .ref c2, .ref c3]) := by
  intro a pn s σ H cls b Q E I LT hb q
  have kp : ∀ c o, s.heap.get? c = some o → (s.heap.push { cls := .type "tuple", data := .seq [Value.ref c1, .ref c2, .ref c3].toArray }).get? c = some o := fun c o e => Heap.get?_push_of_some _ e
  refine wpAny_Tuple_spliced ?_
  rw [hst]
  show wpAny _ _ (spliced ((false, eval (.Name x p1) X.env) :: (false, eval (.Name y p2) X.env) :: (false, eval (.Name z p3) X.env) :: [])) _ _ s
  refine Calls.spliced_cons (ld_glob (X := X.suite a pn) I g1 m1 ?_ d1)
  refine Calls.spliced_cons (ld_glob (X := X.suite a pn) I g2 m2 ?_ d2)
  refine Calls.spliced_cons (ld_glob (X := X.suite a pn) I g3 m3 ?_ d3)
  refine Calls.spliced_nil ⟨(by decide : 3 ≤ sizeLine), ?_⟩
  exact (PySem.W.exm_tup3 (M := model X.prog X.w) (I.kIn.keeps kp) (LT.keeps kp) (Heap.get?_push_size _ rfl) hb).here (q _ kp)
abbrev Clause := (Value → Option Bool) × (Addr → Value → Option Addr → TS)
def clr (i : Nat) (D : Ends) : Ends := { nx := fun σ' H' => D.nx (σ'.set i none) H', rt := D.rt, bk := fun σ' H' => D.bk (σ'.set i none) H', ct := fun σ' H' => D.ct (σ'.set i none) H' }
def wClauses (i : Nat) (Wout : WX) (D : Ends) : List Clause → WX
  | [] => Wout
  | (m, ts) :: r => fun cls d σ H => ∃ b, m cls = some b ∧ (b = true → ∀ a, H a = none → ts a cls d (clr i D) (σ.set i (some (.ref a))) H) ∧ (b = false → wClauses i Wout D r cls d σ H)
inductive Clauses (X : Cx) (n : Str) : List ExceptHandler → List Clause → Prop
  | nil : Clauses X n [] []
  | cons {t : Expr} {m : Value → Option Bool} {ts : Addr → Value → Option Addr → TS} {b₀ : Stmt} {suite : List Stmt} {pos' : Pos} {hds : List ExceptHandler} {l : List Clause} (ht : TestOk X t m)
      (hsu : ∀ (a : Addr) (oe : Obj) (cls : Value) (d : Option Addr) (pn : List (Addr × Obj)), L2N.Zn cls d oe → (∃ vs, oe.data = .fields vs) → PSs (X.suite a ((a, oe) :: pn)) (b₀ :: suite) (ts a cls d)) (r : Clauses X n hds l) :
      Clauses X n (.ExceptHandler (some t) (some n) (b₀ :: suite) pos' :: hds) ((m, ts) :: l)
theorem ps_try_clauses {X : Cx} {n : Str} {i : Nat} {body : List Stmt} {h₀ : ExceptHandler} {hds : List ExceptHandler} {l : List Clause} {pos : Pos} {tb : WX → TS} {Wout : WX} (hs : X.stack = X.env :: X.outer) (hf : X.env.frame = some X.env.locals) (hN : X.N.Nodup) (hi : X.N[i]? = some n)
    (hln : X.env.kindOf n = some .local) (tk : L2N.Takes X Wout)
    (hb : ∀ (W : WX) (pn : List (Addr × Obj)) (xe : Value → Shared → Prop), L2N.Takes (X.tr pn xe) W → PassesOwn (model X.prog X.w) X.A X.env xe → PSs (X.tr pn xe) body (tb W)) (hh : Clauses X n (h₀ :: hds) l) :
    PS X (.Try body (h₀ :: hds) [] [] pos) (fun D σ H => tb (fun cls d σ H => σ.length = X.N.length → wClauses i Wout D l cls d σ H) D σ H) := by
  refine ⟨fun pins s σ H D I h => wpAny_Try_except ?_⟩
  have ok := I.ok
  have efr : X.A.frames = some (X.env :: X.outer) := by rw [ok.frames, hs]
  refine wpAny_mono ((hb (fun cls d σ H => σ.length = X.N.length → wClauses i Wout D l cls d σ H) (X.pn ++ pins) _ (fun u s' xx => ?_) PassesOwn.looking).run [] s σ H D (I.toTry _) h) (fun f s1 hsp => ?_) (fun e s1 he => he)
  · obtain ⟨a, B, sI, pins', σ', H', cls, d, rfl, J', nb, up, sky, na, os, ag, w⟩ := xx
    have J : Inv X pins σ' H' sI := J'.ofTry ok
    rw [hs] at sky
    show wpAny (model X.prog X.w) X.A (noteFrame (.ref a) X.env) _ _ _
    refine L2N.Sky.land L2N.Zn.steady efr hf sky fun h3 fl3 up3 => ?_
    have go : ∀ {hds' : List ExceptHandler} {l' : List Clause}, Clauses X n hds' l' → wClauses i Wout D l' cls d σ' H' → ∀ h4, HandSPX.FlyingZ B (X.env :: X.outer) a (L2N.Zn cls d) h4 → sI.heap.UpToSlots h4 →
        wpAny (model X.prog X.w) X.A (handleBy (.ref a) X.env hds') (SP X pins D) X.xe { s' with heap := h4 } := by
      intro hds' l' hk
      induction hk with
      | nil =>
        intro w h4 fl up4
        refine wpAny_handleBy_nil ?_
        obtain ⟨_, _, _, oe, vs, T, oT, ts', y1, y2, y3, y4, _⟩ := id fl
        unfold PySem.passOn
        refine wpAny_bind (wpAny_field y1 y3 y4 ?_)
        rw [if_neg (by simp : ¬ ((Value.ref T == Value.none) = true))]
        have fin : wpAny (model X.prog X.w) X.A (setFlight (.ref a) X.env.frame) (fun _ s4 => wpAny (model X.prog X.w) X.A (throw (.ref a) : Sem Flow) (SP X pins D) X.xe s4) X.xe { s' with heap := h4 } := by
          rw [hf]
          exact HandSPX.setFlight_upZ fl fun h5 hh5 up5 => wpAny_throw (tk _ _ ⟨a, B, sI, pins, σ', H', cls, d, rfl, J, nb, up4.trans up5, .inr (.inr (by rw [hs]; exact hh5)), na, os, ag, w⟩)
        first
          | exact wpAny_bind (wpAny_pure (wpAny_bind fin))
          | exact wpAny_bind fin
      | @cons t m ts b₀ suite pos' hds2 l2 ht hsu r ih =>
        intro w h4 fl up4
        obtain ⟨b, hb1, hyes, hno⟩ := w
        obtain ⟨oe, vs, ge, gz, gd⟩ := fl.there
        have J4 : Inv X pins σ' H' { s' with heap := h4 } := J.landed nb fl.1 up4 os ag
        have nfr : a ∉ frs (X.env :: X.outer) := fun hm => by
          obtain ⟨_, o', e', hnf⟩ := fl.2.2.1.mem hm
          rw [ge] at e'
          cases e'
          exact hnf _ gd
        have nL : a ≠ X.env.locals := fun z => nfr (List.mem_filterMap.mpr ⟨X.env, List.mem_cons_self, by rw [hf, z]⟩)
        have nF : a ∉ X.fs := fun hm => by
          obtain ⟨e, he, q⟩ := List.mem_filterMap.mp hm
          exact nfr (List.mem_filterMap.mpr ⟨e, List.mem_cons_of_mem _ he, q⟩)
        refine wpAny_handleBy_cons (codeAny_handlers_test ?_) (by intro q; cases q)
        refine ht a _ _ σ' H' cls b _ _ (J4.suite ge gd na nL nF) (fun A Q E s k q => wpAny_typeOf_ref (k _ _ ge) (by rw [gz.1]; exact q)) hb1 fun h5 k5 => ?_
        have fl5 := fly_more fl k5
        have up5 : sI.heap.UpToSlots h5 := up4.trans fun b o e _ => ⟨o.slots, k5 b o e⟩
        cases b with
        | true =>
          refine codeAny_handlers_suite_as (HandSPX.lands_againZ fl5 fun h6 fl6 up6 => ?_)
          have J6 : Inv X pins σ' H' { s' with heap := h6 } := J.landed nb fl6.1 (up5.trans up6) os ag
          obtain ⟨oe6, vs6, ge6, gz6, gd6⟩ := fl6.there
          refine store_ok (X := X.suite a ((a, oe6) :: (X.pn ++ pins))) (v := .ref a) (J6.suite ge6 gd6 na nL nF) hN hi (.inl hln) rfl (fun s7 S7 => ?_) (.inr hln)
          refine wpAny_mono ((hsu a oe6 cls d (X.pn ++ pins) gz6 ⟨_, gd6⟩).run [] s7 _ H' _ S7 (hyes rfl a na)) (fun f s8 hsp => ?_) (fun _ _ z => False.elim z)
          have away : ∀ {σ8 : L2.St} {H8 : Hp} {Q : Shared → Prop}, Inv (X.suite a ((a, oe6) :: (X.pn ++ pins))) [] σ8 H8 s8 → (∀ s9, Inv X pins (σ8.set i none) H8 s9 → Q s9) →
              wpAny (model X.prog X.w) X.A (do bindName X.env n .none; unbindBehindTheSuite X.env n pos') (fun _ s9 => Q s9) X.xe s8 := fun {σ8 H8 Q} S8 hq => gone_ok (S8.unsuite ok) hN hi hln hq
          cases f with
          | next => obtain ⟨σ8, H8, S8, q8⟩ := hsp; exact away S8 fun s9 J9 => ⟨_, _, J9, q8⟩
          | brk => obtain ⟨σ8, H8, S8, q8⟩ := hsp; exact away S8 fun s9 J9 => ⟨_, _, J9, q8⟩
          | cont => obtain ⟨σ8, H8, S8, q8⟩ := hsp; exact away S8 fun s9 J9 => ⟨_, _, J9, q8⟩
          | ret u => obtain ⟨v8, σ8, H8, S8, r8, q8⟩ := hsp; exact away S8 fun s9 J9 => ⟨_, _, _, J9, r8, q8⟩
        | false =>
          show wpAny _ X.A (handleBy (.ref a) X.env hds2) _ _ _
          exact ih (hno rfl) h5 fl5 up5
    exact go hh (w J.len) h3 fl3 (up.trans up3)
  · cases f with
    | next => obtain ⟨σ', H', J', q⟩ := hsp; exact wpAny_execs_nil ⟨σ', H', J'.ofTry ok, q⟩
    | brk => obtain ⟨σ', H', J', q⟩ := hsp; exact ⟨σ', H', J'.ofTry ok, q⟩
    | cont => obtain ⟨σ', H', J', q⟩ := hsp; exact ⟨σ', H', J'.ofTry ok, q⟩
    | ret u => obtain ⟨v, σ', H', J', r, q⟩ := hsp; exact ⟨v, σ', H', J'.ofTry ok, r, q⟩
/-! ### a raise of an own error, made by its __init__ -/
theorem mkRunN {X : Cx} {pins : List (Addr × Obj)} {σ : L2.St} {H1 : Hp} {s1 : Shared} {C fI : Addr} {k : Nat} {fd : FuncData} {ps : List Str} {sp : Sp} {us : List Value} {vs : List V} {Q : XK} (T : OexC X.K C) (iC : PySem.W.findIn X.K (.ref C) "__init__" = some (some (.ref fI)))
    (tI : PySem.W.typeIn X.K (.ref fI) = some (.type "function")) (F1 : FnOk X.prog X.w X.K X.mg X.base CX0 k fI fd ps sp) (hr : Room (k + 1) X.A) (hb : Binds X.K fd ps []) (I1 : Inv X pins σ H1 s1) (r1 : Vals vs us) (hz : vs.length ≤ 1000)
    (q1 : ∀ a, H1 a = none → sp (.ref a :: vs) (upd H1 a (exo a C none)) (fun v H2 => v = .non ∧ ∃ (d : Addr) (fs : List (Str × V)), H2 a = some (exo a C (some d)) ∧ H2 d = some (exd d fs) ∧ H1 d = none ∧ Q (.ref C) (some d) (upd (del H2 a) d (.xd fs))) (fun _ _ _ => False)) :
    wpAny (model X.prog X.w) X.A (call (.ref C) us) (L2N.MkP X pins σ Q) X.xe s1 := by
  obtain ⟨nm, q, N, bs, bm, sn, sub, ab, col, dd, k0, k1, k2, k3, k5, hC, hbm⟩ := T.cls
  obtain ⟨hp, g, dr, tk, os⟩ := s1
  have le1 : hp.objs.size ≤ hp.objs.size + 1 := Nat.le_succ _
  have hq := q1 (hp.objs.size + 1) (I1.hok.fresh le1)
  have kk : ∀ b o, hp.get? b = some o → ((hp.push (PySem.W.kdv_tup us)).push (PySem.HandSPX.excO C hp.objs.size)).get? b = some o := fun b o e => Heap.get?_push_of_some _ (Heap.get?_push_of_some _ e)
  have hget : ((hp.push (PySem.W.kdv_tup us)).push (PySem.HandSPX.excO C hp.objs.size)).get? (hp.objs.size + 1) = some (PySem.HandSPX.excO C hp.objs.size) := by heap_get
  have I2 := I1.laid (t' := tk) (a := hp.objs.size + 1) (o := exo (hp.objs.size + 1) C none) (h' := (hp.push (PySem.W.kdv_tup us)).push (PySem.HandSPX.excO C hp.objs.size)) kk le1 (exo_ok hget)
  have r2 : Vals (V.ref (hp.objs.size + 1) :: vs) (Value.ref (hp.objs.size + 1) :: us) := .cons rfl r1
  have hl : (Value.ref (hp.objs.size + 1) :: us).length = ps.length := by rw [← r2.length]; exact F1.len _ _ _ _ hq
  have hbd := hb ⟨(hp.push (PySem.W.kdv_tup us)).push (PySem.HandSPX.excO C hp.objs.size), g, dr, tk, os⟩ (Value.ref (hp.objs.size + 1) :: us) I2.kIn (by rw [List.append_nil]; exact hl)
  rw [List.append_nil] at hbd
  have hus : us.length ≤ sizeLine := by
    rw [← Paired.length r1, sizeLine_eq]
    omega
  refine wpAny_call (PySem.HandSPX.call_own F.excBase_ValueError (fun Y => PySem.HandSPX.refsVE_contains Y bm hbm) (I1.kIn _ _ hC) (PySem.W.looks_findIn I1.kIn iC) (fun self => PySem.W.bind_fn I1.kIn self tI) hus
    (codeAny_mono (F1.run _ X.stack _ _ ⟨Value.ref (hp.objs.size + 1) :: us, []⟩ (Value.ref (hp.objs.size + 1) :: us) _ _ (fun _ _ _ => False) (hr.make C us []) (I2.env0.make C us []) hbd r2 hq) fun r s' hq' => ?_))
  cases r with
  | error er => exact (show False from hq').elim
  | ok fl =>
    cases fl with
    | ret u =>
      obtain ⟨v, H2, os2, bare2, un2, hok2, rv, ev, d, fs, ea, ed, hd1, q2⟩ := hq'
      subst ev
      obtain ⟨h2, g2, d2, t2, os'⟩ := s'
      obtain ⟨t0, G, J, kG, ge, hoe, na⟩ := mk_end0 (d2 := d2) (t2 := t2) I1 le1 kk un2 hok2 os2 bare2 ea ed hd1
      exact ⟨rv, _, _, _, ⟨G, g2, d2, t2, os'⟩, _, .ref C, some d, rfl, J, kG, ge, hoe, ⟨rfl, rfl, fun vs e => by cases e; rfl⟩, rfl, rfl, na, rfl, bare2, raises_own T.exC T.tyC, q2⟩
    | next => exact False.elim hq'
    | brk => exact False.elim hq'
    | cont => exact False.elim hq'
/-- the heap behind the making: the error's own dict, and nothing else, is new -/
theorem made_heap {H : Hp} {a d : Addr} {o1 : HO} {fs : List (Str × V)} (ha : H a = none) (hd : H d = none) (n : d ≠ a) {o2 : HO} : upd (del (upd (upd (upd H a o1) d (exd d fs)) a o2) a) d (.xd fs) = upd H d (.xd fs) := by
  funext b
  by_cases e1 : b = d
  · rw [e1, upd_same, upd_same]
  · rw [upd_ne e1, upd_ne e1]
    by_cases e2 : b = a
    · rw [e2, del_same, ha]
    · rw [del_ne e2, upd_ne e2, upd_ne e1, upd_ne e2]
/-- the promise of an __init__ that sets word alone -/
def spWord (C : Addr) (wd : Str) : Sp := fun vs H Q _ => ∃ a, vs = [.ref a] ∧ H a = some (exo a C none) ∧ ∀ dx, H dx = none → dx ≠ a → Q .non (upd (upd H dx (exd dx [("word", .str wd)])) a (exo a C (some dx)))
def tRaiseW (C : Addr) (wd : Str) : L2.St → Hp → XK → Prop := fun σ H Q => ∀ d, H d = none → Q (.ref C) (some d) (upd H d (.xd [("word", .str wd)]))
theorem pmk_word {X : Cx} {x wd : Str} {C fI : Addr} {k : Nat} {fd : FuncData} {p pos : Pos} (T : OexC X.K C) (iC : PySem.W.findIn X.K (.ref C) "__init__" = some (some (.ref fI))) (tI : PySem.W.typeIn X.K (.ref fI) = some (.type "function"))
    (F1 : FnOk X.prog X.w X.K X.mg X.base CX0 k fI fd ["self"] (spWord C wd)) (hr : Room (k + 1) X.A) (hb : Binds X.K fd ["self"] []) (hg : Gl X x) (hm : X.mg x = some (.ref C)) (hdb : (x == ("__debug__" : Str)) = false := by decide) :
    L2N.PMk X (.Call (.Name x p) [] [] pos) (tRaiseW C wd) := by
  intro pins s σ H Q I h
  refine wpAny_Call_Name_kw (ld_glob I hg hm ?_ hdb)
  refine PySem.W.callWith_K0 I.kIn T.kC (mkRunN T iC tI F1 hr hb I .nil (Nat.zero_le _) fun a ha => ⟨a, rfl, upd_same, fun dx ndx ne => ⟨rfl, dx, [("word", .str wd)], upd_same, ?_, ?_, ?_⟩⟩)
  · rw [upd_ne ne, upd_same]
  · rw [upd_ne ne] at ndx
    exact ndx
  · rw [upd_ne ne] at ndx
    rw [made_heap ha ndx ne]
    exact h dx ndx
end Onp
set_option maxHeartbeats 4000000
set_option autoImplicit false
namespace Onp
open PySem PySem.Spec PyProof.Rows L2 HotX L2H
/-! ### a def that may raise, its errors with no context -/
theorem okN {P : Program} {w : World} {K : PySem.W.Frag} {mg : Str → Option Value} {base : Heap} {x qual : Str} {st : Stmt} {f : Addr} {fd : FuncData} {N ps : List Str} {k : Nat} {sp : Sp} (F : Fun K x qual st f fd) (S : FnScope N ps (defScope st)) (len : ∀ vs H Q E, sp vs H Q E → vs.length = ps.length)
    (hbody : ∀ (cdv : Value) (A : Around) (outer : List Env) (s : Shared) (H : Hp) (vs : List V) (Q : VK) (E : XK), Room k (A.deeper (envOfC qual (defScope st) s.heap.objs.size f cdv)) → sp vs H Q E →
      ∃ t, PSs (cxOf (L2N.CX P w) P w K mg base N qual (defScope st) f cdv A outer s H E) (defBody st) t ∧ t { nx := fun _ H' => Q .non H', rt := Q } (start N vs) H) : FnOk P w K mg base (L2N.CX P w) (k + 1) f fd ps sp := by
  obtain ⟨oc, od, kV, doc, pm, an, cdv, ct, osl, rfl, lk, hcd⟩ := F.ex
  exact fn_of lk hcd S len fun A outer s H vs Q E hr hsp => hbody cdv A outer s H vs Q E hr hsp
/-! ### a def that is called with the handled exception -/
def FnPin (P : Program) (w : World) (K : PySem.W.Frag) (mg : Str → Option Value) (base : Heap) (k : Nat) (f : Addr) (fd : FuncData) (ps : List Str) (sp : Addr × Obj → List V → Hp → VK → Prop) : Prop :=
  ∀ (A : Around) (outer : List Env) (s : Shared) (H : Hp) (us : List Value) (vs : List V) (Q : VK) (p : Addr × Obj), RoomH k A → Hot1 A p → PinOk outer H s p → Env0 P w K mg base A outer s H → BindsTo s fd ⟨us, []⟩ (ps.zip us) → Vals vs us → vs.length = ps.length → sp p vs H Q →
    codeAny (model P w) A (.call (.ref f) ⟨us, []⟩) (CR CX0 outer P w H s Q E0) s
theorem okPin {P : Program} {w : World} {K : PySem.W.Frag} {mg : Str → Option Value} {base : Heap} {x qual : Str} {st : Stmt} {f : Addr} {fd : FuncData} {N ps : List Str} {k : Nat} {sp : Addr × Obj → List V → Hp → VK → Prop} (F : Fun K x qual st f fd) (S : FnScope N ps (defScope st))
    (hbody : ∀ (cdv : Value) (A : Around) (outer : List Env) (s : Shared) (H : Hp) (vs : List V) (Q : VK) (p : Addr × Obj), Hot1 A p → RoomH k (A.deeper (envOfC qual (defScope st) s.heap.objs.size f cdv)) → sp p vs H Q →
      ∃ t, PSs (cxH CX0 P w K mg base N qual (defScope st) f cdv A outer s H E0 p) (defBody st) t ∧ t { nx := fun _ H' => Q .non H', rt := Q } (L2.start N vs) H) : FnPin P w K mg base (k + 1) f fd ps sp := by
  obtain ⟨oc, od, kV, doc, pm, an, cdv, ct, osl, rfl, lk, hcd⟩ := F.ex
  intro A outer s H us vs Q p hr hot hpin e0 hb r hl hsp
  have KX : K.In s.heap := e0.mod.kin.keeps fun b o e => (e0.bs b o e).1
  have lim : s.heap.NoLimit := e0.mod.nolimit.keeps fun b o e => (e0.bs b o e).1
  refine codeAny_call_function hr.depth (KX _ _ lk) rfl S.co S.gen rfl (PySem.W.codeRec_of KX hcd) (hb _ _ _ _ ?_)
  refine wpAny_newFunctionEnv_cells S.kind (fun ⟨n, v⟩ hy => (S.par n (List.of_mem_zip hy).1).imp id fun q => ⟨q, PySem.W.cellsFrom_some _ _ _ (.inl q)⟩) fun env he s1 y => ?_
  subst he
  refine ⟨lim.keeps y.toInCall.keep, codeAny_func ?_⟩
  obtain ⟨t, ht, hq⟩ := hbody cdv A outer s H vs Q p hot (hr.deeper _) hsp
  refine wpAny_mono (ht.run [] s1 (L2.start N vs) H _ (inv_startH S hpin e0 hl r y) hq) (fun fl s' hs => ?_) fun e s' hs => hs
  cases fl with
  | ret u => obtain ⟨v, σ', H', J, rv, q⟩ := hs; exact ⟨v, H', J.os, J.bare, J.base, J.hok, rv, q⟩
  | next => obtain ⟨σ', H', J, q⟩ := hs; exact ⟨.non, H', J.os, J.bare, J.base, J.hok, rfl, q⟩
  | brk => obtain ⟨_, _, _, q⟩ := hs; exact False.elim q
  | cont => obtain ⟨_, _, _, q⟩ := hs; exact False.elim q
theorem pe_callPin {X : Cx} {k : Nat} {f : Addr} {fd : FuncData} {ps : List Str} {sp : Addr × Obj → List V → Hp → VK → Prop} {x : Str} {q pos : Pos} {e : Expr} {es : List Expr} {t : TA} {p : Addr × Obj} (F : FnPin X.prog X.w X.K X.mg X.base k f fd ps sp) (hr : RoomH k X.A) (hot : Hot1 X.A p) (hp : p ∈ X.pn)
    (hg : Gl X x) (hm : X.mg x = some (.ref f)) (hk : PySem.W.keepIn X.K (.ref f) = true) (hb : Binds X.K fd ps []) (ha : PA X (e :: es) t) (hdb : (x == ("__debug__" : Str)) = false := by decide)
    (he : starEach (e :: es) X.env = (false, eval e X.env) :: starEach es X.env := by rfl) (hpl : (backTo pos (starEach es X.env)).any (·.1) = false := by rfl) :
    PE X (.Call (.Name x q) (e :: es) [] pos) (fun σ H Q => t σ H fun vs H1 => vs.length = ps.length ∧ sp p vs H1 Q) := by
  refine ⟨fun pins s σ H Q I h => wpAny_Call_Name_kw (ld_glob I hg hm ?_ hdb)⟩
  refine PySem.W.callWith_K (h₀ := X.base) I.ok.mod.kin hk (thn (ha.run pos pins s σ H _ I h) fun us s1 ⟨vs, H1, I1, r, hl, q⟩ => ⟨I1.kIn, ?_⟩) he hpl
  have b := hb s1 us I1.kIn (by rw [List.append_nil, ← r.length]; exact hl)
  rw [List.append_nil] at b
  have P1 := I1.pin p (List.mem_append_left _ hp)
  have hpin : PinOk X.stack H1 s1 p := ⟨P1.1, P1.2.1, fun z => (List.mem_cons.mp (I1.stkSub p.1 z)).elim P1.2.2.1 P1.2.2.2.1, P1.2.2.2.2⟩
  refine wpAny_call (codeAny_mono (F X.A X.stack s1 H1 us vs Q p hr hot hpin I1.env0 b r hl q) fun r s' hq => ?_)
  cases r with
  | error e => exact (show False from hq).elim
  | ok fl =>
    cases fl with
    | ret u => exact I1.after hq
    | next => exact False.elim hq
    | brk => exact False.elim hq
    | cont => exact False.elim hq
/-! ### what is asked of a pinned exception -/
structure ErrC (K : PySem.W.Frag) (D : Addr) : Prop where
  cl : (PySem.W.clsIn K D).isSome = true
  ga : PySem.W.findIn K (.ref D) "__getattribute__" = some (some (.builtin "BaseException.__getattribute__"))
  gg : PySem.W.findIn K (.ref D) "__getattr__" = some none
  sb : PySem.W.subIn K (.ref D) (.type "BaseException") = some true
  cc : PySem.W.findIn K (.ref D) "__class__" = some (some (.builtin "object.__class__"))
  gs : PySem.W.specialIn K (.builtin "object.__class__") "__get__" = some (some (.builtin "getset_descriptor.__get__"))
  tk : PySem.W.takesIn K (.builtin "object.__class__") = some true
  mo : PySem.W.mroIn K D (.type "object") = some true
  hd : PySem.W.hasDictIn K D = true
theorem inst_pin {X : Cx} {pins : List (Addr × Obj)} {σ : L2.St} {H : Hp} {s : Shared} {p : Addr × Obj} {D d : Addr} {fs : List (Str × V)} (I : Inv X pins σ H s) (hp : p ∈ X.pn) (hz : Zc (.ref D) (some d) p.2) (hf : ∃ vs, p.2.data = .fields vs) (hd : H d = some (.xd fs)) :
    ∃ od, PySem.W.InstAt s.heap p.1 p.2 D (some od) ∧ ∃ mA : Str → Option Value, (∀ f, RelO (fs.lookup f) (mA f)) ∧ ∀ name, PySem.W.lookIn name od = some (mA name) := by
  obtain ⟨mA, hns, hr⟩ := (show ∃ mA, s.heap.Ns1 d mA ∧ ∀ f, RelO (fs.lookup f) (mA f) from I.hok d _ hd)
  obtain ⟨od, ho, hl⟩ := lookIn_ns hns
  obtain ⟨vs, hv⟩ := hf
  exact ⟨od, ⟨(I.pin p (List.mem_append_left _ hp)).1, hz.1, by unfold PySem.W.notCls; rw [hv] <;> rfl, by rw [hz.2]; exact ho⟩, mA, hr, hl⟩
theorem call_isP {X : Cx} {p : Addr × Obj} {D d : Addr} (C : ErrC X.K D) (hp : p ∈ X.pn) (hz : Zc (.ref D) (some d) p.2) (hf : ∃ vs, p.2.data = .fields vs) :
    CallR X (.builtin "isinstance") (fun xs H Q => ∃ (c : Addr) (b : Bool) (fs : List (Str × V)), xs = [.ref p.1, .ref c] ∧ H d = some (.xd fs) ∧ PySem.W.kitOne X.K (.ref D) (.ref c) = some b ∧ Q (.bl b) H) := by
  intro pins s σ H xs us Q I r h
  obtain ⟨c, b, fs, rfl, hd, e, q⟩ := h
  obtain ⟨u, v, rfl, ru, rv⟩ := vals2 r
  cases ru
  cases rv
  obtain ⟨od, J, _⟩ := inst_pin I hp hz hf hd
  exact PySem.W.kia_one (PySem.W.kitx_exc C.cl C.ga C.gg C.sb C.cc C.gs C.tk C.mo) I.kIn J e (fun z => nomatch z) fun tk => ⟨.bl b, H, I.kept (t' := tk) fun _ _ z => z, rfl, q⟩
/-- e.f of it -/
theorem pe_fldP {X : Cx} {p : Addr × Obj} {D d : Addr} {e : Expr} {te : TE} {pos : Pos} {n : Str} (C : ErrC X.K D) (hno : PySem.W.findIn X.K (.ref D) n = some none) (hp : p ∈ X.pn) (hz : Zc (.ref D) (some d) p.2) (hf : ∃ vs, p.2.data = .fields vs) (he : PE X e te)
    (hb : attributeBase e n X.env (eval e X.env) = eval e X.env := by rfl) : PE X (.Attribute e n pos) (fun σ H Q => te σ H fun x H1 => x = .ref p.1 ∧ ∃ (fs : List (Str × V)) (v : V), H1 d = some (.xd fs) ∧ fs.lookup n = some v ∧ Q v H1) := by
  refine ⟨fun pins s σ H Q I h => attr_of hb (thn (he.run pins s σ H _ I h) fun u s1 ⟨x, H1, I1, rx, ex, fs, v, hd, l, q⟩ => ?_)⟩
  subst ex
  obtain rfl : u = Value.ref p.1 := rx
  obtain ⟨od, J, mA, hr, hl⟩ := inst_pin I1 hp hz hf hd
  obtain ⟨u, hu, ru⟩ := RelO.some_of (v := v) (o := mA n) (by rw [← l]; exact hr n)
  exact HandSPX.exc_get I1.kIn J C.ga C.gg C.sb (PySem.W.findObj_own C.hd hno rfl (by rw [hl, hu])) (handed_of ru) ⟨v, H1, I1.tok _, ru, q⟩
/-! ### a comprehension over zip, the first list no longer -/
theorem lc_zip1 {K : PySem.W.Frag} {a b : Addr} {xs ys : List V} {g : TG} {tt : TT} {te : TE} {vs : List Nat} {σ : L2.St} {H1 : Hp} {D : Addr} {Qd : Hp → Prop} (hl : xs.length ≤ ys.length) (Pv : Nat → Hp → Prop) (h0 : Pv 0 (upd H1 D (.lst []))) (hq : ∀ i H, Pv i H → SqL K H a xs ∧ SqL K H b ys)
    (hs : ∀ i x y T H, xs[i]? = some x → ys[i]? = some y → Pv i H → H T = none → g (.ref T) (wipe σ vs) (upd H T (.tup [x, y])) fun σ2 H2 => wipe σ2 vs = wipe σ vs ∧ tt σ2 H2 fun b H3 =>
      if b = true then te σ2 H3 fun y H4 => ∃ acc, H4 D = some (.lst acc) ∧ acc.length < sizeLine ∧ Pv (i + 1) (upd H4 D (.lst (acc ++ [y]))) else Pv (i + 1) H3) (hd : ∀ H, Pv xs.length H → Qd H) :
    ∃ W : Nat → Nat → Hp → Prop, (∃ m, W 0 m (upd H1 D (.lst []))) ∧ ∀ i m H, W i m H → ((Itz1 K a b).stop i H ∧ Qd H) ∨ ((Itz1 K a b).go i H ∧ ∃ Nx : Hp → Prop, (∀ H', Nx H' → ∃ m', m' < m ∧ W (i + 1) m' H') ∧
      ∀ x H', (Itz1 K a b).yld i H x H' → g x (wipe σ vs) H' fun σ2 H2 => wipe σ2 vs = wipe σ vs ∧ tt σ2 H2 fun b H3 => if b = true then te σ2 H3 fun y H4 => ∃ acc, H4 D = some (.lst acc) ∧ acc.length < sizeLine ∧ Nx (upd H4 D (.lst (acc ++ [y]))) else Nx H3) := by
  refine ⟨fun i m H => m = xs.length - i ∧ i ≤ xs.length ∧ Pv i H, ⟨xs.length, by simp, Nat.zero_le _, h0⟩, fun i m H ⟨em, hi, p⟩ => ?_⟩
  obtain ⟨qa, qb⟩ := hq i H p
  by_cases lt : i < xs.length
  · have lt2 : i < ys.length := by omega
    refine .inr ⟨⟨xs, ys, xs[i], ys[i], qa, qb, List.getElem?_eq_getElem lt, List.getElem?_eq_getElem lt2⟩, Pv (i + 1), fun H' p' => ⟨xs.length - (i + 1), by omega, rfl, lt, p'⟩, fun x H' hy => ?_⟩
    obtain ⟨T, x1, x2, rfl, nT, rfl, e1, e2⟩ := hy
    exact hs i x1 x2 T H (e1 _ qa) (e2 _ qb) p nT
  · have e : i = xs.length := by omega
    subst e
    exact .inl ⟨⟨xs, ys, qa, qb, Nat.le_refl _⟩, hd H p⟩
/-! ### the lambda that a def got, called in its try: errors with no context -/
def lamCxN (X : Cx) (A : Around) (outer : List Env) (s : Shared) (H : Hp) (E : XK) (scope : Scope) (f c' : Addr) : Cx :=
  { LamX.lamCx X A outer s H E scope f c' with xe := fun e s' => wpAny (model X.prog X.w) (A.deeper (LamX.lamEnv X scope s.heap.objs.size f c')) (leaving (LamX.lamEnv X scope s.heap.objs.size f c') e) (fun _ s'' => L2N.CX X.prog X.w outer H s E e s'') (fun e' s'' => L2N.CX X.prog X.w outer H s E e' s'') s' }
theorem reXe {X : Cx} {xe : Value → Shared → Prop} {pins : List (Addr × Obj)} {σ : L2.St} {H : Hp} {s : Shared} (I : Inv X pins σ H s) : Inv { X with xe := xe } pins σ H s := by
  have ok := I.ok
  exact ⟨⟨ok.mod, ok.kind, ok.glob, ok.blt, ok.above, ok.inj, ok.has, ok.cab, ok.hd, ok.frames, ok.stk, ok.exf, ok.bs, ok.bsz, ok.noex, ok.exfs, ok.funs, ok.frf⟩, I.os, I.bare, I.base, I.loc, I.cell, I.free, I.freeC, I.pin, I.hok, I.len⟩
section
variable {X : Cx} {pins : List (Addr × Obj)} {σ : L2.St} {H : Hp} {s : Shared}
open LamX
theorem pe_actN {CXg : CXT} {Eg : XK} {Ng : List Str} {qg : Str} {sg : Scope} {g f c' : Addr} {cdg pm ctv : Value} {params : Arguments} {body : Expr} {scope : Scope} {k i : Nat} {a : Str} {pn : List (Addr × Obj)} {xe : Value → Shared → Prop} {W : WX} {E : XK} {tb : TE} {p1 p2 : Pos}
    (I : Inv X pins σ H s) (L : LamS X.env.scope scope) (hf : s.heap.get? f = some (PySem.W.kla_obj "<lambda>" (X.env.qual ++ "<lambda>") params body scope (cloFrom X.env.cells scope.names []) pm c' ctv)) (hfn : H f = none) (hfr : f ∉ frs X.stack)
    (hbind : bindArgs (PySem.W.kla_fn "<lambda>" (X.env.qual ++ "<lambda>") params body scope (cloFrom X.env.cells scope.names []) pm (.ref c') ctv) ⟨[], []⟩ = pure [])
    (tk : L2N.Takes ((cxOf CXg X.prog X.w X.K X.mg X.base Ng qg sg g cdg X.A X.stack s H Eg).tr pn xe) W) (hW : ∀ cls d σ' H', E cls d H' → W cls d σ' H') (hr : Room (k + 1) (X.A.deeper (envOfC qg sg s.heap.objs.size g cdg)))
    (hbody : ∀ (A : Around) (outer : List Env) (s : Shared) (H : Hp), Room k (A.deeper (lamEnv X scope s.heap.objs.size f c')) → PE (lamCxN X A outer s H E scope f c') body tb)
    (hN : Ng[i]? = some a) (hv : Vis sg a) (hd : (a == ("__debug__" : Str)) = false) (hcd : (a == ("__classdict__" : Str)) = false) :
    PE ((cxOf CXg X.prog X.w X.K X.mg X.base Ng qg sg g cdg X.A X.stack s H Eg).tr pn xe) (.Call (.Name a p1) [] [] p2) (fun σZ HZ Q => σZ[i]? = some (some (.ref f)) ∧ HZ c' = some (CodeO c' (X.env.qual ++ "<lambda>")) ∧ tb σ HZ Q) := by
  refine ⟨fun pinsZ sZ σZ HZ Q IZ ⟨hs, hc, ht⟩ => ?_⟩
  refine wpAny_Call_Name_kw (thn ((pe_var (pos := p1) (i := i) hN hv hd hcd).run pinsZ sZ σZ HZ (fun v H1 => v = .ref f ∧ H1 = HZ) IZ ⟨.ref f, hs, rfl, rfl⟩) fun u s1 ⟨v, H1, I1, r1, ev, eH⟩ => ?_)
  subst ev
  rw [eH] at I1
  obtain rfl : u = Value.ref f := r1
  have of1 := I1.base.keep f _ hf hfn hfr (fun z => nomatch (show f ∈ ([] : List Addr) from z))
  refine PySem.W.callWith_F0 ⟨_, _, _, _, of1⟩ ?_
  obtain ⟨⟨oc, vs, t, hoc, hdc, hvc⟩, _, _⟩ := I1.hok c' _ hc
  have rc : codeAny (model X.prog X.w) (X.A.deeper (envOfC qg sg s.heap.objs.size g cdg)) (.call (.ref f) ⟨[], []⟩) (CR (L2N.CX X.prog X.w) (envOfC qg sg s.heap.objs.size g cdg :: X.stack) X.prog X.w HZ s1 Q E) s1 := by
    refine PySem.W.kla_callFunE hr.depth of1 rfl L.co L.gen rfl ⟨c', oc, vs, t, rfl, hoc, hdc, hvc⟩ ?_
    rw [hbind]
    refine wpAny_pure (wpAny_newFunctionEnv (fun y hy => (L.own y hy).2) (fun y hy => absurd hy (by simp)) (fun j hns hsb => ⟨I1.nolimit.fresh _ hsb, ?_⟩) L.kind)
    show codeAny _ _ (.expr body (lamEnv X scope s1.heap.objs.size f c')) _ _
    have kp : ∀ b o, s1.heap.get? b = some o → j.get? b = some o := fun b o e => hsb.extBut b o (Nat.ne_of_lt (Heap.lt_size e)) (Heap.get?_push_of_some _ e)
    have J0 : Inv (lamCx X (X.A.deeper (envOfC qg sg s.heap.objs.size g cdg)) (envOfC qg sg s.heap.objs.size g cdg :: X.stack) s1 HZ E scope f c') [] σ HZ { s1 with heap := j, toks := s1.toks + ([] : List (Str × Value)).length } := lam_start2 I L I1.env0 hr.hd I1.base hns kp
    have J : Inv (lamCxN X (X.A.deeper (envOfC qg sg s.heap.objs.size g cdg)) (envOfC qg sg s.heap.objs.size g cdg :: X.stack) s1 HZ E scope f c') [] σ HZ { s1 with heap := j, toks := s1.toks + ([] : List (Str × Value)).length } := reXe J0
    refine PySem.W.kla_codeExpr (wpAny_mono ((hbody _ _ s1 HZ (hr.deeper _)).run [] _ _ HZ Q J ht) (fun v s' hq => ?_) fun e s' hq => hq)
    obtain ⟨w', H', J', rv, q⟩ := hq
    exact ⟨w', H', J'.os, J'.bare, J'.base, J'.hok, rv, q⟩
  have hx := L2N.passes_call tk hW
  refine wpAny_call (codeAny_mono rc fun r s' hq => ?_)
  cases r with
  | error e => exact hx pinsZ σZ HZ s1 e s' I1 hq
  | ok fl =>
    cases fl with
    | ret u => exact I1.after hq
    | next => exact False.elim hq
    | brk => exact False.elim hq
    | cont => exact False.elim hq
end
end Onp
set_option maxHeartbeats 4000000
set_option autoImplicit false
namespace Onp
open PySem PySem.Spec PyProof.Rows L2 HotX L2H LamX
/-! ### x(lambda: body), x a def that calls what it got in a try; errors with no context -/
def GivesN (X : Cx) (k : Nat) (Ng : List Str) (x : Str) (sg : Scope) (g : Addr) (cdg : Value) (bg : List Stmt) (a : Str) (q : Str) (TT : (XK → Hp → VK → Prop) → Hp → VK → Prop) : Prop :=
  ∀ (f c' : Addr) (s : Shared) (H : Hp) (Q : VK) (tl : XK → Hp → VK → Prop), Room (k + 1) (X.A.deeper (envOfC x sg s.heap.objs.size g cdg)) →
    (∀ (W : WX) (pn : List (Addr × Obj)) (xe : Value → Shared → Prop) (E : XK) (p1 p2 : Pos), L2N.Takes ((cxOf CX0 X.prog X.w X.K X.mg X.base Ng x sg g cdg X.A X.stack s H E0).tr pn xe) W → (∀ cls d σ' H', E cls d H' → W cls d σ' H') →
      PE ((cxOf CX0 X.prog X.w X.K X.mg X.base Ng x sg g cdg X.A X.stack s H E0).tr pn xe) (.Call (.Name a p1) [] [] p2) (fun σZ HZ Q => σZ[0]? = some (some (.ref f)) ∧ HZ c' = some (CodeO c' q) ∧ tl E HZ Q)) →
    H c' = some (CodeO c' q) → TT tl H Q →
    ∃ t, PSs (cxOf CX0 X.prog X.w X.K X.mg X.base Ng x sg g cdg X.A X.stack s H E0).nox bg t ∧ t { nx := fun _ H' => Q .non H', rt := Q } (L2.start Ng [.ref f]) H
theorem pe_lamN {X : Cx} {T : List (Addr × Str)} {TT : (XK → Hp → VK → Prop) → Hp → VK → Prop} {x a : Str} {g c P : Addr} {k : Nat} {pg : Arguments} {bg : List Stmt} {sg : Scope} {dV kV doc pm cdv ct oc : Value} {an od : Option Addr} {osl : Array (Option Value)} {Ng : List Str}
    {params : Arguments} {body : Expr} {scope : Scope} {t : XK → TE} {p lpos pos : Pos} (hg : Gl X x) (hm : X.mg x = some (.ref g)) (hk : PySem.W.keepIn X.K (.ref g) = true) (lk : X.K.lookup g = some ⟨oc, od, .func (PySem.W.fnOf x x pg bg sg dV kV doc pm an cdv ct), osl⟩)
    (hcg : PySem.W.codeIn X.K cdv x = true) (hb : L2.Binds X.K (PySem.W.fnOf x x pg bg sg dV kV doc pm an cdv ct) [a] []) (Sg : FnScope Ng [a] sg) (hNg : Ng[0]? = some a) (hva : Vis sg a) (hG : GivesN X k Ng x sg g cdv bg a (X.env.qual ++ "<lambda>") TT)
    (TB : TabB X.base X.mg c P) (hcode : X.env.code = .ref c) (hmT : (P, X.env.qual ++ "<lambda>") ∈ T) (hu : ∀ p ∈ T, p.1 = P → p.2 = X.env.qual ++ "<lambda>") (hr : Room (k + 2) X.A) (L : LamS X.env.scope scope) (hdef : defaultsOf params X.env = ([], []))
    (hbind : ∀ (q : Str) (cl : List (Str × Addr)) (pm cv ctv : Value), bindArgs (PySem.W.kla_fn "<lambda>" q params body scope cl pm cv ctv) ⟨[], []⟩ = pure [])
    (hbody : ∀ (A : Around) (outer : List Env) (s : Shared) (H : Hp) (E : XK) (f c' : Addr), Room k (A.deeper (lamEnv X scope s.heap.objs.size f c')) → PE (lamCxN X A outer s H E scope f c') body (t E))
    (hdb : (x == ("__debug__" : Str)) = false := by decide) (hd : (a == ("__debug__" : Str)) = false := by decide) (hcd : (a == ("__classdict__" : Str)) = false := by decide) : PE X (.Call (.Name x p) [.Lambda params body scope lpos] [] pos) (tLam T TT t) := by
  refine ⟨fun pins s σ H Q I ⟨hT, h⟩ => wpAny_Call_Name_kw (ld_glob I hg hm ?_ hdb)⟩
  refine PySem.W.callWith_K (h₀ := X.base) I.ok.mod.kin hk ?_ (by rfl) (by rfl)
  show wpAny _ _ (spliced ((false, eval (.Lambda params body scope lpos) X.env) :: backTo pos (starEach [] X.env))) _ _ s
  refine Calls.spliced_cons (lam_make2 I TB hcode hmT hu hT hdef (L.has I.ok) fun f c' pm' ctv H1 s' I1 eN T1 hf hfn hfr hco => Calls.spliced_nil ⟨I1.kIn, ?_⟩)
  have rc : codeAny (model X.prog X.w) X.A (.call (.ref g) ⟨[.ref f], []⟩) (CR CX0 X.stack X.prog X.w H1 s' Q E0) s' := by
    refine run_ofS (N := Ng) (ps := [a]) (us := [.ref f]) (vs := [.ref f]) lk hcg Sg hr I1.env0 (hb s' [.ref f] I1.kIn rfl) (.cons rfl .nil) rfl fun hr' => ?_
    obtain ⟨t', ht', hq'⟩ := hG f c' s' H1 Q (fun E H' Q' => t E σ H' Q') hr' (fun W pn xe E p1 p2 tk hW => pe_actN (i := 0) I1 L hf hfn hfr (hbind _ _ _ _ _) tk hW hr' (fun A outer s H hr2 => hbody A outer s H E f c' hr2) hNg hva hd hcd) hco (h H1 eN T1)
    exact ⟨t', ht'.nox, hq'⟩
  refine wpAny_call (codeAny_mono rc fun r s2 hq => ?_)
  cases r with
  | error e => exact (show False from hq).elim
  | ok fl =>
    cases fl with
    | ret u => exact I1.after hq
    | next => exact False.elim hq
    | brk => exact False.elim hq
    | cont => exact False.elim hq
theorem takes0N {X : Cx} : L2N.Takes X (fun _ _ _ _ => False) := fun _ _ x => by
  obtain ⟨_, _, _, _, _, _, _, _, _, _, _, _, _, _, _, _, z⟩ := x
  exact z.elim
end Onp
/-! rules of my own: o[i] read by values (for o[i] += e), max of three ints, max of a tuple of ints -/
namespace Onp
open PySem PySem.Spec PyProof.Rows L2
section
variable {X : Cx}
def rGetL (K : PySem.W.Frag) : V → V → Hp → VK → Prop := fun x y H Q => ∃ p xs, ∃ (j : Nat), ∃ v, x = .ref p ∧ y = .int (j : Int) ∧ SqL K H p xs ∧ xs[j]? = some v ∧ Q v H
theorem get_list : PGet X (rGetL X.K) := by
  intro pins s σ H o i ov iv Q I ro ri h
  obtain ⟨p, xs, j, v, rfl, rfl, hq, hx, q⟩ := h
  cases ro
  obtain ⟨t, rfl⟩ := ri
  obtain ⟨its, r, pl, hz⟩ := I.list hq
  obtain ⟨w, ew, rw'⟩ := r.get hx
  have hl := r.length
  have hn := line63
  have hj : j < xs.length := (List.getElem?_eq_some_iff.mp hx).1
  exact wpAny_getItem_list pl.isList (by omega) (by omega) (by simpa using ew) ⟨v, H, I, rw', q⟩
theorem vals3 {x y z : V} {us : List Value} (r : Vals [x, y, z] us) : ∃ u w' v', us = [u, w', v'] ∧ RelV x u ∧ RelV y w' ∧ RelV z v' := by
  cases r with
  | cons r1 r2 =>
    cases r2 with
    | cons r3 r4 =>
      cases r4 with
      | cons r5 r6 =>
        cases r6
        exact ⟨_, _, _, rfl, r1, r3, r5⟩
theorem call_max3 (hc : X.calm = true) : CallR X (.builtin "max") (fun xs H Q => ∃ i j k : Int, xs = [.int i, .int j, .int k] ∧ Q (.int (max (max i j) k)) H) := by
  intro pins s σ H xs us Q I r h
  obtain ⟨i, j, k, rfl, q⟩ := h
  obtain ⟨u, w', v', rfl, ⟨t, rfl⟩, ⟨t', rfl⟩, ⟨t'', rfl⟩⟩ := vals3 r
  refine max_three_ints (I.ok.hd hc) fun h' tk k' => ⟨_, H, I.kept k', ?_, q⟩
  by_cases h1 : j > i
  · rw [if_pos h1]
    by_cases h2 : k > j
    · rw [if_pos h2]
      exact ⟨_, by rw [show max (max i j) k = k by omega]⟩
    · rw [if_neg h2]
      exact ⟨_, by rw [show max (max i j) k = j by omega]⟩
  · rw [if_neg h1]
    by_cases h2 : k > i
    · rw [if_pos h2]
      exact ⟨_, by rw [show max (max i j) k = k by omega]⟩
    · rw [if_neg h2]
      exact ⟨_, by rw [show max (max i j) k = i by omega]⟩
/-- max(t) of a tuple of ints -/
theorem max_tupRaw {prog : Program} {w : World} {A : Around} {E : Value → Shared → Prop} {s : Shared} {l : Addr} {xs : Array (Int × Tok)} {Q : Value → Shared → Prop} (hh : A.handled = none) (hl : s.heap.IsTuple l (intItems xs)) (hne : 0 < xs.size)
    (h : ∀ v h' tk, (intItems xs)[argBest (fun i j => decide (numAt xs i > numAt xs j)) (xs.size - 1)]? = some v → (∀ b o, s.heap.get? b = some o → h'.get? b = some o) → Q v { s with heap := h', toks := tk }) :
    wpAny (model prog w) A (call (.builtin "max") [.ref l]) Q E s := by
  have hlt : l < s.heap.objs.size := by obtain ⟨_, e, _⟩ := hl; exact Heap.lt_size e
  refine call_max_walk (wpAny_pyIter_tuple hl ?_)
  refine ⟨_, [s.heap.objs.size, l], [s.heap.objs.size], _, _, _, _, rfl, Walks.tuple (A := A.in1) hh _ l (Nat.ne_of_lt hlt) (intItems xs), ⟨⟨_, Heap.get?_push_size _ rfl, rfl, rfl⟩, hl.push _⟩, fun b hb => ?_, by simpa [intItems] using hne, CmpOf.ints_gt (numAt xs) (fun _ _ => intItems_at), fun v h' tk hP hk => ?_⟩
  · show b < (s.heap.push _).objs.size
    rw [Heap.size_push]
    rcases List.mem_cons.mp hb with rfl | hb
    · exact Nat.lt_succ_self _
    · rcases List.mem_cons.mp hb with rfl | hb
      · exact Nat.lt_succ_of_lt hlt
      · cases hb
  · refine h v h' tk (by simpa [intItems] using hP) fun b o e => ?_
    refine hk b o (fun hm => ?_) (Heap.get?_push_of_some _ e)
    rcases List.mem_cons.mp hm with e1 | hm
    · exact absurd (e1 ▸ Heap.lt_size e) (Nat.lt_irrefl _)
    · cases hm
def rMaxT (K : PySem.W.Frag) : List V → Hp → VK → Prop := fun vs H Q => ∃ (a : Addr) (ns : List Int), vs = [V.ref a] ∧ SqT K H a (ns.map V.int) ∧ 0 < ns.length ∧ ∀ m, m ∈ ns → (∀ y, y ∈ ns → y ≤ m) → Q (.int m) H
theorem cr_maxT (hc : X.calm = true) : CallR X (.builtin "max") (rMaxT X.K) := by
  intro pins s σ H vs us Q I r h
  obtain ⟨a, ns, rfl, hs, hne, q⟩ := h
  obtain ⟨its, rv, ht, _⟩ := I.tuple hs
  rw [Vals.ref1 r]
  have hi := rv.ints
  obtain ⟨xs, e⟩ := hi.allInts.items
  have hn : numsOf (intItems xs).toList = ns := by rw [← e]; exact hi.numsOf
  rw [nums_intItems] at hn
  subst hn
  have hl : s.heap.IsTuple a its.toArray := ht
  rw [e] at hl
  have hsz : 0 < xs.size := by simpa using hne
  refine max_tupRaw (I.ok.hd hc) hl hsz fun v h' tk hv hk => ?_
  obtain ⟨t, rfl⟩ := intItems_at hv
  obtain ⟨h1, h2⟩ := argBest_gt (numAt xs) (xs.size - 1)
  refine ⟨.int _, H, I.kept hk, ⟨_, rfl⟩, q _ ?_ fun a ha => ?_⟩
  · rw [numAt_eq]; exact PySem.getD_mem (by rw [List.length_map, Array.length_toList]; omega)
  · obtain ⟨j, hj, rfl⟩ := mem_getD ha
    rw [List.length_map, Array.length_toList] at hj
    rw [← numAt_eq]; exact h2 j (by omega)
end
end Onp
set_option maxHeartbeats 4000000
namespace Onp
open PySem PySem.Spec PyProof.Rows L2
def topS (i : Nat) : Stmt := PySem.Challenge.pw_onepurse_k10_patterns_gone_so_often.main.body.getD i (.Pass ⟨0, 0, 0, 0⟩)
abbrev sBag : Stmt := topS 37
abbrev sPull : Stmt := topS 38
abbrev sOf : Stmt := topS 39
/-! ### heaps: all but b stays -/
def Keep (b : Addr) (H H' : Hp) : Prop := ∀ a o, a ≠ b → H a = some o → H' a = some o
theorem Keep.refl {b : Addr} (H : Hp) : Keep b H H := fun _ _ _ h => h
theorem Keep.trans {b : Addr} {H H1 H2 : Hp} (x : Keep b H H1) (y : Keep b H1 H2) : Keep b H H2 := fun a o n h => y a o n (x a o n h)
theorem Keep.of {b : Addr} {H H' : Hp} (s : Same H H') : Keep b H H' := fun a o _ h => s a o h
theorem Keep.upd {b : Addr} {H : Hp} {o : HO} : Keep b H (upd H b o) := fun a x n h => by rw [upd_ne n]; exact h
theorem same_upd {H : Hp} {p : Addr} {o : HO} (h : H p = none) : Same H (upd H p o) := fun b x e => by
  rw [upd_ne (ne_of_none e h)]
  exact e
theorem Keep.new {b p : Addr} {H : Hp} {o : HO} (h : H p = none) : Keep b H (L2.upd H p o) := .of (same_upd h)
theorem Keep.seqL {K : PySem.W.Frag} {b a : Addr} {H H' : Hp} {xs : List V} (k : Keep b H H') (n : a ≠ b) (h : SqL K H a xs) : SqL K H' a xs := by
  rcases h with (h | ⟨o, h⟩) | h
  · exact .inl (.inl (k _ _ n h))
  · exact .inl (.inr ⟨o, k _ _ n h⟩)
  · exact .inr h
theorem Keep.seqT {K : PySem.W.Frag} {b a : Addr} {H H' : Hp} {xs : List V} (k : Keep b H H') (n : a ≠ b) (h : SqT K H a xs) : SqT K H' a xs := by
  rcases h with (h | ⟨o, h⟩) | h
  · exact .inl (.inl (k _ _ n h))
  · exact .inl (.inr ⟨o, k _ _ n h⟩)
  · exact .inr h
theorem same_seqT {K : PySem.W.Frag} {H H' : Hp} {a : Addr} {xs : List V} (e : Same H H') (h : SqT K H a xs) : SqT K H' a xs := by
  rcases h with (h | ⟨o, h⟩) | h
  · exact .inl (.inl (e _ _ h))
  · exact .inl (.inr ⟨o, e _ _ h⟩)
  · exact .inr h
theorem itT {c A B : Prop} [Decidable c] (hc : c) (h : A) : if decide c = true then A else B := by
  rw [if_pos (decide_eq_true hc)]; exact h
theorem itF {c A B : Prop} [Decidable c] (hc : ¬ c) (h : B) : if decide c = true then A else B := by
  rw [if_neg (by rw [decide_eq_false hc]; decide)]; exact h
/-! ### the bag: where it stands, where its list stands, the list -/
structure Bid where
  b : Addr
  l : Addr
  ns : List Int
def bagV (l : Addr) (i : Nat) (r s c : Int) : HO := .lst [.ref l, .int i, .int r, .int s, .int c]
def Bg (H : Hp) (g : Bid) : Prop := ∃ (i : Nat) (r s c : Int), H g.b = some (bagV g.l i r s c) ∧ H g.l = some (.lst (g.ns.map V.int)) ∧ g.l ≠ g.b
theorem Bg.same {H H' : Hp} {g : Bid} (x : Bg H g) (s : Same H H') : Bg H' g := by
  obtain ⟨i, r, z, c, h1, h2, h3⟩ := x
  exact ⟨i, r, z, c, s _ _ h1, s _ _ h2, h3⟩
theorem Bg.new {H : Hp} {g : Bid} {p : Addr} {o : HO} (x : Bg H g) (h : H p = none) : Bg (upd H p o) g := x.same (same_upd h)
theorem Bg.ne {H : Hp} {g : Bid} {p : Addr} (x : Bg H g) (h : H p = none) : p ≠ g.b := by
  obtain ⟨i, r, z, c, h1, h2, h3⟩ := x
  exact (ne_of_none h1 h).symm
theorem Bg.neL {H : Hp} {g : Bid} {p : Addr} (x : Bg H g) (h : H p = none) : p ≠ g.l := by
  obtain ⟨i, r, z, c, h1, h2, h3⟩ := x
  exact (ne_of_none h2 h).symm
theorem Bg.put {H : Hp} {g : Bid} {p : Addr} {o : HO} (x : Bg H g) (h1 : p ≠ g.b) (h2 : p ≠ g.l) : Bg (upd H p o) g := by
  obtain ⟨i, r, z, c, e1, e2, e3⟩ := x
  exact ⟨i, r, z, c, by rw [upd_ne h1.symm]; exact e1, by rw [upd_ne h2.symm]; exact e2, e3⟩
theorem cut63 (xs : List V) : cutV xs none (some 63) = xs.take 63 := by
  unfold cutV
  rw [HT.sIx_none, show HT.sIx xs.length xs.length (some 63) = min 63 xs.length from HT.sIx_nat xs.length xs.length 63]
  rw [List.drop_zero, Nat.sub_zero]
  by_cases h : xs.length ≤ 63
  · rw [List.take_of_length_le h, List.take_of_length_le (by omega)]
  · rw [show min 63 xs.length = 63 by omega]
section
variable {P : Program} {w : World} {K : PySem.W.Frag} {mg : Str → Option Value} {base : Heap}
def spBag (K : PySem.W.Frag) : Sp := fun vs H Q _ => ∃ (a : Addr) (ns : List Int), vs = [.ref a] ∧ SqL K H a (ns.map V.int) ∧
  ∀ (g : Bid) H', H g.b = none → Same H H' → Bg H' g → Q (.ref g.b) H'
theorem scBag : FnScope ["_law_script", "_law_seed", "_law_cell"] ["_law_script"] (defScope sBag) := ⟨rfl, rfl, rfl, by decide +kernel, rfl, by decide +kernel, by decide +kernel⟩
theorem ok_bag {f : Addr} {fd : FuncData} {k : Nat} (F : Fun K "_law_bag" "_law_bag" sBag f fd) (ml : mg "list" = none) : FnOk P w K mg base CX0 (k + 1) f fd ["_law_script"] (spBag K) := by
  refine F.ok scBag (fun vs H Q E h => ?_) (fun cdv A outer s H vs Q E hr h => ?_)
  · obtain ⟨a, ns, rfl, _⟩ := h
    rfl
  · obtain ⟨a, ns, rfl, hS, q⟩ := h
    refine ⟨_, pss_cons (ps_set (i := 1) scBag.nd rfl (.inl rfl) pe_int)
      (pss_cons (ps_for PassesOwn.never rfl (pi_list (pe_slice sl_list (pv 0) po_none (po_some pe_int))) (pg_name (i := 2) scBag.nd rfl (.inl rfl))
        (pss_one (ps_set (i := 1) scBag.nd rfl (.inl rfl) (pe_op op_mod (pe_op op_add (pe_op op_add (pe_op op_mul (pv 1) pe_int) (pv 2)) pe_int) pe_int))))
      (pss_one (ps_ret (pe_lst (pa_cons (pe_callTy call_list_of (by rfl) ml (by decide +kernel) (pa_cons (pe_slice sl_list (pv 0) po_none (po_some pe_int)) pa_nil))
        (pa_cons pe_int (pa_cons pe_int (pa_cons (pv 1) (pa_cons pe_int pa_nil))))))))), ?_⟩
    refine ⟨.ref a, rfl, 63, rfl, a, ns.map V.int, rfl, hS, fun p np => ?_⟩
    have s1 : Same H (upd H p (.lst (cutV (ns.map V.int) none (some 63)))) := same_upd np
    refine ⟨p, rfl, ⟨_, SqL.of upd_same⟩, for_list (K := K) (a := p) (xs := cutV (ns.map V.int) none (some 63))
      (fun i σ H' => ∃ (z : Int) (y : Option V), σ = [some (.ref a), some (.int z), y] ∧ H' = upd H p (.lst (cutV (ns.map V.int) none (some 63))))
      ⟨37, none, rfl, rfl⟩ (fun i σ H' _ ⟨z, y, _, e⟩ => by rw [e]; exact SqL.of upd_same) ?_ ?_⟩
    · rintro i x σ H' hi ⟨z, y, rfl, rfl⟩
      obtain ⟨n, rfl⟩ : ∃ n, x = V.int n := by
        rw [cut63, ← List.map_take, List.getElem?_map] at hi
        cases e : (ns.take 63)[i]? with
        | none => rw [e] at hi; cases hi
        | some u => rw [e] at hi; exact ⟨u, (Option.some.inj hi).symm⟩
      exact ⟨_, rfl, _, _, rfl, rfl, .inr ⟨by decide, by decide⟩, _, rfl, _, _, rfl, rfl, _, _, rfl, rfl, _, _, rfl, rfl, (by show (0 : Int) < 2147483629; decide), _, _, rfl, rfl⟩
    · rintro σ H' ⟨z, y, rfl, rfl⟩
      refine ⟨.ref a, rfl, 63, rfl, a, ns.map V.int, rfl, s1.seq hS, fun p2 np2 => ?_⟩
      refine ⟨p2, _, rfl, .inl (SqL.of upd_same), fun l nl => ?_⟩
      refine ⟨_, rfl, (by show 5 ≤ sizeLine; decide), fun b nb => ?_⟩
      have s2 := s1.trans (same_upd (o := .lst (cutV (ns.map V.int) none (some 63))) np2)
      have s3 := s2.trans (same_upd (o := .lst (cutV (ns.map V.int) none (some 63))) nl)
      have s4 := s3.trans (same_upd (o := .lst [.ref l, .int 0, .int 0, .int z, .int 0]) nb)
      refine q ⟨b, l, ns.take 63⟩ _ (s3.free nb) s4 ⟨0, 0, z, 0, upd_same, ?_, ?_⟩
      · show upd _ b _ l = _
        rw [upd_ne (ne_of_none upd_same nb), upd_same, cut63, List.map_take]
      · exact ne_of_none upd_same nb
/-! ### pull -/
def spPull (K : PySem.W.Frag) : Sp := fun vs H Q _ => ∃ (g : Bid) (m : Int), vs = [.ref g.b, .int m] ∧ 0 < m ∧ m.natAbs < 2 ^ 200 ∧ Bg H g ∧
  ∀ (z : Int) H', 0 ≤ z → z < m → Keep g.b H H' → Bg H' g → Q (.int z) H'
theorem scPull : FnScope ["_law_bag_here", "_law_many", "_law_rest", "_law_cell", "_law_one", "_law_two"] ["_law_bag_here", "_law_many"] (defScope sPull) := ⟨rfl, rfl, rfl, by decide +kernel, rfl, by decide +kernel, by decide +kernel⟩
theorem upd_bag {H : Hp} {b : Addr} {o o' : HO} : Keep b H (upd (upd H b o) b o') := by
  rw [upd_upd]
  exact Keep.upd
theorem mod_lo {a m : Int} (h : 0 < m) : 0 ≤ a % m := Int.emod_nonneg _ (by omega)
theorem mod_hi {a m : Int} (h : 0 < m) : a % m < m := Int.emod_lt_of_pos _ h
theorem ok_pull {f : Addr} {fd : FuncData} {k : Nat} (F : Fun K "_law_pull" "_law_pull" sPull f fd) (ml : mg "len" = none) : FnOk P w K mg base CX0 (k + 1) f fd ["_law_bag_here", "_law_many"] (spPull K) := by
  refine F.ok scPull (fun vs H Q E h => ?_) (fun cdv A outer s H vs Q E hr h => ?_)
  · obtain ⟨a, ns, rfl, _⟩ := h
    rfl
  · obtain ⟨⟨b, l, ns⟩, m, rfl, m0, m1, ⟨i, r, sd, c, hb, hl0, nlb⟩, q⟩ := h
    have hl : SqL K H l (ns.map V.int) := SqL.of hl0
    refine ⟨_, pss_cons (ps_augS (pv 0) pe_int get_list pe_int ip_add set_list)
      (pss_cons (ps_if (pt_cmpR op_gt (pe_ix ix_list (pv 0) pe_int (fun _ _ => rfl)) pe_int (nomark _))
        (pss_cons (ps_set (i := 2) scPull.nd rfl (.inl rfl) (pe_ix ix_list (pv 0) pe_int (fun _ _ => rfl)))
        (pss_cons (ps_asg (pe_op op_fdivW (pv 2) (pv 1)) (pg_sub (pv 0) pe_int set_list))
        (pss_one (ps_ret (pe_op op_mod (pv 2) (pv 1)))))) pss_nil)
      (pss_cons (ps_set (i := 3) scPull.nd rfl (.inl rfl) (pe_ix ix_list (pv 0) pe_int (fun _ _ => rfl)))
      (C8.pss_cut (ps_if (pt_cmpR op_lt (pe_ix ix_list (pv 0) pe_int (fun _ _ => rfl)) (pe_callB call_len_seq (by rfl) ml PySem.boot_len (pa_cons (pe_ix ix_list (pv 0) pe_int (fun _ _ => rfl)) pa_nil)) (nomark _))
        (pss_cons (ps_set (i := 3) scPull.nd rfl (.inl rfl) (pe_ix ix_list (pe_ix ix_list (pv 0) pe_int (fun _ _ => rfl)) (pe_ix ix_list (pv 0) pe_int (fun _ _ => rfl)) (fun _ _ => rfl)))
        (pss_one (ps_augS (pv 0) pe_int get_list pe_int ip_add set_list))) pss_nil)
      (pss_cons (ps_if (pt_cmpR op_ge (pv 3) (pe_op op_pow pe_int pe_int) (nomark _))
        (pss_cons (ps_asg (pe_op op_fdivW (pv 3) (pv 1)) (pg_sub (pv 0) pe_int set_list))
        (pss_one (ps_ret (pe_op op_mod (pv 3) (pv 1))))) pss_nil)
      (pss_cons (ps_set (i := 4) scPull.nd rfl (.inl rfl) (pe_op op_mod (pe_op op_add (pe_op op_add (pe_op op_add (pe_op op_mul (pv 3) pe_int) (pe_op op_mul (pe_ix ix_list (pv 0) pe_int (fun _ _ => rfl)) pe_int)) (pe_op op_mul (pe_ix ix_list (pv 0) pe_int (fun _ _ => rfl)) pe_int)) pe_int) pe_int))
      (pss_cons (ps_set (i := 5) scPull.nd rfl (.inl rfl) (pe_op op_mod (pe_op op_add (pe_op op_add (pe_op op_mul (pv 4) (pe_op op_add (pe_op op_mod (pv 4) pe_int) pe_int)) (pe_op op_mul (pe_ix ix_list (pv 0) pe_int (fun _ _ => rfl)) pe_int)) (pe_op op_mod (pe_ix ix_list (pv 0) pe_int (fun _ _ => rfl)) pe_int)) pe_int))
      (pss_cons (ps_asg (pe_op op_mod (pe_op op_add (pe_op op_mul (pe_ix ix_list (pv 0) pe_int (fun _ _ => rfl)) pe_int) (pv 5)) pe_int) (pg_sub (pv 0) pe_int set_list))
      (pss_one (ps_ret (pe_op op_mod (pe_op op_fdiv (pv 5) pe_int) (pv 1))))))))))), ?_⟩
    -- bag[4] += 1
    refine ⟨.ref b, rfl, b, _, 4, .int c, rfl, rfl, SqL.of hb, rfl, c, 1, rfl, rfl, b, _, 4, 4, rfl, rfl, hb, rfl, ?_⟩
    -- if bag[2] > 0
    refine ⟨.ref b, rfl, b, _, 2, .int r, rfl, rfl, SqL.of upd_same, rfl, r, 0, rfl, rfl, _, rfl, ite2 (fun _ => ?_) (fun _ => ?_)⟩
    · refine ⟨.ref b, rfl, b, _, 2, .int r, rfl, rfl, SqL.of upd_same, rfl, ?_⟩
      refine ⟨_, rfl, _, rfl, r, m, rfl, rfl, wide_div m0 m1 (by decide) (by decide), .ref b, rfl, b, _, 2, 2, rfl, rfl, upd_same, rfl, ?_⟩
      refine ⟨_, rfl, _, rfl, r, m, rfl, rfl, m0, q _ _ (mod_lo m0) (mod_hi m0) upd_bag ⟨i, r / m, sd, c + 1, upd_same, ?_, nlb⟩⟩
      exact upd_bag _ _ nlb hl0
    · -- cell = bag[3]
      refine ⟨.ref b, rfl, b, _, 3, .int sd, rfl, rfl, SqL.of upd_same, rfl, ?_⟩
      refine ⟨fun σ H1 => ∃ (i' : Nat) (z : Int), σ = [some (.ref b), some (.int m), none, some (.int z), none, none] ∧ H1 = upd H b (bagV l i' r sd (c + 1)), ?_, ?_⟩
      · refine ⟨.ref b, rfl, b, _, 1, .int i, rfl, rfl, SqL.of upd_same, rfl, .ref b, rfl, b, _, 0, .ref l, rfl, rfl, SqL.of upd_same, rfl, l, ns.map V.int, rfl, .inl (Keep.upd.seqL nlb hl), i, ((ns.map V.int).length : Int), rfl, rfl, _, rfl, ite2 (fun hi => ?_) (fun _ => ?_)⟩
        · have hi' : i < ns.length := by
            have := of_decide_eq_true hi
            rw [List.length_map] at this
            omega
          have gi : (ns.map V.int)[i]? = some (.int ns[i]) := by
            rw [List.getElem?_map, List.getElem?_eq_getElem hi']
            rfl
          refine ⟨.ref b, rfl, b, _, 0, .ref l, rfl, rfl, SqL.of upd_same, rfl, .ref b, rfl, b, _, 1, .int i, rfl, rfl, SqL.of upd_same, rfl, l, ns.map V.int, i, .int ns[i], rfl, rfl, Keep.upd.seqL nlb hl, atI_nat gi, ?_⟩
          refine ⟨.ref b, rfl, b, _, 1, .int i, rfl, rfl, SqL.of upd_same, rfl, i, 1, rfl, rfl, b, _, 1, 1, rfl, rfl, upd_same, rfl, i + 1, ns[i], rfl, ?_⟩
          rw [upd_upd]
          rfl
        · exact ⟨i, sd, rfl, rfl⟩
      · rintro σ H1 ⟨i', z, rfl, rfl⟩
        have hb1 : (upd H b (bagV l i' r sd (c + 1))) b = some (bagV l i' r sd (c + 1)) := upd_same
        refine ⟨.int z, rfl, 10, 18, rfl, rfl, ⟨by decide, by decide, by decide⟩, z, _, rfl, rfl, _, rfl, ite2 (fun _ => ?_) (fun _ => ?_)⟩
        · refine ⟨_, rfl, _, rfl, z, m, rfl, rfl, wide_div m0 m1 (by decide) (by decide), .ref b, rfl, b, _, 2, 2, rfl, rfl, upd_same, rfl, ?_⟩
          refine ⟨_, rfl, _, rfl, z, m, rfl, rfl, m0, q _ _ (mod_lo m0) (mod_hi m0) upd_bag ⟨i', z / m, sd, c + 1, upd_same, ?_, nlb⟩⟩
          exact upd_bag _ _ nlb hl0
        · -- one
          refine ⟨_, rfl, _, _, rfl, rfl, .inr ⟨by decide, by decide⟩, .ref b, rfl, b, _, 3, .int sd, rfl, rfl, SqL.of upd_same, rfl, _, _, rfl, rfl, .inr ⟨by decide, by decide⟩, _, _, rfl, rfl, .ref b, rfl, b, _, 4, .int (c + 1), rfl, rfl, SqL.of upd_same, rfl, _, _, rfl, rfl, .inr ⟨by decide, by decide⟩, _, _, rfl, rfl, _, _, rfl, rfl, _, _, rfl, rfl, (by show (0 : Int) < 2147483629; decide), ?_⟩
          have o0 := mod_lo (a := z * 48271 + sd * 40503 + (c + 1) * 69621 + 9176) (m := 2147483629) (by decide)
          have o1 := mod_hi (a := z * 48271 + sd * 40503 + (c + 1) * 69621 + 9176) (m := 2147483629) (by decide)
          generalize hone : (z * 48271 + sd * 40503 + (c + 1) * 69621 + 9176) % 2147483629 = one at o0 o1
          -- two
          refine ⟨_, rfl, _, rfl, _, _, rfl, rfl, (by show (0 : Int) < 65521; decide), _, _, rfl, rfl, _, _, rfl, rfl, .inl ⟨?_, ?_⟩, .ref b, rfl, b, _, 4, .int (c + 1), rfl, rfl, SqL.of upd_same, rfl, _, _, rfl, rfl, .inr ⟨by decide, by decide⟩, _, _, rfl, rfl, .ref b, rfl, b, _, 3, .int sd, rfl, rfl, SqL.of upd_same, rfl, _, _, rfl, rfl, (by show (0 : Int) < 104729; decide), _, _, rfl, rfl, _, _, rfl, rfl, (by show (0 : Int) < 998244353; decide), ?_⟩
          · rw [hone]; omega
          · rw [hone]; omega
          refine ⟨.ref b, rfl, b, _, 3, .int sd, rfl, rfl, SqL.of upd_same, rfl, _, _, rfl, rfl, .inr ⟨by decide, by decide⟩, _, rfl, _, _, rfl, rfl, _, _, rfl, rfl, (by show (0 : Int) < 2147483563; decide), .ref b, rfl, b, _, 3, 3, rfl, rfl, upd_same, rfl, ?_⟩
          refine ⟨_, rfl, _, _, rfl, rfl, ⟨by decide, by decide⟩, _, rfl, _, _, rfl, rfl, m0, q _ _ (mod_lo m0) (mod_hi m0) upd_bag ⟨i', r, _, c + 1, upd_same, ?_, nlb⟩⟩
          exact upd_bag _ _ nlb hl0
/-! ### one of a list -/
def spOf (K : PySem.W.Frag) : Sp := fun vs H Q _ => ∃ (g : Bid) (p : Addr) (xs : List V), vs = [.ref g.b, .ref p] ∧ Bg H g ∧ p ≠ g.b ∧ SqL K H p xs ∧ 0 < xs.length ∧ xs.length < 1000 ∧
  ∀ v H', v ∈ xs → Keep g.b H H' → Bg H' g → Q v H'
theorem scOf : FnScope ["_law_bag_here", "_law_some"] ["_law_bag_here", "_law_some"] (defScope sOf) := ⟨rfl, rfl, rfl, by decide +kernel, rfl, by decide +kernel, by decide +kernel⟩
theorem ok_of {f fP : Addr} {fd fdP : FuncData} {k : Nat} (F : Fun K "_law_of" "_law_of" sOf f fd) (FP : Fun K "_law_pull" "_law_pull" sPull fP fdP) (bP : Binds K fdP ["_law_bag_here", "_law_many"] []) (gP : mg "_law_pull" = some (.ref fP)) (ml : mg "len" = none) : FnOk P w K mg base CX0 (k + 2) f fd ["_law_bag_here", "_law_some"] (spOf K) := by
  have GP : FnOk P w K mg base CX0 (k + 1) fP fdP ["_law_bag_here", "_law_many"] (spPull K) := ok_pull FP ml
  refine F.ok scOf (fun vs H Q E h => ?_) (fun cdv A outer s H vs Q E hr h => ?_)
  · obtain ⟨b, p, xs, rfl, _⟩ := h
    rfl
  · obtain ⟨b, p, xs, rfl, B, npb, hx, h0, hlen, q⟩ := h
    refine ⟨_, pss_one (ps_ret (pe_ix ix_list (pv 1) (pe_call GP hr (by rfl) gP FP.kp bP .nil pass0 (pa_cons (pv 0) (pa_cons (pe_callB call_len_seq (by rfl) ml PySem.boot_len (pa_cons (pv 1) pa_nil)) pa_nil))) (fun _ _ => rfl))), ?_⟩
    refine ⟨.ref p, rfl, .ref b.b, rfl, .ref p, rfl, p, xs, rfl, .inl hx, b, (xs.length : Int), rfl, by omega, ?_, B, fun z H' z0 z1 kp B' => ?_⟩
    · exact Nat.lt_trans (show ((xs.length : Int)).natAbs < 2 ^ 64 by omega) (by decide)
    · have e : z = ((z.toNat : Nat) : Int) := by omega
      have hz1 : z.toNat < xs.length := by omega
      rw [e]
      exact ⟨p, xs, z.toNat, xs[z.toNat], rfl, rfl, kp.seqL npb hx, atI_nat (List.getElem?_eq_getElem hz1), q _ _ (List.getElem_mem hz1) kp B'⟩
end
end Onp
set_option maxHeartbeats 8000000
set_option autoImplicit false
namespace Onp
open PySem PySem.Spec PyProof.Rows L2 HotX L2H
abbrev sKind : Stmt := topS 41
abbrev sTold : Stmt := topS 42
/-! ### the kinds of refusals -/
def errNames : List Str := ["BadMark", "BadLetters", "BadRoom", "BadArrow", "BadWord", "BadSize", "BadPattern", "BadTable", "BadTree", "BadText", "BadName", "BadDeed", "BadPage", "Taken", "Full", "Unlike", "NotDear", "InUse", "TooWide", "NoArrow", "NoName", "NoTraveller", "NothingLeft"]
def errWords : List Str := ["badmark", "badletters", "badroom", "badarrow", "badword", "badsize", "badpattern", "badtable", "badtree", "badtext", "badname", "baddeed", "badpage", "taken", "full", "unlike", "notdear", "inuse", "toowide", "noarrow", "noname", "notraveller", "nothingleft"]
def wordOf (x : Str) : Str := ((errNames.zip errWords).lookup x).getD Str.empty
def pick (nm : Str) : List Str := (((errWords.zip (errNames.map (· == nm))).filter (·.2)).map (·.1))
theorem pick_one : ∀ nm ∈ errNames, pick nm = [wordOf nm] := by decide +kernel
theorem join_one : ∀ nm ∈ errNames, Txt.join "+" [wordOf nm] = wordOf nm := by decide +kernel
theorem word_len : ∀ nm ∈ errNames, (wordOf nm).length ≤ 100 := by decide +kernel
structure Kd (K : PySem.W.Frag) (mg : Str → Option Value) (ec : Str → Addr) (used : List Str) (cP cM : Addr) : Prop where
  g : ∀ x ∈ errNames, mg x = some (.ref (ec x))
  cl : ∀ x ∈ errNames, PySem.W.typeIn K (.ref (ec x)) = some (.type "type") ∧ PySem.W.isClsIn K (ec x) = true
  us : ∀ x ∈ used, x ∈ errNames
  er : ∀ x ∈ used, ErrC K (ec x)
  wd : ∀ x ∈ used, PySem.W.findIn K (.ref (ec x)) "word" = some none
  sub : ∀ x ∈ used, ∀ y ∈ errNames, PySem.W.subIn K (.ref (ec x)) (.ref (ec y)) = some (y == x)
  bx : ∀ y ∈ (["BadText", "BadPage", "TooWide"] : List Str), PySem.W.subIn K (.ref (ec y)) (.type "BaseException") = some true
  gP : mg "PurseError" = some (.ref cP)
  gM : mg "Missing" = some (.ref cM)
  any : ∀ x ∈ used, PySem.W.exmAny K (.ref (ec x)) [.ref cP, .ref cM, .ref (ec "NothingLeft")] = some true
section
variable {K : PySem.W.Frag} {mg : Str → Option Value} {ec : Str → Addr} {used : List Str} {cP cM : Addr}
theorem Kd.kit (T : Kd K mg ec used cP cM) {x y : Str} (hx : x ∈ used) (hy : y ∈ errNames) : PySem.W.kitOne K (.ref (ec x)) (.ref (ec y)) = some (y == x) := by
  have s1 := T.sub x hx y hy
  unfold PySem.W.kitOne
  by_cases e : ((Value.ref (ec x)) == (Value.ref (ec y))) = true
  · rw [if_pos e]
    have e' : ec x = ec y := Value.ref.inj (beq_iff_eq.mp e)
    have s2 := T.sub x hx x (T.us x hx)
    rw [← e', s2] at s1
    rw [beq_self_eq_true] at s1
    exact s1
  · rw [if_neg e]
    obtain ⟨h1, h2⟩ := T.cl y hy
    have h2' : (PySem.W.clsIn K (ec y)).isSome = true := h2
    show (if ((PySem.W.clsIn K (ec y)).isSome && PySem.W.typeIn K (.ref (ec y)) == some (.type "type")) = true then PySem.W.subIn K (.ref (ec x)) (.ref (ec y)) else none) = _
    rw [h2', h1, if_pos (by rfl)]
    exact s1
theorem Kd.exm (T : Kd K mg ec used cP cM) {x y : Str} (hx : x ∈ used) (hy : y ∈ (["BadText", "BadPage", "TooWide"] : List Str)) (hy2 : y ∈ errNames) : PySem.W.exmOne K (.ref (ec x)) (.ref (ec y)) = some (y == x) := by
  have e1 : (PySem.W.subIn K (.ref (ec y)) (.type "BaseException") == some true) = true := by rw [T.bx y hy] <;> rfl
  obtain ⟨h1, h2⟩ := T.cl y hy2
  have h2' : (PySem.W.clsIn K (ec y)).isSome = true := h2
  show (if (PySem.W.subIn K (.ref (ec y)) (.type "BaseException") == some true) = true then (if ((PySem.W.clsIn K (ec y)).isSome && PySem.W.typeIn K (.ref (ec y)) == some (.type "type")) = true then PySem.W.subIn K (.ref (ec x)) (.ref (ec y)) else none) else none) = _
  rw [if_pos e1, h2', h1, if_pos (by rfl)]
  exact T.sub x hx y hy2
end
def NK : List Str := ["_law_e", "_law_flags", "_law_words", "_law_found", "_law_one", "_law_here"]
theorem scKind : FnScope NK ["_law_e"] (defScope sKind) := ⟨rfl, rfl, rfl, by decide +kernel, rfl, by decide +kernel, by decide +kernel⟩
section
variable {P : Program} {w : World} {K : PySem.W.Frag} {mg : Str → Option Value} {base : Heap} {ec : Str → Addr} {used : List Str} {cP cM : Addr}
def spKind (ec : Str → Addr) (used : List Str) : Addr × Obj → List V → Hp → VK → Prop := fun p vs H Q => ∃ (nm : Str) (dd : Addr) (fs : List (Str × V)), nm ∈ used ∧ vs = [.ref p.1] ∧ L2N.Zn (.ref (ec nm)) (some dd) p.2 ∧ H dd = some (.xd fs) ∧
  fs.lookup ("word" : Str) = some (V.str (wordOf nm)) ∧ ∀ H', Same H H' → Q (.str (wordOf nm)) H'
def allW : Str := "badmark badletters badroom badarrow badword badsize badpattern badtable badtree badtext badname baddeed badpage taken full unlike notdear inuse toowide noarrow noname notraveller nothingleft"
theorem ok_kind {f : Addr} {fd : FuncData} {k : Nat} (F : Fun K "_law_kind" "_law_kind" sKind f fd) (T : Kd K mg ec used cP cM) (mi : mg "isinstance" = none) (mz : mg "zip" = none) : FnPin P w K mg base (k + 1) f fd ["_law_e"] (spKind ec used) := by
  refine okPin F scKind fun cdv A outer s H vs Q p hot hr h => ?_
  obtain ⟨nm, dd, fs, hnm, rfl, hz, hd, hwd, q⟩ := h
  have hu := T.us nm hnm
  have hf : ∃ vs, p.2.data = .fields vs := by
    obtain ⟨_, v, e, _⟩ := hot
    exact ⟨v, e⟩
  have C := T.er nm hnm
  have hpm : p ∈ (cxH CX0 P w K mg base NK "_law_kind" (defScope sKind) f cdv A outer s H E0 p).pn := List.mem_cons_self
  have hotX : Hot1 (cxH CX0 P w K mg base NK "_law_kind" (defScope sKind) f cdv A outer s H E0 p).A p := hot
  have ci := call_isP (X := cxH CX0 P w K mg base NK "_law_kind" (defScope sKind) f cdv A outer s H E0 p) C hpm hz.zc hf
  refine ⟨_, pss_cons (ps_set (i := 1) scKind.nd rfl (.inl rfl) (pe_lst (pa_cons (pe_callB ci (by rfl) mi (by decide +kernel) (pa_cons (pv 0) (pa_cons (pe_glob (v := .ref (ec "BadMark")) rfl (T.g "BadMark" (by decide +kernel)) rfl) pa_nil)))
      (pa_cons (pe_callB ci (by rfl) mi (by decide +kernel) (pa_cons (pv 0) (pa_cons (pe_glob (v := .ref (ec "BadLetters")) rfl (T.g "BadLetters" (by decide +kernel)) rfl) pa_nil)))
      (pa_cons (pe_callB ci (by rfl) mi (by decide +kernel) (pa_cons (pv 0) (pa_cons (pe_glob (v := .ref (ec "BadRoom")) rfl (T.g "BadRoom" (by decide +kernel)) rfl) pa_nil))) pa_nil)))))
    (pss_cons (ps_set (i := 1) scKind.nd rfl (.inl rfl) (pe_op op_cat (pv 1) (pe_lst (pa_cons (pe_callB ci (by rfl) mi (by decide +kernel) (pa_cons (pv 0) (pa_cons (pe_glob (v := .ref (ec "BadArrow")) rfl (T.g "BadArrow" (by decide +kernel)) rfl) pa_nil))) (pa_cons (pe_callB ci (by rfl) mi (by decide +kernel) (pa_cons (pv 0) (pa_cons (pe_glob (v := .ref (ec "BadWord")) rfl (T.g "BadWord" (by decide +kernel)) rfl) pa_nil))) (pa_cons (pe_callB ci (by rfl) mi (by decide +kernel) (pa_cons (pv 0) (pa_cons (pe_glob (v := .ref (ec "BadSize")) rfl (T.g "BadSize" (by decide +kernel)) rfl) pa_nil))) pa_nil))))))
    (pss_cons (ps_set (i := 1) scKind.nd rfl (.inl rfl) (pe_op op_cat (pv 1) (pe_lst (pa_cons (pe_callB ci (by rfl) mi (by decide +kernel) (pa_cons (pv 0) (pa_cons (pe_glob (v := .ref (ec "BadPattern")) rfl (T.g "BadPattern" (by decide +kernel)) rfl) pa_nil))) (pa_cons (pe_callB ci (by rfl) mi (by decide +kernel) (pa_cons (pv 0) (pa_cons (pe_glob (v := .ref (ec "BadTable")) rfl (T.g "BadTable" (by decide +kernel)) rfl) pa_nil))) (pa_cons (pe_callB ci (by rfl) mi (by decide +kernel) (pa_cons (pv 0) (pa_cons (pe_glob (v := .ref (ec "BadTree")) rfl (T.g "BadTree" (by decide +kernel)) rfl) pa_nil))) pa_nil))))))
    (pss_cons (ps_set (i := 1) scKind.nd rfl (.inl rfl) (pe_op op_cat (pv 1) (pe_lst (pa_cons (pe_callB ci (by rfl) mi (by decide +kernel) (pa_cons (pv 0) (pa_cons (pe_glob (v := .ref (ec "BadText")) rfl (T.g "BadText" (by decide +kernel)) rfl) pa_nil))) (pa_cons (pe_callB ci (by rfl) mi (by decide +kernel) (pa_cons (pv 0) (pa_cons (pe_glob (v := .ref (ec "BadName")) rfl (T.g "BadName" (by decide +kernel)) rfl) pa_nil))) (pa_cons (pe_callB ci (by rfl) mi (by decide +kernel) (pa_cons (pv 0) (pa_cons (pe_glob (v := .ref (ec "BadDeed")) rfl (T.g "BadDeed" (by decide +kernel)) rfl) pa_nil))) pa_nil))))))
    (pss_cons (ps_set (i := 1) scKind.nd rfl (.inl rfl) (pe_op op_cat (pv 1) (pe_lst (pa_cons (pe_callB ci (by rfl) mi (by decide +kernel) (pa_cons (pv 0) (pa_cons (pe_glob (v := .ref (ec "BadPage")) rfl (T.g "BadPage" (by decide +kernel)) rfl) pa_nil))) (pa_cons (pe_callB ci (by rfl) mi (by decide +kernel) (pa_cons (pv 0) (pa_cons (pe_glob (v := .ref (ec "Taken")) rfl (T.g "Taken" (by decide +kernel)) rfl) pa_nil))) (pa_cons (pe_callB ci (by rfl) mi (by decide +kernel) (pa_cons (pv 0) (pa_cons (pe_glob (v := .ref (ec "Full")) rfl (T.g "Full" (by decide +kernel)) rfl) pa_nil))) pa_nil))))))
    (pss_cons (ps_set (i := 1) scKind.nd rfl (.inl rfl) (pe_op op_cat (pv 1) (pe_lst (pa_cons (pe_callB ci (by rfl) mi (by decide +kernel) (pa_cons (pv 0) (pa_cons (pe_glob (v := .ref (ec "Unlike")) rfl (T.g "Unlike" (by decide +kernel)) rfl) pa_nil))) (pa_cons (pe_callB ci (by rfl) mi (by decide +kernel) (pa_cons (pv 0) (pa_cons (pe_glob (v := .ref (ec "NotDear")) rfl (T.g "NotDear" (by decide +kernel)) rfl) pa_nil))) (pa_cons (pe_callB ci (by rfl) mi (by decide +kernel) (pa_cons (pv 0) (pa_cons (pe_glob (v := .ref (ec "InUse")) rfl (T.g "InUse" (by decide +kernel)) rfl) pa_nil))) pa_nil))))))
    (pss_cons (ps_set (i := 1) scKind.nd rfl (.inl rfl) (pe_op op_cat (pv 1) (pe_lst (pa_cons (pe_callB ci (by rfl) mi (by decide +kernel) (pa_cons (pv 0) (pa_cons (pe_glob (v := .ref (ec "TooWide")) rfl (T.g "TooWide" (by decide +kernel)) rfl) pa_nil))) (pa_cons (pe_callB ci (by rfl) mi (by decide +kernel) (pa_cons (pv 0) (pa_cons (pe_glob (v := .ref (ec "NoArrow")) rfl (T.g "NoArrow" (by decide +kernel)) rfl) pa_nil))) (pa_cons (pe_callB ci (by rfl) mi (by decide +kernel) (pa_cons (pv 0) (pa_cons (pe_glob (v := .ref (ec "NoName")) rfl (T.g "NoName" (by decide +kernel)) rfl) pa_nil))) pa_nil))))))
    (pss_cons (ps_set (i := 1) scKind.nd rfl (.inl rfl) (pe_op op_cat (pv 1) (pe_lst (pa_cons (pe_callB ci (by rfl) mi (by decide +kernel) (pa_cons (pv 0) (pa_cons (pe_glob (v := .ref (ec "NoTraveller")) rfl (T.g "NoTraveller" (by decide +kernel)) rfl) pa_nil))) (pa_cons (pe_callB ci (by rfl) mi (by decide +kernel) (pa_cons (pv 0) (pa_cons (pe_glob (v := .ref (ec "NothingLeft")) rfl (T.g "NothingLeft" (by decide +kernel)) rfl) pa_nil))) pa_nil)))))
    (pss_cons (ps_set (i := 2) scKind.nd rfl (.inl rfl) pe_str)
    (pss_cons (ps_set (i := 2) scKind.nd rfl (.inl rfl) (pe_op op_add_str (pv 2) pe_str))
    (pss_cons (ps_set (i := 2) scKind.nd rfl (.inl rfl) (pe_op op_add_str (pv 2) pe_str))
    (pss_cons (ps_set (i := 3) scKind.nd rfl (.inl rfl) (pe_join pe_str (pe_lcH (own := [("_law_one", 4), ("_law_here", 5)]) (g := gTup K 2 (gCons (gName 4) (gCons (gName 5) gNil))) (te := tVar 4) hotX hpm scKind.nd
        (pi_zipH (by rfl) mz (pa_cons (pe_split (pv 2) pe_str) (pa_cons (pv 1) pa_nil)))
        (blkOk_by (own := [("_law_one", 4), ("_law_here", 5)]) (N := NK) (sc := defScope sKind) (by decide +kernel))
        (fun _ _ _ _ _ => pg_tupH (n := 2) (hotBlk hotX) (pgs_cons (pg_name (i := 4) scKind.nd rfl (.inl rfl) (.inr rfl)) (pgs_cons (pg_name (i := 5) scKind.nd rfl (.inl rfl) (.inr rfl)) pgs_nil)))
        (fun _ _ _ _ _ => pts_one (pt_val (pv 5))) (fun _ _ _ _ _ => pv 4))))
    (pss_one (ps_ret (pe_ifExp (pt_cmpR op_eq (pe_fldP C (T.wd nm hnm) hpm hz.zc hf (pv 0)) (pv 3) (nomark _)) (pv 3) (pe_op op_add_str (pv 3) pe_str))))))))))))))), ?_⟩
  have dz : ∀ {Hx : Hp}, Same H Hx → Hx dd = some (.xd fs) := fun e => e _ _ hd
  -- the flags
  refine ⟨_, rfl, ec "BadMark", _, fs, rfl, hd, T.kit hnm (by decide +kernel), _, rfl, ec "BadLetters", _, fs, rfl, hd, T.kit hnm (by decide +kernel), _, rfl, ec "BadRoom", _, fs, rfl, hd, T.kit hnm (by decide +kernel), (by decide : 3 ≤ sizeLine), fun l0 n0 => ?_⟩
  have s0 := same_upd (o := .lst [.bl (("BadMark" : Str) == nm), .bl (("BadLetters" : Str) == nm), .bl (("BadRoom" : Str) == nm)]) n0
  refine ⟨_, rfl, _, rfl, ec "BadArrow", _, fs, rfl, dz s0, T.kit hnm (by decide +kernel), _, rfl, ec "BadWord", _, fs, rfl, dz s0, T.kit hnm (by decide +kernel), _, rfl, ec "BadSize", _, fs, rfl, dz s0, T.kit hnm (by decide +kernel), (by decide : 3 ≤ sizeLine), fun m0 k0 => ?_⟩
  have u0 := s0.trans (same_upd (o := .lst [.bl (("BadArrow" : Str) == nm), .bl (("BadWord" : Str) == nm), .bl (("BadSize" : Str) == nm)]) k0)
  refine ⟨l0, m0, [.bl (("BadMark" : Str) == nm), .bl (("BadLetters" : Str) == nm), .bl (("BadRoom" : Str) == nm)], [.bl (("BadArrow" : Str) == nm), .bl (("BadWord" : Str) == nm), .bl (("BadSize" : Str) == nm)], rfl, rfl, Eq.trans (upd_ne (ne_of_none upd_same k0)) upd_same, upd_same, (by show 6 ≤ sizeLine; decide), fun l1 n1 => ?_⟩
  have s1 := u0.trans (same_upd (o := .lst [.bl (("BadMark" : Str) == nm), .bl (("BadLetters" : Str) == nm), .bl (("BadRoom" : Str) == nm), .bl (("BadArrow" : Str) == nm), .bl (("BadWord" : Str) == nm), .bl (("BadSize" : Str) == nm)]) n1)
  refine ⟨_, rfl, _, rfl, ec "BadPattern", _, fs, rfl, dz s1, T.kit hnm (by decide +kernel), _, rfl, ec "BadTable", _, fs, rfl, dz s1, T.kit hnm (by decide +kernel), _, rfl, ec "BadTree", _, fs, rfl, dz s1, T.kit hnm (by decide +kernel), (by decide : 3 ≤ sizeLine), fun m1 k1 => ?_⟩
  have u1 := s1.trans (same_upd (o := .lst [.bl (("BadPattern" : Str) == nm), .bl (("BadTable" : Str) == nm), .bl (("BadTree" : Str) == nm)]) k1)
  refine ⟨l1, m1, [.bl (("BadMark" : Str) == nm), .bl (("BadLetters" : Str) == nm), .bl (("BadRoom" : Str) == nm), .bl (("BadArrow" : Str) == nm), .bl (("BadWord" : Str) == nm), .bl (("BadSize" : Str) == nm)], [.bl (("BadPattern" : Str) == nm), .bl (("BadTable" : Str) == nm), .bl (("BadTree" : Str) == nm)], rfl, rfl, Eq.trans (upd_ne (ne_of_none upd_same k1)) upd_same, upd_same, (by show 9 ≤ sizeLine; decide), fun l2 n2 => ?_⟩
  have s2 := u1.trans (same_upd (o := .lst [.bl (("BadMark" : Str) == nm), .bl (("BadLetters" : Str) == nm), .bl (("BadRoom" : Str) == nm), .bl (("BadArrow" : Str) == nm), .bl (("BadWord" : Str) == nm), .bl (("BadSize" : Str) == nm), .bl (("BadPattern" : Str) == nm), .bl (("BadTable" : Str) == nm), .bl (("BadTree" : Str) == nm)]) n2)
  refine ⟨_, rfl, _, rfl, ec "BadText", _, fs, rfl, dz s2, T.kit hnm (by decide +kernel), _, rfl, ec "BadName", _, fs, rfl, dz s2, T.kit hnm (by decide +kernel), _, rfl, ec "BadDeed", _, fs, rfl, dz s2, T.kit hnm (by decide +kernel), (by decide : 3 ≤ sizeLine), fun m2 k2 => ?_⟩
  have u2 := s2.trans (same_upd (o := .lst [.bl (("BadText" : Str) == nm), .bl (("BadName" : Str) == nm), .bl (("BadDeed" : Str) == nm)]) k2)
  refine ⟨l2, m2, [.bl (("BadMark" : Str) == nm), .bl (("BadLetters" : Str) == nm), .bl (("BadRoom" : Str) == nm), .bl (("BadArrow" : Str) == nm), .bl (("BadWord" : Str) == nm), .bl (("BadSize" : Str) == nm), .bl (("BadPattern" : Str) == nm), .bl (("BadTable" : Str) == nm), .bl (("BadTree" : Str) == nm)], [.bl (("BadText" : Str) == nm), .bl (("BadName" : Str) == nm), .bl (("BadDeed" : Str) == nm)], rfl, rfl, Eq.trans (upd_ne (ne_of_none upd_same k2)) upd_same, upd_same, (by show 12 ≤ sizeLine; decide), fun l3 n3 => ?_⟩
  have s3 := u2.trans (same_upd (o := .lst [.bl (("BadMark" : Str) == nm), .bl (("BadLetters" : Str) == nm), .bl (("BadRoom" : Str) == nm), .bl (("BadArrow" : Str) == nm), .bl (("BadWord" : Str) == nm), .bl (("BadSize" : Str) == nm), .bl (("BadPattern" : Str) == nm), .bl (("BadTable" : Str) == nm), .bl (("BadTree" : Str) == nm), .bl (("BadText" : Str) == nm), .bl (("BadName" : Str) == nm), .bl (("BadDeed" : Str) == nm)]) n3)
  refine ⟨_, rfl, _, rfl, ec "BadPage", _, fs, rfl, dz s3, T.kit hnm (by decide +kernel), _, rfl, ec "Taken", _, fs, rfl, dz s3, T.kit hnm (by decide +kernel), _, rfl, ec "Full", _, fs, rfl, dz s3, T.kit hnm (by decide +kernel), (by decide : 3 ≤ sizeLine), fun m3 k3 => ?_⟩
  have u3 := s3.trans (same_upd (o := .lst [.bl (("BadPage" : Str) == nm), .bl (("Taken" : Str) == nm), .bl (("Full" : Str) == nm)]) k3)
  refine ⟨l3, m3, [.bl (("BadMark" : Str) == nm), .bl (("BadLetters" : Str) == nm), .bl (("BadRoom" : Str) == nm), .bl (("BadArrow" : Str) == nm), .bl (("BadWord" : Str) == nm), .bl (("BadSize" : Str) == nm), .bl (("BadPattern" : Str) == nm), .bl (("BadTable" : Str) == nm), .bl (("BadTree" : Str) == nm), .bl (("BadText" : Str) == nm), .bl (("BadName" : Str) == nm), .bl (("BadDeed" : Str) == nm)], [.bl (("BadPage" : Str) == nm), .bl (("Taken" : Str) == nm), .bl (("Full" : Str) == nm)], rfl, rfl, Eq.trans (upd_ne (ne_of_none upd_same k3)) upd_same, upd_same, (by show 15 ≤ sizeLine; decide), fun l4 n4 => ?_⟩
  have s4 := u3.trans (same_upd (o := .lst [.bl (("BadMark" : Str) == nm), .bl (("BadLetters" : Str) == nm), .bl (("BadRoom" : Str) == nm), .bl (("BadArrow" : Str) == nm), .bl (("BadWord" : Str) == nm), .bl (("BadSize" : Str) == nm), .bl (("BadPattern" : Str) == nm), .bl (("BadTable" : Str) == nm), .bl (("BadTree" : Str) == nm), .bl (("BadText" : Str) == nm), .bl (("BadName" : Str) == nm), .bl (("BadDeed" : Str) == nm), .bl (("BadPage" : Str) == nm), .bl (("Taken" : Str) == nm), .bl (("Full" : Str) == nm)]) n4)
  refine ⟨_, rfl, _, rfl, ec "Unlike", _, fs, rfl, dz s4, T.kit hnm (by decide +kernel), _, rfl, ec "NotDear", _, fs, rfl, dz s4, T.kit hnm (by decide +kernel), _, rfl, ec "InUse", _, fs, rfl, dz s4, T.kit hnm (by decide +kernel), (by decide : 3 ≤ sizeLine), fun m4 k4 => ?_⟩
  have u4 := s4.trans (same_upd (o := .lst [.bl (("Unlike" : Str) == nm), .bl (("NotDear" : Str) == nm), .bl (("InUse" : Str) == nm)]) k4)
  refine ⟨l4, m4, [.bl (("BadMark" : Str) == nm), .bl (("BadLetters" : Str) == nm), .bl (("BadRoom" : Str) == nm), .bl (("BadArrow" : Str) == nm), .bl (("BadWord" : Str) == nm), .bl (("BadSize" : Str) == nm), .bl (("BadPattern" : Str) == nm), .bl (("BadTable" : Str) == nm), .bl (("BadTree" : Str) == nm), .bl (("BadText" : Str) == nm), .bl (("BadName" : Str) == nm), .bl (("BadDeed" : Str) == nm), .bl (("BadPage" : Str) == nm), .bl (("Taken" : Str) == nm), .bl (("Full" : Str) == nm)], [.bl (("Unlike" : Str) == nm), .bl (("NotDear" : Str) == nm), .bl (("InUse" : Str) == nm)], rfl, rfl, Eq.trans (upd_ne (ne_of_none upd_same k4)) upd_same, upd_same, (by show 18 ≤ sizeLine; decide), fun l5 n5 => ?_⟩
  have s5 := u4.trans (same_upd (o := .lst [.bl (("BadMark" : Str) == nm), .bl (("BadLetters" : Str) == nm), .bl (("BadRoom" : Str) == nm), .bl (("BadArrow" : Str) == nm), .bl (("BadWord" : Str) == nm), .bl (("BadSize" : Str) == nm), .bl (("BadPattern" : Str) == nm), .bl (("BadTable" : Str) == nm), .bl (("BadTree" : Str) == nm), .bl (("BadText" : Str) == nm), .bl (("BadName" : Str) == nm), .bl (("BadDeed" : Str) == nm), .bl (("BadPage" : Str) == nm), .bl (("Taken" : Str) == nm), .bl (("Full" : Str) == nm), .bl (("Unlike" : Str) == nm), .bl (("NotDear" : Str) == nm), .bl (("InUse" : Str) == nm)]) n5)
  refine ⟨_, rfl, _, rfl, ec "TooWide", _, fs, rfl, dz s5, T.kit hnm (by decide +kernel), _, rfl, ec "NoArrow", _, fs, rfl, dz s5, T.kit hnm (by decide +kernel), _, rfl, ec "NoName", _, fs, rfl, dz s5, T.kit hnm (by decide +kernel), (by decide : 3 ≤ sizeLine), fun m5 k5 => ?_⟩
  have u5 := s5.trans (same_upd (o := .lst [.bl (("TooWide" : Str) == nm), .bl (("NoArrow" : Str) == nm), .bl (("NoName" : Str) == nm)]) k5)
  refine ⟨l5, m5, [.bl (("BadMark" : Str) == nm), .bl (("BadLetters" : Str) == nm), .bl (("BadRoom" : Str) == nm), .bl (("BadArrow" : Str) == nm), .bl (("BadWord" : Str) == nm), .bl (("BadSize" : Str) == nm), .bl (("BadPattern" : Str) == nm), .bl (("BadTable" : Str) == nm), .bl (("BadTree" : Str) == nm), .bl (("BadText" : Str) == nm), .bl (("BadName" : Str) == nm), .bl (("BadDeed" : Str) == nm), .bl (("BadPage" : Str) == nm), .bl (("Taken" : Str) == nm), .bl (("Full" : Str) == nm), .bl (("Unlike" : Str) == nm), .bl (("NotDear" : Str) == nm), .bl (("InUse" : Str) == nm)], [.bl (("TooWide" : Str) == nm), .bl (("NoArrow" : Str) == nm), .bl (("NoName" : Str) == nm)], rfl, rfl, Eq.trans (upd_ne (ne_of_none upd_same k5)) upd_same, upd_same, (by show 21 ≤ sizeLine; decide), fun l6 n6 => ?_⟩
  have s6 := u5.trans (same_upd (o := .lst [.bl (("BadMark" : Str) == nm), .bl (("BadLetters" : Str) == nm), .bl (("BadRoom" : Str) == nm), .bl (("BadArrow" : Str) == nm), .bl (("BadWord" : Str) == nm), .bl (("BadSize" : Str) == nm), .bl (("BadPattern" : Str) == nm), .bl (("BadTable" : Str) == nm), .bl (("BadTree" : Str) == nm), .bl (("BadText" : Str) == nm), .bl (("BadName" : Str) == nm), .bl (("BadDeed" : Str) == nm), .bl (("BadPage" : Str) == nm), .bl (("Taken" : Str) == nm), .bl (("Full" : Str) == nm), .bl (("Unlike" : Str) == nm), .bl (("NotDear" : Str) == nm), .bl (("InUse" : Str) == nm), .bl (("TooWide" : Str) == nm), .bl (("NoArrow" : Str) == nm), .bl (("NoName" : Str) == nm)]) n6)
  refine ⟨_, rfl, _, rfl, ec "NoTraveller", _, fs, rfl, dz s6, T.kit hnm (by decide +kernel), _, rfl, ec "NothingLeft", _, fs, rfl, dz s6, T.kit hnm (by decide +kernel), (by decide : 2 ≤ sizeLine), fun m6 k6 => ?_⟩
  have u6 := s6.trans (same_upd (o := .lst [.bl (("NoTraveller" : Str) == nm), .bl (("NothingLeft" : Str) == nm)]) k6)
  refine ⟨l6, m6, [.bl (("BadMark" : Str) == nm), .bl (("BadLetters" : Str) == nm), .bl (("BadRoom" : Str) == nm), .bl (("BadArrow" : Str) == nm), .bl (("BadWord" : Str) == nm), .bl (("BadSize" : Str) == nm), .bl (("BadPattern" : Str) == nm), .bl (("BadTable" : Str) == nm), .bl (("BadTree" : Str) == nm), .bl (("BadText" : Str) == nm), .bl (("BadName" : Str) == nm), .bl (("BadDeed" : Str) == nm), .bl (("BadPage" : Str) == nm), .bl (("Taken" : Str) == nm), .bl (("Full" : Str) == nm), .bl (("Unlike" : Str) == nm), .bl (("NotDear" : Str) == nm), .bl (("InUse" : Str) == nm), .bl (("TooWide" : Str) == nm), .bl (("NoArrow" : Str) == nm), .bl (("NoName" : Str) == nm)], [.bl (("NoTraveller" : Str) == nm), .bl (("NothingLeft" : Str) == nm)], rfl, rfl, Eq.trans (upd_ne (ne_of_none upd_same k6)) upd_same, upd_same, (by show 23 ≤ sizeLine; decide), fun l7 n7 => ?_⟩
  have s7 := u6.trans (same_upd (o := .lst [.bl (("BadMark" : Str) == nm), .bl (("BadLetters" : Str) == nm), .bl (("BadRoom" : Str) == nm), .bl (("BadArrow" : Str) == nm), .bl (("BadWord" : Str) == nm), .bl (("BadSize" : Str) == nm), .bl (("BadPattern" : Str) == nm), .bl (("BadTable" : Str) == nm), .bl (("BadTree" : Str) == nm), .bl (("BadText" : Str) == nm), .bl (("BadName" : Str) == nm), .bl (("BadDeed" : Str) == nm), .bl (("BadPage" : Str) == nm), .bl (("Taken" : Str) == nm), .bl (("Full" : Str) == nm), .bl (("Unlike" : Str) == nm), .bl (("NotDear" : Str) == nm), .bl (("InUse" : Str) == nm), .bl (("TooWide" : Str) == nm), .bl (("NoArrow" : Str) == nm), .bl (("NoName" : Str) == nm), .bl (("NoTraveller" : Str) == nm), .bl (("NothingLeft" : Str) == nm)]) n7)
  -- the words
  refine ⟨_, rfl, _, _, rfl, rfl, by decide +kernel, ?_⟩
  refine ⟨_, rfl, _, _, rfl, rfl, by decide +kernel, ?_⟩
  -- '+'.join([.. for .. in zip(words.split(' '), flags) if ..])
  refine ⟨⟨_, rfl⟩, _, rfl, ⟨_, rfl⟩, allW, " ", ?_, rfl, by decide +kernel, by decide +kernel, fun wl nwl => ?_⟩
  · exact congrArg V.str (by decide +kernel)
  have esp : Txt.split allW " " = errWords := by decide +kernel
  rw [esp]
  have sw := s7.trans (same_upd (o := .lst (errWords.map V.str)) nwl)
  have nlw : l7 ≠ wl := ne_of_none upd_same nwl
  refine ⟨_, rfl, wl, l7, errWords.map V.str, (errNames.map (· == nm)).map V.bl, rfl, SqL.of upd_same, SqL.of (by rw [upd_ne nlw, upd_same]; rfl), fun D nD => ?_⟩
  have nDw : wl ≠ D := ne_of_none upd_same nD
  have nDl : l7 ≠ D := by
    refine ne_of_none (o := .lst ((errNames.map (· == nm)).map V.bl)) ?_ nD
    rw [upd_ne nlw, upd_same]
    rfl
  refine lc_zip1 (xs := errWords.map V.str) (ys := (errNames.map (· == nm)).map V.bl) (by rw [List.length_map, List.length_map, List.length_map]; decide) (fun i H' => Same H H' ∧ H' wl = some (.lst (errWords.map V.str)) ∧ H' l7 = some (.lst ((errNames.map (· == nm)).map V.bl)) ∧ H D = none ∧
      H' D = some (.lst (((((errWords.zip (errNames.map (· == nm))).take i).filter (·.2)).map (·.1)).map V.str)))
    ⟨sw.trans (same_upd nD), by rw [upd_ne nDw, upd_same], by rw [upd_ne nDl, upd_ne nlw, upd_same]; rfl, sw.free nD, upd_same⟩ (fun i H' ⟨_, h1, h2, _⟩ => ⟨SqL.of h1, SqL.of h2⟩) ?_ ?_
  · rintro i x y t Hx hx hy ⟨sm, h1, h2, fD, h3⟩ nt
    obtain ⟨wi, ewi, rfl⟩ : ∃ wi, errWords[i]? = some wi ∧ x = .str wi := by
      rw [List.getElem?_map] at hx
      cases e : errWords[i]? with
      | none => rw [e] at hx; cases hx
      | some u => rw [e] at hx; exact ⟨u, rfl, (Option.some.inj hx).symm⟩
    obtain ⟨bi, ebi, rfl⟩ : ∃ bi, (errNames.map (· == nm))[i]? = some bi ∧ y = .bl bi := by
      rw [List.getElem?_map] at hy
      cases e : (errNames.map (· == nm))[i]? with
      | none => rw [e] at hy; cases hy
      | some u => rw [e] at hy; exact ⟨u, rfl, (Option.some.inj hy).symm⟩
    have ez : (errWords.zip (errNames.map (· == nm)))[i]? = some (wi, bi) := by
      rw [List.getElem?_zip_eq_some]
      exact ⟨ewi, ebi⟩
    have et : (errWords.zip (errNames.map (· == nm))).take (i + 1) = (errWords.zip (errNames.map (· == nm))).take i ++ [(wi, bi)] := by rw [List.take_add_one, ez]; rfl
    have st : Same Hx (upd Hx t (.tup [.str wi, .bl bi])) := same_upd nt
    refine ⟨t, _, rfl, SqT.of upd_same, rfl, _, _, rfl, _, _, rfl, rfl, rfl, _, rfl, bi, rfl, ?_⟩
    cases bi with
    | true =>
      rw [if_pos rfl]
      refine ⟨_, rfl, _, st _ _ h3, ?_, ?_⟩
      · rw [List.length_map, List.length_map]
        refine Nat.lt_of_le_of_lt (List.length_filter_le _ _) ?_
        rw [List.length_take]
        rw [List.length_zip]
        exact Nat.lt_of_le_of_lt (Nat.le_trans (Nat.min_le_right _ _) (Nat.min_le_left _ _)) (by decide +kernel)
      · refine ⟨fun b o e => ?_, ?_, ?_, fD, ?_⟩
        · rw [upd_ne (ne_of_none e fD)]
          exact st _ _ (sm _ _ e)
        · rw [upd_ne nDw]
          exact st _ _ h1
        · rw [upd_ne nDl]
          exact st _ _ h2
        · rw [upd_same, et, List.filter_append, List.map_append, List.map_append]
          rfl
    | false =>
      rw [if_neg (by decide)]
      refine ⟨sm.trans st, st _ _ h1, st _ _ h2, fD, ?_⟩
      rw [et, List.filter_append, show List.filter (fun x : Str × Bool => x.2) [(wi, false)] = [] from rfl, List.append_nil]
      exact st _ _ h3
  · rintro Hx ⟨sm, h1, h2, fD, h3⟩
    have ep : ((((errWords.zip (errNames.map (· == nm))).take (errWords.map V.str).length).filter (·.2)).map (·.1)) = [wordOf nm] := by
      rw [List.take_of_length_le (by rw [List.length_map, List.length_zip]; omega)]
      exact pick_one nm hu
    rw [ep] at h3
    refine ⟨_, D, [wordOf nm], rfl, rfl, .inl (SqL.of h3), ?_, ?_⟩
    · show (wordOf nm).length + 0 + 1 * 1 ≤ 16777216
      have := word_len nm hu
      omega
    · rw [join_one nm hu]
      refine ⟨_, rfl, rfl, fs, _, sm _ _ hd, hwd, _, rfl, rfl, _, rfl, ?_⟩
      rw [decide_eq_true rfl]
      exact iteT ⟨_, rfl, q _ sm⟩
end
end Onp
set_option maxHeartbeats 8000000
set_option autoImplicit false
namespace Onp
open PySem PySem.Spec PyProof.Rows L2 HotX L2H LamX
def NT : List Str := ["_law_ask", "_law_e"]
theorem scTold : FnScope NT ["_law_ask"] (defScope sTold) := ⟨rfl, rfl, rfl, by decide +kernel, rfl, by decide +kernel, by decide +kernel⟩
/-- what is told of a refusal besides its word -/
def secV (nm : Str) (fs : List (Str × V)) : V := if nm = "TooWide" then (fs.lookup ("most" : Str)).getD .non else .non
def Eh (ec : Str → Addr) (used : List Str) (Q : VK) : XK := fun cls d H' => ∃ (nm : Str) (dd : Addr) (fs : List (Str × V)), nm ∈ used ∧ cls = .ref (ec nm) ∧ d = some dd ∧ H' dd = some (.xd fs) ∧ fs.lookup ("word" : Str) = some (V.str (wordOf nm)) ∧
  (nm = "TooWide" → ∃ v, fs.lookup ("most" : Str) = some v) ∧ ∀ H'' p, Same H' H'' → H'' p = none → Q (.ref p) (upd H'' p (.tup [.str (wordOf nm), secV nm fs]))
def TTold (ec : Str → Addr) (used : List Str) : (XK → Hp → VK → Prop) → Hp → VK → Prop := fun tl H Q => tl (Eh ec used Q) H (fun v H' => ∀ p, H' p = none → Q (.ref p) (upd H' p (.tup [.str "told", v])))
/-- a clause's suite -/
def tsE (ec : Str → Addr) (used : List Str) (ok : Str → Prop) : Addr → Value → Option Addr → TS := fun a cls d D σ H => ∃ (nm : Str) (dd : Addr) (fs : List (Str × V)), ok nm ∧ nm ∈ used ∧ cls = .ref (ec nm) ∧ d = some dd ∧ σ[1]? = some (some (.ref a)) ∧ H dd = some (.xd fs) ∧ fs.lookup ("word" : Str) = some (V.str (wordOf nm)) ∧
  (nm = "TooWide" → ∃ v, fs.lookup ("most" : Str) = some v) ∧ ∀ H'' p, Same H H'' → H'' p = none → D.rt (.ref p) (upd H'' p (.tup [.str (wordOf nm), secV nm fs]))
section
variable {X : Cx} {ec : Str → Addr} {used : List Str} {cP cM : Addr}
abbrev toldX (X : Cx) (g : Addr) (cdg : Value) (s : Shared) (H : Hp) : Cx := (cxOf CX0 X.prog X.w X.K X.mg X.base NT "_law_told" (defScope sTold) g cdg X.A X.stack s H E0).nox
theorem suite_none {k : Nat} {g fK : Addr} {cdg : Value} {fdK : FuncData} {s : Shared} {H : Hp} {a : Addr} {oe : Obj} {cls : Value} {d : Option Addr} {pn : List (Addr × Obj)} {p1 p2 p3 p4 p5 p6 : Pos} (GK : FnPin X.prog X.w X.K X.mg X.base (k + 1) fK fdK ["_law_e"] (spKind ec used)) (hr : Room (k + 1) (X.A.deeper (envOfC "_law_told" (defScope sTold) s.heap.objs.size g cdg)))
    (FK : Fun X.K "_law_kind" "_law_kind" sKind fK fdK) (bK : Binds X.K fdK ["_law_e"] []) (gK : X.mg "_law_kind" = some (.ref fK)) (hz : L2N.Zn cls d oe) (hf : ∃ vs, oe.data = .fields vs) :
    PSs ((toldX X g cdg s H).suite a ((a, oe) :: pn)) [.Return (some (.Tuple [.Call (.Name "_law_kind" p1) [.Name "_law_e" p2] [] p3, .Constant .none 0 p4] 0 p5)) p6] (tsE ec used (fun nm => nm ≠ "TooWide") a cls d) := by
  refine ⟨fun pins s' σ H' D I h' => ?_⟩
  obtain ⟨nm, dd, fs, ho, hu, rfl, rfl, h1, h2, h3, h4, h5⟩ := h'
  obtain ⟨vs, hv⟩ := hf
  have hot : Hot1 ((toldX X g cdg s H).suite a ((a, oe) :: pn)).A (a, oe) := ⟨rfl, vs, hv, hz.2.2 vs hv⟩
  have hrun : PSs ((toldX X g cdg s H).suite a ((a, oe) :: pn)) [.Return (some (.Tuple [.Call (.Name "_law_kind" p1) [.Name "_law_e" p2] [] p3, .Constant .none 0 p4] 0 p5)) p6] _ :=
    pss_one (ps_ret (pe_tup (pa_cons (pe_callPin (p := (a, oe)) GK ⟨hr.dp, hr.un⟩ hot List.mem_cons_self (by rfl) gK FK.kp bK (pa_cons (pv 1) pa_nil)) (pa_cons pe_non pa_nil))))
  refine hrun.run pins s' σ H' D I ⟨_, h1, rfl, nm, dd, fs, hu, rfl, hz, h2, h3, fun H2 sm => ⟨(by decide : 2 ≤ sizeLine), fun p np => ?_⟩⟩
  have e := h5 H2 p sm np
  unfold secV at e
  rw [if_neg ho] at e
  exact e
theorem suite_most {k : Nat} {g fK : Addr} {cdg : Value} {fdK : FuncData} {s : Shared} {H : Hp} {a : Addr} {oe : Obj} {cls : Value} {d : Option Addr} {pn : List (Addr × Obj)} {p1 p2 p3 p4 p5 p6 p7 : Pos} (GK : FnPin X.prog X.w X.K X.mg X.base (k + 1) fK fdK ["_law_e"] (spKind ec used)) (hr : Room (k + 1) (X.A.deeper (envOfC "_law_told" (defScope sTold) s.heap.objs.size g cdg)))
    (FK : Fun X.K "_law_kind" "_law_kind" sKind fK fdK) (bK : Binds X.K fdK ["_law_e"] []) (gK : X.mg "_law_kind" = some (.ref fK)) (T : Kd X.K X.mg ec used cP cM) (mo : ("TooWide" : Str) ∈ used → PySem.W.findIn X.K (.ref (ec "TooWide")) "most" = some none) (hz : L2N.Zn cls d oe) (hf : ∃ vs, oe.data = .fields vs) :
    PSs ((toldX X g cdg s H).suite a ((a, oe) :: pn)) [.Return (some (.Tuple [.Call (.Name "_law_kind" p1) [.Name "_law_e" p2] [] p3, .Attribute (.Name "_law_e" p4) "most" p5] 0 p6)) p7] (tsE ec used (fun nm => nm = "TooWide") a cls d) := by
  refine ⟨fun pins s' σ H' D I h' => ?_⟩
  obtain ⟨nm, dd, fs, ho, hu, rfl, rfl, h1, h2, h3, h4, h5⟩ := h'
  obtain ⟨vs, hv⟩ := hf
  subst ho
  obtain ⟨v, ev⟩ := h4 rfl
  have hot : Hot1 ((toldX X g cdg s H).suite a ((a, oe) :: pn)).A (a, oe) := ⟨rfl, vs, hv, hz.2.2 vs hv⟩
  have hrun : PSs ((toldX X g cdg s H).suite a ((a, oe) :: pn)) [.Return (some (.Tuple [.Call (.Name "_law_kind" p1) [.Name "_law_e" p2] [] p3, .Attribute (.Name "_law_e" p4) "most" p5] 0 p6)) p7] _ :=
    pss_one (ps_ret (pe_tup (pa_cons (pe_callPin (p := (a, oe)) GK ⟨hr.dp, hr.un⟩ hot List.mem_cons_self (by rfl) gK FK.kp bK (pa_cons (pv 1) pa_nil)) (pa_cons (pe_fldP (p := (a, oe)) (T.er _ hu) (mo hu) List.mem_cons_self hz.zc ⟨vs, hv⟩ (pv 1)) pa_nil))))
  refine hrun.run pins s' σ H' D I ⟨_, h1, rfl, "TooWide", dd, fs, hu, rfl, hz, h2, h3, fun H2 sm => ⟨_, h1, rfl, fs, v, sm _ _ h2, ev, (by decide : 2 ≤ sizeLine), fun p np => ?_⟩⟩
  have e := h5 H2 p sm np
  unfold secV at e
  rw [if_pos rfl, ev] at e
  exact e
theorem body_told {g f c' : Addr} {cdg : Value} {s : Shared} {H : Hp} {q : Str} {W : WX} {pn : List (Addr × Obj)} {xe : Value → Shared → Prop} {tl : XK → Hp → VK → Prop} {p0 p1 p2 p3 p4 : Pos}
    (act : ∀ (E : XK), (∀ cls d σ' H', E cls d H' → W cls d σ' H') → PE ((toldX X g cdg s H).tr pn xe) (.Call (.Name "_law_ask" p1) [] [] p2) (fun σZ HZ Q => σZ[0]? = some (some (.ref f)) ∧ HZ c' = some (CodeO c' q) ∧ tl E HZ Q)) :
    PSs ((toldX X g cdg s H).tr pn xe) [.Return (some (.Tuple [.Constant (.str "told") 0 p0, .Call (.Name "_law_ask" p1) [] [] p2] 0 p3)) p4]
      (fun D σ H => ∃ Ech : XK, (∀ cls d σ' H', Ech cls d H' → W cls d σ' H') ∧ σ[0]? = some (some (.ref f)) ∧ H c' = some (CodeO c' q) ∧ tl Ech H (fun v H' => (2 : Nat) ≤ sizeLine ∧ ∀ p, H' p = none → D.rt (.ref p) (upd H' p (.tup [.str "told", v])))) := by
  refine ⟨fun pins s' σ H' D I h' => ?_⟩
  obtain ⟨Ech, hW, h1, h2, h3⟩ := h'
  have hrun : PSs ((toldX X g cdg s H).tr pn xe) [.Return (some (.Tuple [.Constant (.str "told") 0 p0, .Call (.Name "_law_ask" p1) [] [] p2] 0 p3)) p4] _ := pss_one (ps_ret (pe_tup (pa_cons pe_str (pa_cons (act Ech hW) pa_nil))))
  exact hrun.run pins s' σ H' D I ⟨h1, h2, h3⟩
theorem told_gives {k : Nat} {g fK : Addr} {cdg : Value} {fdK : FuncData} {q : Str} (T : Kd X.K X.mg ec used cP cM) (nb : ("BadText" : Str) ∉ used ∧ ("BadPage" : Str) ∉ used) (mo : ("TooWide" : Str) ∈ used → PySem.W.findIn X.K (.ref (ec "TooWide")) "most" = some none)
    (FK : Fun X.K "_law_kind" "_law_kind" sKind fK fdK) (bK : Binds X.K fdK ["_law_e"] []) (gK : X.mg "_law_kind" = some (.ref fK)) (mi : X.mg "isinstance" = none) (mz : X.mg "zip" = none) :
    GivesN X k NT "_law_told" (defScope sTold) g cdg (defBody sTold) "_law_ask" q (TTold ec used) := by
  intro f c' s H Q tl hr act hc h
  have GK : FnPin X.prog X.w X.K X.mg X.base (k + 1) fK fdK ["_law_e"] (spKind ec used) := ok_kind FK T mi mz
  refine ⟨_, pss_one (ps_try_clauses (X := toldX X g cdg s H) (n := "_law_e") (i := 1) (Wout := fun _ _ _ _ => False)
      (tb := fun W D σ H => ∃ Ech : XK, (∀ cls d σ' H', Ech cls d H' → W cls d σ' H') ∧ σ[0]? = some (some (.ref f)) ∧ H c' = some (CodeO c' q) ∧ tl Ech H (fun v H' => (2 : Nat) ≤ sizeLine ∧ ∀ p, H' p = none → D.rt (.ref p) (upd H' p (.tup [.str "told", v]))))
      (l := [(fun cls => PySem.W.exmOne X.K cls (.ref (ec "BadText")), fun _ _ _ => tNever), (fun cls => PySem.W.exmOne X.K cls (.ref (ec "BadPage")), fun _ _ _ => tNever), (fun cls => PySem.W.exmOne X.K cls (.ref (ec "TooWide")), tsE ec used (fun nm => nm = "TooWide")),
        (fun cls => PySem.W.exmAny X.K cls [.ref cP, .ref cM, .ref (ec "NothingLeft")], tsE ec used (fun nm => nm ≠ "TooWide"))])
      rfl rfl scTold.nd rfl rfl takes0N (fun W pn xe tk _ => body_told fun E hW => act W pn xe E _ _ tk hW)
      (.cons (test_name rfl (by decide) (T.g "BadText" (by decide +kernel))) (fun _ _ _ _ _ _ _ => pss_never)
      (.cons (test_name rfl (by decide) (T.g "BadPage" (by decide +kernel))) (fun _ _ _ _ _ _ _ => pss_never)
      (.cons (test_name rfl (by decide) (T.g "TooWide" (by decide +kernel))) (fun a oe cls d pn hz hf => suite_most GK hr FK bK gK T mo hz hf)
      (.cons (test_three rfl rfl rfl (by decide) (by decide) (by decide) T.gP T.gM (T.g "NothingLeft" (by decide +kernel))) (fun a oe cls d pn hz hf => suite_none GK hr FK bK gK hz hf) .nil))))), ?_⟩
  have e : (fun (v : V) (H' : Hp) => (2 : Nat) ≤ sizeLine ∧ ∀ p, H' p = none → Q (.ref p) (upd H' p (.tup [.str "told", v]))) = (fun v H' => ∀ p, H' p = none → Q (.ref p) (upd H' p (.tup [.str "told", v]))) := by
    funext v H'
    exact propext ⟨fun z => z.2, fun z => ⟨by decide, z⟩⟩
  refine ⟨Eh ec used Q, fun cls d σ' H' hE hlen => ?_, rfl, hc, by rw [e]; exact h⟩
  obtain ⟨nm, dd, fs, hu, rfl, rfl, h2, h3, h4, h5⟩ := hE
  have n1 : (("BadText" : Str) == nm) = false := beq_eq_false_iff_ne.mpr fun e => nb.1 (e ▸ hu)
  have n2 : (("BadPage" : Str) == nm) = false := beq_eq_false_iff_ne.mpr fun e => nb.2 (e ▸ hu)
  have x1 := T.exm hu (y := "BadText") (by decide +kernel) (by decide +kernel)
  have x2 := T.exm hu (y := "BadPage") (by decide +kernel) (by decide +kernel)
  have x3 := T.exm hu (y := "TooWide") (by decide +kernel) (by decide +kernel)
  rw [n1] at x1
  rw [n2] at x2
  have sl : ∀ (z : V), (σ'.set 1 (some z))[1]? = some (some z) := fun z => by
    have hl : σ'.length = 2 := hlen
    rw [List.getElem?_set_self (by omega)]
  refine ⟨false, x1, fun z => Bool.noConfusion z, fun _ => ⟨false, x2, fun z => Bool.noConfusion z, fun _ => ⟨_, x3, fun e a na => ?_, fun e => ⟨true, T.any nm hu, fun _ a na => ?_, fun z => Bool.noConfusion z⟩⟩⟩⟩
  · exact ⟨nm, dd, fs, (beq_iff_eq.mp e).symm, hu, rfl, rfl, sl _, h2, h3, h4, h5⟩
  · have ee : nm ≠ "TooWide" := fun z => by
      rw [z, beq_self_eq_true] at e
      exact Bool.noConfusion e
    exact ⟨nm, dd, fs, ee, hu, rfl, rfl, sl _, h2, h3, h4, h5⟩
end
end Onp
set_option maxHeartbeats 8000000
set_option autoImplicit false
namespace Onp
open PySem PySem.Spec PyProof.Rows L2
abbrev sSame : Stmt := topS 40
/-! ### data -/
def Lvl : Nat → PyData → Prop
  | _, .none => True
  | _, .bool _ => True
  | _, .int _ => True
  | _, .str _ => True
  | n + 1, .list ds => ds.length ≤ 1000 ∧ ∀ d ∈ ds, Lvl n d
  | n + 1, .tuple ds => ds.length ≤ 1000 ∧ ∀ d ∈ ds, Lvl n d
  | _, _ => False
mutual
theorem dpSame {K : PySem.W.Frag} {H H' : Hp} (e : Same H H') : ∀ {v : V} {d : PyData}, Dp K H v d → Dp K H' v d
  | _, _, .non => .non
  | _, _, .bl b => .bl b
  | _, _, .int i => .int i
  | _, _, .str x => .str x
  | _, _, .lst h a => .lst (e.seq h) (dpAllSame e a)
  | _, _, .tup h a => .tup (same_seqT e h) (dpAllSame e a)
theorem dpAllSame {K : PySem.W.Frag} {H H' : Hp} (e : Same H H') : ∀ {vs : List V} {ds : List PyData}, DpAll K H vs ds → DpAll K H' vs ds
  | _, _, .nil => .nil
  | _, _, .cons a b => .cons (dpSame e a) (dpAllSame e b)
end
theorem dpLen {K : PySem.W.Frag} {H : Hp} : ∀ {vs : List V} {ds : List PyData}, DpAll K H vs ds → vs.length = ds.length
  | _, _, .nil => rfl
  | _, _, .cons _ b => by rw [List.length_cons, List.length_cons, dpLen b]
theorem dpAt {K : PySem.W.Frag} {H : Hp} : ∀ {vs : List V} {ds : List PyData} {i : Nat} {v : V}, DpAll K H vs ds → vs[i]? = some v → ∃ d, ds[i]? = some d ∧ Dp K H v d
  | _, _, _, _, .nil, h => by simp at h
  | _, _, 0, _, .cons a _, h => by simp at h; subst h; exact ⟨_, rfl, a⟩
  | _, _, i + 1, _, .cons _ b, h => by
    obtain ⟨d, h1, h2⟩ := dpAt (i := i) b (by simpa using h)
    exact ⟨d, by simpa using h1, h2⟩
theorem tyL {K : PySem.W.Frag} {H : Hp} {a : Addr} {xs : List V} (h : SqL K H a xs) : TyX K H (.ref a) (.type "list") := by
  rcases h with (h | ⟨o, h⟩) | ⟨o, its, n, h, c, _⟩
  · exact .base (.lst h)
  · exact .base (.frz h)
  · exact .kList h c
theorem tyT {K : PySem.W.Frag} {H : Hp} {a : Addr} {xs : List V} (h : SqT K H a xs) : TyX K H (.ref a) (.type "tuple") := by
  rcases h with (h | ⟨o, h⟩) | ⟨o, its, n, h, c, _⟩
  · exact .base (.tup h)
  · exact .fTuple h
  · exact .kTuple h c
theorem kitAny2 {K : PySem.W.Frag} {t c1 c2 : Value} {b1 b2 : Bool} (h1 : PySem.W.kitOne K t c1 = some b1) (h2 : PySem.W.kitOne K t c2 = some b2) : PySem.W.kitAny K t [c1, c2] = some (b1 || b2) := by
  unfold PySem.W.kitAny
  rw [h1]
  cases b1 with
  | true => rfl
  | false =>
    show PySem.W.kitAny K t [c2] = _
    unfold PySem.W.kitAny
    rw [h2]
    cases b2 <;> rfl
theorem qT {Q : VK} {H : Hp} {c : Prop} [Decidable c] (hc : c) (h : Q (.bl true) H) : Q (.bl (decide c)) H := by
  rw [decide_eq_true hc]
  exact h
theorem qB {Q : VK} {H : Hp} {b : Bool} (hb : b = true) (h : Q (.bl true) H) : Q (.bl b) H := by
  rw [hb]
  exact h
theorem pe_no {X : Cx} {e : Expr} : PE X e (fun _ _ _ => False) := ⟨fun _ _ _ _ _ _ h => h.elim⟩
/-! ### a comprehension over zip of two of one length -/
def ItzG (S : Hp → Addr → List V → Prop) (a b : Addr) : It :=
  ⟨fun i H => ∃ (xs ys : List V) (x y : V), S H a xs ∧ S H b ys ∧ xs[i]? = some x ∧ ys[i]? = some y,
    fun i H v H' => ∃ T x y, v = .ref T ∧ H T = none ∧ H' = upd H T (.tup [x, y]) ∧ (∀ xs, S H a xs → xs[i]? = some x) ∧ ∀ ys, S H b ys → ys[i]? = some y,
    fun i H => ∃ xs ys : List V, S H a xs ∧ S H b ys ∧ (xs.length ≤ i ∨ ys.length ≤ i)⟩
theorem lc_zipG {S : Hp → Addr → List V → Prop} {a b : Addr} {xs ys : List V} {g : TG} {tt : TT} {te : TE} {vs : List Nat} {σ : L2.St} {H1 : Hp} {D : Addr} {Qd : Hp → Prop} (hl : xs.length = ys.length) (Pv : Nat → Hp → Prop) (h0 : Pv 0 (upd H1 D (.lst []))) (hq : ∀ i H, Pv i H → S H a xs ∧ S H b ys)
    (hs : ∀ i x y T H, xs[i]? = some x → ys[i]? = some y → Pv i H → H T = none → g (.ref T) (wipe σ vs) (upd H T (.tup [x, y])) fun σ2 H2 => wipe σ2 vs = wipe σ vs ∧ tt σ2 H2 fun b H3 =>
      if b = true then te σ2 H3 fun y H4 => ∃ acc, H4 D = some (.lst acc) ∧ acc.length < sizeLine ∧ Pv (i + 1) (upd H4 D (.lst (acc ++ [y]))) else Pv (i + 1) H3) (hd : ∀ H, Pv xs.length H → Qd H) :
    ∃ W : Nat → Nat → Hp → Prop, (∃ m, W 0 m (upd H1 D (.lst []))) ∧ ∀ i m H, W i m H → ((ItzG S a b).stop i H ∧ Qd H) ∨ ((ItzG S a b).go i H ∧ ∃ Nx : Hp → Prop, (∀ H', Nx H' → ∃ m', m' < m ∧ W (i + 1) m' H') ∧
      ∀ x H', (ItzG S a b).yld i H x H' → g x (wipe σ vs) H' fun σ2 H2 => wipe σ2 vs = wipe σ vs ∧ tt σ2 H2 fun b H3 => if b = true then te σ2 H3 fun y H4 => ∃ acc, H4 D = some (.lst acc) ∧ acc.length < sizeLine ∧ Nx (upd H4 D (.lst (acc ++ [y]))) else Nx H3) := by
  refine ⟨fun i m H => m = xs.length - i ∧ i ≤ xs.length ∧ Pv i H, ⟨xs.length, by simp, Nat.zero_le _, h0⟩, fun i m H ⟨em, hi, p⟩ => ?_⟩
  obtain ⟨qa, qb⟩ := hq i H p
  by_cases lt : i < xs.length
  · have lt2 : i < ys.length := by omega
    refine .inr ⟨⟨xs, ys, xs[i], ys[i], qa, qb, List.getElem?_eq_getElem lt, List.getElem?_eq_getElem lt2⟩, Pv (i + 1), fun H' p' => ⟨xs.length - (i + 1), by omega, rfl, lt, p'⟩, fun x H' hy => ?_⟩
    obtain ⟨T, x1, x2, rfl, nT, rfl, e1, e2⟩ := hy
    exact hs i x1 x2 T H (e1 _ qa) (e2 _ qb) p nT
  · have e : i = xs.length := by omega
    subst e
    exact .inl ⟨⟨xs, ys, qa, qb, .inl (Nat.le_refl _)⟩, hd H p⟩
def NS : List Str := ["_law_found", "_law_due", "_law_a", "_law_b"]
theorem scSame : FnScope NS ["_law_found", "_law_due"] (defScope sSame) := ⟨rfl, rfl, rfl, by decide +kernel, rfl, by decide +kernel, by decide +kernel⟩
def spSame (K : PySem.W.Frag) (n : Nat) : Sp := fun vs H Q _ => ∃ (x y : V) (d : PyData), vs = [x, y] ∧ Dp K H x d ∧ Dp K H y d ∧ Lvl n d ∧ ∀ H', Same H H' → Q (.bl true) H'
structure Blt (mg : Str → Option Value) : Prop where
  isi : mg "isinstance" = none
  list : mg "list" = none
  tuple : mg "tuple" = none
  bool : mg "bool" = none
  int : mg "int" = none
  str : mg "str" = none
  len : mg "len" = none
  all : mg "all" = none
  zip : mg "zip" = none
section
variable {P : Program} {w : World} {K : PySem.W.Frag} {mg : Str → Option Value} {base : Heap}
theorem ok_same {f : Addr} {fd : FuncData} (F : Fun K "_law_same" "_law_same" sSame f fd) (bS : Binds K fd ["_law_found", "_law_due"] []) (gS : mg "_law_same" = some (.ref f)) (B : Blt mg) : ∀ (n k : Nat), FnOk P w K mg base CX0 (k + n + 1) f fd ["_law_found", "_law_due"] (spSame K n) := by
  intro n
  induction n with
  | zero =>
    intro k
    refine F.ok scSame (fun vs H Q E h => ?_) (fun cdv A outer s H vs Q E hr h => ?_)
    · obtain ⟨x, y, d, rfl, _⟩ := h
      rfl
    · obtain ⟨x, y, d, rfl, hx, hy, hl, q⟩ := h
      refine ⟨_, pss_cons (ps_if (pt_val (pe_callB call_isiT (by rfl) B.isi (by decide +kernel) (pa_cons (pv 1) (pa_cons (pe_tup (pa_cons (pe_bltn (v := .ty "list") (by rfl) B.list (by decide +kernel) rfl) (pa_cons (pe_bltn (v := .ty "tuple") (by rfl) B.tuple (by decide +kernel) rfl) pa_nil))) pa_nil)))) pss_never pss_nil)
      (pss_cons (ps_if (PW.pt (pw_or (pt_cmp (pc_isN (pv 1))) (pw_or1 (pt_cmp (pc_isN (pv 0)))))) (pss_one (ps_ret (pe_and (pe_cmp (pc_isN (pv 0)) rfl) (pe_one (pe_cmp (pc_isN (pv 1)) rfl))))) pss_nil)
      (pss_cons (ps_if (PW.pt (pw_or (pt_cmpR op_ne (pe_callB call_isi (by rfl) B.isi (by decide +kernel) (pa_cons (pv 0) (pa_cons (pe_bltn (v := .ty "bool") (by rfl) B.bool (by decide +kernel) rfl) pa_nil))) (pe_callB call_isi (by rfl) B.isi (by decide +kernel) (pa_cons (pv 1) (pa_cons (pe_bltn (v := .ty "bool") (by rfl) B.bool (by decide +kernel) rfl) pa_nil))) (nomark _)) (pw_or1 (pt_cmpR op_ne (pe_callB call_isi (by rfl) B.isi (by decide +kernel) (pa_cons (pv 0) (pa_cons (pe_bltn (v := .ty "int") (by rfl) B.int (by decide +kernel) rfl) pa_nil))) (pe_callB call_isi (by rfl) B.isi (by decide +kernel) (pa_cons (pv 1) (pa_cons (pe_bltn (v := .ty "int") (by rfl) B.int (by decide +kernel) rfl) pa_nil))) (nomark _))))) pss_never pss_nil)
      (pss_one (ps_ret (pe_and (pe_cmpR op_eq (pe_callB call_isi (by rfl) B.isi (by decide +kernel) (pa_cons (pv 0) (pa_cons (pe_bltn (v := .ty "str") (by rfl) B.str (by decide +kernel) rfl) pa_nil))) (pe_callB call_isi (by rfl) B.isi (by decide +kernel) (pa_cons (pv 1) (pa_cons (pe_bltn (v := .ty "str") (by rfl) B.str (by decide +kernel) rfl) pa_nil))) (nomark _)) (pe_one (pe_cmpR op_eq (pv 0) (pv 1) (nomark _)))))))), ?_⟩
      cases hx with
      | lst h a => exact hl.elim
      | tup h a => exact hl.elim
      | non =>
        cases hy
        refine ⟨_, rfl, (by decide : 2 ≤ sizeLine), fun tp ntp => ?_⟩
        have s1 := same_upd (o := .tup [.ty "list", .ty "tuple"]) ntp
        refine ⟨.non, tp, _, _, _, _, rfl, upd_same, .cons (.ty _) (.cons (.ty _) .nil), .base .non, kitAny2 (b1 := false) (b2 := false) (kit_ty (by decide +kernel)) (kit_ty (by decide +kernel)), _, rfl, iteF ?_⟩
        refine ⟨_, rfl, _, rfl, itT rfl (iteT ?_)⟩
        refine ⟨_, rfl, _, rfl, itT rfl ⟨_, rfl, ?_⟩⟩
        exact qT (Q := Q) rfl (q _ s1)
      | bl b =>
        cases hy
        refine ⟨_, rfl, (by decide : 2 ≤ sizeLine), fun tp ntp => ?_⟩
        have s1 := same_upd (o := .tup [.ty "list", .ty "tuple"]) ntp
        refine ⟨(.bl b), tp, _, _, _, _, rfl, upd_same, .cons (.ty _) (.cons (.ty _) .nil), .base (.bl _), kitAny2 (b1 := false) (b2 := false) (kit_ty (by decide +kernel)) (kit_ty (by decide +kernel)), _, rfl, iteF ?_⟩
        refine ⟨_, rfl, _, rfl, itF (fun h => nomatch h) ⟨_, rfl, _, rfl, itF (fun h => nomatch h) ?_⟩⟩
        refine ⟨_, rfl, (.bl b), .ty "bool", .type "bool", .type "bool", true, rfl, .ty _, .base (.bl _), kit_ty (by decide +kernel), _, rfl, (.bl b), .ty "bool", .type "bool", .type "bool", true, rfl, .ty _, .base (.bl _), kit_ty (by decide +kernel), rfl, _, rfl, iteNS rfl ⟨_, rfl, (.bl b), .ty "int", .type "bool", .type "int", true, rfl, .ty _, .base (.bl _), kit_ty (by decide +kernel), _, rfl, (.bl b), .ty "int", .type "bool", .type "int", true, rfl, .ty _, .base (.bl _), kit_ty (by decide +kernel), rfl, _, rfl, iteNS rfl ?_⟩⟩
        refine ⟨_, rfl, (.bl b), .ty "str", .type "bool", .type "str", false, rfl, .ty _, .base (.bl _), kit_ty (by decide +kernel), _, rfl, (.bl b), .ty "str", .type "bool", .type "str", false, rfl, .ty _, .base (.bl _), kit_ty (by decide +kernel), rfl, _, rfl, itT rfl ⟨_, rfl, _, rfl, rfl, ?_⟩⟩
        exact qT (Q := Q) rfl (q _ s1)
      | int i =>
        cases hy
        refine ⟨_, rfl, (by decide : 2 ≤ sizeLine), fun tp ntp => ?_⟩
        have s1 := same_upd (o := .tup [.ty "list", .ty "tuple"]) ntp
        refine ⟨(.int i), tp, _, _, _, _, rfl, upd_same, .cons (.ty _) (.cons (.ty _) .nil), .base (.int _), kitAny2 (b1 := false) (b2 := false) (kit_ty (by decide +kernel)) (kit_ty (by decide +kernel)), _, rfl, iteF ?_⟩
        refine ⟨_, rfl, _, rfl, itF (fun h => nomatch h) ⟨_, rfl, _, rfl, itF (fun h => nomatch h) ?_⟩⟩
        refine ⟨_, rfl, (.int i), .ty "bool", .type "int", .type "bool", false, rfl, .ty _, .base (.int _), kit_ty (by decide +kernel), _, rfl, (.int i), .ty "bool", .type "int", .type "bool", false, rfl, .ty _, .base (.int _), kit_ty (by decide +kernel), rfl, _, rfl, iteNS rfl ⟨_, rfl, (.int i), .ty "int", .type "int", .type "int", true, rfl, .ty _, .base (.int _), kit_ty (by decide +kernel), _, rfl, (.int i), .ty "int", .type "int", .type "int", true, rfl, .ty _, .base (.int _), kit_ty (by decide +kernel), rfl, _, rfl, iteNS rfl ?_⟩⟩
        refine ⟨_, rfl, (.int i), .ty "str", .type "int", .type "str", false, rfl, .ty _, .base (.int _), kit_ty (by decide +kernel), _, rfl, (.int i), .ty "str", .type "int", .type "str", false, rfl, .ty _, .base (.int _), kit_ty (by decide +kernel), rfl, _, rfl, itT rfl ⟨_, rfl, _, rfl, rfl, ?_⟩⟩
        exact qT (Q := Q) rfl (q _ s1)
      | str z =>
        cases hy
        refine ⟨_, rfl, (by decide : 2 ≤ sizeLine), fun tp ntp => ?_⟩
        have s1 := same_upd (o := .tup [.ty "list", .ty "tuple"]) ntp
        refine ⟨(.str z), tp, _, _, _, _, rfl, upd_same, .cons (.ty _) (.cons (.ty _) .nil), .base (.str _), kitAny2 (b1 := false) (b2 := false) (kit_ty (by decide +kernel)) (kit_ty (by decide +kernel)), _, rfl, iteF ?_⟩
        refine ⟨_, rfl, _, rfl, itF (fun h => nomatch h) ⟨_, rfl, _, rfl, itF (fun h => nomatch h) ?_⟩⟩
        refine ⟨_, rfl, (.str z), .ty "bool", .type "str", .type "bool", false, rfl, .ty _, .base (.str _), kit_ty (by decide +kernel), _, rfl, (.str z), .ty "bool", .type "str", .type "bool", false, rfl, .ty _, .base (.str _), kit_ty (by decide +kernel), rfl, _, rfl, iteNS rfl ⟨_, rfl, (.str z), .ty "int", .type "str", .type "int", false, rfl, .ty _, .base (.str _), kit_ty (by decide +kernel), _, rfl, (.str z), .ty "int", .type "str", .type "int", false, rfl, .ty _, .base (.str _), kit_ty (by decide +kernel), rfl, _, rfl, iteNS rfl ?_⟩⟩
        refine ⟨_, rfl, (.str z), .ty "str", .type "str", .type "str", true, rfl, .ty _, .base (.str _), kit_ty (by decide +kernel), _, rfl, (.str z), .ty "str", .type "str", .type "str", true, rfl, .ty _, .base (.str _), kit_ty (by decide +kernel), rfl, _, rfl, itT rfl ⟨_, rfl, _, rfl, rfl, ?_⟩⟩
        exact qT (Q := Q) rfl (q _ s1)
  | succ n ih =>
    intro k
    have G : FnOk P w K mg base CX0 (k + n + 1) f fd ["_law_found", "_law_due"] (spSame K n) := ih k
    refine F.ok scSame (fun vs H Q E h => ?_) (fun cdv A outer s H vs Q E hr h => ?_)
    · obtain ⟨x, y, d, rfl, _⟩ := h
      rfl
    · obtain ⟨x, y, d, rfl, hx, hy, hl, q⟩ := h
      refine ⟨_, pss_cons (ps_if (pt_val (pe_callB call_isiT (by rfl) B.isi (by decide +kernel) (pa_cons (pv 1) (pa_cons (pe_tup (pa_cons (pe_bltn (v := .ty "list") (by rfl) B.list (by decide +kernel) rfl) (pa_cons (pe_bltn (v := .ty "tuple") (by rfl) B.tuple (by decide +kernel) rfl) pa_nil))) pa_nil))))
          (pss_cons (ps_if (PW.pt (pw_or (pt_cmpR op_ne (pe_callB call_isi (by rfl) B.isi (by decide +kernel) (pa_cons (pv 0) (pa_cons (pe_bltn (v := .ty "list") (by rfl) B.list (by decide +kernel) rfl) pa_nil))) (pe_callB call_isi (by rfl) B.isi (by decide +kernel) (pa_cons (pv 1) (pa_cons (pe_bltn (v := .ty "list") (by rfl) B.list (by decide +kernel) rfl) pa_nil))) (nomark _)) (pw_or1 (pt_cmpR op_ne (pe_callB call_isi (by rfl) B.isi (by decide +kernel) (pa_cons (pv 0) (pa_cons (pe_bltn (v := .ty "tuple") (by rfl) B.tuple (by decide +kernel) rfl) pa_nil))) (pe_callB call_isi (by rfl) B.isi (by decide +kernel) (pa_cons (pv 1) (pa_cons (pe_bltn (v := .ty "tuple") (by rfl) B.tuple (by decide +kernel) rfl) pa_nil))) (nomark _))))) pss_never pss_nil)
          (pss_one (ps_ret (pe_and (pe_cmpR op_eq (pe_callB call_len_seq (by rfl) B.len PySem.boot_len (pa_cons (pv 0) pa_nil)) (pe_callB call_len_seq (by rfl) B.len PySem.boot_len (pa_cons (pv 1) pa_nil)) (nomark _))
            (pe_one (pe_callB (cr_all rfl) (by rfl) B.all (by decide +kernel) (pa_cons (pe_lc (own := [("_law_a", 2), ("_law_b", 3)]) (g := gTup K 2 (gCons (gName 2) (gCons (gName 3) gNil))) (tt := tYes) rfl scSame.nd
              (RZ.pi_zipA (by rfl) B.zip (pa_cons (pv 0) (pa_cons (pv 1) pa_nil))) (blkOk_by (own := [("_law_a", 2), ("_law_b", 3)]) (N := NS) (sc := defScope sSame) (by decide +kernel))
              (fun _ _ _ _ _ => pg_tup (n := 2) rfl (pgs_cons (pg_name (i := 2) scSame.nd rfl (.inl rfl) (.inr rfl)) (pgs_cons (pg_name (i := 3) scSame.nd rfl (.inl rfl) (.inr rfl)) pgs_nil))) (fun _ _ _ _ _ => pts_nil)
              (fun _ _ _ _ _ => pe_call G hr (by rfl) gS F.kp bS .nil pass0 (pa_cons (pv 2) (pa_cons (pv 3) pa_nil)))) pa_nil))))))) pss_nil)
      (pss_cons (ps_if (PW.pt (pw_or (pt_cmp (pc_isN (pv 1))) (pw_or1 (pt_cmp (pc_isN (pv 0)))))) (pss_one (ps_ret (pe_and (pe_cmp (pc_isN (pv 0)) rfl) (pe_one (pe_cmp (pc_isN (pv 1)) rfl))))) pss_nil)
      (pss_cons (ps_if (PW.pt (pw_or (pt_cmpR op_ne (pe_callB call_isi (by rfl) B.isi (by decide +kernel) (pa_cons (pv 0) (pa_cons (pe_bltn (v := .ty "bool") (by rfl) B.bool (by decide +kernel) rfl) pa_nil))) (pe_callB call_isi (by rfl) B.isi (by decide +kernel) (pa_cons (pv 1) (pa_cons (pe_bltn (v := .ty "bool") (by rfl) B.bool (by decide +kernel) rfl) pa_nil))) (nomark _)) (pw_or1 (pt_cmpR op_ne (pe_callB call_isi (by rfl) B.isi (by decide +kernel) (pa_cons (pv 0) (pa_cons (pe_bltn (v := .ty "int") (by rfl) B.int (by decide +kernel) rfl) pa_nil))) (pe_callB call_isi (by rfl) B.isi (by decide +kernel) (pa_cons (pv 1) (pa_cons (pe_bltn (v := .ty "int") (by rfl) B.int (by decide +kernel) rfl) pa_nil))) (nomark _))))) pss_never pss_nil)
      (pss_one (ps_ret (pe_and (pe_cmpR op_eq (pe_callB call_isi (by rfl) B.isi (by decide +kernel) (pa_cons (pv 0) (pa_cons (pe_bltn (v := .ty "str") (by rfl) B.str (by decide +kernel) rfl) pa_nil))) (pe_callB call_isi (by rfl) B.isi (by decide +kernel) (pa_cons (pv 1) (pa_cons (pe_bltn (v := .ty "str") (by rfl) B.str (by decide +kernel) rfl) pa_nil))) (nomark _)) (pe_one (pe_cmpR op_eq (pv 0) (pv 1) (nomark _)))))))), ?_⟩
      cases hx with
      | @lst pa xs ds h a =>
        cases hy with
        | @lst pb ys _ h2 a2 =>
          refine ⟨_, rfl, (by decide : 2 ≤ sizeLine), fun tp ntp => ?_⟩
          have s1 := same_upd (o := .tup [.ty "list", .ty "tuple"]) ntp
          refine ⟨(.ref pb), tp, _, _, _, _, rfl, upd_same, .cons (.ty _) (.cons (.ty _) .nil), tyL (s1.seq h2), kitAny2 (b1 := true) (b2 := false) (kit_ty (by decide +kernel)) (kit_ty (by decide +kernel)), _, rfl, iteT ?_⟩
          refine ⟨_, rfl, .ref pa, .ty "list", .type "list", .type "list", true, rfl, .ty _, tyL (s1.seq h), kit_ty (by decide +kernel), _, rfl, .ref pb, .ty "list", .type "list", .type "list", true, rfl, .ty _, tyL (s1.seq h2), kit_ty (by decide +kernel), rfl, _, rfl, iteNS rfl ⟨_, rfl, .ref pa, .ty "tuple", .type "list", .type "tuple", false, rfl, .ty _, tyL (s1.seq h), kit_ty (by decide +kernel), _, rfl, .ref pb, .ty "tuple", .type "list", .type "tuple", false, rfl, .ty _, tyL (s1.seq h2), kit_ty (by decide +kernel), rfl, _, rfl, iteNS rfl ?_⟩⟩
          have lx := dpLen a
          have ly := dpLen a2
          have hlz : ds.length ≤ 1000 := hl.1
          have eI : V.int ((xs.length : Nat) : Int) = V.int ((ys.length : Nat) : Int) := by rw [lx, ly]
          refine ⟨_, rfl, pa, xs, rfl, .inl (s1.seq h), _, rfl, pb, ys, rfl, .inl (s1.seq h2), rfl, _, rfl, itT eI ?_⟩
          refine ⟨_, rfl, _, rfl, pa, pb, xs, ys, rfl, .inl ⟨(s1.seq h), (s1.seq h2), fun D nD => ?_⟩⟩
          refine lc_zipG (S := SqL K) (xs := xs) (ys := ys) (by omega) (fun i H' => Same H H' ∧ H D = none ∧ H' D = some (.lst (List.replicate i (.bl true)))) ⟨s1.trans (same_upd nD), s1.free nD, upd_same⟩ (fun i H' ⟨sm, _, _⟩ => ⟨(sm.seq h), (sm.seq h2)⟩) ?_ ?_
          · rintro i x y t Hx hx hy ⟨sm, fD, hD⟩ nt
            obtain ⟨d, hd, dx⟩ := dpAt a hx
            obtain ⟨d', hd', dy⟩ := dpAt a2 hy
            rw [hd] at hd'
            cases hd'
            have st : Same Hx (upd Hx t (.tup [x, y])) := same_upd nt
            refine ⟨t, _, rfl, SqT.of upd_same, rfl, _, _, rfl, _, _, rfl, rfl, rfl, ?_⟩
            unfold tYes
            dsimp only
            rw [if_pos rfl]
            refine ⟨_, rfl, _, rfl, x, y, d, rfl, dpSame (sm.trans st) dx, dpSame (sm.trans st) dy, hl.2 d (List.mem_of_getElem? hd), fun H4 s4 => ?_⟩
            have lt : i < xs.length := (List.getElem?_eq_some_iff.mp hx).1
            refine ⟨_, s4 _ _ (st _ _ hD), by rw [List.length_replicate]; exact small1000 (by omega), fun b o e => ?_, fD, ?_⟩
            · rw [upd_ne (ne_of_none e fD)]
              exact s4 _ _ (st _ _ (sm _ _ e))
            · rw [upd_same, List.replicate_succ']
          · rintro Hx ⟨sm, fD, hD⟩
            refine ⟨D, List.replicate xs.length true, rfl, SqL.of (by rw [hD, List.map_replicate]), ?_⟩
            have ea : (List.replicate xs.length true).all id = true := List.all_eq_true.mpr fun b hb => by rw [(List.mem_replicate.mp hb).2]; rfl
            exact qB (Q := Q) ea (q _ sm)
      | @tup pa xs ds h a =>
        cases hy with
        | @tup pb ys _ h2 a2 =>
          refine ⟨_, rfl, (by decide : 2 ≤ sizeLine), fun tp ntp => ?_⟩
          have s1 := same_upd (o := .tup [.ty "list", .ty "tuple"]) ntp
          refine ⟨(.ref pb), tp, _, _, _, _, rfl, upd_same, .cons (.ty _) (.cons (.ty _) .nil), tyT (same_seqT s1 h2), kitAny2 (b1 := false) (b2 := true) (kit_ty (by decide +kernel)) (kit_ty (by decide +kernel)), _, rfl, iteT ?_⟩
          refine ⟨_, rfl, .ref pa, .ty "list", .type "tuple", .type "list", false, rfl, .ty _, tyT (same_seqT s1 h), kit_ty (by decide +kernel), _, rfl, .ref pb, .ty "list", .type "tuple", .type "list", false, rfl, .ty _, tyT (same_seqT s1 h2), kit_ty (by decide +kernel), rfl, _, rfl, iteNS rfl ⟨_, rfl, .ref pa, .ty "tuple", .type "tuple", .type "tuple", true, rfl, .ty _, tyT (same_seqT s1 h), kit_ty (by decide +kernel), _, rfl, .ref pb, .ty "tuple", .type "tuple", .type "tuple", true, rfl, .ty _, tyT (same_seqT s1 h2), kit_ty (by decide +kernel), rfl, _, rfl, iteNS rfl ?_⟩⟩
          have lx := dpLen a
          have ly := dpLen a2
          have hlz : ds.length ≤ 1000 := hl.1
          have eI : V.int ((xs.length : Nat) : Int) = V.int ((ys.length : Nat) : Int) := by rw [lx, ly]
          refine ⟨_, rfl, pa, xs, rfl, .inr (same_seqT s1 h), _, rfl, pb, ys, rfl, .inr (same_seqT s1 h2), rfl, _, rfl, itT eI ?_⟩
          refine ⟨_, rfl, _, rfl, pa, pb, xs, ys, rfl, .inr ⟨(same_seqT s1 h), (same_seqT s1 h2), fun D nD => ?_⟩⟩
          refine lc_zipG (S := SqT K) (xs := xs) (ys := ys) (by omega) (fun i H' => Same H H' ∧ H D = none ∧ H' D = some (.lst (List.replicate i (.bl true)))) ⟨s1.trans (same_upd nD), s1.free nD, upd_same⟩ (fun i H' ⟨sm, _, _⟩ => ⟨(same_seqT sm h), (same_seqT sm h2)⟩) ?_ ?_
          · rintro i x y t Hx hx hy ⟨sm, fD, hD⟩ nt
            obtain ⟨d, hd, dx⟩ := dpAt a hx
            obtain ⟨d', hd', dy⟩ := dpAt a2 hy
            rw [hd] at hd'
            cases hd'
            have st : Same Hx (upd Hx t (.tup [x, y])) := same_upd nt
            refine ⟨t, _, rfl, SqT.of upd_same, rfl, _, _, rfl, _, _, rfl, rfl, rfl, ?_⟩
            unfold tYes
            dsimp only
            rw [if_pos rfl]
            refine ⟨_, rfl, _, rfl, x, y, d, rfl, dpSame (sm.trans st) dx, dpSame (sm.trans st) dy, hl.2 d (List.mem_of_getElem? hd), fun H4 s4 => ?_⟩
            have lt : i < xs.length := (List.getElem?_eq_some_iff.mp hx).1
            refine ⟨_, s4 _ _ (st _ _ hD), by rw [List.length_replicate]; exact small1000 (by omega), fun b o e => ?_, fD, ?_⟩
            · rw [upd_ne (ne_of_none e fD)]
              exact s4 _ _ (st _ _ (sm _ _ e))
            · rw [upd_same, List.replicate_succ']
          · rintro Hx ⟨sm, fD, hD⟩
            refine ⟨D, List.replicate xs.length true, rfl, SqL.of (by rw [hD, List.map_replicate]), ?_⟩
            have ea : (List.replicate xs.length true).all id = true := List.all_eq_true.mpr fun b hb => by rw [(List.mem_replicate.mp hb).2]; rfl
            exact qB (Q := Q) ea (q _ sm)
      | non =>
        cases hy
        refine ⟨_, rfl, (by decide : 2 ≤ sizeLine), fun tp ntp => ?_⟩
        have s1 := same_upd (o := .tup [.ty "list", .ty "tuple"]) ntp
        refine ⟨.non, tp, _, _, _, _, rfl, upd_same, .cons (.ty _) (.cons (.ty _) .nil), .base .non, kitAny2 (b1 := false) (b2 := false) (kit_ty (by decide +kernel)) (kit_ty (by decide +kernel)), _, rfl, iteF ?_⟩
        refine ⟨_, rfl, _, rfl, itT rfl (iteT ?_)⟩
        refine ⟨_, rfl, _, rfl, itT rfl ⟨_, rfl, ?_⟩⟩
        exact qT (Q := Q) rfl (q _ s1)
      | bl b =>
        cases hy
        refine ⟨_, rfl, (by decide : 2 ≤ sizeLine), fun tp ntp => ?_⟩
        have s1 := same_upd (o := .tup [.ty "list", .ty "tuple"]) ntp
        refine ⟨(.bl b), tp, _, _, _, _, rfl, upd_same, .cons (.ty _) (.cons (.ty _) .nil), .base (.bl _), kitAny2 (b1 := false) (b2 := false) (kit_ty (by decide +kernel)) (kit_ty (by decide +kernel)), _, rfl, iteF ?_⟩
        refine ⟨_, rfl, _, rfl, itF (fun h => nomatch h) ⟨_, rfl, _, rfl, itF (fun h => nomatch h) ?_⟩⟩
        refine ⟨_, rfl, (.bl b), .ty "bool", .type "bool", .type "bool", true, rfl, .ty _, .base (.bl _), kit_ty (by decide +kernel), _, rfl, (.bl b), .ty "bool", .type "bool", .type "bool", true, rfl, .ty _, .base (.bl _), kit_ty (by decide +kernel), rfl, _, rfl, iteNS rfl ⟨_, rfl, (.bl b), .ty "int", .type "bool", .type "int", true, rfl, .ty _, .base (.bl _), kit_ty (by decide +kernel), _, rfl, (.bl b), .ty "int", .type "bool", .type "int", true, rfl, .ty _, .base (.bl _), kit_ty (by decide +kernel), rfl, _, rfl, iteNS rfl ?_⟩⟩
        refine ⟨_, rfl, (.bl b), .ty "str", .type "bool", .type "str", false, rfl, .ty _, .base (.bl _), kit_ty (by decide +kernel), _, rfl, (.bl b), .ty "str", .type "bool", .type "str", false, rfl, .ty _, .base (.bl _), kit_ty (by decide +kernel), rfl, _, rfl, itT rfl ⟨_, rfl, _, rfl, rfl, ?_⟩⟩
        exact qT (Q := Q) rfl (q _ s1)
      | int i =>
        cases hy
        refine ⟨_, rfl, (by decide : 2 ≤ sizeLine), fun tp ntp => ?_⟩
        have s1 := same_upd (o := .tup [.ty "list", .ty "tuple"]) ntp
        refine ⟨(.int i), tp, _, _, _, _, rfl, upd_same, .cons (.ty _) (.cons (.ty _) .nil), .base (.int _), kitAny2 (b1 := false) (b2 := false) (kit_ty (by decide +kernel)) (kit_ty (by decide +kernel)), _, rfl, iteF ?_⟩
        refine ⟨_, rfl, _, rfl, itF (fun h => nomatch h) ⟨_, rfl, _, rfl, itF (fun h => nomatch h) ?_⟩⟩
        refine ⟨_, rfl, (.int i), .ty "bool", .type "int", .type "bool", false, rfl, .ty _, .base (.int _), kit_ty (by decide +kernel), _, rfl, (.int i), .ty "bool", .type "int", .type "bool", false, rfl, .ty _, .base (.int _), kit_ty (by decide +kernel), rfl, _, rfl, iteNS rfl ⟨_, rfl, (.int i), .ty "int", .type "int", .type "int", true, rfl, .ty _, .base (.int _), kit_ty (by decide +kernel), _, rfl, (.int i), .ty "int", .type "int", .type "int", true, rfl, .ty _, .base (.int _), kit_ty (by decide +kernel), rfl, _, rfl, iteNS rfl ?_⟩⟩
        refine ⟨_, rfl, (.int i), .ty "str", .type "int", .type "str", false, rfl, .ty _, .base (.int _), kit_ty (by decide +kernel), _, rfl, (.int i), .ty "str", .type "int", .type "str", false, rfl, .ty _, .base (.int _), kit_ty (by decide +kernel), rfl, _, rfl, itT rfl ⟨_, rfl, _, rfl, rfl, ?_⟩⟩
        exact qT (Q := Q) rfl (q _ s1)
      | str z =>
        cases hy
        refine ⟨_, rfl, (by decide : 2 ≤ sizeLine), fun tp ntp => ?_⟩
        have s1 := same_upd (o := .tup [.ty "list", .ty "tuple"]) ntp
        refine ⟨(.str z), tp, _, _, _, _, rfl, upd_same, .cons (.ty _) (.cons (.ty _) .nil), .base (.str _), kitAny2 (b1 := false) (b2 := false) (kit_ty (by decide +kernel)) (kit_ty (by decide +kernel)), _, rfl, iteF ?_⟩
        refine ⟨_, rfl, _, rfl, itF (fun h => nomatch h) ⟨_, rfl, _, rfl, itF (fun h => nomatch h) ?_⟩⟩
        refine ⟨_, rfl, (.str z), .ty "bool", .type "str", .type "bool", false, rfl, .ty _, .base (.str _), kit_ty (by decide +kernel), _, rfl, (.str z), .ty "bool", .type "str", .type "bool", false, rfl, .ty _, .base (.str _), kit_ty (by decide +kernel), rfl, _, rfl, iteNS rfl ⟨_, rfl, (.str z), .ty "int", .type "str", .type "int", false, rfl, .ty _, .base (.str _), kit_ty (by decide +kernel), _, rfl, (.str z), .ty "int", .type "str", .type "int", false, rfl, .ty _, .base (.str _), kit_ty (by decide +kernel), rfl, _, rfl, iteNS rfl ?_⟩⟩
        refine ⟨_, rfl, (.str z), .ty "str", .type "str", .type "str", true, rfl, .ty _, .base (.str _), kit_ty (by decide +kernel), _, rfl, (.str z), .ty "str", .type "str", .type "str", true, rfl, .ty _, .base (.str _), kit_ty (by decide +kernel), rfl, _, rfl, itT rfl ⟨_, rfl, _, rfl, rfl, ?_⟩⟩
        exact qT (Q := Q) rfl (q _ s1)
end
end Onp
set_option autoImplicit false
namespace Onp
open PySem PySem.Spec PyProof.Rows L2
/-! ### deeds and marks -/
inductive Dd where
  | keep | cent | fill | coin | brim
  deriving DecidableEq
def Dd.nm : Dd → Str
  | .keep => "keep" | .cent => "cent" | .fill => "fill" | .coin => "coin" | .brim => "brim"
def Dd.rk : Dd → Nat
  | .keep => 0 | .cent => 1 | .fill => 2 | .coin => 3 | .brim => 4
def deedsL : List Str := ["keep", "cent", "fill", "coin", "brim"]
def marksL : List Str := ["brim", "fill", "keep", "cent", "coin", "dear", "shut"]
def makingL : List Str := ["keep", "cent", "fill", "coin", "brim", "dear", "shut"]
def mkn (i : Nat) : Str := makingL.getD i "shut"
theorem nm_mkn (d : Dd) : d.nm = mkn d.rk := by cases d <;> rfl
theorem rk_lt (d : Dd) : d.rk < 5 := by cases d <;> decide
theorem nm_in (d : Dd) : d.nm ∈ deedsL := by cases d <;> decide +kernel
theorem in_nm : ∀ z ∈ deedsL, ∃ d : Dd, z = d.nm := fun z h => by
  rcases List.mem_cons.mp h with rfl | h
  · exact ⟨.keep, rfl⟩
  rcases List.mem_cons.mp h with rfl | h
  · exact ⟨.cent, rfl⟩
  rcases List.mem_cons.mp h with rfl | h
  · exact ⟨.fill, rfl⟩
  rcases List.mem_cons.mp h with rfl | h
  · exact ⟨.coin, rfl⟩
  rcases List.mem_cons.mp h with rfl | h
  · exact ⟨.brim, rfl⟩
  cases h
def dv (d : Dd) : V := .str d.nm
def stp (p : Int × Int) : Dd → Int × Int
  | .keep => p
  | .cent => (p.1 + 1, p.2)
  | .fill => (0, p.2)
  | .coin => (0, p.2 + 1)
  | .brim => (0, 0)
theorem flatStrs (ys : List Str) : (ys.map V.str).all flatV = true := by
  rw [List.all_map]
  exact List.all_eq_true.mpr fun _ _ => rfl
theorem inV_strs (z : Str) : ∀ ys : List Str, inV (.str z) (ys.map V.str) = decide (z ∈ ys)
  | [] => by rfl
  | y :: r => by
    have ih := inV_strs z r
    unfold inV at ih ⊢
    rw [List.map_cons, List.any_cons, ih]
    show ((y == z) || decide (z ∈ r)) = decide (z ∈ y :: r)
    by_cases e : z = y
    · subst e
      rw [beq_self_eq_true, decide_eq_true List.mem_cons_self]
      rfl
    · have e1 : (y == z) = false := beq_eq_false_iff_ne.mpr (Ne.symm e)
      rw [e1, Bool.false_or]
      by_cases h : z ∈ r
      · rw [decide_eq_true h, decide_eq_true (List.mem_cons_of_mem _ h)]
      · rw [decide_eq_false h, decide_eq_false (fun q => (List.mem_cons.mp q).elim e h)]
end Onp
set_option maxHeartbeats 4000000
set_option autoImplicit false
namespace Onp
open PySem PySem.Spec PyProof.Rows L2 HotX L2H LamX
/-! ### a lambda with one parameter, which has a whole number as its default and isn't used -/
abbrev dOb (q : Str) (ar : Arguments) (e : Expr) (sc : Scope) (cl : List (Str × Addr)) (T : Addr) (dc pm : Value) (c' : Addr) (ct : Value) : Obj := PySem.W.kdv_obj "<lambda>" q ar (.expr e) sc cl (.ref T) dc pm c' ct
structure LamD (sc scope : Scope) (x : Str) : Prop where
  kind : scope.kind = .function
  co : scope.isCoroutine = false
  gen : scope.isGenerator = false
  own : ∀ y ∈ scope.names, y.2 ≠ .cell ∧ (y.2 = .local → y.1 = x)
  par : scope.names.lookup x = some .local
  free : ∀ y ∈ scope.names, y.2 = .free → sc.names.lookup y.1 = some .cell ∨ sc.names.lookup y.1 = some .free
  non : ∀ y ∈ scope.names, y.1 ≠ ("" : Str)
def lamDB (sc scope : Scope) (x : Str) : Bool :=
  decide (scope.kind = .function) && !scope.isCoroutine && !scope.isGenerator && decide (scope.names.lookup x = some .local) &&
    scope.names.all fun y => !decide (y.2 = .cell) && (!decide (y.2 = .local) || decide (y.1 = x)) && !decide (y.1 = ("" : Str)) && (!decide (y.2 = .free) || decide (sc.names.lookup y.1 = some .cell) || decide (sc.names.lookup y.1 = some .free))
theorem lamD_by {sc scope : Scope} {x : Str} (h : lamDB sc scope x = true) : LamD sc scope x := by
  unfold lamDB at h
  simp only [Bool.and_eq_true, Bool.or_eq_true, Bool.not_eq_true', decide_eq_true_eq, decide_eq_false_iff_not, List.all_eq_true] at h
  obtain ⟨⟨⟨⟨h1, h2⟩, h3⟩, h5⟩, h4⟩ := h
  refine ⟨h1, h2, h3, fun y hy => ⟨(h4 y hy).1.1.1, fun z => ?_⟩, h5, fun y hy e => ?_, fun y hy => (h4 y hy).1.2⟩
  · exact (h4 y hy).1.1.2.elim (fun q => absurd z q) id
  · exact (h4 y hy).2.elim (fun q => q.elim (fun q => absurd e q) .inl) .inr
theorem LamD.has {X : Cx} {scope : Scope} {x : Str} (L : LamD X.env.scope scope x) (ok : X.Ok) : ∀ y ∈ scope.names, y.2 = .free → ∃ c, X.env.cells.lookup y.1 = some c := fun y hy e =>
  (L.free y hy e).elim (fun k => ok.has _ (.inl k)) (fun k => ok.has _ (.inr k))
def mask (x y : Str) : Str := if y = x then "" else y
def lamCxD (X : Cx) (A : Around) (outer : List Env) (s : Shared) (H : Hp) (E : XK) (scope : Scope) (f c' : Addr) (x : Str) : Cx := { lamCxN X A outer s H E scope f c' with N := X.N.map (mask x) }
section
variable {X : Cx} {pins : List (Addr × Obj)} {σ : L2.St} {H : Hp} {s : Shared}
theorem lam_makeD {T : List (Addr × Str)} {c P : Addr} {ar : Arguments} {body : Expr} {sc : Scope} {pos p0 : Pos} {z : Int} {u0 : Nat} {Er : Value → Shared → Prop} {Qv : Value → Shared → Prop} (I : Inv X pins σ H s) (TB : TabB X.base X.mg c P) (hcode : X.env.code = .ref c)
    (hm : (P, X.env.qual ++ "<lambda>") ∈ T) (hu : ∀ p ∈ T, p.1 = P → p.2 = X.env.qual ++ "<lambda>") (hT : Tabs T H) (hd1 : ar.defaults = [.Constant (.int z) u0 p0]) (hd2 : ar.kw_defaults = []) (hfree : ∀ y ∈ sc.names, y.2 = .free → ∃ c, X.env.cells.lookup y.1 = some c)
    (h : ∀ (f c' t : Addr) (dc pm ct : Value) (H1 : Hp) (s' : Shared), Inv X pins σ H1 s' → ExtN H H1 → Tabs T H1 → s'.heap.get? f = some (dOb (X.env.qual ++ "<lambda>") ar body sc (cloFrom X.env.cells sc.names []) t dc pm c' ct) →
      H1 f = none → f ∉ frs X.stack → H1 c' = some (CodeO c' (X.env.qual ++ "<lambda>")) → H1 t = some (.tup [.int z]) → Qv (.ref f) s') :
    wpAny (model X.prog X.w) X.A (eval (.Lambda ar body sc pos) X.env) Qv Er s := by
  refine PySem.W.kdv_lam (by rw [hd1]; rfl) hd2 ?_
  rw [hd1]
  refine PySem.W.kdv_all1 (wpAny_Constant_int (PySem.W.kdv_all0 ?_))
  have I1 := I.tok (s.toks + 1)
  have r1 : RelV (.int z) (.int z s.toks) := ⟨_, rfl⟩
  generalize (Value.int z s.toks) = uv at r1
  generalize ({ s with toks := s.toks + 1 } : Shared) = s1 at I1
  rw [makeFunction_eq]
  simp only [List.zip_nil_right, List.filterMap_nil, List.isEmpty_nil, if_true, pure_bind, List.isEmpty_cons, Bool.false_eq_true, if_false]
  refine wpAny_bind (wpAny_newTextTuple ?_)
  have nT : H s1.heap.objs.size = none := I1.hok.fresh (Nat.le_refl _)
  have I2 : Inv X pins σ (upd H s1.heap.objs.size (.tup [.int z])) { s1 with heap := s1.heap.push { cls := .type "tuple", data := .seq [uv].toArray } } :=
    I1.laid (t' := s1.toks) (fun b u e => Heap.get?_push_of_some _ e) (Nat.le_refl _) ⟨(by decide : 1 ≤ sizeLine), [uv], .cons r1 .nil, ⟨_, Heap.get?_push_size _ rfl, rfl, _, rfl⟩⟩
  have hT2 : Tabs T (upd H s1.heap.objs.size (.tup [.int z])) := hT.ext fun b o e => by
    rw [upd_ne (ne_of_none e nT)]
    exact e
  have e2 : ExtN H (upd H s1.heap.objs.size (.tup [.int z])) := ExtN.of fun b o e => by
    rw [upd_ne (ne_of_none e nT)]
    exact e
  have hTt : (upd H s1.heap.objs.size (.tup [.int z])) s1.heap.objs.size = some (.tup [.int z]) := upd_same
  generalize upd H s1.heap.objs.size (.tup [.int z]) = H2 at I2 hT2 e2 hTt
  generalize s1.heap.objs.size = t at hTt
  generalize ({ s1 with heap := s1.heap.push { cls := .type "tuple", data := .seq [uv].toArray } } : Shared) = s2 at I2
  obtain ⟨ps, hP, ht, ha⟩ := hT2 _ hm
  have bP : s2.heap.BuiltinsAt X.mg P := TB.bm.keeps I2.bk
  have hP' : s2.heap.get? P = some { cls := .none, data := .fields ps } := I2.hok P _ hP
  have nofr : ∀ f, s2.heap.objs.size ≤ f → f ∉ frs X.stack := fun f hf w => by
    rcases List.mem_cons.mp (I2.stkSub _ w) with e | e
    · have q := I2.lt
      rw [← e] at q
      exact absurd (Nat.lt_of_lt_of_le q hf) (Nat.lt_irrefl f)
    · exact I2.nofs hf e
  cases hc : codeAmong pos ps.toList with
  | none =>
    refine PySem.W.kdv_makeTail (mg := X.mg) (c := c) (P := P) (ps := ps) (dV := .ref t) (closure_ok hfree) I2.ok.glob (I2.mod.glob.keeps I2.bk) hcode (TB.code.keeps I2.bk) hP' ht hc TB.gP bP fun c' ct dc h' tk hx hge hlt hrec htb => ?_
    obtain ⟨c2, oc, vs, tq, e3, hoc, hd, hv⟩ := hrec
    cases e3
    have hsz : s2.heap.objs.size ≤ h'.objs.size := by omega
    have nC : H2 c' = none := I2.hok.fresh hge
    have J := inv_table (t' := tk) (more := #[rawInt pos.line, rawInt pos.col, .ref c']) (h' := h'.push (dOb (X.env.qual ++ "<lambda>") ar body sc (cloFrom X.env.cells sc.names []) t dc ((X.mg "__name__").getD .none) c' ct)) I2 hP
      (fun b o hb e => Heap.get?_push_of_some _ (hx b o hb e)) (Heap.get?_push_of_some _ htb) hge ⟨oc, vs, tq, Heap.get?_push_of_some _ hoc, hd, hv⟩
    have hE : ExtN H2 (upd (upd H2 P (.tbl (ps ++ #[rawInt pos.line, rawInt pos.col, .ref c']))) c' (CodeO c' (X.env.qual ++ "<lambda>"))) := fun b o e n => by
      rw [upd_ne (ne_of_none e nC), upd_ne (fun w => n ps (Option.some.inj (e.symm.trans (by rw [w]; exact hP))))]
      exact e
    have eL : (ps ++ #[rawInt pos.line, rawInt pos.col, .ref c']).toList = ps.toList ++ [rawInt pos.line, rawInt pos.col, .ref c'] := by simp
    refine h h'.objs.size c' t dc ((X.mg "__name__").getD .none) ct _ _ J (e2.trans hE) (fun p hp => ?_) (Heap.get?_push_size _ rfl) ?_ (nofr _ hsz) upd_same (hE _ _ hTt fun ps w => by cases w)
    · by_cases hb : p.1 = P
      · rw [hu p hp hb, hb]
        refine ⟨_, by rw [upd_ne (ne_of_none hP nC), upd_same], by rw [eL]; exact PySem.TriplesOk_snoc _ _ _ _ ht, fun p' cv hcv => ?_⟩
        rw [eL] at hcv
        rcases among_app _ ht hcv with w | w
        · obtain ⟨c0, q1, q2⟩ := ha p' cv w
          exact ⟨c0, q1, hE _ _ q2 codeO_ne⟩
        · exact ⟨c', w, upd_same⟩
      · obtain ⟨ps', a1, a2, a3⟩ := hT2 p hp
        refine ⟨ps', by rw [upd_ne (ne_of_none a1 nC), upd_ne hb]; exact a1, a2, fun p' cv hcv => ?_⟩
        obtain ⟨c0, q1, q2⟩ := a3 p' cv hcv
        exact ⟨c0, q1, hE _ _ q2 codeO_ne⟩
    · have n1 : h'.objs.size ≠ c' := by omega
      have n2 : h'.objs.size ≠ P := by
        exact Nat.ne_of_gt (Nat.lt_of_lt_of_le (Heap.lt_size hP') (by omega))
      rw [upd_ne n1, upd_ne n2]
      exact I2.hok.fresh hsz
  | some cv =>
    obtain ⟨c', e, hco⟩ := ha pos cv hc
    subst e
    refine PySem.W.kdv_makeTailHit (mg := X.mg) (c := c) (P := P) (ps := ps) (dV := .ref t) (closure_ok hfree) I2.ok.glob (I2.mod.glob.keeps I2.bk) hcode (TB.code.keeps I2.bk) hP' ht hc bP fun ct dc h' tk hx hsz => ?_
    have J : Inv X pins σ H2 { s2 with heap := h'.push (dOb (X.env.qual ++ "<lambda>") ar body sc (cloFrom X.env.cells sc.names []) t dc ((X.mg "__name__").getD .none) c' ct), toks := tk } := I2.kept fun b o e => Heap.get?_push_of_some _ (hx b o e)
    exact h h'.objs.size c' t dc ((X.mg "__name__").getD .none) ct H2 _ J e2 hT2 (Heap.get?_push_size _ rfl) (I2.hok.fresh hsz) (nofr _ hsz) hco hTt
theorem lam_startD {HZ : Hp} {s1 : Shared} {A : Around} {outer : List Env} {E : XK} {sc : Scope} {f c' : Addr} {x : Str} {uz : Value} {j : Heap} {tk : Nat} (I : Inv X pins σ H s) (L : LamD X.env.scope sc x) (e0 : Env0 X.prog X.w X.K X.mg X.base A outer s1 HZ) (hd : A.handled = none)
    (un : Un (frs X.stack) [] H HZ s.heap s1.heap) (hns : j.Ns s1.heap.objs.size fun y => ([(x, uz)] : List (Str × Value)).reverse.lookup y) (kp : ∀ b o, s1.heap.get? b = some o → j.get? b = some o) : Inv (lamCxD X A outer s1 HZ E sc f c' x) [] σ HZ { s1 with heap := j, toks := tk } := by
  have hfree := L.has I.ok
  have cm : ∀ {y c}, (cloFrom X.env.cells sc.names []).lookup y = some c → X.env.cells.lookup y = some c := fun {y c} e => by
    rcases cloFrom_mem (PySem.mem_of_lookup e) with q | ⟨q1, q2⟩
    · cases q
    · obtain ⟨c1, hc⟩ := hfree _ q1 rfl
      have hc : X.env.cells.lookup y = some c1 := hc
      rw [hc] at q2
      rw [q2]
      exact hc
  have look : ∀ {y}, sc.names.lookup y = some .free → ∃ c, (cloFrom X.env.cells sc.names []).lookup y = some c := fun {y} q => mem_lookup (cloFrom_has (cells := X.env.cells) (acc := []) (PySem.mem_of_lookup q))
  have cellK : ∀ {c : Addr} {v : Option Value}, H c = none → s.heap.IsCell c v → j.IsCell c v := fun {c v} n ⟨o, ho, hd⟩ => by
    obtain ⟨sl, q⟩ := un.any ho n (by simp)
    exact ⟨_, kp _ _ q, hd⟩
  have noA : ∀ b : Addr, b ∉ (lamCxD X A outer s1 HZ E sc f c' x).ex := fun b w => nomatch (show b ∈ ([] : List Addr) from w)
  refine ⟨⟨e0.mod, L.kind, rfl, rfl, Nat.le_refl _, fun y w c e1 e2 => I.ok.inj y w c (cm e1) (cm e2), fun y hy => ?_, fun y c w _ => ?_, fun _ => hd, Around.frames_deeper e0.frames, .inr ⟨rfl, rfl⟩, fun b w => absurd w (noA b), e0.bs, e0.bsz, fun b _ _ => noA b,
      fun b w => absurd w (noA b), e0.funs, e0.frf⟩, rfl, e0.bare, Un.kept kp, ⟨_, hns, fun i y v e1 e2 e3 => ?_⟩, fun y c e => ?_, e0.hok.fresh (Nat.le_refl _), fun y c e => ?_, fun q hq => (nomatch (show q ∈ ([] : List (Addr × Obj)) from hq)), e0.hok.kept kp, ?_⟩
  · have hy : sc.names.lookup y = some .cell ∨ sc.names.lookup y = some .free := hy
    rcases hy with hy | hy
    · exact absurd rfl (L.own _ (PySem.mem_of_lookup hy)).1
    · exact look hy
  · exact absurd (show false = true from w) (by decide)
  · have e1 : (X.N.map (mask x))[i]? = some y := e1
    rw [List.getElem?_map] at e1
    obtain ⟨y0, ey, em⟩ := Option.map_eq_some_iff.mp e1
    have e3 : Vis sc y := e3
    by_cases hx : y0 = x
    · have ym : y = "" := by
        rw [← em]
        unfold mask
        rw [if_pos hx]
      rcases e3 with k | k | k <;> exact absurd ym (L.non _ (PySem.mem_of_lookup k))
    · have ym : y0 = y := by
        rw [← em]
        unfold mask
        rw [if_neg hx]
      subst ym
      rcases e3 with k | k | k
      · exact absurd ((L.own _ (PySem.mem_of_lookup k)).2 rfl) hx
      · exact absurd rfl (L.own _ (PySem.mem_of_lookup k)).1
      · obtain ⟨m, hn, hl⟩ := I.loc
        have hf := L.free _ (PySem.mem_of_lookup k) rfl
        have hvis : Vis X.env.scope y0 := hf.elim (fun k => .inr (.inl k)) (fun k => .inr (.inr k))
        obtain ⟨u', r, q⟩ := hl i y0 v ey e2 hvis
        obtain ⟨c2, h2⟩ := look k
        refine ⟨u', r, .inr ⟨.inr k, c2, h2, ?_⟩⟩
        have c1 := cm h2
        rcases q with ⟨k', _⟩ | ⟨_, c3, e', w⟩
        · have k' : X.env.scope.names.lookup y0 = some .local := k'
          rcases hf with k2 | k2 <;> rw [show X.env.scope.names.lookup y0 = _ from k2] at k' <;> cases k'
        · rw [c1] at e'
          cases e'
          exact cellK (I.freeC y0 _ c1) w
  · obtain ⟨u', w⟩ := I.cell y c (cm e)
    exact ⟨u', cellK (I.freeC y c (cm e)) w⟩
  · obtain ⟨v, o, ho, hd⟩ := I.cell y c (cm e)
    exact un.free c o ho (I.freeC y c (cm e)) (by simp)
  · show σ.length = (X.N.map (mask x)).length
    rw [List.length_map]
    exact I.len
/-- how a default is bound -/
def BindD (ar : Arguments) (body : Expr) (sc : Scope) (x : Str) : Prop := ∀ (q : Str) (cl : List (Str × Addr)) (T : Addr) (dc pm cv ct : Value), ∃ k, bindArgs (PySem.W.kdv_fn "<lambda>" q ar (.expr body) sc cl (.ref T) dc pm cv ct) ⟨[], []⟩ = seqItems? (.ref T) >>= k ∧ ∀ u, k (some #[u]) = pure [(x, u)]
theorem pe_actD {CXg : CXT} {Eg : XK} {Ng : List Str} {qg : Str} {sg : Scope} {g f c' t : Addr} {cdg dc pm ct : Value} {ar : Arguments} {body : Expr} {sc : Scope} {k i : Nat} {a x : Str} {z : Int} {pn : List (Addr × Obj)} {xe : Value → Shared → Prop} {W : WX} {E : XK} {tb : TE} {p1 p2 : Pos}
    (I : Inv X pins σ H s) (L : LamD X.env.scope sc x) (hf : s.heap.get? f = some (dOb (X.env.qual ++ "<lambda>") ar body sc (cloFrom X.env.cells sc.names []) t dc pm c' ct)) (hfn : H f = none) (hfr : f ∉ frs X.stack) (hbind : BindD ar body sc x)
    (tk : L2N.Takes ((cxOf CXg X.prog X.w X.K X.mg X.base Ng qg sg g cdg X.A X.stack s H Eg).tr pn xe) W) (hW : ∀ cls d σ' H', E cls d H' → W cls d σ' H') (hr : Room (k + 1) (X.A.deeper (envOfC qg sg s.heap.objs.size g cdg)))
    (hbody : ∀ (A : Around) (outer : List Env) (s : Shared) (H : Hp), Room k (A.deeper (lamEnv X sc s.heap.objs.size f c')) → PE (lamCxD X A outer s H E sc f c' x) body tb)
    (hN : Ng[i]? = some a) (hv : Vis sg a) (hd : (a == ("__debug__" : Str)) = false) (hcd : (a == ("__classdict__" : Str)) = false) :
    PE ((cxOf CXg X.prog X.w X.K X.mg X.base Ng qg sg g cdg X.A X.stack s H Eg).tr pn xe) (.Call (.Name a p1) [] [] p2) (fun σZ HZ Q => σZ[i]? = some (some (.ref f)) ∧ HZ c' = some (CodeO c' (X.env.qual ++ "<lambda>")) ∧ HZ t = some (.tup [.int z]) ∧ tb σ HZ Q) := by
  refine ⟨fun pinsZ sZ σZ HZ Q IZ ⟨hs, hc, hz, ht⟩ => ?_⟩
  refine wpAny_Call_Name_kw (thn ((pe_var (pos := p1) (i := i) hN hv hd hcd).run pinsZ sZ σZ HZ (fun v H1 => v = .ref f ∧ H1 = HZ) IZ ⟨.ref f, hs, rfl, rfl⟩) fun u s1 ⟨v, H1, I1, r1, ev, eH⟩ => ?_)
  subst ev
  rw [eH] at I1
  obtain rfl : u = Value.ref f := r1
  have of1 := I1.base.keep f _ hf hfn hfr (fun w => nomatch (show f ∈ ([] : List Addr) from w))
  refine PySem.W.callWith_F0 ⟨_, _, _, _, of1⟩ ?_
  obtain ⟨⟨oc, vs, tq, hoc, hdc, hvc⟩, _, _⟩ := I1.hok c' _ hc
  obtain ⟨_, us, rz, ⟨ot, hot, hcl, n, hdt⟩⟩ := I1.hok t _ hz
  obtain ⟨uz, rfl⟩ : ∃ uz, us = [uz] := by
    cases rz with
    | cons r1 r2 =>
      cases r2
      exact ⟨_, rfl⟩
  obtain ⟨kb, b1, b2⟩ := hbind (X.env.qual ++ "<lambda>") (cloFrom X.env.cells sc.names []) t dc pm (.ref c') ct
  have rc : codeAny (model X.prog X.w) (X.A.deeper (envOfC qg sg s.heap.objs.size g cdg)) (.call (.ref f) ⟨[], []⟩) (CR (L2N.CX X.prog X.w) (envOfC qg sg s.heap.objs.size g cdg :: X.stack) X.prog X.w HZ s1 Q E) s1 := by
    refine PySem.W.kla_callFunE hr.depth of1 rfl L.co L.gen rfl ⟨c', oc, vs, tq, rfl, hoc, hdc, hvc⟩ (BindsTo.of_defaults (T := t) rfl hot hdt b1 (b2 uz) _ _ _ _ ?_)
    refine wpAny_newFunctionEnv (fun y hy => (L.own y hy).1) (fun y hy => ?_) (fun j hns hsb => ⟨I1.nolimit.fresh _ hsb, ?_⟩) L.kind
    · rw [List.mem_singleton.mp hy]
      exact L.par
    show codeAny _ _ (.expr body (lamEnv X sc s1.heap.objs.size f c')) _ _
    have kp : ∀ b o, s1.heap.get? b = some o → j.get? b = some o := fun b o e => hsb.extBut b o (Nat.ne_of_lt (Heap.lt_size e)) (Heap.get?_push_of_some _ e)
    have J : Inv (lamCxD X (X.A.deeper (envOfC qg sg s.heap.objs.size g cdg)) (envOfC qg sg s.heap.objs.size g cdg :: X.stack) s1 HZ E sc f c' x) [] σ HZ { s1 with heap := j, toks := s1.toks + ([(x, uz)] : List (Str × Value)).length } := lam_startD I L I1.env0 hr.hd I1.base hns kp
    refine PySem.W.kla_codeExpr (wpAny_mono ((hbody _ _ s1 HZ (hr.deeper _)).run [] _ _ HZ Q J ht) (fun v s' hq => ?_) fun e s' hq => hq)
    obtain ⟨w', H', J', rv, q⟩ := hq
    exact ⟨w', H', J'.os, J'.bare, J'.base, J'.hok, rv, q⟩
  have hx := L2N.passes_call tk hW
  refine wpAny_call (codeAny_mono rc fun r s' hq => ?_)
  rcases r with e | fl
  · exact hx pinsZ σZ HZ s1 e s' I1 hq
  · cases fl with
    | ret u => exact I1.after hq
    | next => exact False.elim hq
    | brk => exact False.elim hq
    | cont => exact False.elim hq
/-- what the def makes of the lambda may also be told that a fact of the heap holds -/
def Adds (TT : (XK → Hp → VK → Prop) → Hp → VK → Prop) : Prop := ∀ (c : Hp → Prop) (tl : XK → Hp → VK → Prop) (H : Hp) (Q : VK), c H → TT tl H Q → TT (fun E H' Q' => c H' ∧ tl E H' Q') H Q
theorem pe_lamD {T : List (Addr × Str)} {TT : (XK → Hp → VK → Prop) → Hp → VK → Prop} {x a y : Str} {g c P : Addr} {k : Nat} {pg : Arguments} {bg : List Stmt} {sg : Scope} {dV kV doc pm cdv ct oc : Value} {an od : Option Addr} {osl : Array (Option Value)} {Ng : List Str}
    {ar : Arguments} {body : Expr} {sc : Scope} {t : XK → TE} {z : Int} {u0 : Nat} {p p0 lpos pos : Pos} (hg : Gl X x) (hm : X.mg x = some (.ref g)) (hk : PySem.W.keepIn X.K (.ref g) = true) (lk : X.K.lookup g = some ⟨oc, od, .func (PySem.W.fnOf x x pg bg sg dV kV doc pm an cdv ct), osl⟩)
    (hcg : PySem.W.codeIn X.K cdv x = true) (hb : L2.Binds X.K (PySem.W.fnOf x x pg bg sg dV kV doc pm an cdv ct) [a] []) (Sg : FnScope Ng [a] sg) (hNg : Ng[0]? = some a) (hva : Vis sg a) (hG : GivesN X k Ng x sg g cdv bg a (X.env.qual ++ "<lambda>") TT) (hA : Adds TT)
    (TB : TabB X.base X.mg c P) (hcode : X.env.code = .ref c) (hmT : (P, X.env.qual ++ "<lambda>") ∈ T) (hu : ∀ p ∈ T, p.1 = P → p.2 = X.env.qual ++ "<lambda>") (hr : Room (k + 2) X.A) (L : LamD X.env.scope sc y) (hd1 : ar.defaults = [.Constant (.int z) u0 p0]) (hd2 : ar.kw_defaults = []) (hbind : BindD ar body sc y)
    (hbody : ∀ (A : Around) (outer : List Env) (s : Shared) (H : Hp) (E : XK) (f c' : Addr), Room k (A.deeper (lamEnv X sc s.heap.objs.size f c')) → PE (lamCxD X A outer s H E sc f c' y) body (t E))
    (hdb : (x == ("__debug__" : Str)) = false := by decide) (hd : (a == ("__debug__" : Str)) = false := by decide) (hcd : (a == ("__classdict__" : Str)) = false := by decide) : PE X (.Call (.Name x p) [.Lambda ar body sc lpos] [] pos) (tLam T TT t) := by
  refine ⟨fun pins s σ H Q I ⟨hT, h⟩ => wpAny_Call_Name_kw (ld_glob I hg hm ?_ hdb)⟩
  refine PySem.W.callWith_K (h₀ := X.base) I.ok.mod.kin hk ?_ (by rfl) (by rfl)
  show wpAny _ _ (spliced ((false, eval (.Lambda ar body sc lpos) X.env) :: backTo pos (starEach [] X.env))) _ _ s
  refine Calls.spliced_cons (lam_makeD I TB hcode hmT hu hT hd1 hd2 (L.has I.ok) fun f c' tt dc pm' ctv H1 s' I1 eN T1 hf hfn hfr hco htt => Calls.spliced_nil ⟨I1.kIn, ?_⟩)
  have rc : codeAny (model X.prog X.w) X.A (.call (.ref g) ⟨[.ref f], []⟩) (CR CX0 X.stack X.prog X.w H1 s' Q E0) s' := by
    refine run_ofS (N := Ng) (ps := [a]) (us := [.ref f]) (vs := [.ref f]) lk hcg Sg hr I1.env0 (hb s' [.ref f] I1.kIn rfl) (.cons rfl .nil) rfl fun hr' => ?_
    obtain ⟨t', ht', hq'⟩ := hG f c' s' H1 Q (fun E H' Q' => H' tt = some (.tup [.int z]) ∧ t E σ H' Q') hr' (fun W pn xe E p1 p2 tk hW => pe_actD (i := 0) I1 L hf hfn hfr hbind tk hW hr' (fun A outer s H hr2 => hbody A outer s H E f c' hr2) hNg hva hd hcd) hco (hA _ _ _ _ htt (h H1 eN T1))
    exact ⟨t', ht'.nox, hq'⟩
  refine wpAny_call (codeAny_mono rc fun r s2 hq => ?_)
  rcases r with e | fl
  · exact (show False from hq).elim
  · cases fl with
    | ret u => exact I1.after hq
    | next => exact False.elim hq
    | brk => exact False.elim hq
    | cont => exact False.elim hq
end
end Onp
set_option maxHeartbeats 4000000
set_option autoImplicit false
namespace Onp
open PySem PySem.Spec PyProof.Rows L2 HotX L2H LamX
/-! ### a lambda with one parameter and no captured names, handed as the fourth thing to a def that calls it -/
structure Lam1 (scope : Scope) (x : Str) : Prop where
  kind : scope.kind = .function
  co : scope.isCoroutine = false
  gen : scope.isGenerator = false
  own : ∀ y ∈ scope.names, y.2 ≠ .cell ∧ y.2 ≠ .free ∧ (y.2 = .local → y.1 = x)
  par : scope.names.lookup x = some .local
def lam1B (scope : Scope) (x : Str) : Bool :=
  decide (scope.kind = .function) && !scope.isCoroutine && !scope.isGenerator && decide (scope.names.lookup x = some .local) && scope.names.all fun y => !decide (y.2 = .cell) && !decide (y.2 = .free) && (!decide (y.2 = .local) || decide (y.1 = x))
theorem lam1_by {scope : Scope} {x : Str} (h : lam1B scope x = true) : Lam1 scope x := by
  unfold lam1B at h
  simp only [Bool.and_eq_true, Bool.or_eq_true, Bool.not_eq_true', decide_eq_true_eq, decide_eq_false_iff_not, List.all_eq_true] at h
  obtain ⟨⟨⟨⟨h1, h2⟩, h3⟩, h5⟩, h4⟩ := h
  exact ⟨h1, h2, h3, fun y hy => ⟨(h4 y hy).1.1, (h4 y hy).1.2, fun z => (h4 y hy).2.elim (fun q => absurd z q) id⟩, h5⟩
def lamCx1 (X : Cx) (A : Around) (outer : List Env) (s : Shared) (H : Hp) (scope : Scope) (f c' : Addr) (x : Str) : Cx :=
  { lamCx X A outer s H (fun _ _ _ => False) scope f c' with N := [x], xe := fun e s' => wpAny (model X.prog X.w) (A.deeper (lamEnv X scope s.heap.objs.size f c')) (leaving (lamEnv X scope s.heap.objs.size f c') e) (fun _ _ => False) (fun _ _ => False) s' }
section
variable {X : Cx} {pins : List (Addr × Obj)} {σ : L2.St} {H : Hp} {s : Shared}
theorem lam_start1 {HZ : Hp} {s1 : Shared} {A : Around} {outer : List Env} {sc : Scope} {f c' : Addr} {x : Str} {v : V} {uz : Value} {j : Heap} {tk : Nat} (L : Lam1 sc x) (e0 : Env0 X.prog X.w X.K X.mg X.base A outer s1 HZ) (hd : A.handled = none)
    (rv : RelV v uz) (hns : j.Ns s1.heap.objs.size fun y => ([(x, uz)] : List (Str × Value)).reverse.lookup y) (kp : ∀ b o, s1.heap.get? b = some o → j.get? b = some o) : Inv (lamCx1 X A outer s1 HZ sc f c' x) [] [some v] HZ { s1 with heap := j, toks := tk } := by
  have nocell : ∀ {y c}, (cloFrom X.env.cells sc.names []).lookup y = some c → False := fun {y c} e => by
    rcases cloFrom_mem (PySem.mem_of_lookup e) with q | ⟨q1, q2⟩
    · cases q
    · exact (L.own _ q1).2.1 rfl
  have noA : ∀ b : Addr, b ∉ (lamCx1 X A outer s1 HZ sc f c' x).ex := fun b w => nomatch (show b ∈ ([] : List Addr) from w)
  refine ⟨⟨e0.mod, L.kind, rfl, rfl, Nat.le_refl _, fun y w c e1 e2 => (nocell e1).elim, fun y hy => ?_, fun y c w _ => ?_, fun _ => hd, Around.frames_deeper e0.frames, .inr ⟨rfl, rfl⟩, fun b w => absurd w (noA b), e0.bs, e0.bsz, fun b _ _ => noA b,
      fun b w => absurd w (noA b), e0.funs, e0.frf⟩, rfl, e0.bare, Un.kept kp, ⟨_, hns, fun i y u e1 e2 e3 => ?_⟩, fun y c e => (nocell e).elim, e0.hok.fresh (Nat.le_refl _), fun y c e => (nocell e).elim, fun q hq => (nomatch (show q ∈ ([] : List (Addr × Obj)) from hq)), e0.hok.kept kp, rfl⟩
  · have hy : sc.names.lookup y = some .cell ∨ sc.names.lookup y = some .free := hy
    rcases hy with hy | hy
    · exact absurd rfl (L.own _ (PySem.mem_of_lookup hy)).1
    · exact absurd rfl (L.own _ (PySem.mem_of_lookup hy)).2.1
  · exact absurd (show false = true from w) (by decide)
  · have e1 : ([x] : List Str)[i]? = some y := e1
    cases i with
    | zero =>
      obtain rfl : x = y := Option.some.inj e1
      obtain rfl : v = u := Option.some.inj (Option.some.inj e2)
      refine ⟨uz, rv, .inl ⟨L.par, ?_⟩⟩
      show List.lookup x [(x, uz)] = some uz
      rw [List.lookup_cons, beq_self_eq_true]
    | succ i => exact absurd e1 (by simp)
/-- a(e) in the def that was handed the lambda -/
theorem pe_act1 {Ng : List Str} {qg : Str} {sg : Scope} {g f c' : Addr} {cdg pm ct : Value} {ar : Arguments} {body : Expr} {sc : Scope} {k i : Nat} {a x : Str} {tb : V → Hp → VK → Prop} {te : TE} {e : Expr} {p1 p2 : Pos}
    (L : Lam1 sc x) (hf : s.heap.get? f = some (PySem.W.kla_obj "<lambda>" (X.env.qual ++ "<lambda>") ar body sc (cloFrom X.env.cells sc.names []) pm c' ct)) (hfn : H f = none) (hfr : f ∉ frs X.stack)
    (hbind : ∀ u, bindArgs (PySem.W.kla_fn "<lambda>" (X.env.qual ++ "<lambda>") ar body sc (cloFrom X.env.cells sc.names []) pm (.ref c') ct) ⟨[u], []⟩ = pure [(x, u)]) (hr : Room (k + 1) (X.A.deeper (envOfC qg sg s.heap.objs.size g cdg)))
    (hbody : ∀ (A : Around) (outer : List Env) (s : Shared) (H : Hp), PE (lamCx1 X A outer s H sc f c' x) body (fun σ H Q => ∃ v, σ = [some v] ∧ tb v H Q))
    (hN : Ng[i]? = some a) (hv : Vis sg a) (he : PE (cxOf CX0 X.prog X.w X.K X.mg X.base Ng qg sg g cdg X.A X.stack s H E0).nox e te) (hd : (a == ("__debug__" : Str)) = false) (hcd : (a == ("__classdict__" : Str)) = false)
    (hs : ∀ env, starEach [e] env = [(false, eval e env)]) :
    PE (cxOf CX0 X.prog X.w X.K X.mg X.base Ng qg sg g cdg X.A X.stack s H E0).nox (.Call (.Name a p1) [e] [] p2) (fun σZ HZ Q => σZ[i]? = some (some (.ref f)) ∧ te σZ HZ fun v H1 => H1 c' = some (CodeO c' (X.env.qual ++ "<lambda>")) ∧ tb v H1 Q) := by
  refine ⟨fun pinsZ sZ σZ HZ Q IZ ⟨hsl, ht⟩ => ?_⟩
  refine wpAny_Call_Name_kw (thn ((pe_var (pos := p1) (i := i) hN hv hd hcd).run pinsZ sZ σZ HZ (fun v H1 => v = .ref f ∧ H1 = HZ) IZ ⟨.ref f, hsl, rfl, rfl⟩) fun u s1 ⟨v, H1, I1, r1, ev, eH⟩ => ?_)
  subst ev
  rw [eH] at I1
  obtain rfl : u = Value.ref f := r1
  have of1 := I1.base.keep f _ hf hfn hfr (fun w => nomatch (show f ∈ ([] : List Addr) from w))
  refine PySem.W.callWith_F (first := []) ⟨_, _, _, _, of1⟩ ?_ (by rw [hs]; rfl) (by rfl)
  rw [hs]
  refine Calls.spliced_cons (thn (he.run pinsZ s1 σZ HZ _ I1 ht) fun ua s2 ⟨va, H2, I2, rva, hc, hq⟩ => Calls.spliced_nil ?_)
  have of2 := I2.base.keep f _ hf hfn hfr (fun w => nomatch (show f ∈ ([] : List Addr) from w))
  refine ⟨⟨_, _, _, _, of2⟩, ?_⟩
  obtain ⟨⟨oc, vs, tq, hoc, hdc, hvc⟩, _, _⟩ := I2.hok c' _ hc
  have rc : codeAny (model X.prog X.w) (X.A.deeper (envOfC qg sg s.heap.objs.size g cdg)) (.call (.ref f) ⟨[ua], []⟩) (CR CX0 (envOfC qg sg s.heap.objs.size g cdg :: X.stack) X.prog X.w H2 s2 Q E0) s2 := by
    refine PySem.W.kla_callFunE hr.depth of2 rfl L.co L.gen rfl ⟨c', oc, vs, tq, rfl, hoc, hdc, hvc⟩ ?_
    rw [hbind]
    refine wpAny_pure (wpAny_newFunctionEnv (fun y hy => (L.own y hy).1) (fun y hy => ?_) (fun j hns hsb => ⟨I2.nolimit.fresh _ hsb, ?_⟩) L.kind)
    · rw [List.mem_singleton.mp hy]
      exact L.par
    show codeAny _ _ (.expr body (lamEnv X sc s2.heap.objs.size f c')) _ _
    have kp : ∀ b o, s2.heap.get? b = some o → j.get? b = some o := fun b o e => hsb.extBut b o (Nat.ne_of_lt (Heap.lt_size e)) (Heap.get?_push_of_some _ e)
    have J : Inv (lamCx1 X (X.A.deeper (envOfC qg sg s.heap.objs.size g cdg)) (envOfC qg sg s.heap.objs.size g cdg :: X.stack) s2 H2 sc f c' x) [] [some va] H2 { s2 with heap := j, toks := s2.toks + ([(x, ua)] : List (Str × Value)).length } := lam_start1 L I2.env0 hr.hd rva hns kp
    refine PySem.W.kla_codeExpr (wpAny_mono ((hbody _ _ s2 H2).run [] _ _ H2 Q J ⟨va, rfl, hq⟩) (fun v s' hq => ?_) fun e s' hq => wpAny_mono hq (fun _ _ z => z.elim) fun _ _ z => z.elim)
    obtain ⟨w', H', J', rv, q⟩ := hq
    exact ⟨w', H', J'.os, J'.bare, J'.base, J'.hok, rv, q⟩
  refine wpAny_call (codeAny_mono rc fun r s' hq => ?_)
  rcases r with e | fl
  · exact (show False from hq).elim
  · cases fl with
    | ret u => exact I2.after hq
    | next => exact False.elim hq
    | brk => exact False.elim hq
    | cont => exact False.elim hq
/-- the def's promise of a lambda that makes tb of a thing -/
def Gives1 (X : Cx) (k : Nat) (Ng : List Str) (x : Str) (sg : Scope) (g : Addr) (cdg : Value) (bg : List Stmt) (a : Str) (q : Str) (tb : V → Hp → VK → Prop) (sp : V → V → V → Hp → VK → Prop) : Prop :=
  ∀ (f c' : Addr) (s : Shared) (H : Hp) (Q : VK) (v0 v1 v2 : V), Room (k + 1) (X.A.deeper (envOfC x sg s.heap.objs.size g cdg)) →
    (∀ (e : Expr) (te : TE) (p1 p2 : Pos), (∀ env, starEach [e] env = [(false, eval e env)]) → PE (cxOf CX0 X.prog X.w X.K X.mg X.base Ng x sg g cdg X.A X.stack s H E0).nox e te →
      PE (cxOf CX0 X.prog X.w X.K X.mg X.base Ng x sg g cdg X.A X.stack s H E0).nox (.Call (.Name a p1) [e] [] p2) (fun σZ HZ Q => σZ[3]? = some (some (.ref f)) ∧ te σZ HZ fun v H1 => H1 c' = some (CodeO c' q) ∧ tb v H1 Q)) →
    H c' = some (CodeO c' q) → sp v0 v1 v2 H Q →
    ∃ t, PSs (cxOf CX0 X.prog X.w X.K X.mg X.base Ng x sg g cdg X.A X.stack s H E0).nox bg t ∧ t { nx := fun _ H' => Q .non H', rt := Q } (L2.start Ng [v0, v1, v2, .ref f]) H
def tLam1 (T : List (Addr × Str)) (sp : V → V → V → Hp → VK → Prop) (t0 t1 t2 : TE) : TE := fun σ H Q => t0 σ H fun v0 H0 => t1 σ H0 fun v1 H1 => t2 σ H1 fun v2 H2 => Tabs T H2 ∧ ∀ H3, ExtN H2 H3 → Tabs T H3 → sp v0 v1 v2 H3 Q
theorem pe_lam1 {T : List (Addr × Str)} {sp : V → V → V → Hp → VK → Prop} {x a y : Str} {a0 a1 a2 : Str} {g c P : Addr} {k : Nat} {pg : Arguments} {bg : List Stmt} {sg : Scope} {dV kV doc pm cdv ct oc : Value} {an od : Option Addr} {osl : Array (Option Value)} {Ng : List Str}
    {e0 e1 e2 : Expr} {t0 t1 t2 : TE} {ar : Arguments} {body : Expr} {sc : Scope} {tb : V → Hp → VK → Prop} {p lpos pos : Pos} (hg : Gl X x) (hm : X.mg x = some (.ref g)) (hk : PySem.W.keepIn X.K (.ref g) = true) (lk : X.K.lookup g = some ⟨oc, od, .func (PySem.W.fnOf x x pg bg sg dV kV doc pm an cdv ct), osl⟩)
    (hcg : PySem.W.codeIn X.K cdv x = true) (hb : L2.Binds X.K (PySem.W.fnOf x x pg bg sg dV kV doc pm an cdv ct) [a0, a1, a2, a] []) (Sg : FnScope Ng [a0, a1, a2, a] sg) (hNg : Ng[3]? = some a) (hva : Vis sg a) (hG : Gives1 X k Ng x sg g cdv bg a (X.env.qual ++ "<lambda>") tb sp)
    (TB : TabB X.base X.mg c P) (hcode : X.env.code = .ref c) (hmT : (P, X.env.qual ++ "<lambda>") ∈ T) (hu : ∀ p ∈ T, p.1 = P → p.2 = X.env.qual ++ "<lambda>") (hr : Room (k + 2) X.A) (L : Lam1 sc y) (hdef : defaultsOf ar X.env = ([], []))
    (hbind : ∀ (q : Str) (cl : List (Str × Addr)) (pm cv ctv u : Value), bindArgs (PySem.W.kla_fn "<lambda>" q ar body sc cl pm cv ctv) ⟨[u], []⟩ = pure [(y, u)])
    (he0 : PE X e0 t0) (he1 : PE X e1 t1) (he2 : PE X e2 t2) (hbody : ∀ (A : Around) (outer : List Env) (s : Shared) (H : Hp) (f c' : Addr), PE (lamCx1 X A outer s H sc f c' y) body (fun σ H Q => ∃ v, σ = [some v] ∧ tb v H Q))
    (hs : ∀ env, starEach [e0, e1, e2, .Lambda ar body sc lpos] env = [(false, eval e0 env), (false, eval e1 env), (false, eval e2 env), (false, eval (.Lambda ar body sc lpos) env)])
    (hs2 : ∀ env, starEach [e1, e2, .Lambda ar body sc lpos] env = [(false, eval e1 env), (false, eval e2 env), (false, eval (.Lambda ar body sc lpos) env)])
    (hdb : (x == ("__debug__" : Str)) = false := by decide) (hd : (a == ("__debug__" : Str)) = false := by decide) (hcd : (a == ("__classdict__" : Str)) = false := by decide) : PE X (.Call (.Name x p) [e0, e1, e2, .Lambda ar body sc lpos] [] pos) (tLam1 T sp t0 t1 t2) := by
  refine ⟨fun pins s σ H Q I h => wpAny_Call_Name_kw (ld_glob I hg hm ?_ hdb)⟩
  refine PySem.W.callWith_K (h₀ := X.base) I.ok.mod.kin hk ?_ (by rw [hs, hs2]) (by rw [hs2]; rfl)
  rw [hs]
  have nof : ∀ y ∈ sc.names, y.2 = .free → ∃ c, X.env.cells.lookup y.1 = some c := fun y hy e => absurd e (L.own y hy).2.1
  refine Calls.spliced_cons (thn (he0.run pins s σ H _ I h) fun u0 s0 ⟨v0, H0, I0, r0, h0⟩ => ?_)
  refine Calls.spliced_cons (thn (he1.run pins s0 σ H0 _ I0 h0) fun u1 s1 ⟨v1, H1, I1, r1, h1⟩ => ?_)
  refine Calls.spliced_cons (thn (he2.run pins s1 σ H1 _ I1 h1) fun u2 s2 ⟨v2, H2, I2, r2, hT, h2⟩ => ?_)
  refine Calls.spliced_cons (lam_make2 I2 TB hcode hmT hu hT hdef nof fun f c' pm' ctv H3 s' I3 eN T3 hf hfn hfr hco => Calls.spliced_nil ⟨I3.kIn, ?_⟩)
  have rc : codeAny (model X.prog X.w) X.A (.call (.ref g) ⟨[u0, u1, u2, .ref f], []⟩) (CR CX0 X.stack X.prog X.w H3 s' Q E0) s' := by
    refine run_ofS (N := Ng) (ps := [a0, a1, a2, a]) (us := [u0, u1, u2, .ref f]) (vs := [v0, v1, v2, .ref f]) lk hcg Sg hr I3.env0 (hb s' [u0, u1, u2, .ref f] I3.kIn rfl) (.cons r0 (.cons r1 (.cons r2 (.cons rfl .nil)))) rfl fun hr' => ?_
    obtain ⟨t', ht', hq'⟩ := hG f c' s' H3 Q v0 v1 v2 hr' (fun e te p1 p2 hs he => pe_act1 (i := 3) L hf hfn hfr (hbind _ _ _ _ _) hr' (fun A outer s H => hbody A outer s H f c') hNg hva he hd hcd hs) hco (h2 H3 eN T3)
    exact ⟨t', ht'.nox, hq'⟩
  refine wpAny_call (codeAny_mono rc fun r s2 hq => ?_)
  rcases r with e | fl
  · exact (show False from hq).elim
  · cases fl with
    | ret u => exact I3.after hq
    | next => exact False.elim hq
    | brk => exact False.elim hq
    | cont => exact False.elim hq
end
end Onp
set_option maxHeartbeats 4000000
set_option autoImplicit false
namespace Onp
open PySem PySem.Spec PyProof.Rows L2 HotX L2H LamX
/-! ### a refusal with the field most -/
def mostL (wd : Str) (v : V) : List (Str × V) := [("most", v), ("word", .str wd)]
def spMost (C : Addr) (wd : Str) : Sp := fun vs H Q _ => ∃ a v, vs = [.ref a, v] ∧ H a = some (exo a C none) ∧ ∀ dx, H dx = none → dx ≠ a → Q .non (upd (upd H dx (exd dx (mostL wd v))) a (exo a C (some dx)))
theorem upd_swap {H : Hp} {a d : Addr} {o1 o2 o3 : HO} (n : d ≠ a) : upd (upd (upd H d o1) a o2) d o3 = upd (upd H d o3) a o2 := by
  funext b
  by_cases e1 : b = d
  · rw [e1, upd_same, upd_ne n, upd_same]
  · rw [upd_ne e1]
    by_cases e2 : b = a
    · rw [e2, upd_same, upd_same]
    · rw [upd_ne e2, upd_ne e1, upd_ne e2, upd_ne e1]
/-- what is raised: a class, its fields -/
def refuse (C : Addr) (fs : List (Str × V)) (H : Hp) (E : XK) : Prop := ∀ d, H d = none → E (.ref C) (some d) (upd H d (.xd fs))
def tRaiseM (C : Addr) (wd : Str) (te : TE) : L2.St → Hp → XK → Prop := fun σ H Q => te σ H fun v H1 => refuse C (mostL wd v) H1 Q
theorem pmk_most {X : Cx} {x wd : Str} {C fI : Addr} {k : Nat} {fd : FuncData} {e : Expr} {te : TE} {p pos : Pos} (T : OexC X.K C) (iC : PySem.W.findIn X.K (.ref C) "__init__" = some (some (.ref fI))) (tI : PySem.W.typeIn X.K (.ref fI) = some (.type "function"))
    (F1 : FnOk X.prog X.w X.K X.mg X.base CX0 k fI fd ["self", "most"] (spMost C wd)) (hr : Room (k + 1) X.A) (hb : Binds X.K fd ["self", "most"] []) (hg : Gl X x) (hm : X.mg x = some (.ref C)) (he : PE X e te) (hs : starEach [e] X.env = [(false, eval e X.env)] := by rfl) (hdb : (x == ("__debug__" : Str)) = false := by decide) :
    L2N.PMk X (.Call (.Name x p) [e] [] pos) (tRaiseM C wd te) := by
  intro pins s σ H Q I h
  refine wpAny_Call_Name_kw (ld_glob I hg hm ?_ hdb)
  refine PySem.W.callWith_K (h₀ := X.base) I.ok.mod.kin T.kC ?_ (by rw [hs]; rfl) (by rfl)
  rw [hs]
  refine Calls.spliced_cons (thn (he.run pins s σ H _ I h) fun u s1 ⟨v, H1, I1, r1, h1⟩ => Calls.spliced_nil ⟨I1.kIn, ?_⟩)
  refine mkRunN T iC tI F1 hr hb I1 (.cons r1 .nil) (by decide : 1 ≤ 1000) fun a ha => ⟨a, v, rfl, upd_same, fun dx ndx ne => ⟨rfl, dx, mostL wd v, upd_same, ?_, ?_, ?_⟩⟩
  · rw [upd_ne ne, upd_same]
  · rw [upd_ne ne] at ndx
    exact ndx
  · rw [upd_ne ne] at ndx
    rw [made_heap ha ndx ne]
    exact h1 dx ndx
end Onp
set_option maxHeartbeats 4000000
set_option autoImplicit false
namespace Onp
open PySem PySem.Spec PyProof.Rows L2
/-! ### texts as lists of code points -/
def Sx (xs : List Nat) : Str := ⟨xs.toArray⟩
theorem sx_len (xs : List Nat) : (Sx xs).length = xs.length := by simp [Sx, Str.length]
theorem sx_cps (xs : List Nat) : (Sx xs).cps.toList = xs := rfl
theorem sx_app (xs ys : List Nat) : Sx xs ++ Sx ys = Sx (xs ++ ys) := by
  show Str.mk (xs.toArray ++ ys.toArray) = Str.mk (xs ++ ys).toArray
  rw [List.append_toArray]
theorem sx_of (z : Str) : z = Sx z.cps.toList := rfl
theorem sx_inj {xs ys : List Nat} (h : Sx xs = Sx ys) : xs = ys := by
  have := congrArg (fun z : Str => z.cps.toList) h
  simpa [Sx] using this
def rep {α : Type} (n : Nat) (xs : List α) : List α := (List.replicate n xs).flatten
theorem rep_len {α : Type} (n : Nat) (xs : List α) : (rep n xs).length = n * xs.length := by
  unfold rep
  induction n with
  | zero => simp
  | succ n ih =>
    rw [List.replicate_succ, List.flatten_cons, List.length_append, ih, Nat.succ_mul]
    omega
theorem foldl_cps (n : Nat) (xs : List Nat) (a : List Nat) : ((List.replicate n xs.toArray).foldl (· ++ ·) a.toArray) = (a ++ rep n xs).toArray := by
  induction n generalizing a with
  | zero => simp [rep]
  | succ n ih =>
    rw [List.replicate_succ, List.foldl_cons, List.append_toArray, ih]
    unfold rep
    rw [List.replicate_succ, List.flatten_cons, List.append_assoc]
section
variable {X : Cx}
/-- text * int -/
def rMulS : R2 := fun x y H Q => ∃ (xs : List Nat) (n : Nat), x = .str (Sx xs) ∧ y = .int (n : Int) ∧ n ≤ 1000 ∧ n * xs.length ≤ sizeLine ∧ Q (.str (Sx (rep n xs))) H
theorem op_mulS : OpR X (binaryOp .Mult) rMulS := by
  intro pins s σ H x y v u Q I rx ry h
  obtain ⟨xs, n, rfl, rfl, hn, hz, q⟩ := h
  obtain ⟨t, rfl⟩ := rx
  obtain ⟨t', rfl⟩ := ry
  have hl : (Sx xs).length = xs.length := sx_len xs
  refine P.mul_str ?_ (fun h1 h2 => ?_) (fun h1 h2 => ?_) ?_
  · have h1 : ¬ ((n : Int) < -(2 ^ 63 : Int)) := by omega
    have h2 : ¬ ((n : Int) ≥ 2 ^ 63) := by omega
    rw [decide_eq_false h1, decide_eq_false h2]
    rfl
  · rw [hl]
    have hs := sizeLine_eq
    have q1 : ((xs.length : Int) * (n : Int)) ≤ 2 ^ 63 - 1 := by
      have q2 : n * xs.length ≤ 9223372036854775807 := by omega
      have q3 : ((n * xs.length : Nat) : Int) ≤ ((9223372036854775807 : Nat) : Int) := Int.ofNat_le.mpr q2
      rw [Int.mul_comm, ← Int.natCast_mul]
      exact q3
    have q3 := Int.le_ediv_of_mul_le (show (0 : Int) < n by omega) q1
    omega
  · rw [hl]
    unfold Builtin.Str.tooLong
    rw [Int.toNat_natCast, Nat.mul_comm]
    exact decide_eq_false (by omega)
  · by_cases h1 : (n : Int) < 1
    · rw [if_pos h1]
      have e : n = 0 := by omega
      subst e
      exact ⟨by decide, .str (Sx (rep 0 xs)), H, I.tok _, ⟨_, rfl⟩, q⟩
    · rw [if_neg h1]
      by_cases h2 : ((n : Int) == 1 || (Sx xs).length == 0) = true
      · rw [if_pos h2]
        have e : rep n xs = xs := by
          rcases Bool.or_eq_true_iff.mp h2 with h | h
          · have : n = 1 := by have := beq_iff_eq.mp h; omega
            subst this
            simp [rep]
          · rw [hl] at h
            have : xs = [] := List.length_eq_zero_iff.mp (beq_iff_eq.mp h)
            subst this
            simp [rep]
        rw [e] at q
        exact ⟨.str (Sx xs), H, I, ⟨_, rfl⟩, q⟩
      · rw [if_neg h2, Int.toNat_natCast]
        have e : (List.replicate n (Sx xs).cps).foldl (· ++ ·) #[] = (rep n xs).toArray := foldl_cps n xs []
        rw [e]
        refine ⟨?_, .str (Sx (rep n xs)), H, I.tok _, ⟨_, rfl⟩, q⟩
        show (Sx (rep n xs)).length ≤ sizeLine
        rw [sx_len, rep_len]
        exact hz
/-- list(text) -/
def signsV (xs : List Nat) : List V := xs.map fun c => V.str (Sx [c])
theorem call_list_s (hc : X.calm = true) : CallR X (.type "list") (fun vs H Q => ∃ xs : List Nat, vs = [.str (Sx xs)] ∧ xs.length ≤ sizeLine ∧ ∀ l, H l = none → Q (.ref l) (upd H l (.lst (signsV xs)))) := by
  intro pins s σ H vs us Q I r h
  obtain ⟨xs, rfl, hz, q⟩ := h
  obtain ⟨u, rfl, t, rfl⟩ := vals1 r
  refine call_list_str (I.ok.hd hc) (Sx xs) t (hn := by show (Sx xs).length ≤ sizeLine; rw [sx_len]; exact hz) fun h' tk acc c hk hS ha => ?_
  refine ⟨.ref s.heap.objs.size, upd H s.heap.objs.size (.lst (signsV xs)), I.laid (t' := tk) hk (Nat.le_refl _) ?_, rfl, q _ (I.hok.fresh (Nat.le_refl _))⟩
  have e : acc = acc.toList.toArray := by simp
  refine ⟨by unfold signsV; rw [List.length_map]; exact hz, acc.toList, c, ?_, by rw [← e]; exact hS⟩
  have hsz : acc.toList.length = xs.length := by
    rw [Array.length_toList, ha.1]
    exact sx_len xs
  have key : ∀ (ys : List Nat) (vs : List Value) (k : Nat), vs.length = ys.length → (∀ (j : Nat) (v : Value), vs[j]? = some v → ∃ cc uu, ys[j]? = some cc ∧ v = Value.str ⟨#[cc]⟩ uu) → Vals (signsV ys) vs := by
    intro ys
    induction ys with
    | nil =>
      intro vs _ hl _
      rw [List.length_eq_zero_iff.mp hl]
      exact .nil
    | cons y ys ih =>
      intro vs k hl hv
      cases vs with
      | nil => simp at hl
      | cons v vs =>
        obtain ⟨cc, uu, e1, e2⟩ := hv 0 v rfl
        cases e1
        subst e2
        exact .cons ⟨uu, rfl⟩ (ih vs k (by simpa using hl) fun j v hj => hv (j + 1) v hj)
  refine key xs acc.toList 0 hsz fun j v hj => ?_
  obtain ⟨cc, uu, e1, e2⟩ := ha.2 j v (by simpa using hj)
  refine ⟨cc, uu, ?_, e2⟩
  have e1 : xs.toArray[j]? = some cc := e1
  simpa using e1
end
end Onp
set_option maxHeartbeats 4000000
set_option autoImplicit false
namespace Onp
open PySem
/-! ### whether a text is a pattern -/
def dlt (c : Nat) : Int := if c = 40 then 1 else if c = 41 then -1 else 0
def okc (ls : List Nat) (c : Nat) : Bool := decide (c = 40) || decide (c = 41) || decide (c ∈ ls)
def pgo (ls : List Nat) : Int → Nat → List Nat → Bool
  | d, _, [] => decide (d = 0)
  | d, p, c :: r => if (okc ls c && decide (0 ≤ d + dlt c) && decide (d + dlt c ≤ 60) && !(decide (p = 40) && decide (c = 41))) = true then pgo ls (d + dlt c) c r else false
def patB (ls xs : List Nat) : Bool := pgo ls 0 0 xs && decide (xs ≠ [])
def pairF : Nat → List Nat → Bool
  | _, [] => false
  | p, c :: r => (decide (p = 40) && decide (c = 41)) || pairF c r
def lgo (ls : List Nat) : Int → Int → Bool → List Nat → Bool
  | d, m, g, [] => g && (decide (d = 0) && decide (m < 61))
  | d, m, g, c :: r => lgo ls (d + dlt c) (max m (d + dlt c)) (g && (decide (0 ≤ d + dlt c) && okc ls c)) r
theorem lgo_eq (ls : List Nat) : ∀ (xs : List Nat) (d m : Int) (g : Bool) (p : Nat), lgo ls d m (g && !pairF p xs) xs = (g && (decide (m < 61) && pgo ls d p xs))
  | [], d, m, g, p => by
    simp only [lgo, pairF, pgo, Bool.not_false, Bool.and_true]
    cases g <;> cases decide (m < 61) <;> simp
  | c :: r, d, m, g, p => by
    have ih := lgo_eq ls r (d + dlt c) (max m (d + dlt c)) (g && (!(decide (p = 40) && decide (c = 41)) && (decide (0 ≤ d + dlt c) && okc ls c))) c
    have e : (g && !pairF p (c :: r) && (decide (0 ≤ d + dlt c) && okc ls c)) = ((g && (!(decide (p = 40) && decide (c = 41)) && (decide (0 ≤ d + dlt c) && okc ls c))) && !pairF c r) := by
      simp only [pairF]
      cases g <;> cases (decide (p = 40) && decide (c = 41)) <;> cases pairF c r <;> cases decide (0 ≤ d + dlt c) <;> cases okc ls c <;> rfl
    show lgo ls (d + dlt c) (max m (d + dlt c)) (g && !pairF p (c :: r) && (decide (0 ≤ d + dlt c) && okc ls c)) r = _
    rw [e, ih]
    have em : decide (max m (d + dlt c) < 61) = (decide (m < 61) && decide (d + dlt c ≤ 60)) := by
      by_cases h1 : m < 61 <;> by_cases h2 : d + dlt c ≤ 60
      · rw [decide_eq_true h1, decide_eq_true h2, decide_eq_true (by omega)]; rfl
      · rw [decide_eq_true h1, decide_eq_false h2, decide_eq_false (by omega)]; rfl
      · rw [decide_eq_false h1, decide_eq_true h2, decide_eq_false (by omega)]; rfl
      · rw [decide_eq_false h1, decide_eq_false h2, decide_eq_false (by omega)]; rfl
    rw [em]
    simp only [pgo]
    cases g <;> cases (decide (p = 40) && decide (c = 41)) <;> cases decide (0 ≤ d + dlt c) <;> cases okc ls c <;> cases decide (m < 61) <;> cases decide (d + dlt c ≤ 60) <;> simp
theorem law_pat (ls xs : List Nat) : lgo ls 0 0 (decide (xs ≠ []) && !pairF 0 xs) xs = patB ls xs := by
  rw [lgo_eq]
  unfold patB
  cases decide (xs ≠ []) <;> cases pgo ls 0 0 xs <;> rfl
/-! ### "()" in a text -/
theorem pairF_iff : ∀ (xs : List Nat) (p : Nat), pairF p xs = true ↔ ∃ i, (p :: xs)[i]? = some 40 ∧ (p :: xs)[i + 1]? = some 41
  | [], p => by simp [pairF]
  | c :: r, p => by
    have ih := pairF_iff r c
    simp only [pairF, Bool.or_eq_true, Bool.and_eq_true, decide_eq_true_eq, ih]
    constructor
    · rintro (⟨rfl, rfl⟩ | ⟨i, h1, h2⟩)
      · exact ⟨0, rfl, rfl⟩
      · exact ⟨i + 1, h1, h2⟩
    · rintro ⟨i, h1, h2⟩
      cases i with
      | zero =>
        left
        exact ⟨Option.some.inj h1, Option.some.inj h2⟩
      | succ i => exact .inr ⟨i, h1, h2⟩
theorem ext2 (xs : List Nat) (i : Nat) : ((Sx xs).cps.extract i (i + 2) == #[40, 41]) = true ↔ xs[i]? = some 40 ∧ xs[i + 1]? = some 41 := by
  have e : (Sx xs).cps.extract i (i + 2) = ((xs.drop i).take 2).toArray := by
    apply Array.ext'
    simp [Sx, List.take_drop]
  rw [e, beq_iff_eq]
  have e2 : ∀ l : List Nat, l.take 2 = [40, 41] ↔ l[0]? = some 40 ∧ l[1]? = some 41 := fun l => by
    match l with
    | [] => simp
    | [a] => simp
    | a :: b :: r => simp
  have e3 : ((xs.drop i).take 2).toArray = #[40, 41] ↔ (xs.drop i).take 2 = [40, 41] := by
    constructor
    · intro h
      have := congrArg Array.toList h
      simpa using this
    · intro h
      rw [h]
  rw [e3, e2, List.getElem?_drop, List.getElem?_drop]
  simp
theorem occ_pair (xs : List Nat) : (!(Builtin.Str.occurrences (Sx xs) (Sx [40, 41]) 0 (Sx xs).length 1).isEmpty) = pairF 0 xs := by
  rw [Bool.eq_iff_iff, PySem.StrLaws.found_iff, pairF_iff]
  have hl : (Sx [40, 41]).length = 2 := rfl
  constructor
  · rintro ⟨i, h1, h2⟩
    unfold Builtin.Str.subAt at h2
    rw [hl] at h2
    have q := (ext2 xs i).mp h2
    exact ⟨i + 1, q.1, q.2⟩
  · rintro ⟨i, h1, h2⟩
    cases i with
    | zero => exact absurd (Option.some.inj h1) (by decide)
    | succ i =>
      have h1 : xs[i]? = some 40 := h1
      have h2 : xs[i + 1]? = some 41 := h2
      have hlt := (List.getElem?_eq_some_iff.mp h2).1
      refine ⟨i, by rw [hl, sx_len]; omega, ?_⟩
      unfold Builtin.Str.subAt
      rw [hl]
      exact (ext2 xs i).mpr ⟨h1, h2⟩
/-! ### gone so often: sums and texts -/
def stI (g : Nat) : List Nat → (List Nat × Nat) → Option (List Nat × Nat)
  | [], s => some s
  | c :: r, (o, h) => if c = 40 then stI g r (o ++ [h], 0) else if c = 41 then
      match o.getLast? with
      | some l => stI g r (o.dropLast, l + h * g)
      | none => none
    else stI g r (o, h + 1)
def stS (g : Nat) : List Nat → (List (List Nat) × List Nat) → Option (List (List Nat) × List Nat)
  | [], s => some s
  | c :: r, (o, h) => if c = 40 then stS g r (o ++ [h], []) else if c = 41 then
      match o.getLast? with
      | some l => stS g r (o.dropLast, l ++ rep g h)
      | none => none
    else stS g r (o, h ++ [c])
def lens (s : List (List Nat) × List Nat) : List Nat × Nat := (s.1.map List.length, s.2.length)
theorem st_lens (g : Nat) : ∀ (r : List Nat) (s : List (List Nat) × List Nat), stI g r (lens s) = (stS g r s).map lens
  | [], s => rfl
  | c :: r, (o, h) => by
    simp only [stS, lens, stI]
    by_cases h1 : c = 40
    · rw [if_pos h1, if_pos h1, ← st_lens g r (o ++ [h], [])]
      simp [lens]
    · rw [if_neg h1, if_neg h1]
      by_cases h2 : c = 41
      · rw [if_pos h2, if_pos h2, List.getLast?_map]
        cases e : o.getLast? with
        | none => rfl
        | some l =>
          simp only [Option.map_some]
          rw [← st_lens g r (o.dropLast, l ++ rep g h)]
          simp [lens, rep_len, List.map_dropLast, Nat.mul_comm]
      · rw [if_neg h2, if_neg h2, ← st_lens g r (o, h ++ [c])]
        simp [lens]
/-- nothing on the way is greater than the end -/
theorem st_le {g : Nat} (hg : 1 ≤ g) : ∀ (r : List Nat) (o : List Nat) (h n : Nat), stI g r (o, h) = some ([], n) → h ≤ n ∧ ∀ x ∈ o, x ≤ n
  | [], o, h, n, e => by
    simp only [stI, Option.some.injEq, Prod.mk.injEq] at e
    obtain ⟨rfl, rfl⟩ := e
    exact ⟨Nat.le_refl _, fun _ h => (nomatch h)⟩
  | c :: r, o, h, n, e => by
    simp only [stI] at e
    by_cases h1 : c = 40
    · rw [if_pos h1] at e
      have ih := st_le hg r _ _ n e
      exact ⟨ih.2 h (by simp), fun x hx => ih.2 x (by simp [hx])⟩
    · rw [if_neg h1] at e
      by_cases h2 : c = 41
      · rw [if_pos h2] at e
        cases el : o.getLast? with
        | none => rw [el] at e; cases e
        | some l =>
          rw [el] at e
          have ih := st_le hg r _ _ n e
          have hm : h ≤ h * g := Nat.le_mul_of_pos_right h hg
          refine ⟨by omega, fun x hx => ?_⟩
          have hs : o = o.dropLast ++ [l] := by
            have hne : o ≠ [] := by
              intro z
              rw [z] at el
              cases el
            have q := List.dropLast_concat_getLast hne
            rw [List.getLast?_eq_some_getLast hne] at el
            rw [← Option.some.inj el]
            exact q.symm
          rw [hs] at hx
          rcases List.mem_append.mp hx with hx | hx
          · exact ih.2 x hx
          · rw [List.mem_singleton.mp hx]
            omega
      · rw [if_neg h2] at e
        have ih := st_le hg r _ _ n e
        exact ⟨by omega, ih.2⟩
/-- a pattern's brackets stand in pairs -/
theorem pgo_st {ls : List Nat} {g : Nat} : ∀ (r : List Nat) (d : Int) (p : Nat) (o : List Nat) (h : Nat), pgo ls d p r = true → d = o.length → ∃ n, stI g r (o, h) = some ([], n)
  | [], d, p, o, h, e, hd => by
    simp only [pgo, decide_eq_true_eq] at e
    have : o = [] := List.length_eq_zero_iff.mp (by omega)
    subst this
    exact ⟨h, rfl⟩
  | c :: r, d, p, o, h, e, hd => by
    simp only [pgo] at e
    split at e
    · rename_i hc
      simp only [Bool.and_eq_true, decide_eq_true_eq] at hc
      simp only [stI]
      by_cases h1 : c = 40
      · rw [if_pos h1]
        refine pgo_st r _ c _ _ e ?_
        unfold dlt
        rw [if_pos h1, List.length_append]
        simp
        omega
      · rw [if_neg h1]
        by_cases h2 : c = 41
        · rw [if_pos h2]
          have hp := hc.1.1.2
          have ed : dlt c = -1 := by unfold dlt; rw [if_neg h1, if_pos h2]
          rw [ed] at hp e
          have hne : o ≠ [] := by
            intro z
            rw [z] at hd
            simp at hd
            omega
          rw [List.getLast?_eq_some_getLast hne]
          refine pgo_st r _ c _ _ e ?_
          have := List.length_dropLast (xs := o)
          have hpos : 0 < o.length := List.length_pos_iff.mpr hne
          omega
        · rw [if_neg h2]
          have ed : dlt c = 0 := by unfold dlt; rw [if_neg h1, if_neg h2]
          rw [ed] at e
          exact pgo_st r _ c _ _ e (by omega)
    · cases e
end Onp
set_option maxHeartbeats 4000000
set_option autoImplicit false
namespace Onp
open PySem
/-! ### gone so often: sizes -/
def nob (c : Nat) : Bool := decide (c ≠ 40) && decide (c ≠ 41)
def ltr (xs : List Nat) : Nat := (xs.filter nob).length
def brk (xs : List Nat) : Nat := (xs.filter fun c => !nob c).length
theorem ltr_brk : ∀ xs : List Nat, xs.length = ltr xs + brk xs
  | [] => rfl
  | c :: r => by
    have ih := ltr_brk r
    unfold ltr brk at *
    cases h : nob c
    · simp [h]
      omega
    · simp [h]
      omega
theorem st_ltr {g : Nat} (hg : 1 ≤ g) : ∀ (r : List Nat) (o : List Nat) (h n : Nat), stI g r (o, h) = some ([], n) → h + o.sum + ltr r ≤ n
  | [], o, h, n, e => by
    simp only [stI, Option.some.injEq, Prod.mk.injEq] at e
    obtain ⟨rfl, rfl⟩ := e
    simp [ltr]
  | c :: r, o, h, n, e => by
    simp only [stI] at e
    by_cases h1 : c = 40
    · rw [if_pos h1] at e
      have ih := st_ltr hg r _ _ n e
      have : ltr (c :: r) = ltr r := by unfold ltr; rw [List.filter_cons_of_neg (by unfold nob; simp [h1])]
      rw [List.sum_append] at ih
      simp at ih
      omega
    · rw [if_neg h1] at e
      by_cases h2 : c = 41
      · rw [if_pos h2] at e
        have : ltr (c :: r) = ltr r := by unfold ltr; rw [List.filter_cons_of_neg (by unfold nob; simp [h2])]
        cases el : o.getLast? with
        | none => rw [el] at e; cases e
        | some l =>
          rw [el] at e
          have ih := st_ltr hg r _ _ n e
          have hm : h ≤ h * g := Nat.le_mul_of_pos_right h hg
          have hs : o = o.dropLast ++ [l] := by
            have hne : o ≠ [] := by
              intro z
              rw [z] at el
              cases el
            have q := List.dropLast_concat_getLast hne
            rw [List.getLast?_eq_some_getLast hne] at el
            rw [← Option.some.inj el]
            exact q.symm
          have hsum : o.sum = o.dropLast.sum + l := by
            rw [hs, List.sum_append, List.dropLast_concat]
            simp
          omega
      · rw [if_neg h2] at e
        have ih := st_ltr hg r _ _ n e
        have : ltr (c :: r) = ltr r + 1 := by unfold ltr; rw [List.filter_cons_of_pos (by unfold nob; simp [h1, h2])]; rfl
        omega
theorem stS_app (g : Nat) : ∀ (a b : List Nat) (s : List (List Nat) × List Nat), stS g (a ++ b) s = (stS g a s).bind (stS g b)
  | [], b, s => rfl
  | c :: a, b, (o, h) => by
    simp only [List.cons_append, stS]
    by_cases h1 : c = 40
    · rw [if_pos h1, if_pos h1, stS_app g a b]
    · rw [if_neg h1, if_neg h1]
      by_cases h2 : c = 41
      · rw [if_pos h2, if_pos h2]
        cases o.getLast? with
        | none => rfl
        | some l => exact stS_app g a b _
      · rw [if_neg h2, if_neg h2, stS_app g a b]
theorem stS_plain (g : Nat) : ∀ (i : List Nat) (o : List (List Nat)) (h : List Nat), (∀ c ∈ i, c ≠ 40 ∧ c ≠ 41) → stS g i (o, h) = some (o, h ++ i)
  | [], o, h, _ => by simp [stS]
  | c :: r, o, h, hn => by
    have hc := hn c List.mem_cons_self
    simp only [stS]
    rw [if_neg hc.1, if_neg hc.2, stS_plain g r o (h ++ [c]) (fun d hd => hn d (List.mem_cons_of_mem _ hd)), List.append_assoc]
    rfl
theorem rep_mem {α : Type} {n : Nat} {xs : List α} {c : α} (h : c ∈ rep n xs) : c ∈ xs := by
  unfold rep at h
  obtain ⟨l, hl, hc⟩ := List.mem_flatten.mp h
  rw [(List.mem_replicate.mp hl).2] at hc
  exact hc
theorem stS_red (g : Nat) (A I R : List Nat) (hI : ∀ c ∈ I, c ≠ 40 ∧ c ≠ 41) (s : List (List Nat) × List Nat) : stS g (A ++ 40 :: (I ++ 41 :: R)) s = stS g (A ++ rep g I ++ R) s := by
  rw [stS_app, List.append_assoc, stS_app]
  cases e : stS g A s with
  | none => rfl
  | some t =>
    obtain ⟨o, h⟩ := t
    show stS g (40 :: (I ++ 41 :: R)) (o, h) = stS g (rep g I ++ R) (o, h)
    rw [stS_app, stS_plain g (rep g I) o h (fun c hc => hI c (rep_mem hc))]
    have e1 : stS g (40 :: (I ++ 41 :: R)) (o, h) = stS g (I ++ 41 :: R) (o ++ [h], []) := by simp only [stS]; rw [if_pos trivial]
    rw [e1, stS_app, stS_plain g I _ _ hI]
    show stS g (41 :: R) (o ++ [h], [] ++ I) = stS g R (o, h ++ rep g I)
    simp only [stS, List.nil_append]
    rw [if_neg (by decide), if_pos trivial, List.getLast?_concat, List.dropLast_concat]
/-- without a closing bracket nothing is taken off -/
theorem stS_open (g : Nat) : ∀ (r : List Nat) (o : List (List Nat)) (h : List Nat), 41 ∉ r → ∃ o' h', stS g r (o, h) = some (o', h') ∧ o.length ≤ o'.length ∧ (40 ∈ r → o' ≠ []) ∧ (40 ∉ r → o' = o ∧ h' = h ++ r)
  | [], o, h, _ => ⟨o, h, rfl, Nat.le_refl _, fun z => by simp at z, fun _ => ⟨rfl, by simp⟩⟩
  | c :: r, o, h, hn => by
    have hr : 41 ∉ r := fun z => hn (List.mem_cons_of_mem _ z)
    have hc : c ≠ 41 := fun z => hn (by rw [z]; exact List.mem_cons_self)
    simp only [stS]
    by_cases h1 : c = 40
    · rw [if_pos h1]
      obtain ⟨o', h', e, hl, _, _⟩ := stS_open g r (o ++ [h]) [] hr
      refine ⟨o', h', e, by simp at hl; omega, fun _ z => ?_, fun z => absurd (by rw [h1]; exact List.mem_cons_self) z⟩
      rw [z] at hl
      simp at hl
    · rw [if_neg h1, if_neg hc]
      obtain ⟨o', h', e, hl, q1, q2⟩ := stS_open g r o (h ++ [c]) hr
      refine ⟨o', h', e, hl, fun z => q1 ?_, fun z => ?_⟩
      · rcases List.mem_cons.mp z with z | z
        · exact absurd z.symm h1
        · exact z
      · have q := q2 (fun y => z (List.mem_cons_of_mem _ y))
        exact ⟨q.1, by rw [q.2]; simp⟩
/-- the first one of some sign -/
theorem first_at (x : Nat) : ∀ xs : List Nat, x ∈ xs → ∃ a b, xs = a ++ x :: b ∧ x ∉ a
  | [], h => by simp at h
  | c :: r, h => by
    by_cases hc : c = x
    · exact ⟨[], r, by rw [hc]; rfl, by simp⟩
    · obtain ⟨a, b, e, hn⟩ := first_at x r ((List.mem_cons.mp h).resolve_left (fun z => hc z.symm))
      refine ⟨c :: a, b, by rw [e]; rfl, fun z => ?_⟩
      rcases List.mem_cons.mp z with z | z
      · exact hc z.symm
      · exact hn z
theorem last_of (x : Nat) (xs : List Nat) (h : x ∈ xs) : ∃ a b, xs = a ++ x :: b ∧ x ∉ b := by
  obtain ⟨a, b, e, hn⟩ := first_at x xs.reverse (List.mem_reverse.mpr h)
  refine ⟨b.reverse, a.reverse, ?_, fun z => hn (List.mem_reverse.mp z)⟩
  have := congrArg List.reverse e
  simpa using this
/-- one turn: the first closing bracket, and the last opening one ahead of it -/
theorem turn_at {g : Nat} {p zs : List Nat} (h : stS g p ([], []) = some ([], zs)) (ho : 40 ∈ p) : ∃ A I R, p = A ++ 40 :: (I ++ 41 :: R) ∧ 41 ∉ A ∧ (∀ c ∈ I, c ≠ 40 ∧ c ≠ 41) := by
  have hc : 41 ∈ p := by
    by_cases hc : 41 ∈ p
    · exact hc
    · obtain ⟨o', h', e, _, q, _⟩ := stS_open g p [] [] hc
      rw [e] at h
      cases h
      exact absurd rfl (q ho)
  obtain ⟨pre, R, e, hn⟩ := first_at 41 p hc
  have h40 : 40 ∈ pre := by
    by_cases hp : 40 ∈ pre
    · exact hp
    · obtain ⟨o', h', e1, _, _, q⟩ := stS_open g pre [] [] hn
      obtain ⟨q1, q2⟩ := q hp
      subst q1
      subst q2
      rw [e, stS_app, e1] at h
      have : stS g (41 :: R) ([], _) = some ([], zs) := h
      simp only [stS] at this
      rw [if_neg (by decide), if_pos trivial] at this
      simp at this
  obtain ⟨A, I, e2, hI⟩ := last_of 40 pre h40
  refine ⟨A, I, R, by rw [e, e2]; simp, fun z => hn (by rw [e2]; simp [z]), fun c hc => ⟨fun z => hI (z ▸ hc), fun z => hn (by rw [e2]; simp [z ▸ hc])⟩⟩
theorem stS_done {g : Nat} {p zs : List Nat} (h : stS g p ([], []) = some ([], zs)) (ho : 40 ∉ p) : zs = p := by
  by_cases hc : 41 ∈ p
  · obtain ⟨pre, R, e, hn⟩ := first_at 41 p hc
    obtain ⟨o', h', e1, _, _, q⟩ := stS_open g pre [] [] hn
    obtain ⟨q1, q2⟩ := q (fun z => ho (by rw [e]; simp [z]))
    subst q1
    subst q2
    rw [e, stS_app, e1] at h
    have : stS g (41 :: R) ([], _) = some ([], zs) := h
    simp only [stS] at this
    rw [if_neg (by decide), if_pos trivial] at this
    simp at this
  · obtain ⟨o', h', e1, _, _, q⟩ := stS_open g p [] [] hc
    obtain ⟨rfl, rfl⟩ := q ho
    rw [e1] at h
    cases h
    simp
/-- gone once the brackets fall away -/
theorem stS_once : ∀ (r : List Nat) (o : List (List Nat)) (h zs : List Nat), stS 1 r (o, h) = some ([], zs) → o.flatten ++ h ++ r.filter nob = zs
  | [], o, h, zs, e => by
    simp only [stS, Option.some.injEq, Prod.mk.injEq] at e
    obtain ⟨rfl, rfl⟩ := e
    simp
  | c :: r, o, h, zs, e => by
    simp only [stS] at e
    by_cases h1 : c = 40
    · rw [if_pos h1] at e
      have ih := stS_once r _ _ zs e
      rw [List.filter_cons_of_neg (by unfold nob; simp [h1])]
      simpa using ih
    · rw [if_neg h1] at e
      by_cases h2 : c = 41
      · rw [if_pos h2] at e
        rw [List.filter_cons_of_neg (by unfold nob; simp [h2])]
        cases el : o.getLast? with
        | none => rw [el] at e; cases e
        | some l =>
          rw [el] at e
          have ih := stS_once r _ _ zs e
          have hs : o = o.dropLast ++ [l] := by
            have hne : o ≠ [] := by
              intro z
              rw [z] at el
              cases el
            have q := List.dropLast_concat_getLast hne
            rw [List.getLast?_eq_some_getLast hne] at el
            rw [← Option.some.inj el]
            exact q.symm
          rw [← ih, hs]
          simp [rep]
      · rw [if_neg h2] at e
        have ih := stS_once r _ _ zs e
        rw [List.filter_cons_of_pos (by unfold nob; simp [h1, h2]), ← ih]
        simp
/-! ### find, rfind of one sign -/
theorem at1 (xs : List Nat) (c i : Nat) : StrLaws.At (Sx xs) (Sx [c]) (Sx xs).length i ↔ xs[i]? = some c := by
  unfold StrLaws.At
  have hl : (Sx [c]).length = 1 := rfl
  rw [hl, sx_len]
  have e : Builtin.Str.subAt (Sx xs) (Sx [c]) i = true ↔ (xs.drop i).take 1 = [c] := by
    unfold Builtin.Str.subAt
    rw [hl]
    have e1 : (Sx xs).cps.extract i (i + 1) = ((xs.drop i).take 1).toArray := by
      apply Array.ext'
      simp [Sx, List.take_drop]
    rw [e1, beq_iff_eq]
    constructor
    · intro h
      have := congrArg Array.toList h
      simpa [Sx] using this
    · intro h
      rw [h]
      rfl
  rw [e]
  constructor
  · rintro ⟨h1, h2⟩
    have h3 : i < xs.length := by omega
    rw [List.drop_eq_getElem_cons h3] at h2
    have h4 : xs[i] = c := (List.cons.inj h2).1
    rw [List.getElem?_eq_getElem h3, h4]
  · intro h
    obtain ⟨h3, h4⟩ := List.getElem?_eq_some_iff.mp h
    refine ⟨by omega, ?_⟩
    rw [List.drop_eq_getElem_cons h3, h4]
    rfl
theorem find_at {a b : List Nat} {c : Nat} (hn : c ∉ a) : Txt.find (Sx (a ++ c :: b)) (Sx [c]) = (a.length : Int) := by
  have hA : (a ++ c :: b)[a.length]? = some c := by simp
  rcases PyProof.Rows.find_whole (Sx (a ++ c :: b)) (Sx [c]) with ⟨_, h⟩ | ⟨i, e, h1, h2⟩
  · exact absurd ((at1 _ _ _).mpr hA) (h a.length)
  · rw [e]
    have h1 := (at1 _ _ _).mp h1
    have hge : ¬ i < a.length := fun hlt => by
      rw [List.getElem?_append_left hlt] at h1
      exact hn (List.mem_of_getElem? h1)
    have hle : ¬ a.length < i := fun hlt => h2 _ hlt ((at1 _ _ _).mpr hA)
    have : i = a.length := by omega
    rw [this]
theorem rfind_at {a b : List Nat} {c : Nat} (hn : c ∉ b) : Txt.rfind (Sx (a ++ c :: b)) (Sx [c]) = (a.length : Int) := by
  have hA : (a ++ c :: b)[a.length]? = some c := by simp
  unfold Txt.rfind
  rcases StrLaws.last_spec (Sx (a ++ c :: b)) (Sx [c]) with ⟨_, h⟩ | ⟨i, e, h1, h2⟩
  · exact absurd ((at1 _ _ _).mpr hA) (h a.length)
  · rw [e]
    have h1 := (at1 _ _ _).mp h1
    have hle : ¬ a.length < i := fun hlt => by
      rw [List.getElem?_append_right (by omega)] at h1
      obtain ⟨j, hj⟩ : ∃ j, i - a.length = j + 1 := ⟨i - a.length - 1, by omega⟩
      rw [hj, List.getElem?_cons_succ] at h1
      exact hn (List.mem_of_getElem? h1)
    have hge : ¬ i < a.length := fun hlt => h2 _ hlt ((at1 _ _ _).mpr hA)
    have : i = a.length := by omega
    rw [this]
theorem repl_one (c : Nat) : ∀ xs : List Nat, StrLaws.replL [c] [] xs = xs.filter fun d => decide (d ≠ c)
  | [] => StrLaws.replL_nil
  | d :: r => by
    by_cases h : d = c
    · subst h
      rw [StrLaws.replL_hit (by simp) (by simp), List.filter_cons_of_neg (by simp)]
      exact repl_one d r
    · rw [StrLaws.replL_miss (by simpa using h), List.filter_cons_of_pos (by simpa using h), repl_one c r]
theorem replace_one (xs : List Nat) (c : Nat) : Txt.replace (Sx xs) (Sx [c]) (Sx []) = Sx (xs.filter fun d => decide (d ≠ c)) := by
  have h := StrLaws.replace_list (x := Sx xs) (y := Sx [c]) (z := Sx []) (by show 1 ≤ 1; decide)
  rw [sx_of (Txt.replace (Sx xs) (Sx [c]) (Sx [])), h]
  exact congrArg Sx (repl_one c xs)
theorem replace_both (xs : List Nat) : (xs.filter fun d => decide (d ≠ 40)).filter (fun d => decide (d ≠ 41)) = xs.filter nob := by
  rw [List.filter_filter]
  congr 1
  funext d
  unfold nob
  exact Bool.and_comm _ _
end Onp
set_option maxHeartbeats 8000000
set_option autoImplicit false
namespace Onp
open PySem PySem.Spec PyProof.Rows L2 HotX L2H LamX
theorem passN {X : Cx} : Passes (L2N.CX X.prog X.w) X E0 := fun _ _ _ _ _ _ _ h => by
  obtain ⟨_, _, _, _, _, _, _, _, _, _, _, _, z⟩ := h
  exact z.elim
abbrev sInitBadPattern : Stmt := inClass (topS 9) 0
structure MkBadPattern (K : PySem.W.Frag) (mg : Str → Option Value) (C fI : Addr) (fdI : FuncData) : Prop where
  T : OexC K C
  iC : PySem.W.findIn K (.ref C) "__init__" = some (some (.ref fI))
  tI : PySem.W.typeIn K (.ref fI) = some (.type "function")
  F : Fun K "__init__" "BadPattern.__init__" sInitBadPattern fI fdI
  b : Binds K fdI ["self"] []
  g : mg "BadPattern" = some (.ref C)
  nw : PySem.W.findIn K (.ref C) "word" = some none
theorem scIBadPattern : FnScope ["self"] ["self"] (defScope sInitBadPattern) := ⟨rfl, rfl, rfl, by decide +kernel, rfl, by decide +kernel, by decide +kernel⟩
theorem ok_initBadPattern {P : Program} {w : World} {K : PySem.W.Frag} {mg : Str → Option Value} {base : Heap} {C fI : Addr} {fdI : FuncData} {k : Nat} (B : MkBadPattern K mg C fI fdI) : FnOk P w K mg base CX0 (k + 1) fI fdI ["self"] (spWord C "badpattern") := by
  refine B.F.ok scIBadPattern (fun vs H Q E h => ?_) (fun cdv A outer s H vs Q E hr h => ?_)
  · obtain ⟨a, rfl, _⟩ := h
    rfl
  · obtain ⟨a, rfl, ha, q⟩ := h
    refine ⟨_, pss_one (ps_ost (pv 0) pe_str), ?_⟩
    exact ⟨_, rfl, a, C, rfl, B.T, B.nw, .inl ⟨ha, fun dx nd ne => q dx nd ne⟩⟩
abbrev sInitBadSize : Stmt := inClass (topS 8) 0
structure MkBadSize (K : PySem.W.Frag) (mg : Str → Option Value) (C fI : Addr) (fdI : FuncData) : Prop where
  T : OexC K C
  iC : PySem.W.findIn K (.ref C) "__init__" = some (some (.ref fI))
  tI : PySem.W.typeIn K (.ref fI) = some (.type "function")
  F : Fun K "__init__" "BadSize.__init__" sInitBadSize fI fdI
  b : Binds K fdI ["self"] []
  g : mg "BadSize" = some (.ref C)
  nw : PySem.W.findIn K (.ref C) "word" = some none
theorem scIBadSize : FnScope ["self"] ["self"] (defScope sInitBadSize) := ⟨rfl, rfl, rfl, by decide +kernel, rfl, by decide +kernel, by decide +kernel⟩
theorem ok_initBadSize {P : Program} {w : World} {K : PySem.W.Frag} {mg : Str → Option Value} {base : Heap} {C fI : Addr} {fdI : FuncData} {k : Nat} (B : MkBadSize K mg C fI fdI) : FnOk P w K mg base CX0 (k + 1) fI fdI ["self"] (spWord C "badsize") := by
  refine B.F.ok scIBadSize (fun vs H Q E h => ?_) (fun cdv A outer s H vs Q E hr h => ?_)
  · obtain ⟨a, rfl, _⟩ := h
    rfl
  · obtain ⟨a, rfl, ha, q⟩ := h
    refine ⟨_, pss_one (ps_ost (pv 0) pe_str), ?_⟩
    exact ⟨_, rfl, a, C, rfl, B.T, B.nw, .inl ⟨ha, fun dx nd ne => q dx nd ne⟩⟩
abbrev sInitTooWide : Stmt := inClass (topS 21) 0
structure MkTooWide (K : PySem.W.Frag) (mg : Str → Option Value) (C fI : Addr) (fdI : FuncData) : Prop where
  T : OexC K C
  iC : PySem.W.findIn K (.ref C) "__init__" = some (some (.ref fI))
  tI : PySem.W.typeIn K (.ref fI) = some (.type "function")
  F : Fun K "__init__" "TooWide.__init__" sInitTooWide fI fdI
  b : Binds K fdI ["self", "most"] []
  g : mg "TooWide" = some (.ref C)
  nw : PySem.W.findIn K (.ref C) "word" = some none
  nm : PySem.W.findIn K (.ref C) "most" = some none
theorem scITooWide : FnScope ["self", "most"] ["self", "most"] (defScope sInitTooWide) := ⟨rfl, rfl, rfl, by decide +kernel, rfl, by decide +kernel, by decide +kernel⟩
theorem ok_initTooWide {P : Program} {w : World} {K : PySem.W.Frag} {mg : Str → Option Value} {base : Heap} {C fI : Addr} {fdI : FuncData} {k : Nat} (B : MkTooWide K mg C fI fdI) : FnOk P w K mg base CX0 (k + 1) fI fdI ["self", "most"] (spMost C "toowide") := by
  refine B.F.ok scITooWide (fun vs H Q E h => ?_) (fun cdv A outer s H vs Q E hr h => ?_)
  · obtain ⟨a, v, rfl, _⟩ := h
    rfl
  · obtain ⟨a, v, rfl, ha, q⟩ := h
    refine ⟨_, pss_cons (ps_ost (pv 0) pe_str) (pss_one (ps_ost (pv 0) (pv 1))), ?_⟩
    refine ⟨_, rfl, a, C, rfl, B.T, B.nw, .inl ⟨ha, fun dx nd ne => ?_⟩⟩
    refine ⟨_, rfl, _, rfl, a, C, rfl, B.T, B.nm, .inr ⟨dx, [("word", .str "toowide")], upd_same, by rw [upd_ne ne, upd_same], by decide, ?_⟩⟩
    have e := q dx nd ne
    rw [← upd_swap ne] at e
    exact e

abbrev sIsP : Stmt := topS 31
abbrev sNeedG : Stmt := topS 32
abbrev sGone : Stmt := topS 33
abbrev sLenOf : Stmt := topS 34
abbrev sUnr : Stmt := topS 35
def smallL : List Nat := [97, 98, 99, 100, 101, 102, 103, 104, 105, 106, 107, 108, 109, 110, 111, 112, 113, 114, 115, 116, 117, 118, 119, 120, 121, 122]
theorem small_eq : ("abcdefghijklmnopqrstuvwxyz" : Str) = Sx smallL := by decide +kernel
theorem lp_eq : ("(" : Str) = Sx [40] := by decide +kernel
theorem rp_eq : (")" : Str) = Sx [41] := by decide +kernel
theorem br_eq : ("()" : Str) = Sx [40, 41] := by decide +kernel
theorem em_eq : ("" : Str) = Sx [] := by decide +kernel
structure Cst (mg : Str → Option Value) : Prop where
  small : ∃ t, mg "SMALL_LETTERS" = some (.str "abcdefghijklmnopqrstuvwxyz" t)
  depth : ∃ t, mg "MOST_DEPTH" = some (.int 60 t)
  copies : ∃ t, mg "MOST_COPIES" = some (.int 400 t)
  unr : ∃ t, mg "MOST_UNROLLED" = some (.int 2000 t)
theorem eq_str (xs ys : List Nat) : decide (V.str (Sx xs) = V.str (Sx ys)) = decide (xs = ys) := by
  by_cases h : xs = ys
  · rw [h, decide_eq_true rfl, decide_eq_true rfl]
  · rw [decide_eq_false h, decide_eq_false (fun e => h (sx_inj (V.str.inj e)))]
section
variable {P : Program} {w : World} {K : PySem.W.Frag} {mg : Str → Option Value} {base : Heap}
/-! ### is_pattern -/
def spIsP : Sp := fun vs H Q _ => ∃ xs ls : List Nat, vs = [.str (Sx xs), .str (Sx ls)] ∧ xs.length ≤ 1000 ∧ Q (.bl (patB ls xs)) H
theorem scIsP : FnScope ["text", "letters", "depth", "ahead", "sign"] ["text", "letters"] (defScope sIsP) := ⟨rfl, rfl, rfl, by decide +kernel, rfl, by decide +kernel, by decide +kernel⟩
theorem ok_isP {f : Addr} {fd : FuncData} {k : Nat} (F : Fun K "is_pattern" "is_pattern" sIsP f fd) (C : Cst mg) : FnOk P w K mg base CX0 (k + 1) f fd ["text", "letters"] spIsP := by
  obtain ⟨t1, gD⟩ := C.depth
  refine F.ok scIsP (fun vs H Q E h => ?_) (fun cdv A outer s H vs Q E hr h => ?_)
  · obtain ⟨xs, ls, rfl, _⟩ := h
    rfl
  · obtain ⟨xs, ls, rfl, hlen, q⟩ := h
    refine ⟨_, pss_cons (ps_set (i := 2) scIsP.nd rfl (.inl rfl) pe_int)
      (pss_cons (ps_set (i := 3) scIsP.nd rfl (.inl rfl) pe_str)
      (pss_cons (ps_for PassesOwn.never rfl (pi_str (pv 0)) (pg_name (i := 4) scIsP.nd rfl (.inl rfl))
        (C8.pss_cut (ps_if (pt_cmpR op_eq (pv 4) pe_str (nomark _)) (pss_one (ps_aug (i := 2) scIsP.nd rfl (.inl rfl) pe_int ip_add))
          (pss_one (ps_if (pt_cmpR op_eq (pv 4) pe_str (nomark _)) (pss_one (ps_aug (i := 2) scIsP.nd rfl (.inl rfl) pe_int ip_sub))
            (pss_one (ps_if (pt_cmpR op_notIn_sign (pv 4) (pv 1) (by rfl)) (pss_one (ps_ret pe_bl)) pss_nil)))))
        (pss_cons (ps_if (PW.pt (pw_or (pt_not (pt_chain op_le op_le pe_int (pv 2) (pe_glob (v := .int 60) rfl gD ⟨_, rfl⟩))) (pw_or1 (pt_cmpR op_eq (pe_op op_add_str (pv 3) (pv 4)) pe_str (nomark _))))) (pss_one (ps_ret pe_bl)) pss_nil)
        (pss_one (ps_set (i := 3) scIsP.nd rfl (.inl rfl) (pv 4))))))
      (pss_one (ps_ret (pe_and (pe_cmpR op_eq (pv 2) pe_int (nomark _)) (pe_one (pe_cmpR op_ne (pv 0) pe_str (nomark _)))))))), ?_⟩
    have hfalse : pgo ls 0 0 xs = false → Q (.bl false) H := fun e => by
      have e2 : patB ls xs = false := by
        unfold patB
        rw [e]
        rfl
      rw [e2] at q
      exact q
    refine ⟨_, rfl, Sx xs, rfl, for_it walk_str (fun i σ H' => ∃ (d : Int) (p : Nat) (pa : List Nat) (y : Option V), σ = [some (.str (Sx xs)), some (.str (Sx ls)), some (.int d), some (.str (Sx pa)), y] ∧ H' = H ∧ ((pa = [] ∧ p = 0) ∨ pa = [p]) ∧ pgo ls 0 0 xs = pgo ls d p (xs.drop i))
      ⟨0, 0, [], none, by rw [em_eq]; rfl, rfl, .inl ⟨rfl, rfl⟩, rfl⟩ (fun _ _ _ _ _ => True.intro) ?_ ?_⟩
    · rintro i v σ H1 H2 hi ⟨d, p, pa, y, rfl, rfl, hpa, hgo⟩ ⟨rfl, c, hc, rfl⟩
      have hc : xs[i]? = some c := by
        have : xs.toArray[i]? = some c := hc
        simpa using this
      have hdrop : xs.drop i = c :: xs.drop (i + 1) := by
        rw [List.drop_eq_getElem_cons (List.getElem?_eq_some_iff.mp hc).1, (List.getElem?_eq_some_iff.mp hc).2]
      rw [hdrop] at hgo
      refine ⟨fun σ H' => σ = [some (.str (Sx xs)), some (.str (Sx ls)), some (.int (d + dlt c)), some (.str (Sx pa)), some (.str (Sx [c]))] ∧ H' = H2 ∧ okc ls c = true, ?_, ?_⟩
      · refine ⟨_, rfl, rfl, _, rfl, ?_⟩
        rw [lp_eq]
        show if decide (V.str (Sx [c]) = V.str (Sx [40])) = true then _ else _
        rw [eq_str]
        by_cases h1 : c = 40
        · refine itT (by rw [h1]) ?_
          refine ⟨_, rfl, _, _, rfl, rfl, ?_, rfl, ?_⟩
          · unfold dlt
            rw [if_pos h1]
            rfl
          · unfold okc
            rw [decide_eq_true h1]
            rfl
        · refine itF (fun e => h1 (List.cons.inj e).1) ?_
          refine ⟨_, rfl, rfl, _, rfl, ?_⟩
          rw [rp_eq]
          show if decide (V.str (Sx [c]) = V.str (Sx [41])) = true then _ else _
          rw [eq_str]
          by_cases h2 : c = 41
          · refine itT (by rw [h2]) ?_
            refine ⟨_, rfl, _, _, rfl, rfl, ?_, rfl, ?_⟩
            · unfold dlt
              rw [if_neg h1, if_pos h2]
              rfl
            · unfold okc
              rw [decide_eq_true h2, Bool.or_true]
              rfl
          · refine itF (fun e => h2 (List.cons.inj e).1) ?_
            refine ⟨_, rfl, _, rfl, c, Sx ls, rfl, rfl, _, rfl, ?_⟩
            rw [sx_cps]
            by_cases h3 : c ∈ ls
            · refine iteNS h3 ⟨?_, rfl, ?_⟩
              · unfold dlt
                rw [if_neg h1, if_neg h2, Int.add_zero]
                rfl
              · unfold okc
                rw [decide_eq_true h3, Bool.or_true]
            · rw [decide_eq_false h3]
              refine iteT (hfalse ?_)
              rw [hgo]
              simp only [pgo]
              have e : okc ls c = false := by
                unfold okc
                rw [decide_eq_false h1, decide_eq_false h2, decide_eq_false h3]
                rfl
              rw [e]
              rfl
      · rintro σ H3 ⟨rfl, rfl, hok⟩
        have hbad : (decide (0 ≤ d + dlt c) && decide (d + dlt c ≤ 60) && !(decide (p = 40) && decide (c = 41))) = false → pgo ls 0 0 xs = false := fun e => by
          rw [hgo]
          simp only [pgo]
          rw [hok, Bool.true_and, e]
          rfl
        refine ⟨_, rfl, _, _, rfl, rfl, _, rfl, ?_⟩
        by_cases h1 : 0 ≤ d + dlt c
        · refine itT h1 ⟨_, _, rfl, rfl, _, rfl, ?_⟩
          by_cases h2 : d + dlt c ≤ 60
          · rw [decide_eq_true h2]
            refine iteF ⟨_, rfl, _, rfl, Sx pa, Sx [c], rfl, rfl, ?_, rfl, _, rfl, ?_⟩
            · rw [sx_len, sx_len]
              have : pa.length ≤ 1 := by
                rcases hpa with ⟨e, _⟩ | e
                · rw [e]
                  decide
                · rw [e]
                  exact Nat.le_refl 1
              exact Nat.le_trans (show pa.length + [c].length ≤ 2 by simp only [List.length_cons, List.length_nil]; omega) (by decide)
            rw [sx_app, br_eq, eq_str]
            by_cases h3 : p = 40 ∧ c = 41
            · refine itT ?_ (hfalse (hbad ?_))
              · rcases hpa with ⟨_, e⟩ | e
                · omega
                · rw [e, h3.1, h3.2]
                  rfl
              · rw [decide_eq_true h3.1, decide_eq_true h3.2]
                exact Bool.and_false _
            · refine itF (fun e => h3 ?_) ?_
              · rcases hpa with ⟨e1, _⟩ | e1
                · rw [e1] at e
                  simp at e
                · rw [e1] at e
                  simp at e
                  exact e
              · refine ⟨_, rfl, d + dlt c, c, [c], _, rfl, rfl, .inr rfl, ?_⟩
                rw [hgo]
                simp only [pgo]
                have e : (decide (p = 40) && decide (c = 41)) = false := by
                  by_cases h4 : p = 40
                  · by_cases h5 : c = 41
                    · exact absurd ⟨h4, h5⟩ h3
                    · rw [decide_eq_false h5, Bool.and_false]
                  · rw [decide_eq_false h4, Bool.false_and]
                rw [hok, decide_eq_true h1, decide_eq_true h2, e]
                rfl
          · rw [decide_eq_false h2]
            refine iteT (hfalse (hbad ?_))
            rw [decide_eq_false h2, Bool.and_false, Bool.false_and]
        · refine itF h1 ⟨_, rfl, iteT (hfalse (hbad ?_))⟩
          rw [decide_eq_false h1, Bool.false_and, Bool.false_and]
    · rintro σ H1 ⟨d, p, pa, y, rfl, rfl, hpa, hgo⟩
      have hend : xs.drop (Sx xs).cps.size = [] := by
        have : (Sx xs).cps.size = xs.length := sx_len xs
        rw [this, List.drop_length]
      rw [hend] at hgo
      simp only [pgo] at hgo
      refine ⟨_, rfl, rfl, _, rfl, ?_⟩
      have ed : decide (V.int d = V.int 0) = decide (d = 0) := by
        by_cases h : d = 0
        · rw [h, decide_eq_true rfl, decide_eq_true rfl]
        · rw [decide_eq_false h, decide_eq_false (fun e => h (V.int.inj e))]
      rw [ed]
      by_cases h : d = 0
      · refine itT h ⟨_, rfl, rfl, ?_⟩
        rw [em_eq]
        have e : patB ls xs = !decide (V.str (Sx xs) = V.str (Sx [])) := by
          unfold patB
          rw [hgo, decide_eq_true h, Bool.true_and, eq_str]
          by_cases hx : xs = []
          · rw [decide_eq_true hx, decide_eq_false (fun n => n hx)]
            rfl
          · rw [decide_eq_false hx, decide_eq_true hx]
            rfl
        rw [e] at q
        exact q
      · refine itF h (hfalse ?_)
        rw [hgo, decide_eq_false h]
/-! ### need_goings -/
def spNeedG (cP cS : Addr) : Sp := fun vs H Q E => ∃ (xs : List Nat) (g : Int), vs = [.str (Sx xs), .int g] ∧ xs.length ≤ 1000 ∧ (patB smallL xs = true → 1 ≤ g → g ≤ 400 → Q .non H) ∧ (patB smallL xs = false → refuse cP [("word", .str "badpattern")] H E) ∧
  (patB smallL xs = true → ¬ (1 ≤ g ∧ g ≤ 400) → refuse cS [("word", .str "badsize")] H E)
theorem scNeedG : FnScope ["pattern", "goings"] ["pattern", "goings"] (defScope sNeedG) := ⟨rfl, rfl, rfl, by decide +kernel, rfl, by decide +kernel, by decide +kernel⟩
structure FnsP (K : PySem.W.Frag) (mg : Str → Option Value) (f : Addr) (fd : FuncData) (x : Str) (st : Stmt) (ps : List Str) : Prop where
  F : Fun K x x st f fd
  b : Binds K fd ps []
  g : mg x = some (.ref f)
theorem ok_needG {f fP cP cS iP iS : Addr} {fd fdP fdiP fdiS : FuncData} {k : Nat} (F : Fun K "need_goings" "need_goings" sNeedG f fd) (Ip : FnsP K mg fP fdP "is_pattern" sIsP ["text", "letters"]) (C : Cst mg) (BP : MkBadPattern K mg cP iP fdiP) (BS : MkBadSize K mg cS iS fdiS) :
    FnOk P w K mg base (L2N.CX P w) (k + 3) f fd ["pattern", "goings"] (spNeedG cP cS) := by
  have GI : FnOk P w K mg base CX0 (k + 2) fP fdP ["text", "letters"] spIsP := ok_isP Ip.F C
  obtain ⟨t1, gS⟩ := C.small
  obtain ⟨t2, gC⟩ := C.copies
  refine okN F scNeedG (fun vs H Q E h => ?_) (fun cdv A outer s H vs Q E hr h => ?_)
  · obtain ⟨xs, g, rfl, _⟩ := h
    rfl
  · obtain ⟨xs, g, rfl, hlen, q, e1, e2⟩ := h
    refine ⟨_, pss_cons (ps_if (pt_not (pt_val (pe_call GI hr (by rfl) Ip.g Ip.F.kp Ip.b .nil pass0 (pa_cons (pv 0) (pa_cons (pe_glob (v := .str "abcdefghijklmnopqrstuvwxyz") rfl gS ⟨_, rfl⟩) pa_nil)))))
        (pss_one (L2N.ps_raise rfl (L2N.takes_of rfl rfl rfl rfl) (pmk_word (k := k + 1) BP.T BP.iC BP.tI (ok_initBadPattern BP) hr BP.b (by rfl) BP.g))) pss_nil)
      (pss_one (ps_if (pt_not (pt_chain op_le op_le pe_int (pv 1) (pe_glob (v := .int 400) rfl gC ⟨_, rfl⟩)))
        (pss_one (L2N.ps_raise rfl (L2N.takes_of rfl rfl rfl rfl) (pmk_word (k := k + 1) BS.T BS.iC BS.tI (ok_initBadSize BS) hr BS.b (by rfl) BS.g))) pss_nil)), ?_⟩
    refine ⟨_, rfl, xs, smallL, by rw [small_eq]; rfl, hlen, _, rfl, ?_⟩
    cases hp : patB smallL xs with
    | false => exact iteT (fun d hd => e1 hp d hd)
    | true =>
      refine iteF ⟨_, rfl, _, _, rfl, rfl, _, rfl, ?_⟩
      by_cases h1 : 1 ≤ g
      · refine itT h1 ⟨_, _, rfl, rfl, _, rfl, ?_⟩
        by_cases h2 : g ≤ 400
        · rw [decide_eq_true h2]
          exact iteF (q hp h1 h2)
        · rw [decide_eq_false h2]
          exact iteT (fun d hd => e2 hp (fun z => h2 z.2) d hd)
      · exact itF h1 ⟨_, rfl, iteT (fun d hd => e2 hp (fun z => h1 z.1) d hd)⟩
end
end Onp
set_option maxHeartbeats 8000000
set_option autoImplicit false
namespace Onp
open PySem PySem.Spec PyProof.Rows L2 HotX L2H LamX
def NG : List Str := ["pattern", "goings", "nothing", "worth_of", "outside", "here", "sign"]
theorem scGone : FnScope NG ["pattern", "goings", "nothing", "worth_of"] (defScope sGone) := ⟨rfl, rfl, rfl, by decide +kernel, rfl, by decide +kernel, by decide +kernel⟩
theorem last_at {α : Type} (l : List α) : l[l.length - 1]? = l.getLast? := by
  rw [List.getLast?_eq_getElem?]
theorem dl_map {α β : Type} (f : α → β) (l : List α) : (l.map f).dropLast = l.dropLast.map f := (List.map_dropLast).symm
/-! ### gone, sums -/
def spGoneI : V → V → V → Hp → VK → Prop := fun v0 v1 v2 H Q => ∃ (xs : List Nat) (g n : Nat), v0 = .str (Sx xs) ∧ v1 = .int (g : Int) ∧ v2 = (.int 0) ∧ 1 ≤ g ∧ g ≤ 400 ∧ xs.length ≤ 1000 ∧ stI g xs ([], 0) = some ([], n) ∧ ∀ H', Same H H' → Q (.int (n : Int)) H'
theorem gives_goneI {X : Cx} {k : Nat} {g : Addr} {cdg : Value} {q : Str} : Gives1 X k NG "gone" (defScope sGone) g cdg (defBody sGone) "worth_of" q (fun _ H Q => Q (.int 1) H) spGoneI := by
  intro f c' s H Q v0 v1 v2 hr act hco h
  obtain ⟨xs, g, n, rfl, rfl, rfl, hg1, hg2, hlen, hst, hq⟩ := h
  refine ⟨_, pss_cons (ps_set (i := 4) scGone.nd rfl (.inl rfl) (pe_lst pa_nil))
    (pss_cons (ps_set (i := 5) scGone.nd rfl (.inl rfl) (pv 2))
    (pss_cons (ps_for PassesOwn.never rfl (pi_str (pv 0)) (pg_name (i := 6) scGone.nd rfl (.inl rfl))
      (pss_one (ps_if (pt_cmpR op_eq (pv 6) pe_str (nomark _))
        (pss_cons (ps_expr (pe_bm PySem.F.plainAttrs_list PySem.F.slot_list_append PySem.F.type_list_append mt_append (pv 4) (pa_cons (pv 5) pa_nil))) (pss_one (ps_set (i := 5) scGone.nd rfl (.inl rfl) (pv 2))))
        (pss_one (ps_if (pt_cmpR op_eq (pv 6) pe_str (nomark _))
          (pss_one (ps_set (i := 5) scGone.nd rfl (.inl rfl) (pe_op op_add (pe_bm0 PySem.F.plainAttrs_list PySem.F.slot_list_pop PySem.F.type_list_pop mt_pop (pv 4)) (pe_op op_mul (pv 5) (pv 1)))))
          (pss_one (ps_set (i := 5) scGone.nd rfl (.inl rfl) (pe_op op_add (pv 5) (act _ (tVar 6) _ _ (fun _ => rfl) (pv 6))))))))))
    (pss_one (ps_ret (pv 5))))), ?_⟩
  refine ⟨(by decide : 0 ≤ sizeLine), fun D nD => ?_⟩
  have ncD : c' ≠ D := ne_of_none hco nD
  refine ⟨_, rfl, _, rfl, Sx xs, rfl, for_it walk_str (fun i σ H' => ∃ (o : List Nat) (h : Nat) (y : Option V), σ = [some (.str (Sx xs)), some (.int (g : Int)), some (.int 0), some (.ref f), some (.ref D), some ((fun h : Nat => V.int (h : Int)) h), y] ∧ H' D = some (.lst (o.map (fun h : Nat => V.int (h : Int)))) ∧ (∀ b x, b ≠ D → H b = some x → H' b = some x) ∧ o.length ≤ i ∧ stI g (xs.drop i) (o, h) = some ([], n))
    ⟨[], 0, none, rfl, upd_same, fun b x n e => by rw [upd_ne n]; exact e, Nat.le_refl _, hst⟩ (fun _ _ _ _ _ => True.intro) ?_ ?_⟩
  · rintro i v σ H1 H2 hi ⟨o, h, y, rfl, hD, kp, hol, hinv⟩ ⟨rfl, c, hc, rfl⟩
    have hc : xs[i]? = some c := by
      have : xs.toArray[i]? = some c := hc
      simpa using this
    have hix : i < xs.length := (List.getElem?_eq_some_iff.mp hc).1
    have hdrop : xs.drop i = c :: xs.drop (i + 1) := by
      rw [List.drop_eq_getElem_cons hix, (List.getElem?_eq_some_iff.mp hc).2]
    rw [hdrop] at hinv
    refine ⟨_, rfl, rfl, _, rfl, ?_⟩
    rw [lp_eq]
    show if decide (V.str (Sx [c]) = V.str (Sx [40])) = true then _ else _
    rw [eq_str]
    have hsm : o.length < sizeLine := Nat.lt_of_le_of_lt (show o.length ≤ 1000 by omega) (by decide)
    by_cases h1 : c = 40
    · refine itT (by rw [h1]) ?_
      refine ⟨_, rfl, .inl ⟨rfl, _, SqL.of hD⟩, _, rfl, D, _, _, rfl, rfl, hD, by rw [List.length_map]; exact hsm, ?_⟩
      refine ⟨_, rfl, o ++ [h], 0, _, rfl, by rw [upd_same, List.map_append]; rfl, fun b x n e => ?_, by rw [List.length_append]; exact Nat.succ_le_succ hol, ?_⟩
      · rw [upd_ne n]
        exact kp b x n e
      · simp only [stI] at hinv
        rw [if_pos h1] at hinv
        exact hinv
    · refine itF (fun e => h1 (List.cons.inj e).1) ?_
      refine ⟨_, rfl, rfl, _, rfl, ?_⟩
      rw [rp_eq]
      show if decide (V.str (Sx [c]) = V.str (Sx [41])) = true then _ else _
      rw [eq_str]
      by_cases h2 : c = 41
      · refine itT (by rw [h2]) ?_
        simp only [stI] at hinv
        rw [if_neg h1, if_pos h2] at hinv
        obtain ⟨l, el⟩ : ∃ l, o.getLast? = some l := by
          cases e : o.getLast? with
          | none => rw [e] at hinv; cases hinv
          | some l => exact ⟨l, rfl⟩
        rw [el] at hinv
        have hinv : stI g (xs.drop (i + 1)) (o.dropLast, l + h * g) = some ([], n) := hinv
        refine ⟨_, rfl, .inl ⟨rfl, _, SqL.of hD⟩, D, _, (fun h : Nat => V.int (h : Int)) l, rfl, rfl, hD, ?_, ?_⟩
        · rw [last_at, List.getLast?_map, el]
          rfl
        · refine ⟨_, rfl, _, rfl, _, _, rfl, rfl, .inr ⟨by omega, by omega⟩, _, _, rfl, rfl, o.dropLast, l + h * g, some (.str (Sx [c])), ?_, ?_, fun b x n e => ?_, ?_, hinv⟩
          · have e : ((l + h * g : Nat) : Int) = (l : Int) + (h : Int) * (g : Int) := by rw [Int.natCast_add, Int.natCast_mul]
            dsimp only
            rw [e]
            rfl
          · rw [upd_same, dl_map]
          · rw [upd_ne n]
            exact kp b x n e
          · rw [List.length_dropLast]
            omega
      · refine itF (fun e => h2 (List.cons.inj e).1) ?_
        refine ⟨_, rfl, rfl, _, rfl, kp _ _ ncD hco, ?_⟩
        simp only [stI] at hinv
        rw [if_neg h1, if_neg h2] at hinv
        refine ⟨_, _, rfl, rfl, o, h + 1, _, rfl, hD, kp, by omega, hinv⟩
  · rintro σ H1 ⟨o, h, y, rfl, hD, kp, hol, hinv⟩
    have hend : xs.drop (Sx xs).cps.size = [] := by
      have : (Sx xs).cps.size = xs.length := sx_len xs
      rw [this, List.drop_length]
    rw [hend] at hinv
    simp only [stI, Option.some.injEq, Prod.mk.injEq] at hinv
    obtain ⟨rfl, rfl⟩ := hinv
    refine ⟨_, rfl, hq H1 fun b x e => kp b x (ne_of_none e nD) e⟩
/-! ### gone, texts -/
def spGoneS : V → V → V → Hp → VK → Prop := fun v0 v1 v2 H Q => ∃ (xs : List Nat) (g n : Nat), v0 = .str (Sx xs) ∧ v1 = .int (g : Int) ∧ v2 = (.str "") ∧ 1 ≤ g ∧ g ≤ 400 ∧ xs.length ≤ 1000 ∧ stI g xs ([], 0) = some ([], n) ∧ n ≤ 2000 ∧ ∀ H' zs, Same H H' → stS g xs ([], []) = some ([], zs) → Q (.str (Sx zs)) H'
theorem gives_goneS {X : Cx} {k : Nat} {g : Addr} {cdg : Value} {q : Str} : Gives1 X k NG "gone" (defScope sGone) g cdg (defBody sGone) "worth_of" q (fun v H Q => Q v H) spGoneS := by
  intro f c' s H Q v0 v1 v2 hr act hco h
  obtain ⟨xs, g, n, rfl, rfl, rfl, hg1, hg2, hlen, hst, hq⟩ := h
  refine ⟨_, pss_cons (ps_set (i := 4) scGone.nd rfl (.inl rfl) (pe_lst pa_nil))
    (pss_cons (ps_set (i := 5) scGone.nd rfl (.inl rfl) (pv 2))
    (pss_cons (ps_for PassesOwn.never rfl (pi_str (pv 0)) (pg_name (i := 6) scGone.nd rfl (.inl rfl))
      (pss_one (ps_if (pt_cmpR op_eq (pv 6) pe_str (nomark _))
        (pss_cons (ps_expr (pe_bm PySem.F.plainAttrs_list PySem.F.slot_list_append PySem.F.type_list_append mt_append (pv 4) (pa_cons (pv 5) pa_nil))) (pss_one (ps_set (i := 5) scGone.nd rfl (.inl rfl) (pv 2))))
        (pss_one (ps_if (pt_cmpR op_eq (pv 6) pe_str (nomark _))
          (pss_one (ps_set (i := 5) scGone.nd rfl (.inl rfl) (pe_op op_add_str (pe_bm0 PySem.F.plainAttrs_list PySem.F.slot_list_pop PySem.F.type_list_pop mt_pop (pv 4)) (pe_op op_mulS (pv 5) (pv 1)))))
          (pss_one (ps_set (i := 5) scGone.nd rfl (.inl rfl) (pe_op op_add_str (pv 5) (act _ (tVar 6) _ _ (fun _ => rfl) (pv 6))))))))))
    (pss_one (ps_ret (pv 5))))), ?_⟩
  refine ⟨(by decide : 0 ≤ sizeLine), fun D nD => ?_⟩
  have ncD : c' ≠ D := ne_of_none hco nD
  refine ⟨_, rfl, _, rfl, Sx xs, rfl, for_it walk_str (fun i σ H' => ∃ (o : List (List Nat)) (h : (List Nat)) (y : Option V), σ = [some (.str (Sx xs)), some (.int (g : Int)), some (.str ""), some (.ref f), some (.ref D), some ((fun h : List Nat => V.str (Sx h)) h), y] ∧ H' D = some (.lst (o.map (fun h : List Nat => V.str (Sx h)))) ∧ (∀ b x, b ≠ D → H b = some x → H' b = some x) ∧ o.length ≤ i ∧ stI g (xs.drop i) (lens (o, h)) = some ([], n) ∧ stS g xs ([], []) = stS g (xs.drop i) (o, h))
    ⟨[], [], none, rfl, upd_same, fun b x n e => by rw [upd_ne n]; exact e, Nat.le_refl _, hst, rfl⟩ (fun _ _ _ _ _ => True.intro) ?_ ?_⟩
  · rintro i v σ H1 H2 hi ⟨o, h, y, rfl, hD, kp, hol, hinv⟩ ⟨rfl, c, hc, rfl⟩
    have hc : xs[i]? = some c := by
      have : xs.toArray[i]? = some c := hc
      simpa using this
    have hix : i < xs.length := (List.getElem?_eq_some_iff.mp hc).1
    have hdrop : xs.drop i = c :: xs.drop (i + 1) := by
      rw [List.drop_eq_getElem_cons hix, (List.getElem?_eq_some_iff.mp hc).2]
    rw [hdrop] at hinv
    refine ⟨_, rfl, rfl, _, rfl, ?_⟩
    rw [lp_eq]
    show if decide (V.str (Sx [c]) = V.str (Sx [40])) = true then _ else _
    rw [eq_str]
    have hsm : o.length < sizeLine := Nat.lt_of_le_of_lt (show o.length ≤ 1000 by omega) (by decide)
    by_cases h1 : c = 40
    · refine itT (by rw [h1]) ?_
      refine ⟨_, rfl, .inl ⟨rfl, _, SqL.of hD⟩, _, rfl, D, _, _, rfl, rfl, hD, by rw [List.length_map]; exact hsm, ?_⟩
      refine ⟨_, rfl, o ++ [h], [], _, rfl, by rw [upd_same, List.map_append]; rfl, fun b x n e => ?_, by rw [List.length_append]; exact Nat.succ_le_succ hol, ?_⟩
      · rw [upd_ne n]
        exact kp b x n e
      · obtain ⟨hinv, hs⟩ := hinv
        refine ⟨?_, ?_⟩
        · simp only [lens, stI] at hinv
          rw [if_pos h1] at hinv
          simpa [lens] using hinv
        · rw [hs]
          simp only [stS]
          rw [if_pos h1]
    · refine itF (fun e => h1 (List.cons.inj e).1) ?_
      refine ⟨_, rfl, rfl, _, rfl, ?_⟩
      rw [rp_eq]
      show if decide (V.str (Sx [c]) = V.str (Sx [41])) = true then _ else _
      rw [eq_str]
      by_cases h2 : c = 41
      · refine itT (by rw [h2]) ?_
        obtain ⟨hinv, hs⟩ := hinv
        simp only [lens, stI] at hinv
        rw [if_neg h1, if_pos h2, List.getLast?_map] at hinv
        obtain ⟨l, el⟩ : ∃ l, o.getLast? = some l := by
          cases e : o.getLast? with
          | none => rw [e] at hinv; cases hinv
          | some l => exact ⟨l, rfl⟩
        rw [el] at hinv
        have hinv : stI g (xs.drop (i + 1)) ((o.map List.length).dropLast, l.length + h.length * g) = some ([], n) := hinv
        have hle := (st_le hg1 _ _ _ _ hinv).1
        have hcm := Nat.mul_comm g h.length
        have hbig : 2000 ≤ sizeLine := by decide
        refine ⟨_, rfl, .inl ⟨rfl, _, SqL.of hD⟩, D, _, (fun h : List Nat => V.str (Sx h)) l, rfl, rfl, hD, ?_, ?_⟩
        · rw [last_at, List.getLast?_map, el]
          rfl
        · refine ⟨_, rfl, _, rfl, h, g, rfl, rfl, by omega, by omega, Sx l, Sx (rep g h), rfl, rfl, by rw [sx_len, sx_len, rep_len]; omega, o.dropLast, l ++ rep g h, some (.str (Sx [c])), ?_, ?_, fun b x n e => ?_, ?_, ?_, ?_⟩
          · rw [sx_app]
            rfl
          · rw [upd_same, dl_map]
          · rw [upd_ne n]
            exact kp b x n e
          · rw [List.length_dropLast]
            omega
          · simp only [lens, List.length_append, rep_len]
            rw [hcm, ← dl_map]
            exact hinv
          · rw [hs]
            simp only [stS]
            rw [if_neg h1, if_pos h2, el]
      · refine itF (fun e => h2 (List.cons.inj e).1) ?_
        refine ⟨_, rfl, rfl, _, rfl, kp _ _ ncD hco, ?_⟩
        obtain ⟨hinv, hs⟩ := hinv
        simp only [lens, stI] at hinv
        rw [if_neg h1, if_neg h2] at hinv
        have hle := (st_le hg1 _ _ _ _ hinv).1
        have hbig : 2000 ≤ sizeLine := by decide
        refine ⟨Sx h, Sx [c], rfl, rfl, by rw [sx_len, sx_len]; simp only [List.length_cons, List.length_nil]; omega, o, h ++ [c], some (.str (Sx [c])), by rw [sx_app]; rfl, hD, kp, by omega, ?_, ?_⟩
        · simp only [lens, List.length_append, List.length_cons, List.length_nil]
          exact hinv
        · rw [hs]
          simp only [stS]
          rw [if_neg h1, if_neg h2]
  · rintro σ H1 ⟨o, h, y, rfl, hD, kp, hol, hinv⟩
    have hend : xs.drop (Sx xs).cps.size = [] := by
      have : (Sx xs).cps.size = xs.length := sx_len xs
      rw [this, List.drop_length]
    rw [hend] at hinv
    obtain ⟨hinv, hs⟩ := hinv
    simp only [lens, stI, Option.some.injEq, Prod.mk.injEq] at hinv
    have ho : o = [] := List.map_eq_nil_iff.mp hinv.1
    subst ho
    refine ⟨_, rfl, hq.2 H1 h (fun b x e => kp b x (ne_of_none e nD) e) ?_⟩
    rw [hs]
    rfl
/-! ### length_of, unrolled -/
def qLen : Str := ("length_of" : Str) ++ ".<locals>." ++ "<lambda>"
def qUnr : Str := ("unrolled" : Str) ++ ".<locals>." ++ "<lambda>"
theorem body_one {X : Cx} {A : Around} {outer : List Env} {s : Shared} {H : Hp} {sc : Scope} {f c' : Addr} {y : Str} {u : Nat} {p : Pos} : PE (lamCx1 X A outer s H sc f c' y) (.Constant (.int 1) u p) (fun σ H Q => ∃ v, σ = [some v] ∧ (fun (_ : V) (H : Hp) (Q : VK) => Q (.int 1) H) v H Q) :=
  ⟨fun pins s σ H Q I ⟨_, _, h⟩ => pe_int.run pins s σ H Q I h⟩
theorem body_self {X : Cx} {A : Around} {outer : List Env} {s : Shared} {H : Hp} {sc : Scope} {f c' : Addr} {y : Str} {p : Pos} (hv : Vis sc y) (hd : (y == ("__debug__" : Str)) = false) (hcd : (y == ("__classdict__" : Str)) = false) : PE (lamCx1 X A outer s H sc f c' y) (.Name y p) (fun σ H Q => ∃ v, σ = [some v] ∧ (fun (v : V) (H : Hp) (Q : VK) => Q v H) v H Q) :=
  ⟨fun pins s σ H Q I ⟨v, e, h⟩ => (pe_var (X := lamCx1 _ _ _ _ _ _ _ _ y) (pos := p) (i := 0) rfl hv hd hcd).run pins s σ H Q I ⟨v, by rw [e]; rfl, h⟩⟩
section
variable {P : Program} {w : World} {K : PySem.W.Frag} {mg : Str → Option Value} {base : Heap} {T : List (Addr × Str)}
def spLenOf (T : List (Addr × Str)) (cP cS : Addr) : Sp := fun vs H Q E => ∃ (xs : List Nat) (g : Int), vs = [.str (Sx xs), .int g] ∧ xs.length ≤ 1000 ∧ Tabs T H ∧
  (patB smallL xs = true → ∀ (m n : Nat) H', g = (m : Int) → 1 ≤ m → m ≤ 400 → stI m xs ([], 0) = some ([], n) → ExtN H H' → Tabs T H' → Q (.int (n : Int)) H') ∧
  (patB smallL xs = false → refuse cP [("word", .str "badpattern")] H E) ∧ (patB smallL xs = true → ¬ (1 ≤ g ∧ g ≤ 400) → refuse cS [("word", .str "badsize")] H E)
theorem scLenOf : FnScope ["pattern", "goings"] ["pattern", "goings"] (defScope sLenOf) := ⟨rfl, rfl, rfl, by decide +kernel, rfl, by decide +kernel, by decide +kernel⟩
theorem ok_lenOf {f fN fG fP cP cS iP iS c tb : Addr} {fdN fdG fdP fdiP fdiS : FuncData} {k : Nat} {oc : Value} {od : Option Addr} {kV doc pm ct : Value} {an : Option Addr} {osl : Array (Option Value)}
    (lk : K.lookup f = some ⟨oc, od, .func (PySem.W.fnOf "length_of" "length_of" (defArgs sLenOf) (defBody sLenOf) (defScope sLenOf) .none kV doc pm an (.ref c) ct), osl⟩) (hcd : PySem.W.codeIn K (.ref c) "length_of" = true)
    (Ng : FnsP K mg fN fdN "need_goings" sNeedG ["pattern", "goings"]) (Go : FnsP K mg fG fdG "gone" sGone ["pattern", "goings", "nothing", "worth_of"]) (Ip : FnsP K mg fP fdP "is_pattern" sIsP ["text", "letters"]) (C : Cst mg) (BP : MkBadPattern K mg cP iP fdiP) (BS : MkBadSize K mg cS iS fdiS)
    (TB : TabB base mg c tb) (hm : (tb, qLen) ∈ T) (hu : ∀ p ∈ T, p.1 = tb → p.2 = qLen) :
    FnOk P w K mg base (L2N.CX P w) (k + 4) f (PySem.W.fnOf "length_of" "length_of" (defArgs sLenOf) (defBody sLenOf) (defScope sLenOf) .none kV doc pm an (.ref c) ct) ["pattern", "goings"] (spLenOf T cP cS) := by
  have GN : FnOk P w K mg base (L2N.CX P w) (k + 3) fN fdN ["pattern", "goings"] (spNeedG cP cS) := ok_needG Ng.F Ip C BP BS
  obtain ⟨oc2, od2, kV2, doc2, pm2, an2, cdv2, ct2, osl2, rfl, lkG, hcdG⟩ := Go.F.ex
  refine fn_of lk hcd scLenOf (fun vs H Q E h => ?_) (fun A outer s H vs Q E hr h => ?_)
  · obtain ⟨xs, g, rfl, _⟩ := h
    rfl
  · obtain ⟨xs, g, rfl, hlen, hT, q, e1, e2⟩ := h
    refine ⟨_, pss_cons (ps_expr (pe_call (E := E) GN hr (by rfl) Ng.g Ng.F.kp Ng.b .nil (L2N.passes_call (L2N.takes_of (E := E) rfl rfl rfl rfl) fun _ _ _ _ z => z) (pa_cons (pv 0) (pa_cons (pv 1) pa_nil))))
      (pss_one (ps_ret (pe_lam1 (k := k + 1) (T := T) (sp := spGoneI) (y := "letter") (tb := fun _ H Q => Q (.int 1) H) (by rfl) Go.g Go.F.kp lkG hcdG Go.b scGone rfl (.inl rfl) gives_goneI TB rfl hm hu hr (lam1_by (by decide +kernel)) rfl (fun _ _ _ _ _ _ => rfl) (pv 0) (pv 1) pe_int
        (fun A outer s H f c' => body_one) (fun _ => rfl) (fun _ => rfl)))), ?_⟩
    refine ⟨_, rfl, _, rfl, xs, g, rfl, hlen, fun hp g1 g2 => ?_, e1, e2⟩
    refine ⟨_, rfl, _, rfl, hT, fun H1 x1 T1 => ?_⟩
    obtain ⟨m, rfl⟩ : ∃ m : Nat, g = (m : Int) := ⟨g.toNat, by omega⟩
    have hp2 : pgo smallL 0 0 xs = true := by
      unfold patB at hp
      exact (Bool.and_eq_true_iff.mp hp).1
    obtain ⟨n, hn⟩ := pgo_st (g := m) xs 0 0 [] 0 hp2 rfl
    exact ⟨xs, m, n, rfl, rfl, rfl, by omega, by omega, hlen, hn, fun H2 s2 => q hp m n H2 rfl (by omega) (by omega) hn (x1.trans (ExtN.of s2)) (T1.ext s2)⟩
def spUnr (T : List (Addr × Str)) (cP cS cW : Addr) : Sp := fun vs H Q E => ∃ (xs : List Nat) (g : Int), vs = [.str (Sx xs), .int g] ∧ xs.length ≤ 1000 ∧ Tabs T H ∧
  (patB smallL xs = true → ∀ (m n : Nat) (zs : List Nat) H', g = (m : Int) → 1 ≤ m → m ≤ 400 → stI m xs ([], 0) = some ([], n) → n ≤ 2000 → stS m xs ([], []) = some ([], zs) → ExtN H H' → Tabs T H' → Q (.str (Sx zs)) H') ∧
  (patB smallL xs = true → ∀ (m n : Nat) H', g = (m : Int) → 1 ≤ m → m ≤ 400 → stI m xs ([], 0) = some ([], n) → 2000 < n → ExtN H H' → Tabs T H' → refuse cW (mostL "toowide" (.int 2000)) H' E) ∧
  (patB smallL xs = false → refuse cP [("word", .str "badpattern")] H E) ∧ (patB smallL xs = true → ¬ (1 ≤ g ∧ g ≤ 400) → refuse cS [("word", .str "badsize")] H E)
theorem scUnr : FnScope ["pattern", "goings"] ["pattern", "goings"] (defScope sUnr) := ⟨rfl, rfl, rfl, by decide +kernel, rfl, by decide +kernel, by decide +kernel⟩
theorem ok_unr {f fL fG cP cS cW iW c tb : Addr} {fdL fdG fdiW : FuncData} {k : Nat} {oc : Value} {od : Option Addr} {kV doc pm ct : Value} {an : Option Addr} {osl : Array (Option Value)}
    (lk : K.lookup f = some ⟨oc, od, .func (PySem.W.fnOf "unrolled" "unrolled" (defArgs sUnr) (defBody sUnr) (defScope sUnr) .none kV doc pm an (.ref c) ct), osl⟩) (hcd : PySem.W.codeIn K (.ref c) "unrolled" = true)
    (GL : FnOk P w K mg base (L2N.CX P w) (k + 4) fL fdL ["pattern", "goings"] (spLenOf T cP cS)) (bL : Binds K fdL ["pattern", "goings"] []) (gL : mg "length_of" = some (.ref fL)) (kL : PySem.W.keepIn K (.ref fL) = true)
    (Go : FnsP K mg fG fdG "gone" sGone ["pattern", "goings", "nothing", "worth_of"]) (C : Cst mg) (BW : MkTooWide K mg cW iW fdiW) (TB : TabB base mg c tb) (hm : (tb, qUnr) ∈ T) (hu : ∀ p ∈ T, p.1 = tb → p.2 = qUnr) :
    FnOk P w K mg base (L2N.CX P w) (k + 5) f (PySem.W.fnOf "unrolled" "unrolled" (defArgs sUnr) (defBody sUnr) (defScope sUnr) .none kV doc pm an (.ref c) ct) ["pattern", "goings"] (spUnr T cP cS cW) := by
  obtain ⟨oc2, od2, kV2, doc2, pm2, an2, cdv2, ct2, osl2, rfl, lkG, hcdG⟩ := Go.F.ex
  obtain ⟨t1, gU⟩ := C.unr
  refine fn_of lk hcd scUnr (fun vs H Q E h => ?_) (fun A outer s H vs Q E hr h => ?_)
  · obtain ⟨xs, g, rfl, _⟩ := h
    rfl
  · obtain ⟨xs, g, rfl, hlen, hT, q, e0, e1, e2⟩ := h
    refine ⟨_, pss_cons (ps_if (pt_cmpR op_gt (pe_call (E := E) GL hr (by rfl) gL kL bL .nil (L2N.passes_call (L2N.takes_of (E := E) rfl rfl rfl rfl) fun _ _ _ _ z => z) (pa_cons (pv 0) (pa_cons (pv 1) pa_nil))) (pe_glob (v := .int 2000) rfl gU ⟨_, rfl⟩) (nomark _))
        (pss_one (L2N.ps_raise rfl (L2N.takes_of rfl rfl rfl rfl) (pmk_most (k := k + 3) BW.T BW.iC BW.tI (ok_initTooWide BW) hr BW.b (by rfl) BW.g (pe_glob (v := .int 2000) rfl gU ⟨_, rfl⟩)))) pss_nil)
      (pss_one (ps_ret (pe_lam1 (k := k + 2) (T := T) (sp := spGoneS) (y := "letter") (tb := fun v H Q => Q v H) (by rfl) Go.g Go.F.kp lkG hcdG Go.b scGone rfl (.inl rfl) gives_goneS TB rfl hm hu hr (lam1_by (by decide +kernel)) rfl (fun _ _ _ _ _ _ => rfl) (pv 0) (pv 1) pe_str
        (fun A outer s H f c' => body_self (.inl rfl) (by decide) (by decide)) (fun _ => rfl) (fun _ => rfl)))), ?_⟩
    refine ⟨_, rfl, _, rfl, xs, g, rfl, hlen, hT, fun hp m n H1 hg g1 g2 hn x1 T1 => ?_, e1, e2⟩
    refine ⟨_, _, rfl, rfl, _, rfl, ?_⟩
    by_cases hb : n ≤ 2000
    · refine itF (by omega) ⟨_, rfl, _, rfl, T1, fun H2 x2 T2 => ?_⟩
      refine ⟨xs, m, n, rfl, by rw [hg], rfl, g1, g2, hlen, hn, hb, fun H3 zs s3 hz => ?_⟩
      exact q hp m n zs H3 hg g1 g2 hn hb hz (x1.trans (x2.trans (ExtN.of s3))) (T2.ext s3)
    · refine itT (by omega) ?_
      exact e0 hp m n H1 hg g1 g2 hn (by omega) x1 T1
end
end Onp
set_option maxHeartbeats 8000000
set_option autoImplicit false
namespace Onp
open PySem PySem.Spec PyProof.Rows L2 HotX L2H LamX
abbrev sLett : Stmt := topS 43
abbrev sPatt : Stmt := topS 44
abbrev sLLen : Stmt := topS 45
abbrev sLong : Stmt := topS 46
abbrev sLaw : Stmt := topS 47
/-! ### tables of code objects beside the bag -/
theorem tabs_keep {T : List (Addr × Str)} {H H' : Hp} {g : Bid} (t : Tabs T H) (B : Bg H g) (k : Keep g.b H H') : Tabs T H' := fun p hp => by
  obtain ⟨ps, h1, h2, h3⟩ := t p hp
  obtain ⟨i, r, sd, c, hb, _⟩ := B
  refine ⟨ps, k _ _ (ne_of h1 hb (fun z => by cases z)) h1, h2, fun pos cv hc => ?_⟩
  obtain ⟨c0, e1, e2⟩ := h3 pos cv hc
  refine ⟨c0, e1, k _ _ (ne_of e2 hb (fun z => ?_)) e2⟩
  unfold CodeO bagV at z
  cases z
theorem bg_ext {H H' : Hp} {g : Bid} (B : Bg H g) (e : ExtN H H') : Bg H' g := by
  obtain ⟨i, r, sd, c, h1, h2, h3⟩ := B
  exact ⟨i, r, sd, c, e _ _ h1 (fun ps z => by cases z), e _ _ h2 (fun ps z => by cases z), h3⟩
section
variable {P : Program} {w : World} {K : PySem.W.Frag} {mg : Str → Option Value} {base : Heap}
structure Fns (K : PySem.W.Frag) (mg : Str → Option Value) (f : Addr) (fd : FuncData) (x : Str) (st : Stmt) (ps : List Str) : Prop where
  F : Fun K x x st f fd
  b : Binds K fd ps []
  g : mg x = some (.ref f)
/-! ### one sign of a text -/
def spOfS : Sp := fun vs H Q _ => ∃ (g : Bid) (ls : List Nat), vs = [.ref g.b, .str (Sx ls)] ∧ Bg H g ∧ 0 < ls.length ∧ ls.length < 1000 ∧ ∀ c H', c ∈ ls → Keep g.b H H' → Bg H' g → Q (.str (Sx [c])) H'
theorem ok_ofS {f fP : Addr} {fd fdP : FuncData} {k : Nat} (F : Fun K "_law_of" "_law_of" sOf f fd) (FP : Fun K "_law_pull" "_law_pull" sPull fP fdP) (bP : Binds K fdP ["_law_bag_here", "_law_many"] []) (gP : mg "_law_pull" = some (.ref fP)) (ml : mg "len" = none) : FnOk P w K mg base CX0 (k + 2) f fd ["_law_bag_here", "_law_some"] spOfS := by
  have GP : FnOk P w K mg base CX0 (k + 1) fP fdP ["_law_bag_here", "_law_many"] (spPull K) := ok_pull FP ml
  refine F.ok scOf (fun vs H Q E h => ?_) (fun cdv A outer s H vs Q E hr h => ?_)
  · obtain ⟨g, ls, rfl, _⟩ := h
    rfl
  · obtain ⟨b, ls, rfl, B, h0, hlen, q⟩ := h
    refine ⟨_, pss_one (ps_ret (pe_ix ix_str (pv 1) (pe_call GP hr (by rfl) gP FP.kp bP .nil pass0 (pa_cons (pv 0) (pa_cons (pe_callB call_len_str (by rfl) ml PySem.boot_len (pa_cons (pv 1) pa_nil)) pa_nil))) (fun _ _ => rfl))), ?_⟩
    have hz : (Sx ls).length ≤ sizeLine := by
      rw [sx_len]
      exact Nat.le_trans (Nat.le_of_lt hlen) (by decide)
    refine ⟨_, rfl, _, rfl, _, rfl, Sx ls, rfl, hz, b, _, rfl, ?_, ?_, B, fun z H' z0 z1 kp B' => ?_⟩
    · rw [sx_len]
      omega
    · rw [sx_len]
      exact Nat.lt_trans (show ((ls.length : Nat) : Int).natAbs < 2 ^ 64 by omega) (by decide)
    · rw [sx_len] at z1
      have e : z = ((z.toNat : Nat) : Int) := by omega
      have hz1 : z.toNat < ls.length := by omega
      rw [e]
      refine ⟨Sx ls, z.toNat, ls[z.toNat], rfl, rfl, hz, ?_, q _ _ (List.getElem_mem hz1) kp B'⟩
      rw [sx_cps]
      exact atI_nat (List.getElem?_eq_getElem hz1)
/-! ### _law_letters -/
def NLe : List Str := ["_law_bag_here", "_law_most", "_law_alphabet", "_law_first", "_law_by", "_law_k"]
theorem scLett : FnScope NLe ["_law_bag_here", "_law_most"] (defScope sLett) := ⟨rfl, rfl, rfl, by decide +kernel, rfl, by decide +kernel, by decide +kernel⟩
def spLett : Sp := fun vs H Q _ => ∃ g : Bid, vs = [.ref g.b, .int 3] ∧ Bg H g ∧ ∀ (ls : List Nat) H', ls ≠ [] → ls.length ≤ 3 → (∀ c ∈ ls, c ∈ smallL) → Keep g.b H H' → Bg H' g → Q (.str (Sx ls)) H'
theorem join_signs : ∀ cs : List Nat, Str.join (Sx []) (cs.map fun c => Sx [c]) = Sx cs
  | [] => rfl
  | [c] => rfl
  | c :: d :: r => by
    show Sx [c] ++ Sx [] ++ Str.join (Sx []) ((d :: r).map fun c => Sx [c]) = _
    rw [join_signs (d :: r), sx_app, sx_app]
    rfl
theorem sum_ones : ∀ cs : List Nat, ((cs.map fun c => Sx [c]).map (·.length)).sum = cs.length
  | [] => rfl
  | c :: r => by
    have h := sum_ones r
    rw [List.map_cons, List.map_cons, List.sum_cons, h, List.length_cons, sx_len]
    simp only [List.length_cons, List.length_nil]
    omega
theorem signs_map (cs : List Nat) : signsV cs = (cs.map fun c => Sx [c]).map V.str := by
  unfold signsV
  rw [List.map_map]
  rfl
theorem small_at (j : Nat) (h : j < 26) : ∃ c, smallL[j]? = some c ∧ c ∈ smallL := by
  have hl : smallL.length = 26 := rfl
  exact ⟨smallL[j]'(by omega), List.getElem?_eq_getElem _, List.getElem_mem _⟩
theorem ok_lett {f fP : Addr} {fd fdP : FuncData} {k : Nat} (F : Fun K "_law_letters" "_law_letters" sLett f fd) (Pu : Fns K mg fP fdP "_law_pull" sPull ["_law_bag_here", "_law_many"]) (ml : mg "len" = none) (mr : mg "range" = none) : FnOk P w K mg base CX0 (k + 2) f fd ["_law_bag_here", "_law_most"] spLett := by
  have GP : FnOk P w K mg base CX0 (k + 1) fP fdP ["_law_bag_here", "_law_many"] (spPull K) := ok_pull Pu.F ml
  refine F.ok scLett (fun vs H Q E h => ?_) (fun cdv A outer s H vs Q E hr h => ?_)
  · obtain ⟨g, rfl, _⟩ := h
    rfl
  · obtain ⟨g, rfl, B, q⟩ := h
    refine ⟨_, pss_cons (ps_set (i := 2) scLett.nd rfl (.inr rfl) pe_str)
      (pss_cons (ps_asg (pe_tup (pa_cons (pe_call GP hr (by rfl) Pu.g Pu.F.kp Pu.b .nil pass0 (pa_cons (pv 0) (pa_cons pe_int pa_nil))) (pa_cons (pe_op op_add pe_int (pe_call GP hr (by rfl) Pu.g Pu.F.kp Pu.b .nil pass0 (pa_cons (pv 0) (pa_cons pe_int pa_nil)))) pa_nil))) (pg_tup rfl (pgs_cons (pg_name (i := 3) scLett.nd rfl (.inr rfl)) (pgs_cons (pg_name (i := 4) scLett.nd rfl (.inr rfl)) pgs_nil))))
      (pss_one (ps_ret (pe_join pe_str (pe_lc (own := [("_law_k", 5)]) (g := gName 5) (tt := tYes) (te := tOp rIxS (tVar 2) (tOp (rI0 fun i j => .int (i + j)) (tVar 3) (tOp (rI CMul fun i j => .int (i * j)) (tVar 4) (tVar 5)))) rfl scLett.nd
        (pi_range1 (by rfl) mr (pa_cons (pe_op op_add pe_int (pe_call GP hr (by rfl) Pu.g Pu.F.kp Pu.b .nil pass0 (pa_cons (pv 0) (pa_cons (pv 1) pa_nil)))) pa_nil)) (blkOk_by (own := [("_law_k", 5)]) (N := NLe) (sc := defScope sLett) (by decide +kernel))
        (fun _ _ _ _ _ => pg_name (i := 5) scLett.nd rfl (Or.inl rfl)) (fun _ _ _ _ _ => pts_nil) (fun _ _ _ _ _ => pe_ix ix_str (pv 2) (pe_op op_add (pv 3) (pe_op op_mul (pv 4) (pv 5))) (fun _ _ => rfl))))))), ?_⟩
    refine ⟨_, rfl, g, 20, rfl, by decide, by decide, B, fun x H1 x0 x1 k1 B1 => ?_⟩
    refine ⟨_, rfl, g, 3, rfl, by decide, by decide, B1, fun y H2 y0 y1 k2 B2 => ?_⟩
    refine ⟨_, _, rfl, rfl, (by decide : 2 ≤ sizeLine), fun p np => ?_⟩
    have s3 := same_upd (o := .tup [.int x, .int (1 + y)]) np
    refine ⟨p, _, rfl, SqT.of upd_same, rfl, _, _, rfl, _, _, rfl, rfl, ?_⟩
    have B3 := B2.same s3
    generalize upd H2 p (.tup [.int x, .int (1 + y)]) = H3 at s3 B3
    refine ⟨⟨_, rfl⟩, _, rfl, _, rfl, g, 3, rfl, by decide, by decide, B3, fun z H4 z0 z1 k4 B4 => ?_⟩
    refine ⟨_, _, rfl, rfl, 1 + z, rfl, by omega, by omega, fun D nD => ?_⟩
    refine lc_range (lo := 0) (n := (1 + z).toNat) (fun i H' => ∃ cs : List Nat, cs.length = i ∧ (∀ c ∈ cs, c ∈ smallL) ∧ H' D = some (.lst (signsV cs)) ∧ Same H4 H') ⟨[], rfl, fun _ h => (nomatch h), upd_same, same_upd nD⟩ (fun j H' hj ⟨cs, hl, hs, hD, sm⟩ => ?_) (fun H5 ⟨cs, hl, hs, hD, sm⟩ => ?_)
    · refine ⟨rfl, ?_⟩
      unfold tYes
      dsimp only
      rw [if_pos rfl]
      have hlt : x + (1 + y) * (0 + (j : Int)) < 26 := by
        have hj3 : j < 3 := by omega
        have : (1 + y) * (0 + (j : Int)) ≤ 3 * 2 := Int.mul_le_mul (by omega) (by omega) (by omega) (by omega)
        omega
      have hge : 0 ≤ x + (1 + y) * (0 + (j : Int)) := by
        have : 0 ≤ (1 + y) * (0 + (j : Int)) := Int.mul_nonneg (by omega) (by omega)
        omega
      obtain ⟨ix, eix⟩ : ∃ ix : Nat, x + (1 + y) * (0 + (j : Int)) = (ix : Int) := ⟨(x + (1 + y) * (0 + (j : Int))).toNat, by omega⟩
      obtain ⟨c, hc, hcs⟩ := small_at ix (by omega)
      refine ⟨_, rfl, _, rfl, _, rfl, _, rfl, _, _, rfl, rfl, .inl ⟨by omega, by omega⟩, _, _, rfl, rfl, Sx smallL, (ix : Int), c, by rw [small_eq], congrArg V.int eix, ?_, ?_, ?_⟩
      · rw [sx_len]
        decide
      · rw [sx_cps]
        exact atI_nat hc
      · refine ⟨_, hD, ?_, cs ++ [c], by rw [List.length_append, hl]; rfl, fun d hd => ?_, ?_, fun b o hb => ?_⟩
        · unfold signsV
          rw [List.length_map, hl]
          exact small1000 (by omega)
        · rcases List.mem_append.mp hd with hd | hd
          · exact hs d hd
          · rw [List.mem_singleton.mp hd]
            exact hcs
        · rw [upd_same]
          unfold signsV
          rw [List.map_append]
          rfl
        · rw [upd_ne (ne_of_none hb nD)]
          exact sm b o hb
    · refine ⟨Sx [], D, cs.map fun c => Sx [c], by rw [em_eq], rfl, .inl (SqL.of (by rw [hD, signs_map])), ?_, ?_⟩
      · rw [sum_ones, sx_len, List.length_nil, Nat.mul_zero]
        omega
      · rw [TL.join_eq, join_signs]
        refine q cs H5 ?_ (by omega) hs ?_ (B4.same sm)
        · intro e
          rw [e] at hl
          simp at hl
          omega
        · exact ((k1.trans k2).trans (Keep.of s3)).trans (k4.trans (Keep.of sm))
/-! ### _law_pattern -/
def NPa : List Str := ["_law_bag_here", "_law_letters_here", "_law_depth", "_law_text", "_law_k"]
theorem scPatt : FnScope NPa ["_law_bag_here", "_law_letters_here", "_law_depth"] (defScope sPatt) := ⟨rfl, rfl, rfl, by decide +kernel, rfl, by decide +kernel, by decide +kernel⟩
def wid : Nat → Nat
  | 0 => 1
  | d + 1 => 3 * wid d + 2
theorem wid_ge : ∀ d, 1 ≤ wid d
  | 0 => Nat.le_refl _
  | d + 1 => by
    show 1 ≤ 3 * wid d + 2
    omega
theorem wid_le {d : Nat} (h : d ≤ 3) : wid d ≤ 53 := by
  rcases d with _ | _ | _ | _ | d
  · decide
  · decide
  · decide
  · decide
  · omega
theorem small_nob : ∀ c ∈ smallL, c ≠ 40 ∧ c ≠ 41 := by decide
/-- a text that goes along well at any depth -/
def Good (d : Nat) (zs : List Nat) : Prop := ∀ (e : Int) (p : Nat) (r : List Nat), 0 ≤ e → e + (d : Int) ≤ 60 → ∃ p', (zs ≠ [] → p' ≠ 40) ∧ pgo smallL e p (zs ++ r) = pgo smallL e p' r
theorem good_nil (d : Nat) : Good d [] := fun e p r _ _ => ⟨p, fun h => absurd rfl h, rfl⟩
theorem pgo_letter {c p : Nat} {e : Int} {r : List Nat} (hc : c ∈ smallL) (h0 : 0 ≤ e) (h1 : e ≤ 60) : pgo smallL e p (c :: r) = pgo smallL e c r := by
  obtain ⟨n1, n2⟩ := small_nob c hc
  have ed : dlt c = 0 := by unfold dlt; rw [if_neg n1, if_neg n2]
  have eo : okc smallL c = true := by unfold okc; rw [decide_eq_true hc, Bool.or_true]
  simp only [pgo]
  rw [ed, eo, Int.add_zero, decide_eq_true h0, decide_eq_true h1, decide_eq_false n2, Bool.and_false]
  rfl
theorem good_letter {d c : Nat} {zs : List Nat} (h : Good d zs) (hc : c ∈ smallL) : Good d (zs ++ [c]) := fun e p r h0 h1 => by
  obtain ⟨p', _, q⟩ := h e p (c :: r) h0 h1
  refine ⟨c, fun _ => (small_nob c hc).1, ?_⟩
  rw [List.append_assoc]
  show pgo smallL e p (zs ++ c :: r) = _
  rw [q, pgo_letter hc h0 (by omega)]
theorem good_br {d : Nat} {zs ys : List Nat} (h : Good (d + 1) zs) (hne : ys ≠ []) (hy : Good d ys) : Good (d + 1) (zs ++ [40] ++ ys ++ [41]) := fun e p r h0 h1 => by
  refine ⟨41, fun _ => by decide, ?_⟩
  have e1 : zs ++ [40] ++ ys ++ [41] ++ r = zs ++ (40 :: (ys ++ 41 :: r)) := by simp
  rw [e1]
  obtain ⟨p', _, q⟩ := h e p (40 :: (ys ++ 41 :: r)) h0 h1
  rw [q]
  have s1 : pgo smallL e p' (40 :: (ys ++ 41 :: r)) = pgo smallL (e + 1) 40 (ys ++ 41 :: r) := by
    simp only [pgo]
    have ed : dlt 40 = 1 := rfl
    have eo : okc smallL 40 = true := by decide
    rw [ed, eo, decide_eq_true (show 0 ≤ e + 1 by omega), decide_eq_true (show e + 1 ≤ 60 by omega), decide_eq_false (show ¬ (40 : Nat) = 41 by decide), Bool.and_false]
    rfl
  obtain ⟨p2, h2, q2⟩ := hy (e + 1) 40 (41 :: r) (by omega) (by omega)
  rw [s1, q2]
  simp only [pgo]
  have ed : dlt 41 = -1 := rfl
  have eo : okc smallL 41 = true := by decide
  rw [ed, eo, show e + 1 + -1 = e by omega, decide_eq_true h0, decide_eq_true (show e ≤ 60 by omega), decide_eq_false (h2 hne), Bool.false_and]
  rfl
theorem good_pat {zs : List Nat} (hne : zs ≠ []) (h : Good 3 zs) : patB smallL zs = true := by
  obtain ⟨p', _, q⟩ := h 0 0 [] (by decide) (by decide)
  rw [List.append_nil] at q
  unfold patB
  rw [q, decide_eq_true hne, Bool.and_true]
  rfl
def spPatt (d : Nat) : Sp := fun vs H Q _ => ∃ (g : Bid) (ls : List Nat), vs = [.ref g.b, .str (Sx ls), .int (d : Int)] ∧ Bg H g ∧ 0 < ls.length ∧ ls.length < 1000 ∧ (∀ c ∈ ls, c ∈ smallL) ∧ ∀ (zs : List Nat) H', zs.length ≤ 3 * wid d → zs ≠ [] → Good d zs → Keep g.b H H' → Bg H' g → Q (.str (Sx zs)) H'
theorem ok_patt {f fP fO : Addr} {fd fdP fdO : FuncData} (F : Fun K "_law_pattern" "_law_pattern" sPatt f fd) (bF : Binds K fd ["_law_bag_here", "_law_letters_here", "_law_depth"] []) (gF : mg "_law_pattern" = some (.ref f)) (Pu : Fns K mg fP fdP "_law_pull" sPull ["_law_bag_here", "_law_many"]) (O : Fns K mg fO fdO "_law_of" sOf ["_law_bag_here", "_law_some"]) (ml : mg "len" = none) (mr : mg "range" = none) :
    ∀ (d : Nat), d ≤ 3 → ∀ k, FnOk P w K mg base CX0 (k + d + 3) f fd ["_law_bag_here", "_law_letters_here", "_law_depth"] (spPatt d) := by
  intro d
  induction d with
  | zero =>
    intro _ k
    have GP : FnOk P w K mg base CX0 (k + 2) fP fdP ["_law_bag_here", "_law_many"] (spPull K) := ok_pull Pu.F ml
    have GO : FnOk P w K mg base CX0 (k + 2) fO fdO ["_law_bag_here", "_law_some"] spOfS := ok_ofS O.F Pu.F Pu.b Pu.g ml
    refine F.ok scPatt (fun vs H Q E h => ?_) (fun cdv A outer s H vs Q E hr h => ?_)
    · obtain ⟨g, ls, rfl, _⟩ := h
      rfl
    · obtain ⟨g, ls, rfl, B, l0, l1, lsm, q⟩ := h
      refine ⟨_, pss_cons (ps_set (i := 3) scPatt.nd rfl (.inl rfl) pe_str)
        (pss_cons (ps_for PassesOwn.never rfl (pi_range1 (by rfl) mr (pa_cons (pe_op op_add pe_int (pe_call GP hr (by rfl) Pu.g Pu.F.kp Pu.b .nil pass0 (pa_cons (pv 0) (pa_cons pe_int pa_nil)))) pa_nil)) (pg_name (i := 4) scPatt.nd rfl (.inl rfl))
          (pss_one (ps_if (PW.pt (pw_and (pt_cmpR op_gt (pv 2) pe_int (nomark _)) (pw_and1 (pt_cmpR op_eq (pe_call GP hr (by rfl) Pu.g Pu.F.kp Pu.b .nil pass0 (pa_cons (pv 0) (pa_cons pe_int pa_nil))) pe_int (nomark _)))))
            pss_never
            (pss_one (ps_set (i := 3) scPatt.nd rfl (.inl rfl) (pe_op op_add_str (pv 3) (pe_call GO hr (by rfl) O.g O.F.kp O.b .nil pass0 (pa_cons (pv 0) (pa_cons (pv 1) pa_nil)))))))))
        (pss_one (ps_ret (pv 3)))), ?_⟩
      refine ⟨_, rfl, g, 3, rfl, by decide, by decide, B, fun z H1 z0 z1 k1 B1 => ?_⟩
      refine ⟨_, _, rfl, rfl, 1 + z, rfl, by omega, by omega, for_range (lo := 0) (n := (1 + z).toNat) (fun i σ H' => ∃ (zs : List Nat) (y : Option V), σ = [some (.ref g.b), some (.str (Sx ls)), some (.int ((0 : Nat) : Int)), some (.str (Sx zs)), y] ∧ zs.length ≤ i * wid 0 ∧ i ≤ zs.length ∧ Good 0 zs ∧ Keep g.b H1 H' ∧ Bg H' g)
        ⟨[], none, by rw [em_eq]; rfl, Nat.zero_le _, Nat.zero_le _, good_nil _, Keep.refl _, B1⟩ ?_ ?_⟩
      · rintro i σ H2 hi ⟨zs, y, rfl, hl, hil, hg, k2, B2⟩
        have hi3 : i < 3 := by omega
        have hw : wid 0 ≤ 53 := by decide
        have hzl : zs.length ≤ 159 := Nat.le_trans hl (Nat.le_trans (Nat.mul_le_mul (Nat.le_of_lt hi3) hw) (by decide))
        have hbig : 1000 ≤ sizeLine := by decide
        have hw1 : 1 ≤ wid 0 := by decide
        have hel : ∀ (c : Nat) (H3 : Hp), Keep g.b H2 H3 → Bg H3 g → c ∈ ls → ∃ (i' j' : Str), V.str (Sx zs) = .str i' ∧ V.str (Sx [c]) = .str j' ∧ i'.length + j'.length ≤ sizeLine ∧ ∃ (zs2 : List Nat) (y : Option V), [some (V.ref g.b), some (.str (Sx ls)), some (.int ((0 : Nat) : Int)), some (.str (i' ++ j')), some (.int (0 + (i : Int)))] = [some (V.ref g.b), some (.str (Sx ls)), some (.int ((0 : Nat) : Int)), some (.str (Sx zs2)), y] ∧ zs2.length ≤ (i + 1) * wid 0 ∧ i + 1 ≤ zs2.length ∧ Good 0 zs2 ∧ Keep g.b H1 H3 ∧ Bg H3 g := fun c H3 k3 B3 hc => by
          refine ⟨_, _, rfl, rfl, by rw [sx_len, sx_len]; simp only [List.length_cons, List.length_nil]; omega, zs ++ [c], _, by rw [sx_app], ?_, by rw [List.length_append]; exact Nat.succ_le_succ hil, good_letter hg (lsm c hc), k2.trans k3, B3⟩
          rw [List.length_append, Nat.succ_mul]
          simp only [List.length_cons, List.length_nil]
          omega
        refine ⟨_, rfl, _, _, rfl, rfl, _, rfl, itF (by omega) ?_⟩
        refine ⟨_, rfl, _, rfl, _, rfl, g, ls, rfl, B2, l0, l1, fun c H3 hc k3 B3 => ?_⟩
        exact hel c H3 k3 B3 hc
      · rintro σ H2 ⟨zs, y, rfl, hl, hil, hg, k2, B2⟩
        refine ⟨_, rfl, q zs H2 (Nat.le_trans hl (Nat.mul_le_mul_right _ (by omega))) (fun e => ?_) hg (k1.trans k2) B2⟩
        rw [e] at hil
        simp at hil
        omega
  | succ d ih =>
    intro hd k
    have GP : FnOk P w K mg base CX0 (k + d + 3) fP fdP ["_law_bag_here", "_law_many"] (spPull K) := ok_pull Pu.F ml
    have GO : FnOk P w K mg base CX0 (k + d + 3) fO fdO ["_law_bag_here", "_law_some"] spOfS := ok_ofS O.F Pu.F Pu.b Pu.g ml
    have GR : FnOk P w K mg base CX0 (k + d + 3) f fd ["_law_bag_here", "_law_letters_here", "_law_depth"] (spPatt d) := ih (by omega) k
    refine F.ok scPatt (fun vs H Q E h => ?_) (fun cdv A outer s H vs Q E hr h => ?_)
    · obtain ⟨g, ls, rfl, _⟩ := h
      rfl
    · obtain ⟨g, ls, rfl, B, l0, l1, lsm, q⟩ := h
      refine ⟨_, pss_cons (ps_set (i := 3) scPatt.nd rfl (.inl rfl) pe_str)
        (pss_cons (ps_for PassesOwn.never rfl (pi_range1 (by rfl) mr (pa_cons (pe_op op_add pe_int (pe_call GP hr (by rfl) Pu.g Pu.F.kp Pu.b .nil pass0 (pa_cons (pv 0) (pa_cons pe_int pa_nil)))) pa_nil)) (pg_name (i := 4) scPatt.nd rfl (.inl rfl))
          (pss_one (ps_if (PW.pt (pw_and (pt_cmpR op_gt (pv 2) pe_int (nomark _)) (pw_and1 (pt_cmpR op_eq (pe_call GP hr (by rfl) Pu.g Pu.F.kp Pu.b .nil pass0 (pa_cons (pv 0) (pa_cons pe_int pa_nil))) pe_int (nomark _)))))
            (pss_one (ps_set (i := 3) scPatt.nd rfl (.inl rfl) (pe_op op_add_str (pe_op op_add_str (pe_op op_add_str (pv 3) pe_str) (pe_call GR hr (by rfl) gF F.kp bF .nil pass0 (pa_cons (pv 0) (pa_cons (pv 1) (pa_cons (pe_op op_sub (pv 2) pe_int) pa_nil))))) pe_str)))
            (pss_one (ps_set (i := 3) scPatt.nd rfl (.inl rfl) (pe_op op_add_str (pv 3) (pe_call GO hr (by rfl) O.g O.F.kp O.b .nil pass0 (pa_cons (pv 0) (pa_cons (pv 1) pa_nil)))))))))
        (pss_one (ps_ret (pv 3)))), ?_⟩
      refine ⟨_, rfl, g, 3, rfl, by decide, by decide, B, fun z H1 z0 z1 k1 B1 => ?_⟩
      refine ⟨_, _, rfl, rfl, 1 + z, rfl, by omega, by omega, for_range (lo := 0) (n := (1 + z).toNat) (fun i σ H' => ∃ (zs : List Nat) (y : Option V), σ = [some (.ref g.b), some (.str (Sx ls)), some (.int ((d + 1 : Nat) : Int)), some (.str (Sx zs)), y] ∧ zs.length ≤ i * wid (d + 1) ∧ i ≤ zs.length ∧ Good (d + 1) zs ∧ Keep g.b H1 H' ∧ Bg H' g)
        ⟨[], none, by rw [em_eq]; rfl, Nat.zero_le _, Nat.zero_le _, good_nil _, Keep.refl _, B1⟩ ?_ ?_⟩
      · rintro i σ H2 hi ⟨zs, y, rfl, hl, hil, hg, k2, B2⟩
        have hi3 : i < 3 := by omega
        have hw : wid (d + 1) ≤ 53 := wid_le hd
        have hzl : zs.length ≤ 159 := Nat.le_trans hl (Nat.le_trans (Nat.mul_le_mul (Nat.le_of_lt hi3) hw) (by decide))
        have hbig : 1000 ≤ sizeLine := by decide
        have hw1 : 1 ≤ wid (d + 1) := wid_ge _
        have hel : ∀ (c : Nat) (H3 : Hp), Keep g.b H2 H3 → Bg H3 g → c ∈ ls → ∃ (i' j' : Str), V.str (Sx zs) = .str i' ∧ V.str (Sx [c]) = .str j' ∧ i'.length + j'.length ≤ sizeLine ∧ ∃ (zs2 : List Nat) (y : Option V), [some (V.ref g.b), some (.str (Sx ls)), some (.int ((d + 1 : Nat) : Int)), some (.str (i' ++ j')), some (.int (0 + (i : Int)))] = [some (V.ref g.b), some (.str (Sx ls)), some (.int ((d + 1 : Nat) : Int)), some (.str (Sx zs2)), y] ∧ zs2.length ≤ (i + 1) * wid (d + 1) ∧ i + 1 ≤ zs2.length ∧ Good (d + 1) zs2 ∧ Keep g.b H1 H3 ∧ Bg H3 g := fun c H3 k3 B3 hc => by
          refine ⟨_, _, rfl, rfl, by rw [sx_len, sx_len]; simp only [List.length_cons, List.length_nil]; omega, zs ++ [c], _, by rw [sx_app], ?_, by rw [List.length_append]; exact Nat.succ_le_succ hil, good_letter hg (lsm c hc), k2.trans k3, B3⟩
          rw [List.length_append, Nat.succ_mul]
          simp only [List.length_cons, List.length_nil]
          omega
        refine ⟨_, rfl, _, _, rfl, rfl, _, rfl, itT (by omega) ?_⟩
        refine ⟨_, rfl, g, 3, rfl, by decide, by decide, B2, fun w H3 w0 w1 k3 B3 => ⟨rfl, _, rfl, ?_⟩⟩
        by_cases hw0 : w = 0
        · refine itT (by rw [hw0]) ?_
          refine ⟨_, rfl, Sx zs, Sx [40], rfl, by rw [lp_eq], by rw [sx_len, sx_len]; simp only [List.length_cons, List.length_nil]; omega, ?_⟩
          refine ⟨_, rfl, _, rfl, _, rfl, _, _, rfl, rfl, g, ls, ?_, B3, l0, l1, lsm, fun in_ H4 hin ine hgi k4 B4 => ?_⟩
          · have e : (((d + 1 : Nat) : Int) - 1) = (d : Int) := by omega
            show [V.ref g.b, V.str (Sx ls), V.int (((d + 1 : Nat) : Int) - 1)] = _
            rw [e]
          · have hin2 : in_.length ≤ 159 := Nat.le_trans hin (by show 3 * wid d ≤ 159; have : wid (d + 1) ≤ 53 := hw; unfold wid at this; omega)
            refine ⟨Sx zs ++ Sx [40], Sx in_, rfl, rfl, by rw [sx_app, sx_len, sx_len, List.length_append]; simp only [List.length_cons, List.length_nil]; omega, ?_⟩
            refine ⟨Sx zs ++ Sx [40] ++ Sx in_, Sx [41], rfl, by rw [rp_eq], by rw [sx_app, sx_app, sx_len, sx_len, List.length_append, List.length_append]; simp only [List.length_cons, List.length_nil]; omega, zs ++ [40] ++ in_ ++ [41], _, by rw [sx_app, sx_app, sx_app]; rfl, ?_, ?_, good_br hg ine hgi, k2.trans (k3.trans k4), B4⟩
            rotate_left
            · simp only [List.length_append, List.length_cons, List.length_nil]
              omega
            rw [Nat.succ_mul]
            simp only [List.length_append, List.length_cons, List.length_nil]
            have : wid (d + 1) = 3 * wid d + 2 := rfl
            omega
        · refine itF (fun e => hw0 (V.int.inj e)) ?_
          refine ⟨_, rfl, _, rfl, _, rfl, g, ls, rfl, B3, l0, l1, fun c H4 hc k4 B4 => ?_⟩
          exact hel c H4 (k3.trans k4) B4 hc
      · rintro σ H2 ⟨zs, y, rfl, hl, hil, hg, k2, B2⟩
        refine ⟨_, rfl, q zs H2 (Nat.le_trans hl (Nat.mul_le_mul_right _ (by omega))) (fun e => ?_) hg (k1.trans k2) B2⟩
        rw [e] at hil
        simp at hil
        omega
/-! ### _law_length -/
def NLl : List Str := ["_law_pattern_here", "_law_many", "_law_sizes", "_law_sign", "_law_inner"]
theorem scLLen : FnScope NLl ["_law_pattern_here", "_law_many"] (defScope sLLen) := ⟨rfl, rfl, rfl, by decide +kernel, rfl, by decide +kernel, by decide +kernel⟩
def spLLen : Sp := fun vs H Q _ => ∃ (xs : List Nat) (g n : Nat), vs = [.str (Sx xs), .int (g : Int)] ∧ g ≤ 400 ∧ xs.length ≤ 1000 ∧ stI g xs ([], 0) = some ([], n) ∧ ∀ H', Same H H' → Q (.int (n : Int)) H'
def nV (n : Nat) : V := .int (n : Int)
theorem ix_last {α : Type} (xs : List α) (v : α) : ixN (xs ++ [v]).length (-1) = some xs.length := by
  have hl : (xs ++ [v]).length = xs.length + 1 := by simp
  unfold ixN
  rw [hl, if_neg (by decide), if_pos (by omega)]
  congr 1
  omega
theorem set_last {α : Type} (xs : List α) (v u : α) : (xs ++ [v]).set xs.length u = xs ++ [u] := by
  rw [List.set_append_right _ _ (Nat.le_refl _), Nat.sub_self]
  rfl
theorem snoc_of {o : List Nat} {l : Nat} (el : o.getLast? = some l) : o = o.dropLast ++ [l] := by
  have hne : o ≠ [] := by
    intro z
    rw [z] at el
    cases el
  have q := List.dropLast_concat_getLast hne
  rw [List.getLast?_eq_some_getLast hne] at el
  rw [← Option.some.inj el]
  exact q.symm
theorem ok_llen {f : Addr} {fd : FuncData} {k : Nat} (F : Fun K "_law_length" "_law_length" sLLen f fd) : FnOk P w K mg base CX0 (k + 1) f fd ["_law_pattern_here", "_law_many"] spLLen := by
  refine F.ok scLLen (fun vs H Q E h => ?_) (fun cdv A outer s H vs Q E hr h => ?_)
  · obtain ⟨xs, g, n, rfl, _⟩ := h
    rfl
  · obtain ⟨xs, g, n, rfl, hg2, hlen, hst, q⟩ := h
    refine ⟨_, pss_cons (ps_set (i := 2) scLLen.nd rfl (.inl rfl) (pe_lst (pa_cons pe_int pa_nil)))
      (pss_cons (ps_for PassesOwn.never rfl (pi_str (pv 0)) (pg_name (i := 3) scLLen.nd rfl (.inl rfl))
        (pss_one (ps_if (pt_cmpR op_eq (pv 3) pe_str (nomark _))
          (pss_one (ps_expr (pe_bm PySem.F.plainAttrs_list PySem.F.slot_list_append PySem.F.type_list_append mt_append (pv 2) (pa_cons pe_int pa_nil))))
          (pss_one (ps_if (pt_cmpR op_eq (pv 3) pe_str (nomark _))
            (pss_cons (ps_set (i := 4) scLLen.nd rfl (.inl rfl) (pe_bm0 PySem.F.plainAttrs_list PySem.F.slot_list_pop PySem.F.type_list_pop mt_pop (pv 2)))
              (pss_one (ps_asg (pe_op op_add (pe_ix ix_list (pv 2) (pe_un un_neg pe_int) (fun _ _ => rfl)) (pe_op op_mul (pv 1) (pv 4))) (pg_sub (pv 2) (pe_un un_neg pe_int) set_list))))
            (pss_one (ps_asg (pe_op op_add (pe_ix ix_list (pv 2) (pe_un un_neg pe_int) (fun _ _ => rfl)) pe_int) (pg_sub (pv 2) (pe_un un_neg pe_int) set_list))))))))
      (pss_one (ps_ret (pe_ix ix_list (pv 2) pe_int (fun _ _ => rfl))))), ?_⟩
    refine ⟨(by decide : 1 ≤ sizeLine), fun D nD => ?_⟩
    refine ⟨_, rfl, Sx xs, rfl, for_it walk_str (fun i σ H' => ∃ (o : List Nat) (h : Nat) (y z : Option V), σ = [some (.str (Sx xs)), some (.int (g : Int)), some (.ref D), y, z] ∧ H' D = some (.lst (o.map nV ++ [nV h])) ∧ (∀ b x, b ≠ D → H b = some x → H' b = some x) ∧ o.length ≤ i ∧ stI g (xs.drop i) (o, h) = some ([], n))
      ⟨[], 0, none, none, rfl, upd_same, fun b x n e => by rw [upd_ne n]; exact e, Nat.le_refl _, hst⟩ (fun _ _ _ _ _ => True.intro) ?_ ?_⟩
    · rintro i v σ H1 H2 hi ⟨o, h, y, z, rfl, hD, kp, hol, hinv⟩ ⟨rfl, c, hc, rfl⟩
      have hc : xs[i]? = some c := by
        have : xs.toArray[i]? = some c := hc
        simpa using this
      have hix : i < xs.length := (List.getElem?_eq_some_iff.mp hc).1
      have hdrop : xs.drop i = c :: xs.drop (i + 1) := by
        rw [List.drop_eq_getElem_cons hix, (List.getElem?_eq_some_iff.mp hc).2]
      rw [hdrop] at hinv
      refine ⟨_, rfl, rfl, _, rfl, ?_⟩
      rw [lp_eq]
      show if decide (V.str (Sx [c]) = V.str (Sx [40])) = true then _ else _
      rw [eq_str]
      have hsm : (o.map nV ++ [nV h]).length < sizeLine := by
        rw [List.length_append, List.length_map]
        exact Nat.lt_of_le_of_lt (show o.length + [nV h].length ≤ 1001 by simp only [List.length_cons, List.length_nil]; omega) (by decide)
      by_cases h1 : c = 40
      · refine itT (by rw [h1]) ?_
        refine ⟨_, rfl, .inl ⟨rfl, _, SqL.of hD⟩, D, _, _, rfl, rfl, hD, hsm, ?_⟩
        refine ⟨o ++ [h], 0, _, _, rfl, by rw [upd_same, List.map_append]; rfl, fun b x n e => ?_, by rw [List.length_append]; exact Nat.succ_le_succ hol, ?_⟩
        · rw [upd_ne n]
          exact kp b x n e
        · simp only [stI] at hinv
          rw [if_pos h1] at hinv
          exact hinv
      · refine itF (fun e => h1 (List.cons.inj e).1) ?_
        refine ⟨_, rfl, rfl, _, rfl, ?_⟩
        rw [rp_eq]
        show if decide (V.str (Sx [c]) = V.str (Sx [41])) = true then _ else _
        rw [eq_str]
        by_cases h2 : c = 41
        · refine itT (by rw [h2]) ?_
          simp only [stI] at hinv
          rw [if_neg h1, if_pos h2] at hinv
          obtain ⟨l, el⟩ : ∃ l, o.getLast? = some l := by
            cases e : o.getLast? with
            | none => rw [e] at hinv; cases hinv
            | some l => exact ⟨l, rfl⟩
          rw [el] at hinv
          have hinv : stI g (xs.drop (i + 1)) (o.dropLast, l + h * g) = some ([], n) := hinv
          have ho := snoc_of el
          have eo : o.map nV = o.dropLast.map nV ++ [nV l] := by
            rw [← List.map_singleton, ← List.map_append, ← ho]
          have hdl : (o.map nV ++ [nV h]).dropLast = o.map nV := List.dropLast_concat
          refine ⟨_, rfl, .inl ⟨rfl, _, SqL.of hD⟩, D, _, nV h, rfl, rfl, hD, ?_, ?_⟩
          · rw [last_at, List.getLast?_concat]
          · rw [hdl]
            refine ⟨_, rfl, 1, rfl, D, o.map nV, -1, nV l, rfl, rfl, SqL.of upd_same, by rw [eo]; exact atI_last _ _, ?_⟩
            refine ⟨_, rfl, _, rfl, _, _, rfl, rfl, .inl ⟨by omega, by omega⟩, _, _, rfl, rfl, ?_⟩
            refine ⟨_, rfl, 1, rfl, D, o.map nV, -1, o.dropLast.length, rfl, rfl, upd_same, by rw [eo, ← List.length_map (f := nV)]; exact ix_last _ _, ?_⟩
            refine ⟨o.dropLast, l + h * g, _, _, rfl, ?_, fun b x n e => ?_, ?_, hinv⟩
            · rw [upd_same, eo]
              have el2 : o.dropLast.length = (o.dropLast.map nV).length := by rw [List.length_map]
              rw [el2, set_last]
              have ev : V.int ((l : Int) + (g : Int) * (h : Int)) = nV (l + h * g) := by
                unfold nV
                rw [Int.natCast_add, Int.natCast_mul, Int.mul_comm (h : Int)]
              exact congrArg (fun v => some (HO.lst (o.dropLast.map nV ++ [v]))) ev
            · rw [upd_ne n, upd_ne n]
              exact kp b x n e
            · rw [List.length_dropLast]
              omega
        · refine itF (fun e => h2 (List.cons.inj e).1) ?_
          simp only [stI] at hinv
          rw [if_neg h1, if_neg h2] at hinv
          refine ⟨_, rfl, 1, rfl, D, _, -1, nV h, rfl, rfl, SqL.of hD, atI_last _ _, _, _, rfl, rfl, ?_⟩
          refine ⟨_, rfl, 1, rfl, D, _, -1, o.length, rfl, rfl, hD, by rw [← List.length_map (f := nV)]; exact ix_last _ _, ?_⟩
          refine ⟨o, h + 1, _, _, rfl, ?_, fun b x n e => ?_, by omega, hinv⟩
          · rw [upd_same]
            have el2 : o.length = (o.map nV).length := by rw [List.length_map]
            rw [el2, set_last]
            rfl
          · rw [upd_ne n]
            exact kp b x n e
    · rintro σ H1 ⟨o, h, y, z, rfl, hD, kp, hol, hinv⟩
      have hend : xs.drop (Sx xs).cps.size = [] := by
        have : (Sx xs).cps.size = xs.length := sx_len xs
        rw [this, List.drop_length]
      rw [hend] at hinv
      simp only [stI, Option.some.injEq, Prod.mk.injEq] at hinv
      obtain ⟨rfl, rfl⟩ := hinv
      refine ⟨_, rfl, D, _, 0, nV h, rfl, rfl, SqL.of hD, rfl, q H1 fun b x e => kp b x (ne_of_none e nD) e⟩
/-! ### _law_long_word -/
def NLw : List Str := ["_law_pattern_here", "_law_many", "_law_end", "_law_start", "_law_inner", "_law_ahead", "_law_rest"]
theorem scLong : FnScope NLw ["_law_pattern_here", "_law_many"] (defScope sLong) := ⟨rfl, rfl, rfl, by decide +kernel, rfl, by decide +kernel, by decide +kernel⟩
def spLong : Sp := fun vs H Q _ => ∃ (xs : List Nat) (g n : Nat) (zs : List Nat), vs = [.str (Sx xs), .int (g : Int)] ∧ 1 ≤ g ∧ g ≤ 400 ∧ xs.length ≤ 1000 ∧ stI g xs ([], 0) = some ([], n) ∧ n ≤ 2000 ∧ stS g xs ([], []) = some ([], zs) ∧ ∀ H', Same H H' → Q (.str (Sx zs)) H'
def muP : L2.St → Hp → Nat := fun σ _ => match σ with
  | some (.str z) :: _ => (z.cps.toList.filter fun c => decide (c = 40)).length
  | _ => 0
theorem cut_to (xs : List Nat) (n : Nat) (h : n ≤ xs.length) : cutS (Sx xs) none (some (n : Int)) = Sx (xs.take n) := by
  unfold cutS
  rw [HT.sIx_none, HT.sIx_nat, sx_cps, sx_len, List.drop_zero, Nat.sub_zero, Nat.min_eq_left h]
  rfl
theorem cut_from (xs : List Nat) (n : Nat) (h : n ≤ xs.length) : cutS (Sx xs) (some (n : Int)) none = Sx (xs.drop n) := by
  unfold cutS
  rw [HT.sIx_none, HT.sIx_nat, sx_cps, sx_len, Nat.min_eq_left h, List.take_of_length_le (by rw [List.length_drop]; omega)]
  rfl
theorem cut_mid (xs : List Nat) (a b : Nat) (ha : a ≤ xs.length) (hb : b ≤ xs.length) : cutS (Sx xs) (some (a : Int)) (some (b : Int)) = Sx ((xs.drop a).take (b - a)) := by
  unfold cutS
  rw [HT.sIx_nat, HT.sIx_nat, sx_cps, sx_len, Nat.min_eq_left ha, Nat.min_eq_left hb]
  rfl
theorem in_sx (xs : List Nat) (c : Nat) : (!(Builtin.Str.occurrences (Sx xs) (Sx [c]) 0 (Sx xs).length 1).isEmpty) = decide (c ∈ xs) := PySem.StrLaws.found_one (Sx xs) c
theorem brk_red (A I R : List Nat) (g : Nat) (hI : ∀ c ∈ I, c ≠ 40 ∧ c ≠ 41) : brk (A ++ rep g I ++ R) ≤ brk (A ++ 40 :: (I ++ 41 :: R)) := by
  have e : ∀ l : List Nat, (∀ c ∈ l, c ≠ 40 ∧ c ≠ 41) → l.filter (fun c => !nob c) = [] := fun l hl => by
    rw [List.filter_eq_nil_iff]
    intro c hc
    have := hl c hc
    unfold nob
    simp [this.1, this.2]
  unfold brk
  rw [List.filter_append, List.filter_append, List.filter_append, e (rep g I) (fun c hc => hI c (rep_mem hc))]
  simp only [List.length_append, List.length_nil]
  have h2 : (R.filter fun c => !nob c).length ≤ ((40 :: (I ++ 41 :: R)).filter fun c => !nob c).length := by
    apply List.Sublist.length_le
    apply List.Sublist.filter
    exact (List.sublist_cons_self _ _).trans ((List.sublist_append_right I _).trans (List.sublist_cons_self _ _))
  omega
theorem mu_red (A I R : List Nat) (g : Nat) (hI : ∀ c ∈ I, c ≠ 40 ∧ c ≠ 41) : ((A ++ rep g I ++ R).filter fun c => decide (c = 40)).length < ((A ++ 40 :: (I ++ 41 :: R)).filter fun c => decide (c = 40)).length := by
  have e : ∀ l : List Nat, (∀ c ∈ l, c ≠ 40 ∧ c ≠ 41) → l.filter (fun c => decide (c = 40)) = [] := fun l hl => by
    rw [List.filter_eq_nil_iff]
    intro c hc
    simp [(hl c hc).1]
  rw [List.filter_append, List.filter_append, List.filter_append, e (rep g I) (fun c hc => hI c (rep_mem hc)), List.filter_cons_of_pos (by simp), List.filter_append, e I hI, List.filter_cons_of_neg (by simp)]
  simp only [List.length_append, List.length_cons, List.length_nil]
  omega
theorem ok_long {f : Addr} {fd : FuncData} {k : Nat} (F : Fun K "_law_long_word" "_law_long_word" sLong f fd) : FnOk P w K mg base CX0 (k + 1) f fd ["_law_pattern_here", "_law_many"] spLong := by
  refine F.ok scLong (fun vs H Q E h => ?_) (fun cdv A outer s H vs Q E hr h => ?_)
  · obtain ⟨xs, g, n, zs, rfl, _⟩ := h
    rfl
  · obtain ⟨xs, g, n, zs, rfl, hg1, hg2, hlen, hst, hn, hS, q⟩ := h
    refine ⟨_, pss_cons (ps_while PassesOwn.never (pt_cmpR op_in_str pe_str (pv 0) (by rfl))
        (pss_cons (ps_set (i := 2) scLong.nd rfl (.inl rfl) (pe_bm PySem.F.plainAttrs_str PySem.F.slot_str_find PySem.F.type_str_find mt_find (pv 0) (pa_cons pe_str pa_nil)))
        (pss_cons (ps_set (i := 3) scLong.nd rfl (.inl rfl) (pe_bm PySem.F.plainAttrs_str PySem.F.slot_str_rfind PySem.F.type_str_rfind mt_rfind (pe_slice sl_str (pv 0) po_none (po_some (pv 2))) (pa_cons pe_str pa_nil)))
        (pss_cons (ps_set (i := 4) scLong.nd rfl (.inl rfl) (pe_op op_mulS (pe_slice sl_str (pv 0) (po_some (pe_op op_add (pv 3) pe_int)) (po_some (pv 2))) (pv 1)))
        (pss_cons (ps_par (i := 5) (j := 6) rfl scLong.nd rfl rfl (by decide) rfl rfl (pa_cons (pe_slice sl_str (pv 0) po_none (po_some (pv 3))) (pa_cons (pe_slice sl_str (pv 0) (po_some (pe_op op_add (pv 2) pe_int)) po_none) pa_nil)) rfl)
        (pss_one (ps_set (i := 0) scLong.nd rfl (.inl rfl) (pe_op op_add_str (pe_op op_add_str (pv 5) (pv 4)) (pv 6)))))))))
      (pss_one (ps_ret (pv 0))), ?_⟩
    have hbig : 5000 ≤ sizeLine := by decide
    refine while_by (fun σ H' => ∃ (p : List Nat) (y2 y3 y4 y5 y6 : Option V), σ = [some (.str (Sx p)), some (.int (g : Int)), y2, y3, y4, y5, y6] ∧ Same H H' ∧ stS g p ([], []) = some ([], zs) ∧ brk p ≤ 1000) muP
      ⟨xs, none, none, none, none, none, rfl, fun _ _ h => h, hS, by have := ltr_brk xs; omega⟩ ?_ (fun σ H Q Q' m h => ?_)
    · rintro σ H1 ⟨p, y2, y3, y4, y5, y6, rfl, sm, hp, hb⟩
      refine ⟨_, rfl, Sx [40], Sx p, by rw [lp_eq], rfl, _, rfl, ?_⟩
      rw [in_sx]
      by_cases ho : 40 ∈ p
      · refine itT ho ?_
        obtain ⟨A, I, R, rfl, hA, hI⟩ := turn_at hp ho
        have hz : zs.length = n := by
          have e := st_lens g xs ([], [])
          rw [hS] at e
          have e : stI g xs ([], 0) = some ([], zs.length) := e
          rw [hst] at e
          simp only [Option.some.injEq, Prod.mk.injEq, true_and] at e
          exact e.symm
        have hlp : (A ++ 40 :: (I ++ 41 :: R)).length ≤ 3000 := by
          have e := st_lens g (A ++ 40 :: (I ++ 41 :: R)) ([], [])
          rw [hp] at e
          have e : stI g (A ++ 40 :: (I ++ 41 :: R)) ([], 0) = some ([], zs.length) := e
          have e1 := st_ltr hg1 _ _ _ _ e
          have e2 := ltr_brk (A ++ 40 :: (I ++ 41 :: R))
          omega
        have hlp2 : A.length + I.length + R.length + 2 ≤ 3000 := by
          simp only [List.length_append, List.length_cons] at hlp
          omega
        have hred := hp
        rw [stS_red g A I R hI] at hred
        have hlr : A.length + (rep g I).length + R.length ≤ 3000 := by
          have e := st_lens g (A ++ rep g I ++ R) ([], [])
          rw [hred] at e
          have e : stI g (A ++ rep g I ++ R) ([], 0) = some ([], zs.length) := e
          have e1 := st_ltr hg1 _ _ _ _ e
          have e2 := ltr_brk (A ++ rep g I ++ R)
          have e3 := brk_red A I R g hI
          simp only [List.length_append] at e2
          omega
        have ep : A ++ 40 :: (I ++ 41 :: R) = (A ++ 40 :: I) ++ 41 :: R := by simp
        have hend : (41 : Nat) ∉ A ++ 40 :: I := fun z => by
          rcases List.mem_append.mp z with z | z
          · exact hA z
          · rcases List.mem_cons.mp z with z | z
            · exact absurd z (by decide)
            · exact (hI 41 z).2 rfl
        have f1 : Txt.find (Sx (A ++ 40 :: (I ++ 41 :: R))) (Sx [41]) = ((A.length + 1 + I.length : Nat) : Int) := by
          rw [ep, find_at hend]
          simp only [List.length_append, List.length_cons]
          congr 1
          omega
        have c1 : cutS (Sx (A ++ 40 :: (I ++ 41 :: R))) none (some ((A.length + 1 + I.length : Nat) : Int)) = Sx (A ++ 40 :: I) := by
          rw [cut_to _ _ (by simp only [List.length_append, List.length_cons]; omega), ep, List.take_left' (by simp only [List.length_append, List.length_cons]; omega)]
        have f2 : Txt.rfind (Sx (A ++ 40 :: I)) (Sx [40]) = (A.length : Int) := rfind_at (fun z => (hI 40 z).1 rfl)
        have c2 : cutS (Sx (A ++ 40 :: (I ++ 41 :: R))) (some ((A.length + 1 : Nat) : Int)) (some ((A.length + 1 + I.length : Nat) : Int)) = Sx I := by
          rw [cut_mid _ _ _ (by simp only [List.length_append, List.length_cons]; omega) (by simp only [List.length_append, List.length_cons]; omega)]
          have e : (A ++ 40 :: (I ++ 41 :: R)).drop (A.length + 1) = I ++ 41 :: R := by
            rw [List.drop_append, List.drop_eq_nil_of_le (by omega), List.nil_append, show A.length + 1 - A.length = 1 by omega]
            rfl
          rw [e, show A.length + 1 + I.length - (A.length + 1) = I.length by omega, List.take_left]
        have c3 : cutS (Sx (A ++ 40 :: (I ++ 41 :: R))) none (some (A.length : Int)) = Sx A := by
          rw [cut_to _ _ (by simp only [List.length_append, List.length_cons]; omega), List.take_left]
        have c4 : cutS (Sx (A ++ 40 :: (I ++ 41 :: R))) (some ((A.length + 1 + I.length + 1 : Nat) : Int)) none = Sx R := by
          rw [cut_from _ _ (by simp only [List.length_append, List.length_cons]; omega)]
          have e : (A ++ 40 :: (I ++ 41 :: R)) = (A ++ 40 :: I ++ [41]) ++ R := by simp
          rw [e, List.drop_left' (by simp only [List.length_append, List.length_cons, List.length_nil]; omega)]
        have hpl : (Sx (A ++ 40 :: (I ++ 41 :: R))).length ≤ sizeLine := by
          rw [sx_len]
          omega
        have hpl2 : (Sx (A ++ 40 :: I)).length ≤ sizeLine := by
          rw [sx_len]
          simp only [List.length_append, List.length_cons]
          omega
        refine ⟨_, rfl, rfl, Sx (A ++ 40 :: (I ++ 41 :: R)), Sx [41], rfl, by rw [rp_eq], ?_⟩
        rw [f1]
        refine ⟨_, rfl, _, rfl, _, rfl, Sx (A ++ 40 :: (I ++ 41 :: R)), rfl, hpl, ?_⟩
        rw [c1]
        refine ⟨rfl, Sx (A ++ 40 :: I), Sx [40], rfl, by rw [lp_eq], ?_⟩
        rw [f2]
        refine ⟨_, rfl, _, rfl, _, _, rfl, rfl, _, rfl, _, rfl, _, rfl, Sx (A ++ 40 :: (I ++ 41 :: R)), rfl, hpl, ?_⟩
        have ei : ((A.length : Int) + 1) = ((A.length + 1 : Nat) : Int) := by omega
        rw [ei, c2]
        refine ⟨_, rfl, I, g, rfl, rfl, by omega, by rw [← rep_len]; omega, ?_⟩
        refine ⟨_, rfl, _, rfl, _, rfl, Sx (A ++ 40 :: (I ++ 41 :: R)), rfl, hpl, ?_⟩
        rw [c3]
        refine ⟨_, rfl, _, rfl, _, _, rfl, rfl, _, rfl, Sx (A ++ 40 :: (I ++ 41 :: R)), rfl, hpl, ?_⟩
        have ei2 : (((A.length + 1 + I.length : Nat) : Int) + 1) = ((A.length + 1 + I.length + 1 : Nat) : Int) := by omega
        rw [ei2, c4]
        refine ⟨_, _, rfl, ?_⟩
        refine ⟨_, rfl, _, rfl, Sx A, Sx (rep g I), rfl, rfl, by rw [sx_len, sx_len]; omega, ?_⟩
        refine ⟨_, rfl, Sx A ++ Sx (rep g I), Sx R, rfl, rfl, by rw [sx_app, sx_len, sx_len, List.length_append]; omega, ?_⟩
        refine ⟨⟨A ++ rep g I ++ R, _, _, _, _, _, by rw [sx_app, sx_app]; rfl, sm, hred, Nat.le_trans (brk_red A I R g hI) hb⟩, ?_⟩
        rw [sx_app, sx_app]
        exact mu_red A I R g hI
      · refine itF ho ⟨_, rfl, ?_⟩
        rw [← stS_done hp ho]
        exact q H1 sm
    · obtain ⟨a, h1, i, j, h2, h3, b, hb, h4⟩ := h
      exact ⟨a, h1, i, j, h2, h3, b, hb, m _ _ h4⟩
end
end Onp
set_option maxHeartbeats 4000000
set_option autoImplicit false
namespace Onp
open PySem PySem.Spec PyProof.Rows L2 CwR
section
variable {X : Cx} {a b : Expr} {ta tb : TE} {rest : List Stmt} {t u : TS}
/-- x = ("..", ..): behind it a token is out -/
theorem pss_tupT {i j k : Nat} {x c : Str} {es : List Expr} {cpos tpos pos' pos : Pos} {te : TA} (hN : X.N.Nodup) (hi : X.N[i]? = some x) (hx : Loc X.env.scope x) (ha : PA X es te) (h2 : PSsT X rest u)
    (hst : starEach (.Constant (.str c) j cpos :: es) X.env = (false, eval (.Constant (.str c) j cpos) X.env) :: starEach es X.env := by rfl)
    (hs : swapsWith (.Tuple (.Constant (.str c) j cpos :: es) k tpos) (some (.Name x pos')) pos.line X.env = pure false := by rfl) (hf : X.fn x = true ∨ X.env.scope.names.lookup x = some .local := by first | exact .inl rfl | exact .inr rfl | assumption) :
    PSs X (.Assign [.Name x pos'] (.Tuple (.Constant (.str c) j cpos :: es) k tpos) pos :: rest) (tSeq (tAsg (tTup (tCons (tC (.str c)) te)) (gName i)) u) := by
  refine ⟨fun pins s σ H D I h => ?_⟩
  refine wpAny_execs_cons (wpAny_Assign_Name (wpAny_Tuple_spliced ?_) hs)
  rw [hst]
  show wpAny _ _ (spliced ((false, eval (.Constant (.str c) j cpos) X.env) :: backTo tpos (starEach es X.env))) _ _ s
  refine Calls.spliced_cons (Calls.Constant_str ?_)
  refine wpAny_mono (PySem.wpAny_toks (ha.run tpos pins { s with toks := s.toks + 1 } σ H _ (I.tok _) h)) (fun us s1 q => ?_) fun _ _ z => z.2
  obtain ⟨hk, xs, H1, I1, r, z, q⟩ := q
  have hk : s.toks + 1 ≤ s1.toks := hk
  have hl : (V.str c :: xs).length = us.length + 1 := by rw [List.length_cons, r.length]
  refine ⟨by have z2 : (V.str c :: xs).length ≤ sizeLine := z; rw [hl] at z2; simpa using z2, ?_⟩
  have hfr : H1 s1.heap.objs.size = none := I1.hok.fresh (Nat.le_refl _)
  have I2 := I1.laid (a := s1.heap.objs.size) (o := .tup (V.str c :: xs)) (t' := s1.toks) (h' := s1.heap.push { cls := .type "tuple", data := .seq (Value.str c s.toks :: us).toArray }) (fun b u e => Heap.get?_push_of_some _ e) (Nat.le_refl _) ⟨z, _, .cons ⟨_, rfl⟩ r, ⟨_, Heap.get?_push_size _ rfl, rfl, _, rfl⟩⟩
  refine wpAny_mono (PySem.wpAny_toks (store_ok (v := V.ref s1.heap.objs.size) (u := Value.ref s1.heap.objs.size) (Q := fun _ s2 => Inv X pins (σ.set i (some (V.ref s1.heap.objs.size))) (upd H1 s1.heap.objs.size (.tup (V.str c :: xs))) s2) I2 hN hi hx rfl (fun _ I3 => I3) hf)) (fun _ s2 q2 => ?_) fun _ _ z => z.2
  have hk2 : s1.toks ≤ s2.toks := q2.1
  exact h2 pins s2 _ _ D (by omega) q2.2 (q _ hfr)
/-- if a op b, b with a token out -/
theorem pst_ifR {op : CmpOp} {r : R2} {xs ys : List Stmt} {pos pos2 : Pos} (ho : OpR X (compareOp op) r) (ha : PE X a ta) (hb : PET X b tb) (hm : behindInMarks op b = false) (h1 : PSs X xs t) (h2 : PSs X ys u) :
    PST X (.If (.Compare a [op] [b] pos2) xs ys pos) (tIfS (tTest (tOp r ta tb)) t u) := by
  intro pins s σ H D h0 I h
  refine wpAny_If ?_
  refine wpAny_isTrue_Compare1 (wpAny_mono (PySem.wpAny_toks (ha.run pins s σ H _ I h)) (fun v s1 q => ?_) fun _ _ z => z.2) hm
  obtain ⟨hk, x, H1, I1, r1, q1⟩ := q
  refine thn (hb pins s1 σ H1 _ (Nat.le_trans h0 hk) I1 q1) fun u s2 ⟨y, H2, I2, r2, q2⟩ => thn (ho pins s2 σ H2 x y v u _ I2 r1 r2 q2) fun c s3 ⟨z, H3, I3, r3, k, e, q3⟩ => ?_
  subst e
  cases r3
  refine wpAny_truthy_bool ?_
  cases k with
  | true => exact h1.run pins s3 σ H3 D I3 q3
  | false => exact h2.run pins s3 σ H3 D I3 q3
end
end Onp
set_option maxHeartbeats 8000000
set_option autoImplicit false
namespace Onp
open PySem PySem.Spec PyProof.Rows L2 HotX L2H LamX
def NL : List Str := ["_law_script", "_law_bag_here", "_law_turn", "_law_letters_here", "_law_pattern_here", "_law_many", "_law_size", "_law_due"]
theorem scLaw : FnScope NL ["_law_script"] (defScope sLaw) := ⟨rfl, rfl, rfl, by decide +kernel, rfl, by decide +kernel, by decide +kernel⟩
def LQ : Str := ("law" : Str) ++ ".<locals>." ++ "<lambda>"
def TS (tb tN tU : Addr) : List (Addr × Str) := [(tb, LQ), (tN, qLen), (tU, qUnr)]
def us : List Str := ["BadPattern", "BadSize", "TooWide"]
def spLaw (K : PySem.W.Frag) (tb tN tU : Addr) : Sp := fun vs H Q _ => ∃ (a : Addr) (ns : List Int), vs = [.ref a] ∧ SqL K H a (ns.map V.int) ∧ H tb = some (.tbl #[]) ∧ H tN = some (.tbl #[]) ∧ H tU = some (.tbl #[]) ∧ ∀ H', Q (.bl true) H'
theorem hu0 {tb tN tU : Addr} (h1 : tN ≠ tb) (h2 : tU ≠ tb) : ∀ p ∈ TS tb tN tU, p.1 = tb → p.2 = LQ := fun p hp e => by
  rcases List.mem_cons.mp hp with rfl | hp
  · rfl
  · rcases List.mem_cons.mp hp with rfl | hp
    · exact absurd e h1
    · rcases List.mem_cons.mp hp with rfl | hp
      · exact absurd e h2
      · cases hp
theorem hu1 {tb tN tU : Addr} (h1 : tN ≠ tb) (h3 : tU ≠ tN) : ∀ p ∈ TS tb tN tU, p.1 = tN → p.2 = qLen := fun p hp e => by
  rcases List.mem_cons.mp hp with rfl | hp
  · exact absurd e.symm h1
  · rcases List.mem_cons.mp hp with rfl | hp
    · rfl
    · rcases List.mem_cons.mp hp with rfl | hp
      · exact absurd e h3
      · cases hp
theorem hu2 {tb tN tU : Addr} (h2 : tU ≠ tb) (h3 : tU ≠ tN) : ∀ p ∈ TS tb tN tU, p.1 = tU → p.2 = qUnr := fun p hp e => by
  rcases List.mem_cons.mp hp with rfl | hp
  · exact absurd e.symm h2
  · rcases List.mem_cons.mp hp with rfl | hp
    · exact absurd e.symm h3
    · rcases List.mem_cons.mp hp with rfl | hp
      · rfl
      · cases hp
/-- a refusal, as it is told -/
theorem eh_of {ec : Str → Addr} {Q : VK} {H : Hp} {nm wd : Str} {fs : List (Str × V)} {v : V} (hu : nm ∈ us) (hw : wordOf nm = wd) (hf : fs.lookup ("word" : Str) = some (.str wd)) (hm : nm = "TooWide" → ∃ v, fs.lookup ("most" : Str) = some v) (hs : secV nm fs = v)
    (h : ∀ H' p, Same H H' → H' p = some (.tup [.str wd, v]) → Q (.ref p) H') : refuse (ec nm) fs H (Eh ec us Q) := fun dd ndd => by
  refine ⟨nm, dd, fs, hu, rfl, rfl, upd_same, by rw [hw]; exact hf, hm, fun H2 p s2 np => ?_⟩
  refine h _ p (((same_upd ndd).trans s2).trans (same_upd np)) ?_
  rw [hw, hs, upd_same]
theorem itNF {c A B : Prop} [Decidable c] (hc : ¬ c) (h : A) : if (!decide c) = true then A else B := by
  rw [decide_eq_false hc]
  exact iteT h
theorem lv2 {x y : PyData} (hx : Lvl 0 x := by exact True.intro) (hy : Lvl 0 y := by exact True.intro) : Lvl 1 (.tuple [x, y]) := ⟨by show 2 ≤ 1000; decide, fun d hd => by
  rcases List.mem_cons.mp hd with rfl | hd
  · exact hx
  · rw [List.mem_singleton.mp hd]
    exact hy⟩
theorem gone5 (g : Nat) : stS g [40, 97, 98, 99, 100, 101, 41] ([], []) = some ([], rep g [97, 98, 99, 100, 101]) := by simp [stS]
theorem len5 (g : Nat) : stI g [40, 97, 98, 99, 100, 101, 41] ([], 0) = some ([], 5 * g) := by simp [stI]
theorem abcde_eq : ("abcde" : Str) = Sx [97, 98, 99, 100, 101] := by decide +kernel
theorem br5_eq : ("(abcde)" : Str) = Sx [40, 97, 98, 99, 100, 101, 41] := by decide +kernel
theorem aba_eq : ("a(b(a))" : Str) = Sx [97, 40, 98, 40, 97, 41, 41] := by decide +kernel
theorem aba2_eq : ("abaabaa" : Str) = Sx [97, 98, 97, 97, 98, 97, 97] := by decide +kernel
def manies : List Int := [1, 3, 9, 60, 400]
section
variable {P : Program} {w : World} {K : PySem.W.Frag} {mg : Str → Option Value} {base : Heap}
theorem ok_law {f fB fP fO fS fK fT fIp fNg fG fL fU fLe fPa fLl fLw iP iS iW cL tb cN tN cU tU cP cM : Addr} {fdB fdP fdO fdS fdK fdT fdIp fdNg fdG fdLe fdPa fdLl fdLw fdiP fdiS fdiW : FuncData} {ec : Str → Addr}
    {oc ocN ocU : Value} {od odN odU : Option Addr} {kV doc pm ct kVN docN pmN ctN kVU docU pmU ctU : Value} {an anN anU : Option Addr} {osl oslN oslU : Array (Option Value)}
    (lk : K.lookup f = some ⟨oc, od, .func (PySem.W.fnOf "law" "law" (defArgs sLaw) (defBody sLaw) (defScope sLaw) .none kV doc pm an (.ref cL) ct), osl⟩) (hcd : PySem.W.codeIn K (.ref cL) "law" = true)
    (lkN : K.lookup fL = some ⟨ocN, odN, .func (PySem.W.fnOf "length_of" "length_of" (defArgs sLenOf) (defBody sLenOf) (defScope sLenOf) .none kVN docN pmN anN (.ref cN) ctN), oslN⟩) (hcdN : PySem.W.codeIn K (.ref cN) "length_of" = true)
    (bL : Binds K (PySem.W.fnOf "length_of" "length_of" (defArgs sLenOf) (defBody sLenOf) (defScope sLenOf) .none kVN docN pmN anN (.ref cN) ctN) ["pattern", "goings"] []) (gL : mg "length_of" = some (.ref fL)) (kL : PySem.W.keepIn K (.ref fL) = true)
    (lkU : K.lookup fU = some ⟨ocU, odU, .func (PySem.W.fnOf "unrolled" "unrolled" (defArgs sUnr) (defBody sUnr) (defScope sUnr) .none kVU docU pmU anU (.ref cU) ctU), oslU⟩) (hcdU : PySem.W.codeIn K (.ref cU) "unrolled" = true)
    (bU : Binds K (PySem.W.fnOf "unrolled" "unrolled" (defArgs sUnr) (defBody sUnr) (defScope sUnr) .none kVU docU pmU anU (.ref cU) ctU) ["pattern", "goings"] []) (gU : mg "unrolled" = some (.ref fU)) (kU : PySem.W.keepIn K (.ref fU) = true)
    (B : Fns K mg fB fdB "_law_bag" sBag ["_law_script"]) (Pu : Fns K mg fP fdP "_law_pull" sPull ["_law_bag_here", "_law_many"]) (O : Fns K mg fO fdO "_law_of" sOf ["_law_bag_here", "_law_some"]) (Sm : Fns K mg fS fdS "_law_same" sSame ["_law_found", "_law_due"])
    (Kn : Fns K mg fK fdK "_law_kind" sKind ["_law_e"]) (To : Fns K mg fT fdT "_law_told" sTold ["_law_ask"]) (Ip : FnsP K mg fIp fdIp "is_pattern" sIsP ["text", "letters"]) (Ng : FnsP K mg fNg fdNg "need_goings" sNeedG ["pattern", "goings"]) (Go : FnsP K mg fG fdG "gone" sGone ["pattern", "goings", "nothing", "worth_of"])
    (Le : Fns K mg fLe fdLe "_law_letters" sLett ["_law_bag_here", "_law_most"]) (Pa : Fns K mg fPa fdPa "_law_pattern" sPatt ["_law_bag_here", "_law_letters_here", "_law_depth"]) (Ll : Fns K mg fLl fdLl "_law_length" sLLen ["_law_pattern_here", "_law_many"]) (Lw : Fns K mg fLw fdLw "_law_long_word" sLong ["_law_pattern_here", "_law_many"])
    (BP : MkBadPattern K mg (ec "BadPattern") iP fdiP) (BS : MkBadSize K mg (ec "BadSize") iS fdiS) (BW : MkTooWide K mg (ec "TooWide") iW fdiW) (Ct : Cst mg) (KD : Kd K mg ec us cP cM) (Bl : Blt mg) (mr : mg "range" = none) (mm : mg "max" = none)
    (TB : TabB base mg cL tb) (TBN : TabB base mg cN tN) (TBU : TabB base mg cU tU) (hne1 : tN ≠ tb) (hne2 : tU ≠ tb) (hne3 : tU ≠ tN) :
    FnOk P w K mg base CX0 8 f (PySem.W.fnOf "law" "law" (defArgs sLaw) (defBody sLaw) (defScope sLaw) .none kV doc pm an (.ref cL) ct) ["_law_script"] (spLaw K tb tN tU) := by
  have GB : FnOk P w K mg base CX0 7 fB fdB ["_law_script"] (spBag K) := ok_bag B.F Bl.list
  have GP : FnOk P w K mg base CX0 7 fP fdP ["_law_bag_here", "_law_many"] (spPull K) := ok_pull Pu.F Bl.len
  have GO : FnOk P w K mg base CX0 7 fO fdO ["_law_bag_here", "_law_some"] (spOf K) := ok_of O.F Pu.F Pu.b Pu.g Bl.len
  have GS : FnOk P w K mg base CX0 7 fS fdS ["_law_found", "_law_due"] (spSame K 1) := ok_same Sm.F Sm.b Sm.g Bl 1 5
  have GI : FnOk P w K mg base CX0 7 fIp fdIp ["text", "letters"] spIsP := ok_isP Ip.F Ct
  have GLe : FnOk P w K mg base CX0 7 fLe fdLe ["_law_bag_here", "_law_most"] spLett := ok_lett Le.F Pu Bl.len mr
  have GPa : FnOk P w K mg base CX0 7 fPa fdPa ["_law_bag_here", "_law_letters_here", "_law_depth"] (spPatt 3) := ok_patt Pa.F Pa.b Pa.g Pu O Bl.len mr 3 (Nat.le_refl _) 1
  have GLl : FnOk P w K mg base CX0 7 fLl fdLl ["_law_pattern_here", "_law_many"] spLLen := ok_llen Ll.F
  have GLw : FnOk P w K mg base CX0 7 fLw fdLw ["_law_pattern_here", "_law_many"] spLong := ok_long Lw.F
  have GL7 : FnOk P w K mg base (L2N.CX P w) 7 fL _ ["pattern", "goings"] (spLenOf (TS tb tN tU) (ec "BadPattern") (ec "BadSize")) := ok_lenOf lkN hcdN Ng Go Ip Ct BP BS TBN (List.mem_cons_of_mem _ List.mem_cons_self) (hu1 hne1 hne3)
  have GL6 : FnOk P w K mg base (L2N.CX P w) 6 fL _ ["pattern", "goings"] (spLenOf (TS tb tN tU) (ec "BadPattern") (ec "BadSize")) := ok_lenOf lkN hcdN Ng Go Ip Ct BP BS TBN (List.mem_cons_of_mem _ List.mem_cons_self) (hu1 hne1 hne3)
  have GU7 : FnOk P w K mg base (L2N.CX P w) 7 fU _ ["pattern", "goings"] (spUnr (TS tb tN tU) (ec "BadPattern") (ec "BadSize") (ec "TooWide")) := ok_unr lkU hcdU GL6 bL gL kL Go Ct BW TBU (List.mem_cons_of_mem _ (List.mem_cons_of_mem _ List.mem_cons_self)) (hu2 hne2 hne3)
  have GL5 : FnOk P w K mg base (L2N.CX P w) 5 fL _ ["pattern", "goings"] (spLenOf (TS tb tN tU) (ec "BadPattern") (ec "BadSize")) := ok_lenOf lkN hcdN Ng Go Ip Ct BP BS TBN (List.mem_cons_of_mem _ List.mem_cons_self) (hu1 hne1 hne3)
  have GL4 : FnOk P w K mg base (L2N.CX P w) 4 fL _ ["pattern", "goings"] (spLenOf (TS tb tN tU) (ec "BadPattern") (ec "BadSize")) := ok_lenOf lkN hcdN Ng Go Ip Ct BP BS TBN (List.mem_cons_of_mem _ List.mem_cons_self) (hu1 hne1 hne3)
  have GU5 : FnOk P w K mg base (L2N.CX P w) 5 fU _ ["pattern", "goings"] (spUnr (TS tb tN tU) (ec "BadPattern") (ec "BadSize") (ec "TooWide")) := ok_unr lkU hcdU GL4 bL gL kL Go Ct BW TBU (List.mem_cons_of_mem _ (List.mem_cons_of_mem _ List.mem_cons_self)) (hu2 hne2 hne3)
  obtain ⟨oc2, od2, kV2, doc2, pm2, an2, cdv2, ct2, osl2, rfl, lkT, hcdT⟩ := To.F.ex
  refine fn_of lk hcd scLaw (fun vs H Q E h => ?_) (fun A outer s H vs Q E hr h => ?_)
  · obtain ⟨a, ns, rfl, _⟩ := h
    rfl
  · obtain ⟨a, ns, rfl, hS, ht1, ht2, ht3, q⟩ := h
    refine ⟨_, PSs.nox (pss_cons (ps_set (i := 1) scLaw.nd rfl (.inl rfl) (pe_call GB hr (by rfl) B.g B.F.kp B.b .nil pass0 (pa_cons (pv 0) pa_nil)))
        (pss_cons (ps_for PassesOwn.never rfl (pi_range1 (by rfl) mr (pa_cons pe_int pa_nil)) (pg_name (i := 2) scLaw.nd rfl (.inl rfl))
        (pss_cons (ps_set (i := 3) scLaw.nd rfl (.inl rfl) (pe_call GLe hr (by rfl) Le.g Le.F.kp Le.b .nil pass0 (pa_cons (pv 1) (pa_cons pe_int pa_nil))))
        (pss_cons (ps_set (i := 4) scLaw.nd rfl (.inr rfl) (pe_call GPa hr (by rfl) Pa.g Pa.F.kp Pa.b .nil pass0 (pa_cons (pv 1) (pa_cons (pv 3) (pa_cons pe_int pa_nil)))))
        (pss_cons (ps_set (i := 5) scLaw.nd rfl (.inr rfl) (pe_op op_add pe_int (pe_call GP hr (by rfl) Pu.g Pu.F.kp Pu.b .nil pass0 (pa_cons (pv 1) (pa_cons (pe_call GO hr (by rfl) O.g O.F.kp O.b .nil pass0 (pa_cons (pv 1) (pa_cons (pe_lst (pa_cons pe_int (pa_cons pe_int (pa_cons pe_int (pa_cons pe_int (pa_cons pe_int pa_nil)))))) pa_nil))) pa_nil)))))
        (pss_cons (ps_set (i := 6) scLaw.nd rfl (.inl rfl) (pe_call GLl hr (by rfl) Ll.g Ll.F.kp Ll.b .nil pass0 (pa_cons (pv 4) (pa_cons (pv 5) pa_nil))))
        (pss_cons (ps_if (pt_not (pt_val (pe_call GS hr (by rfl) Sm.g Sm.F.kp Sm.b .nil pass0 (pa_cons (pe_call (E := E0) GL7 hr (by rfl) gL kL bL .nil passN (pa_cons (pv 4) (pa_cons (pv 5) pa_nil))) (pa_cons (pv 6) pa_nil))))) pss_never pss_nil)
        (pss_tupT (i := 7) scLaw.nd rfl (.inl rfl) (pa_cons pe_int pa_nil)
        (psst_cons (PST.of (ps_if (pt_cmpR op_le (pv 6) pe_int (nomark _)) (pss_one (ps_set (i := 7) scLaw.nd rfl (.inl rfl) (pe_tup (pa_cons pe_str (pa_cons (pe_call GLw hr (by rfl) Lw.g Lw.F.kp Lw.b .nil pass0 (pa_cons (pv 4) (pa_cons (pv 5) pa_nil))) pa_nil))))) pss_nil))
        (psst_cons (PST.of (ps_if (pt_not (pt_val (pe_call GS hr (by rfl) Sm.g Sm.F.kp Sm.b .nil pass0 (pa_cons (pe_lamN (k := 5) (T := TS tb tN tU) (TT := TTold ec us) (t := fun E => tCall (spUnr (TS tb tN tU) (ec "BadPattern") (ec "BadSize") (ec "TooWide")) [] E (tCons (tVar 4) (tCons (tVar 5) tNil))) (by rfl) To.g To.F.kp lkT hcdT To.b scTold rfl (.inl rfl)
              (told_gives KD ⟨by decide +kernel, by decide +kernel⟩ (fun _ => BW.nm) Kn.F Kn.b Kn.g Bl.isi Bl.zip) TB rfl List.mem_cons_self (hu0 hne1 hne2) hr (show LamS (defScope sLaw) _ from lamS_by (by decide +kernel)) rfl (fun _ _ _ _ _ => rfl)
              (fun A outer s H E f c' hr2 => (pe_call (E := E) GU5 hr2 (by rfl) gU kU bU .nil (L2N.passes_call (L2N.takes_of (E := E) rfl rfl rfl rfl) fun _ _ _ _ z => z) (pa_cons (pv 4) (pa_cons (pv 5) pa_nil))))) (pa_cons (pv 7) pa_nil))))) pss_never pss_nil))
        (CwR.psst_one (pst_ifR op_ne (pe_call (E := E0) GU7 hr (by rfl) gU kU bU .nil passN (pa_cons (pv 4) (pa_cons pe_int pa_nil))) (CwR.pet_replT (CwR.pet_replC (pv 4) (by decide +kernel)) (by decide +kernel)) (nomark _) pss_never pss_nil)))))))))))
        (pss_cons (ps_set (i := 5) scLaw.nd rfl (.inr rfl) (pe_call GO hr (by rfl) O.g O.F.kp O.b .nil pass0 (pa_cons (pv 1) (pa_cons (pe_lst (pa_cons pe_int (pa_cons pe_int pa_nil))) pa_nil))))
        (pss_cons (ps_set (i := 7) scLaw.nd rfl (.inl rfl) (pe_ifExp (pt_cmpR op_eq (pv 5) pe_int (nomark _)) (pe_tup (pa_cons pe_str (pa_cons (pe_op op_mulS pe_str pe_int) pa_nil))) (pe_tup (pa_cons pe_str (pa_cons (pe_op op_mulS pe_str pe_int) pa_nil)))))
        (pss_cons (ps_if (pt_not (pt_val (pe_call GS hr (by rfl) Sm.g Sm.F.kp Sm.b .nil pass0 (pa_cons (pe_lamN (k := 5) (T := TS tb tN tU) (TT := TTold ec us) (t := fun E => tCall (spUnr (TS tb tN tU) (ec "BadPattern") (ec "BadSize") (ec "TooWide")) [] E (tCons (tC (.str "(abcde)")) (tCons (tVar 5) tNil))) (by rfl) To.g To.F.kp lkT hcdT To.b scTold rfl (.inl rfl)
              (told_gives KD ⟨by decide +kernel, by decide +kernel⟩ (fun _ => BW.nm) Kn.F Kn.b Kn.g Bl.isi Bl.zip) TB rfl List.mem_cons_self (hu0 hne1 hne2) hr (show LamS (defScope sLaw) _ from lamS_by (by decide +kernel)) rfl (fun _ _ _ _ _ => rfl)
              (fun A outer s H E f c' hr2 => (pe_call (E := E) GU5 hr2 (by rfl) gU kU bU .nil (L2N.passes_call (L2N.takes_of (E := E) rfl rfl rfl rfl) fun _ _ _ _ z => z) (pa_cons pe_str (pa_cons (pv 5) pa_nil))))) (pa_cons (pv 7) pa_nil))))) pss_never pss_nil)
        (pss_one (ps_ret (pe_call GS hr (by rfl) Sm.g Sm.F.kp Sm.b .nil pass0 (pa_cons (pe_lst (pa_cons (pe_call (E := E0) GL7 hr (by rfl) gL kL bL .nil passN (pa_cons pe_str (pa_cons pe_int pa_nil))) (pa_cons (pe_call (E := E0) GU7 hr (by rfl) gU kU bU .nil passN (pa_cons pe_str (pa_cons pe_int pa_nil))) pa_nil))) (pa_cons (pe_lst (pa_cons pe_int (pa_cons pe_str pa_nil))) pa_nil)))))))))), ?_⟩
    refine ⟨_, rfl, a, ns, rfl, hS, fun g H1 nb sm1 B1 => ?_⟩
    have T1 : Tabs (TS tb tN tU) H1 := fun p hp => by
      rcases List.mem_cons.mp hp with rfl | hp
      · exact TabS.nil (sm1 _ _ ht1)
      · rcases List.mem_cons.mp hp with rfl | hp
        · exact TabS.nil (sm1 _ _ ht2)
        · rcases List.mem_cons.mp hp with rfl | hp
          · exact TabS.nil (sm1 _ _ ht3)
          · cases hp
    have hbig : 2000 ≤ sizeLine := by decide
    refine ⟨6, rfl, by decide, by decide, for_range (lo := 0) (n := 6) (fun i σ H' => ∃ y2 y3 y4 y5 y6 y7 : Option V, σ = [some (.ref a), some (.ref g.b), y2, y3, y4, y5, y6, y7] ∧ Bg H' g ∧ Tabs (TS tb tN tU) H')
      ⟨none, none, none, none, none, none, rfl, B1, T1⟩ ?_ ?_⟩
    · rintro i σ H2 hi ⟨y2, y3, y4, y5, y6, y7, rfl, B2, T2⟩
      -- letters, a pattern
      refine ⟨_, rfl, g, rfl, B2, fun ls H3 lne l3 lsm k3 B3 => ?_⟩
      have T3 := tabs_keep T2 B2 k3
      have lpos : 0 < ls.length := List.length_pos_iff.mpr lne
      refine ⟨_, rfl, _, rfl, g, ls, rfl, B3, lpos, by omega, lsm, fun xs H4 hxs hne hgd k4 B4 => ?_⟩
      have T4 := tabs_keep T3 B3 k4
      have hxs : xs.length ≤ 159 := hxs
      have hxl : xs.length ≤ 1000 := by omega
      have hp : patB smallL xs = true := good_pat hne hgd
      have hp2 : pgo smallL 0 0 xs = true := by
        unfold patB at hp
        exact (Bool.and_eq_true_iff.mp hp).1
      -- how often
      refine ⟨_, rfl, _, rfl, (by decide : 5 ≤ sizeLine), fun mp nmp => ?_⟩
      have s5 := same_upd (o := .lst (manies.map V.int)) nmp
      have B5 := B4.same s5
      have T5 := T4.ext s5
      refine ⟨g, mp, manies.map V.int, rfl, B5, B4.ne nmp, SqL.of upd_same, by decide, by decide, fun v H6 hv k6 B6 => ?_⟩
      obtain ⟨m0, hm0, rfl⟩ := List.mem_map.mp hv
      have hm1 : ∀ z ∈ manies, 1 ≤ z ∧ z ≤ 400 := by decide
      obtain ⟨hm2, hm3⟩ := hm1 m0 hm0
      have T6 := tabs_keep T5 B5 k6
      refine ⟨g, m0, rfl, by omega, Nat.lt_trans (show m0.natAbs < 2 ^ 64 by omega) (by decide), B6, fun u H7 u0 u1 k7 B7 => ⟨_, _, rfl, rfl, ?_⟩⟩
      have T7 := tabs_keep T6 B6 k7
      obtain ⟨m, em⟩ : ∃ m : Nat, 1 + u = (m : Int) := ⟨(1 + u).toNat, by omega⟩
      have m1 : 1 ≤ m := by omega
      have m2 : m ≤ 400 := by omega
      dsimp only
      rw [em]
      obtain ⟨n, hn⟩ := pgo_st (g := m) xs 0 0 [] 0 hp2 rfl
      obtain ⟨zs, hzs⟩ : ∃ zs, stS m xs ([], []) = some ([], zs) := by
        have e := st_lens m xs ([], [])
        cases hS : stS m xs ([], []) with
        | none => 
          rw [hS] at e
          have e : stI m xs ([], 0) = none := e
          rw [hn] at e
          cases e
        | some t =>
          obtain ⟨o, z⟩ := t
          rw [hS] at e
          have e : stI m xs ([], 0) = some (o.map List.length, z.length) := e
          rw [hn] at e
          simp only [Option.some.injEq, Prod.mk.injEq] at e
          have : o = [] := List.map_eq_nil_iff.mp e.1.symm
          subst this
          exact ⟨z, rfl⟩
      obtain ⟨n1, hn1⟩ := pgo_st (g := 1) xs 0 0 [] 0 hp2 rfl
      obtain ⟨zs1, hzs1⟩ : ∃ zs, stS 1 xs ([], []) = some ([], zs) := by
        have e := st_lens 1 xs ([], [])
        cases hS : stS 1 xs ([], []) with
        | none => 
          rw [hS] at e
          have e : stI 1 xs ([], 0) = none := e
          rw [hn1] at e
          cases e
        | some t =>
          obtain ⟨o, z⟩ := t
          rw [hS] at e
          have e : stI 1 xs ([], 0) = some (o.map List.length, z.length) := e
          rw [hn1] at e
          simp only [Option.some.injEq, Prod.mk.injEq] at e
          have : o = [] := List.map_eq_nil_iff.mp e.1.symm
          subst this
          exact ⟨z, rfl⟩
      have hz1 : xs.filter nob = zs1 := by
        have := stS_once xs [] [] zs1 hzs1
        simpa using this
      have hn1l : n1 ≤ 2000 := by
        have e := st_lens 1 xs ([], [])
        rw [hzs1] at e
        have e : stI 1 xs ([], 0) = some ([], zs1.length) := e
        rw [hn1] at e
        simp only [Option.some.injEq, Prod.mk.injEq, true_and] at e
        rw [e, ← hz1]
        exact Nat.le_trans (List.length_filter_le _ _) (by omega)
      -- the length
      refine ⟨_, rfl, _, rfl, xs, m, n, rfl, m2, hxl, hn, fun H8 s8 => ?_⟩
      have B8 := B7.same s8
      have T8 := T7.ext s8
      refine ⟨_, rfl, _, rfl, xs, (m : Int), rfl, hxl, T8, fun _ m' n' H9 em' _ _ hn' x9 T9 => ?_, fun h => absurd (h.symm.trans hp) (by decide), fun _ h => absurd ⟨by omega, by omega⟩ h⟩
      obtain rfl : m = m' := by omega
      have en : n' = n := by
        rw [hn] at hn'
        simp only [Option.some.injEq, Prod.mk.injEq, true_and] at hn'
        exact hn'.symm
      subst en
      have B9 := bg_ext B8 x9
      refine ⟨_, rfl, _, _, .int (n' : Int), rfl, .int _, .int _, True.intro, fun H10 s10 => ⟨_, rfl, iteF ?_⟩⟩
      have B10 := B9.same s10
      have T10 := T9.ext s10
      refine ⟨(by decide : 2 ≤ sizeLine), fun p1 np1 => ?_⟩
      have s11 := same_upd (o := .tup [.str "toowide", .int 2000]) np1
      have B11 := B10.same s11
      have T11 := T10.ext s11
      have e11 : (upd H10 p1 (.tup [.str "toowide", .int 2000])) p1 = some (.tup [.str "toowide", .int 2000]) := upd_same
      generalize upd H10 p1 (.tup [.str "toowide", .int 2000]) = H11 at s11 B11 T11 e11
      refine ⟨_, rfl, _, _, rfl, rfl, _, rfl, ?_⟩
      by_cases hle : n' ≤ 2000
      · refine itT (by omega) ?_
        refine ⟨_, rfl, _, rfl, xs, m, n', zs, rfl, m1, m2, hxl, hn, hle, hzs, fun H12 s12 => ⟨(by decide : 2 ≤ sizeLine), fun p2 np2 => ?_⟩⟩
        have s13 := same_upd (o := .tup [.str "told", .str (Sx zs)]) np2
        have B13 := (B11.same s12).same s13
        have T13 := (T11.ext s12).ext s13
        have e13 : (upd H12 p2 (.tup [.str "told", .str (Sx zs)])) p2 = some (.tup [.str "told", .str (Sx zs)]) := upd_same
        generalize upd H12 p2 (.tup [.str "told", .str (Sx zs)]) = H13 at s13 B13 T13 e13
        refine ⟨T13, fun H14 x14 T14 => ?_⟩
        refine ⟨_, rfl, _, rfl, xs, m, rfl, hxl, T14, fun _ m' n'' z' H15 em' _ _ _ _ hz' x15 T15 p3 np3 => ?_, fun _ m' n'' H15 em' _ _ hn'' hgt => ?_, fun h => absurd (h.symm.trans hp) (by decide), fun _ h => absurd ⟨by omega, by omega⟩ h⟩
        · obtain rfl : m = m' := by omega
          have ez : z' = zs := by
            rw [hzs] at hz'
            simp only [Option.some.injEq, Prod.mk.injEq, true_and] at hz'
            exact hz'.symm
          subst ez
          have s16 := same_upd (o := .tup [.str "told", .str (Sx z')]) np3
          have e15 := s16 _ _ (x15 _ _ (x14 _ _ e13 (fun ps z => by cases z)) (fun ps z => by cases z))
          have e16 : (upd H15 p3 (.tup [.str "told", .str (Sx z')])) p3 = some (.tup [.str "told", .str (Sx z')]) := upd_same
          refine ⟨_, rfl, _, _, .tuple [.str "told", .str (Sx z')], rfl, .tup (SqT.of e16) (.cons (.str _) (.cons (.str _) .nil)), .tup (SqT.of e15) (.cons (.str _) (.cons (.str _) .nil)), lv2, fun H17 s17 => ⟨_, rfl, iteF ?_⟩⟩

          -- gone once
          have B16 := ((bg_ext (bg_ext B13 x14) x15).same s16).same s17
          have T16 := (T15.ext s16).ext s17
          refine ⟨_, rfl, xs, 1, rfl, hxl, T16, fun _ m'' n'' z'' H17 em'' _ _ _ _ hz'' x17 T17 => ?_, fun _ m'' n'' H17 em'' _ _ hn'' hgt => ?_, fun h => absurd (h.symm.trans hp) (by decide), fun _ h => absurd ⟨by decide, by decide⟩ h⟩
          · obtain rfl : m'' = 1 := by omega
            have ez : z'' = zs1 := by
              rw [hzs1] at hz''
              simp only [Option.some.injEq, Prod.mk.injEq, true_and] at hz''
              exact hz''.symm
            subst ez
            have B17 := bg_ext B16 x17
            have hl1 : ∀ l : List Nat, l.length ≤ 1000 → (Sx l).length + ((Sx l).length + 1) * ("" : Str).length ≤ 16777216 := fun l hl => by
              have e0 : ("" : Str).length = 0 := rfl
              rw [e0, sx_len, Nat.mul_zero]
              omega
            have er1 : Txt.replace (Sx xs) "(" "" = Sx (xs.filter fun d => decide (d ≠ 40)) := by
              rw [lp_eq, em_eq]
              exact replace_one xs 40
            have er2 : Txt.replace (Sx (xs.filter fun d => decide (d ≠ 40))) ")" "" = Sx (xs.filter nob) := by
              rw [rp_eq, em_eq, replace_one, replace_both]
            refine ⟨_, rfl, Sx xs, rfl, hl1 xs hxl, Txt.replace (Sx xs) "(" "", rfl, ?_, ?_⟩
            · rw [er1]
              exact hl1 _ (Nat.le_trans (List.length_filter_le _ _) hxl)
            · rw [er1, er2, hz1]
              exact ⟨rfl, _, rfl, iteNS rfl ⟨_, _, _, _, _, _, rfl, B17, T17⟩⟩
          · obtain rfl : m'' = 1 := by omega
            rw [hn1] at hn''
            simp only [Option.some.injEq, Prod.mk.injEq, true_and] at hn''
            omega
        · obtain rfl : m = m' := by omega
          rw [hn] at hn''
          simp only [Option.some.injEq, Prod.mk.injEq, true_and] at hn''
          omega
      · refine itF (by omega) ?_
        refine ⟨T11, fun H14 x14 T14 => ?_⟩
        refine ⟨_, rfl, _, rfl, xs, m, rfl, hxl, T14, fun _ m' n'' z' H15 em' _ _ hn'' hle' => ?_, fun _ m' n'' H15 em' _ _ _ _ x15 T15 => ?_, fun h => absurd (h.symm.trans hp) (by decide), fun _ h => absurd ⟨by omega, by omega⟩ h⟩
        · obtain rfl : m = m' := by omega
          rw [hn] at hn''
          simp only [Option.some.injEq, Prod.mk.injEq, true_and] at hn''
          omega
        · refine eh_of (nm := "TooWide") (wd := "toowide") (v := .int 2000) (by decide +kernel) (by decide +kernel) rfl (fun _ => ⟨_, rfl⟩) (by decide +kernel) (fun H16 r s16 er => ?_)
          have e15 := s16 _ _ (x15 _ _ (x14 _ _ e11 (fun ps z => by cases z)) (fun ps z => by cases z))
          refine ⟨_, rfl, _, _, .tuple [.str "toowide", .int 2000], rfl, .tup (SqT.of er) (.cons (.str _) (.cons (.int _) .nil)), .tup (SqT.of e15) (.cons (.str _) (.cons (.int _) .nil)), lv2, fun H17 s17 => ⟨_, rfl, iteF ?_⟩⟩

          -- gone once
          have B16 := ((bg_ext (bg_ext B11 x14) x15).same s16).same s17
          have T16 := (T15.ext s16).ext s17
          refine ⟨_, rfl, xs, 1, rfl, hxl, T16, fun _ m'' n'' z'' H17 em'' _ _ _ _ hz'' x17 T17 => ?_, fun _ m'' n'' H17 em'' _ _ hn'' hgt => ?_, fun h => absurd (h.symm.trans hp) (by decide), fun _ h => absurd ⟨by decide, by decide⟩ h⟩
          · obtain rfl : m'' = 1 := by omega
            have ez : z'' = zs1 := by
              rw [hzs1] at hz''
              simp only [Option.some.injEq, Prod.mk.injEq, true_and] at hz''
              exact hz''.symm
            subst ez
            have B17 := bg_ext B16 x17
            have hl1 : ∀ l : List Nat, l.length ≤ 1000 → (Sx l).length + ((Sx l).length + 1) * ("" : Str).length ≤ 16777216 := fun l hl => by
              have e0 : ("" : Str).length = 0 := rfl
              rw [e0, sx_len, Nat.mul_zero]
              omega
            have er1 : Txt.replace (Sx xs) "(" "" = Sx (xs.filter fun d => decide (d ≠ 40)) := by
              rw [lp_eq, em_eq]
              exact replace_one xs 40
            have er2 : Txt.replace (Sx (xs.filter fun d => decide (d ≠ 40))) ")" "" = Sx (xs.filter nob) := by
              rw [rp_eq, em_eq, replace_one, replace_both]
            refine ⟨_, rfl, Sx xs, rfl, hl1 xs hxl, Txt.replace (Sx xs) "(" "", rfl, ?_, ?_⟩
            · rw [er1]
              exact hl1 _ (Nat.le_trans (List.length_filter_le _ _) hxl)
            · rw [er1, er2, hz1]
              exact ⟨rfl, _, rfl, iteNS rfl ⟨_, _, _, _, _, _, rfl, B17, T17⟩⟩
          · obtain rfl : m'' = 1 := by omega
            rw [hn1] at hn''
            simp only [Option.some.injEq, Prod.mk.injEq, true_and] at hn''
            omega
    · rintro σ H2 ⟨y2, y3, y4, y5, y6, y7, rfl, B2, T2⟩
      refine ⟨_, rfl, (by decide : 2 ≤ sizeLine), fun mp nmp => ?_⟩
      have s3 := same_upd (o := .lst ([399, 400].map V.int)) nmp
      have B3 := B2.same s3
      have T3 := T2.ext s3
      refine ⟨g, mp, [399, 400].map V.int, rfl, B3, B2.ne nmp, SqL.of upd_same, by decide, by decide, fun v H4 hv k4 B4 => ?_⟩
      have T4 := tabs_keep T3 B3 k4
      obtain ⟨m0, hm0, rfl⟩ := List.mem_map.mp hv
      obtain ⟨m, rfl, hm⟩ : ∃ m : Nat, m0 = (m : Int) ∧ (m = 399 ∨ m = 400) := by
        rcases List.mem_cons.mp hm0 with rfl | hm0
        · exact ⟨399, rfl, .inl rfl⟩
        · rw [List.mem_singleton.mp hm0]
          exact ⟨400, rfl, .inr rfl⟩
      refine ⟨_, rfl, rfl, _, rfl, ?_⟩
      rcases hm with rfl | rfl
      · refine itF (by decide) ?_

        refine ⟨[97, 98, 99, 100, 101], 399, by rw [abcde_eq], rfl, by decide, by decide, (by decide : 2 ≤ sizeLine), fun p1 np1 => ?_⟩
        have s5 := same_upd (o := .tup [.str "told", .str (Sx (rep 399 [97, 98, 99, 100, 101]))]) np1
        have B5 := B4.same s5
        have T5 := T4.ext s5
        have e5 : (upd H4 p1 (.tup [.str "told", .str (Sx (rep 399 [97, 98, 99, 100, 101]))])) p1 = some (.tup [.str "told", .str (Sx (rep 399 [97, 98, 99, 100, 101]))]) := upd_same
        generalize upd H4 p1 (.tup [.str "told", .str (Sx (rep 399 [97, 98, 99, 100, 101]))]) = H5 at s5 B5 T5 e5
        refine ⟨T5, fun H6 x6 T6 => ?_⟩
        refine ⟨_, rfl, [40, 97, 98, 99, 100, 101, 41], 399, by rw [br5_eq]; rfl, by decide, T6, fun _ m' n' z' H7 em' _ _ _ _ hz' x7 T7 p2 np2 => ?_, fun _ m' n' H7 em' _ _ hn' hgt => ?_, fun h => absurd h (by decide), fun _ h => absurd ⟨by decide, by decide⟩ h⟩
        · obtain rfl : m' = 399 := by omega
          have ez : z' = rep 399 [97, 98, 99, 100, 101] := by
            rw [gone5] at hz'
            simp only [Option.some.injEq, Prod.mk.injEq, true_and] at hz'
            exact hz'.symm
          rw [ez]
          have s8 := same_upd (o := .tup [.str "told", .str (Sx (rep 399 [97, 98, 99, 100, 101]))]) np2
          have e7 := s8 _ _ (x7 _ _ (x6 _ _ e5 (fun ps z => by cases z)) (fun ps z => by cases z))
          have e8 : (upd H7 p2 (.tup [.str "told", .str (Sx (rep 399 [97, 98, 99, 100, 101]))])) p2 = some (.tup [.str "told", .str (Sx (rep 399 [97, 98, 99, 100, 101]))]) := upd_same
          refine ⟨_, rfl, _, _, .tuple [.str "told", .str (Sx (rep 399 [97, 98, 99, 100, 101]))], rfl, .tup (SqT.of e8) (.cons (.str _) (.cons (.str _) .nil)), .tup (SqT.of e7) (.cons (.str _) (.cons (.str _) .nil)), lv2, fun H9 s9 => ⟨_, rfl, iteF ?_⟩⟩
          have T9 := (T7.ext s8).ext s9
          -- a(b(a))
          refine ⟨[97, 40, 98, 40, 97, 41, 41], 2, by rw [aba_eq]; rfl, by decide, T9, fun _ m' n' H10 em' _ _ hn' x10 T10 => ?_, fun h => absurd h (by decide), fun _ h => absurd ⟨by decide, by decide⟩ h⟩
          obtain rfl : m' = 2 := by omega
          have en : n' = 7 := by
            have h7 : stI 2 [97, 40, 98, 40, 97, 41, 41] ([], 0) = some ([], 7) := by decide
            rw [h7] at hn'
            simp only [Option.some.injEq, Prod.mk.injEq, true_and] at hn'
            exact hn'.symm
          subst en
          refine ⟨[97, 40, 98, 40, 97, 41, 41], 2, by rw [aba_eq]; rfl, by decide, T10, fun _ m' n' z' H11 em' _ _ _ _ hz' x11 T11 => ?_, fun _ m' n' H11 em' _ _ hn' hgt => ?_, fun h => absurd h (by decide), fun _ h => absurd ⟨by decide, by decide⟩ h⟩
          · obtain rfl : m' = 2 := by omega
            have ez : z' = [97, 98, 97, 97, 98, 97, 97] := by
              have h7 : stS 2 [97, 40, 98, 40, 97, 41, 41] ([], []) = some ([], [97, 98, 97, 97, 98, 97, 97]) := by decide
              rw [h7] at hz'
              simp only [Option.some.injEq, Prod.mk.injEq, true_and] at hz'
              exact hz'.symm
            subst ez
            refine ⟨(by decide : 2 ≤ sizeLine), fun l1 nl1 => ⟨(by decide : 2 ≤ sizeLine), fun l2 nl2 => ?_⟩⟩
            have s12 := same_upd (o := .lst [.int 7, .str "abaabaa"]) nl2
            have e12 : (upd (upd H11 l1 (.lst [.int 7, .str (Sx [97, 98, 97, 97, 98, 97, 97])])) l2 (.lst [.int 7, .str "abaabaa"])) l2 = some (.lst [.int 7, .str (Sx [97, 98, 97, 97, 98, 97, 97])]) := by rw [upd_same, aba2_eq]
            refine ⟨_, _, .list [.int 7, .str (Sx [97, 98, 97, 97, 98, 97, 97])], rfl, .lst (SqL.of (s12 _ _ upd_same)) (.cons (.int _) (.cons (.str _) .nil)), .lst (SqL.of e12) (.cons (.int _) (.cons (.str _) .nil)), lv2, fun H13 s13 => q H13⟩
          · obtain rfl : m' = 2 := by omega
            have h7 : stI 2 [97, 40, 98, 40, 97, 41, 41] ([], 0) = some ([], 7) := by decide
            rw [h7] at hn'
            simp only [Option.some.injEq, Prod.mk.injEq, true_and] at hn'
            omega
        · obtain rfl : m' = 399 := by omega
          rw [len5] at hn'
          simp only [Option.some.injEq, Prod.mk.injEq, true_and] at hn'
          omega
      · refine itT rfl ?_

        refine ⟨[97, 98, 99, 100, 101], 400, by rw [abcde_eq], rfl, by decide, by decide, (by decide : 2 ≤ sizeLine), fun p1 np1 => ?_⟩
        have s5 := same_upd (o := .tup [.str "told", .str (Sx (rep 400 [97, 98, 99, 100, 101]))]) np1
        have B5 := B4.same s5
        have T5 := T4.ext s5
        have e5 : (upd H4 p1 (.tup [.str "told", .str (Sx (rep 400 [97, 98, 99, 100, 101]))])) p1 = some (.tup [.str "told", .str (Sx (rep 400 [97, 98, 99, 100, 101]))]) := upd_same
        generalize upd H4 p1 (.tup [.str "told", .str (Sx (rep 400 [97, 98, 99, 100, 101]))]) = H5 at s5 B5 T5 e5
        refine ⟨T5, fun H6 x6 T6 => ?_⟩
        refine ⟨_, rfl, [40, 97, 98, 99, 100, 101, 41], 400, by rw [br5_eq]; rfl, by decide, T6, fun _ m' n' z' H7 em' _ _ _ _ hz' x7 T7 p2 np2 => ?_, fun _ m' n' H7 em' _ _ hn' hgt => ?_, fun h => absurd h (by decide), fun _ h => absurd ⟨by decide, by decide⟩ h⟩
        · obtain rfl : m' = 400 := by omega
          have ez : z' = rep 400 [97, 98, 99, 100, 101] := by
            rw [gone5] at hz'
            simp only [Option.some.injEq, Prod.mk.injEq, true_and] at hz'
            exact hz'.symm
          rw [ez]
          have s8 := same_upd (o := .tup [.str "told", .str (Sx (rep 400 [97, 98, 99, 100, 101]))]) np2
          have e7 := s8 _ _ (x7 _ _ (x6 _ _ e5 (fun ps z => by cases z)) (fun ps z => by cases z))
          have e8 : (upd H7 p2 (.tup [.str "told", .str (Sx (rep 400 [97, 98, 99, 100, 101]))])) p2 = some (.tup [.str "told", .str (Sx (rep 400 [97, 98, 99, 100, 101]))]) := upd_same
          refine ⟨_, rfl, _, _, .tuple [.str "told", .str (Sx (rep 400 [97, 98, 99, 100, 101]))], rfl, .tup (SqT.of e8) (.cons (.str _) (.cons (.str _) .nil)), .tup (SqT.of e7) (.cons (.str _) (.cons (.str _) .nil)), lv2, fun H9 s9 => ⟨_, rfl, iteF ?_⟩⟩
          have T9 := (T7.ext s8).ext s9
          -- a(b(a))
          refine ⟨[97, 40, 98, 40, 97, 41, 41], 2, by rw [aba_eq]; rfl, by decide, T9, fun _ m' n' H10 em' _ _ hn' x10 T10 => ?_, fun h => absurd h (by decide), fun _ h => absurd ⟨by decide, by decide⟩ h⟩
          obtain rfl : m' = 2 := by omega
          have en : n' = 7 := by
            have h7 : stI 2 [97, 40, 98, 40, 97, 41, 41] ([], 0) = some ([], 7) := by decide
            rw [h7] at hn'
            simp only [Option.some.injEq, Prod.mk.injEq, true_and] at hn'
            exact hn'.symm
          subst en
          refine ⟨[97, 40, 98, 40, 97, 41, 41], 2, by rw [aba_eq]; rfl, by decide, T10, fun _ m' n' z' H11 em' _ _ _ _ hz' x11 T11 => ?_, fun _ m' n' H11 em' _ _ hn' hgt => ?_, fun h => absurd h (by decide), fun _ h => absurd ⟨by decide, by decide⟩ h⟩
          · obtain rfl : m' = 2 := by omega
            have ez : z' = [97, 98, 97, 97, 98, 97, 97] := by
              have h7 : stS 2 [97, 40, 98, 40, 97, 41, 41] ([], []) = some ([], [97, 98, 97, 97, 98, 97, 97]) := by decide
              rw [h7] at hz'
              simp only [Option.some.injEq, Prod.mk.injEq, true_and] at hz'
              exact hz'.symm
            subst ez
            refine ⟨(by decide : 2 ≤ sizeLine), fun l1 nl1 => ⟨(by decide : 2 ≤ sizeLine), fun l2 nl2 => ?_⟩⟩
            have s12 := same_upd (o := .lst [.int 7, .str "abaabaa"]) nl2
            have e12 : (upd (upd H11 l1 (.lst [.int 7, .str (Sx [97, 98, 97, 97, 98, 97, 97])])) l2 (.lst [.int 7, .str "abaabaa"])) l2 = some (.lst [.int 7, .str (Sx [97, 98, 97, 97, 98, 97, 97])]) := by rw [upd_same, aba2_eq]
            refine ⟨_, _, .list [.int 7, .str (Sx [97, 98, 97, 97, 98, 97, 97])], rfl, .lst (SqL.of (s12 _ _ upd_same)) (.cons (.int _) (.cons (.str _) .nil)), .lst (SqL.of e12) (.cons (.int _) (.cons (.str _) .nil)), lv2, fun H13 s13 => q H13⟩
          · obtain rfl : m' = 2 := by omega
            have h7 : stI 2 [97, 40, 98, 40, 97, 41, 41] ([], 0) = some ([], 7) := by decide
            rw [h7] at hn'
            simp only [Option.some.injEq, Prod.mk.injEq, true_and] at hn'
            omega
        · obtain rfl : m' = 400 := by omega
          rw [len5] at hn'
          simp only [Option.some.injEq, Prod.mk.injEq, true_and] at hn'
          omega
end
end Onp
set_option maxHeartbeats 4000000
set_option autoImplicit false
namespace Onp
open PySem PySem.Spec PyProof.Rows L2 HotX L2H LamX
/-! ### facts of the classes of refusals, name by name -/
def ecOf (mg : Str → Option Value) (x : Str) : Addr := match mg x with
  | some (.ref c) => c
  | _ => 0
theorem ecOf_eq {mg : Str → Option Value} {x : Str} {c : Addr} (h : mg x = some (.ref c)) : ecOf mg x = c := by
  unfold ecOf
  rw [h]
def NsAt (K : PySem.W.Frag) : List Str → List Addr → Prop
  | n :: ns, c :: cs => PySem.W.nsIn K mainGlobals n = some (some (.ref c)) ∧ NsAt K ns cs
  | [], [] => True
  | _, _ => False
def SubAll (K : PySem.W.Frag) (X : Value) (x : Str) : List Str → List Addr → Prop
  | n :: ns, c :: cs => PySem.W.subIn K X (.ref c) = some (n == x) ∧ SubAll K X x ns cs
  | [], [] => True
  | _, _ => False
def TyAll (K : PySem.W.Frag) : List Addr → Prop
  | c :: cs => PySem.W.typeIn K (.ref c) = some (.type "type") ∧ TyAll K cs
  | [] => True
def IsAll (K : PySem.W.Frag) : List Addr → Prop
  | c :: cs => PySem.W.isClsIn K c = true ∧ IsAll K cs
  | [] => True
section
variable {K : PySem.W.Frag} {h : Heap} {mg : Str → Option Value}
theorem ns_of (X : K.In h) (G : h.Ns mainGlobals mg) : ∀ (ns : List Str) (cs : List Addr), NsAt K ns cs → ∀ x ∈ ns, mg x = some (.ref (ecOf mg x))
  | n :: ns, c :: cs, e, x, hx => by
    rcases List.mem_cons.mp hx with rfl | hx
    · have q := PySem.W.mg_of X G e.1
      rw [ecOf_eq q]
      exact q
    · exact ns_of X G ns cs e.2 x hx
theorem sub_of (X : K.In h) (G : h.Ns mainGlobals mg) {Y : Value} {y : Str} : ∀ (ns : List Str) (cs : List Addr), NsAt K ns cs → SubAll K Y y ns cs → ∀ x ∈ ns, PySem.W.subIn K Y (.ref (ecOf mg x)) = some (x == y)
  | n :: ns, c :: cs, e, s, x, hx => by
    rcases List.mem_cons.mp hx with rfl | hx
    · rw [ecOf_eq (PySem.W.mg_of X G e.1)]
      exact s.1
    · exact sub_of X G ns cs e.2 s.2 x hx
theorem cl_of (X : K.In h) (G : h.Ns mainGlobals mg) : ∀ (ns : List Str) (cs : List Addr), NsAt K ns cs → TyAll K cs → IsAll K cs → ∀ x ∈ ns, PySem.W.typeIn K (.ref (ecOf mg x)) = some (.type "type") ∧ PySem.W.isClsIn K (ecOf mg x) = true
  | n :: ns, c :: cs, e, s, t, x, hx => by
    rcases List.mem_cons.mp hx with rfl | hx
    · rw [ecOf_eq (PySem.W.mg_of X G e.1)]
      exact ⟨s.1, t.1⟩
    · exact cl_of X G ns cs e.2 s.2 t.2 x hx
end
end Onp
set_option maxHeartbeats 8000000
namespace Onp
open PySem PySem.Spec PyProof.Rows L2 HotX L2H LamX
theorem all_mk {l : PySem.W.OpenLaw} {w : World} {K : PySem.W.Frag} {h : Heap} {mg : Str → Option Value} {fa : Addr} (X : K.In h) (G : h.Ns mainGlobals mg) (hfa : mg "law" = some (.ref fa)) (own : LamX.OwnTab K fa h)
    {fB : Addr} {odB anB : Option Addr} {slB : Array (Option Value)} {ocB kVB dcB pmB cdB ctB : Value}
    {fPu : Addr} {odPu anPu : Option Addr} {slPu : Array (Option Value)} {ocPu kVPu dcPu pmPu cdPu ctPu : Value}
    {fO : Addr} {odO anO : Option Addr} {slO : Array (Option Value)} {ocO kVO dcO pmO cdO ctO : Value}
    {fSm : Addr} {odSm anSm : Option Addr} {slSm : Array (Option Value)} {ocSm kVSm dcSm pmSm cdSm ctSm : Value}
    {fKn : Addr} {odKn anKn : Option Addr} {slKn : Array (Option Value)} {ocKn kVKn dcKn pmKn cdKn ctKn : Value}
    {fTo : Addr} {odTo anTo : Option Addr} {slTo : Array (Option Value)} {ocTo kVTo dcTo pmTo cdTo ctTo : Value}
    {fIp : Addr} {odIp anIp : Option Addr} {slIp : Array (Option Value)} {ocIp kVIp dcIp pmIp cdIp ctIp : Value}
    {fNg : Addr} {odNg anNg : Option Addr} {slNg : Array (Option Value)} {ocNg kVNg dcNg pmNg cdNg ctNg : Value}
    {fGo : Addr} {odGo anGo : Option Addr} {slGo : Array (Option Value)} {ocGo kVGo dcGo pmGo cdGo ctGo : Value}
    {fLe : Addr} {odLe anLe : Option Addr} {slLe : Array (Option Value)} {ocLe kVLe dcLe pmLe cdLe ctLe : Value}
    {fPa : Addr} {odPa anPa : Option Addr} {slPa : Array (Option Value)} {ocPa kVPa dcPa pmPa cdPa ctPa : Value}
    {fLl : Addr} {odLl anLl : Option Addr} {slLl : Array (Option Value)} {ocLl kVLl dcLl pmLl cdLl ctLl : Value}
    {fLw : Addr} {odLw anLw : Option Addr} {slLw : Array (Option Value)} {ocLw kVLw dcLw pmLw cdLw ctLw : Value}
    {fL cL tb : Addr} {odL anL ddL : Option Addr} {slL sl2L : Array (Option Value)} {ocL kVL dcL pmL ctL eL : Value} {vsL : Array Value}
    {fLn cLn_ tbLn : Addr} {odLn anLn ddLn_ : Option Addr} {slLn sl2Ln : Array (Option Value)} {ocLn kVLn dcLn pmLn ctLn eeLn : Value} {vsLn : Array Value}
    {fUn cUn_ tbUn : Addr} {odUn anUn ddUn_ : Option Addr} {slUn sl2Un : Array (Option Value)} {ocUn kVUn dcUn pmUn ctUn eeUn : Value} {vsUn : Array Value}
    {tk1 tk2 tk3 tk4 : Tok}
    {e0 e1 e2 e3 e4 e5 e6 e7 e8 e9 e10 e11 e12 e13 e14 e15 e16 e17 e18 e19 e20 e21 e22 cP cM : Addr}
    {nmP qP : Str} {NP fIP : Addr} {bsP : List Value} {snP : List Str} {subP : List Value} {abP : Bool} {colP : Option Bool} {ddP odIP anIP : Option Addr} {m0P m1P m2P m3P m5P : Option Value} {slIP : Array (Option Value)} {ocIP kVIP dcIP pmIP cdIP ctIP : Value}
    {nmS qS : Str} {NS fIS : Addr} {bsS : List Value} {snS : List Str} {subS : List Value} {abS : Bool} {colS : Option Bool} {ddS odIS anIS : Option Addr} {m0S m1S m2S m3S m5S : Option Value} {slIS : Array (Option Value)} {ocIS kVIS dcIS pmIS cdIS ctIS : Value}
    {nmW qW : Str} {NW fIW : Addr} {bsW : List Value} {snW : List Str} {subW : List Value} {abW : Bool} {colW : Option Bool} {ddW odIW anIW : Option Addr} {m0W m1W m2W m3W m5W : Option Value} {slIW : Array (Option Value)} {ocIW kVIW dcIW pmIW cdIW ctIW : Value}
    (aB : PySem.W.nsIn K mainGlobals "_law_bag" = some (some (.ref fB))) (lB : K.lookup fB = some ⟨ocB, odB, .func (PySem.W.fnOf "_law_bag" "_law_bag" (defArgs sBag) (defBody sBag) (defScope sBag) .none kVB dcB pmB anB cdB ctB), slB⟩) (cB : PySem.W.codeIn K cdB "_law_bag" = true) (kB : PySem.W.keepIn K (.ref fB) = true)
    (aPu : PySem.W.nsIn K mainGlobals "_law_pull" = some (some (.ref fPu))) (lPu : K.lookup fPu = some ⟨ocPu, odPu, .func (PySem.W.fnOf "_law_pull" "_law_pull" (defArgs sPull) (defBody sPull) (defScope sPull) .none kVPu dcPu pmPu anPu cdPu ctPu), slPu⟩) (cPu : PySem.W.codeIn K cdPu "_law_pull" = true) (kPu : PySem.W.keepIn K (.ref fPu) = true)
    (aO : PySem.W.nsIn K mainGlobals "_law_of" = some (some (.ref fO))) (lO : K.lookup fO = some ⟨ocO, odO, .func (PySem.W.fnOf "_law_of" "_law_of" (defArgs sOf) (defBody sOf) (defScope sOf) .none kVO dcO pmO anO cdO ctO), slO⟩) (cO : PySem.W.codeIn K cdO "_law_of" = true) (kO : PySem.W.keepIn K (.ref fO) = true)
    (aSm : PySem.W.nsIn K mainGlobals "_law_same" = some (some (.ref fSm))) (lSm : K.lookup fSm = some ⟨ocSm, odSm, .func (PySem.W.fnOf "_law_same" "_law_same" (defArgs sSame) (defBody sSame) (defScope sSame) .none kVSm dcSm pmSm anSm cdSm ctSm), slSm⟩) (cSm : PySem.W.codeIn K cdSm "_law_same" = true) (kSm : PySem.W.keepIn K (.ref fSm) = true)
    (aKn : PySem.W.nsIn K mainGlobals "_law_kind" = some (some (.ref fKn))) (lKn : K.lookup fKn = some ⟨ocKn, odKn, .func (PySem.W.fnOf "_law_kind" "_law_kind" (defArgs sKind) (defBody sKind) (defScope sKind) .none kVKn dcKn pmKn anKn cdKn ctKn), slKn⟩) (cKn : PySem.W.codeIn K cdKn "_law_kind" = true) (kKn : PySem.W.keepIn K (.ref fKn) = true)
    (aTo : PySem.W.nsIn K mainGlobals "_law_told" = some (some (.ref fTo))) (lTo : K.lookup fTo = some ⟨ocTo, odTo, .func (PySem.W.fnOf "_law_told" "_law_told" (defArgs sTold) (defBody sTold) (defScope sTold) .none kVTo dcTo pmTo anTo cdTo ctTo), slTo⟩) (cTo : PySem.W.codeIn K cdTo "_law_told" = true) (kTo : PySem.W.keepIn K (.ref fTo) = true)
    (aIp : PySem.W.nsIn K mainGlobals "is_pattern" = some (some (.ref fIp))) (lIp : K.lookup fIp = some ⟨ocIp, odIp, .func (PySem.W.fnOf "is_pattern" "is_pattern" (defArgs sIsP) (defBody sIsP) (defScope sIsP) .none kVIp dcIp pmIp anIp cdIp ctIp), slIp⟩) (cIp : PySem.W.codeIn K cdIp "is_pattern" = true) (kIp : PySem.W.keepIn K (.ref fIp) = true)
    (aNg : PySem.W.nsIn K mainGlobals "need_goings" = some (some (.ref fNg))) (lNg : K.lookup fNg = some ⟨ocNg, odNg, .func (PySem.W.fnOf "need_goings" "need_goings" (defArgs sNeedG) (defBody sNeedG) (defScope sNeedG) .none kVNg dcNg pmNg anNg cdNg ctNg), slNg⟩) (cNg : PySem.W.codeIn K cdNg "need_goings" = true) (kNg : PySem.W.keepIn K (.ref fNg) = true)
    (aGo : PySem.W.nsIn K mainGlobals "gone" = some (some (.ref fGo))) (lGo : K.lookup fGo = some ⟨ocGo, odGo, .func (PySem.W.fnOf "gone" "gone" (defArgs sGone) (defBody sGone) (defScope sGone) .none kVGo dcGo pmGo anGo cdGo ctGo), slGo⟩) (cGo : PySem.W.codeIn K cdGo "gone" = true) (kGo : PySem.W.keepIn K (.ref fGo) = true)
    (aLe : PySem.W.nsIn K mainGlobals "_law_letters" = some (some (.ref fLe))) (lLe : K.lookup fLe = some ⟨ocLe, odLe, .func (PySem.W.fnOf "_law_letters" "_law_letters" (defArgs sLett) (defBody sLett) (defScope sLett) .none kVLe dcLe pmLe anLe cdLe ctLe), slLe⟩) (cLe : PySem.W.codeIn K cdLe "_law_letters" = true) (kLe : PySem.W.keepIn K (.ref fLe) = true)
    (aPa : PySem.W.nsIn K mainGlobals "_law_pattern" = some (some (.ref fPa))) (lPa : K.lookup fPa = some ⟨ocPa, odPa, .func (PySem.W.fnOf "_law_pattern" "_law_pattern" (defArgs sPatt) (defBody sPatt) (defScope sPatt) .none kVPa dcPa pmPa anPa cdPa ctPa), slPa⟩) (cPa : PySem.W.codeIn K cdPa "_law_pattern" = true) (kPa : PySem.W.keepIn K (.ref fPa) = true)
    (aLl : PySem.W.nsIn K mainGlobals "_law_length" = some (some (.ref fLl))) (lLl : K.lookup fLl = some ⟨ocLl, odLl, .func (PySem.W.fnOf "_law_length" "_law_length" (defArgs sLLen) (defBody sLLen) (defScope sLLen) .none kVLl dcLl pmLl anLl cdLl ctLl), slLl⟩) (cLl : PySem.W.codeIn K cdLl "_law_length" = true) (kLl : PySem.W.keepIn K (.ref fLl) = true)
    (aLw : PySem.W.nsIn K mainGlobals "_law_long_word" = some (some (.ref fLw))) (lLw : K.lookup fLw = some ⟨ocLw, odLw, .func (PySem.W.fnOf "_law_long_word" "_law_long_word" (defArgs sLong) (defBody sLong) (defScope sLong) .none kVLw dcLw pmLw anLw cdLw ctLw), slLw⟩) (cLw : PySem.W.codeIn K cdLw "_law_long_word" = true) (kLw : PySem.W.keepIn K (.ref fLw) = true)
    (aL : PySem.W.nsIn K mainGlobals "law" = some (some (.ref fL))) (lL : K.lookup fL = some ⟨ocL, odL, .func (PySem.W.fnOf "law" "law" (defArgs sLaw) (defBody sLaw) (defScope sLaw) .none kVL dcL pmL anL (.ref cL) ctL), slL⟩) (c2L : PySem.W.codeIn K (.ref cL) "law" = true) (clL : K.lookup cL = some ⟨eL, ddL, .fields vsL, sl2L⟩) (v11 : vsL[11]? = some (.ref tb)) (ntb : K.lookup tb = none) (hdL : PySem.W.codeHdIn K cL tb = true)
    (aLn : PySem.W.nsIn K mainGlobals "length_of" = some (some (.ref fLn))) (lLn : K.lookup fLn = some ⟨ocLn, odLn, .func (PySem.W.fnOf "length_of" "length_of" (defArgs sLenOf) (defBody sLenOf) (defScope sLenOf) .none kVLn dcLn pmLn anLn (.ref cLn_) ctLn), slLn⟩) (cLn : PySem.W.codeIn K (.ref cLn_) "length_of" = true) (kLn : PySem.W.keepIn K (.ref fLn) = true)
    (clLn : K.lookup cLn_ = some ⟨eeLn, ddLn_, .fields vsLn, sl2Ln⟩) (v11Ln : vsLn[11]? = some (.ref tbLn)) (ntbLn : K.lookup tbLn = none) (hdLn : PySem.W.codeHdIn K cLn_ tbLn = true) (etLn : h.get? tbLn = some { cls := .none, data := .fields #[] })
    (aUn : PySem.W.nsIn K mainGlobals "unrolled" = some (some (.ref fUn))) (lUn : K.lookup fUn = some ⟨ocUn, odUn, .func (PySem.W.fnOf "unrolled" "unrolled" (defArgs sUnr) (defBody sUnr) (defScope sUnr) .none kVUn dcUn pmUn anUn (.ref cUn_) ctUn), slUn⟩) (cUn : PySem.W.codeIn K (.ref cUn_) "unrolled" = true) (kUn : PySem.W.keepIn K (.ref fUn) = true)
    (clUn : K.lookup cUn_ = some ⟨eeUn, ddUn_, .fields vsUn, sl2Un⟩) (v11Un : vsUn[11]? = some (.ref tbUn)) (ntbUn : K.lookup tbUn = none) (hdUn : PySem.W.codeHdIn K cUn_ tbUn = true) (etUn : h.get? tbUn = some { cls := .none, data := .fields #[] })
    (g1 : PySem.W.nsIn K mainGlobals "SMALL_LETTERS" = some (some (.str "abcdefghijklmnopqrstuvwxyz" tk1)))
    (g2 : PySem.W.nsIn K mainGlobals "MOST_DEPTH" = some (some (.int 60 tk2)))
    (g3 : PySem.W.nsIn K mainGlobals "MOST_COPIES" = some (some (.int 400 tk3)))
    (g4 : PySem.W.nsIn K mainGlobals "MOST_UNROLLED" = some (some (.int 2000 tk4)))
    (n1 : tbLn ≠ tb)
    (n2 : tbUn ≠ tb)
    (n3 : tbUn ≠ tbLn)
    (z_isinstance : PySem.W.nsIn K mainGlobals "isinstance" = some none)
    (z_list : PySem.W.nsIn K mainGlobals "list" = some none)
    (z_tuple : PySem.W.nsIn K mainGlobals "tuple" = some none)
    (z_bool : PySem.W.nsIn K mainGlobals "bool" = some none)
    (z_int : PySem.W.nsIn K mainGlobals "int" = some none)
    (z_str : PySem.W.nsIn K mainGlobals "str" = some none)
    (z_len : PySem.W.nsIn K mainGlobals "len" = some none)
    (z_all : PySem.W.nsIn K mainGlobals "all" = some none)
    (z_zip : PySem.W.nsIn K mainGlobals "zip" = some none)
    (z_range : PySem.W.nsIn K mainGlobals "range" = some none)
    (z_max : PySem.W.nsIn K mainGlobals "max" = some none)
    (nE : NsAt K errNames [e0, e1, e2, e3, e4, e5, e6, e7, e8, e9, e10, e11, e12, e13, e14, e15, e16, e17, e18, e19, e20, e21, e22]) (kE : TyAll K [e0, e1, e2, e3, e4, e5, e6, e7, e8, e9, e10, e11, e12, e13, e14, e15, e16, e17, e18, e19, e20, e21, e22]) (kE2 : IsAll K [e0, e1, e2, e3, e4, e5, e6, e7, e8, e9, e10, e11, e12, e13, e14, e15, e16, e17, e18, e19, e20, e21, e22])
    (bx1 : PySem.W.subIn K (.ref e9) (.type "BaseException") = some true) (bx2 : PySem.W.subIn K (.ref e12) (.type "BaseException") = some true) (bx3 : PySem.W.subIn K (.ref e18) (.type "BaseException") = some true)
    (aP : PySem.W.nsIn K mainGlobals "PurseError" = some (some (.ref cP))) (aMi : PySem.W.nsIn K mainGlobals "Missing" = some (some (.ref cM)))
    (xLP : K.lookup e6 = some (excClassObj nmP qP e6 NP bsP [.ref cP, .type "ValueError", .type "Exception", .type "BaseException", .type "object"] true snP subP abP colP ddP m0P m1P m2P m3P m5P "ValueError.__new__"))
    (saP : PySem.W.findIn K (.ref e6) "__setattr__" = some (some (.builtin "object.__setattr__"))) (eCP : PySem.W.subIn K (.ref e6) (.type "BaseException") = some true) (tyP : PySem.W.typeIn K (.ref e6) = some (.type "type")) (kCP : PySem.W.keepIn K (.ref e6) = true)
    (iCP : PySem.W.findIn K (.ref e6) "__init__" = some (some (.ref fIP))) (tIP : PySem.W.typeIn K (.ref fIP) = some (.type "function")) (lIP : K.lookup fIP = some ⟨ocIP, odIP, .func (PySem.W.fnOf "__init__" "BadPattern.__init__" (defArgs sInitBadPattern) (defBody sInitBadPattern) (defScope sInitBadPattern) .none kVIP dcIP pmIP anIP cdIP ctIP), slIP⟩) (cIP : PySem.W.codeIn K cdIP "BadPattern.__init__" = true) (kIP : PySem.W.keepIn K (.ref fIP) = true)
    (wdP : PySem.W.findIn K (.ref e6) "word" = some none) (xcP : PySem.W.isClsIn K e6 = true) (gaP : PySem.W.findIn K (.ref e6) "__getattribute__" = some (some (.builtin "BaseException.__getattribute__"))) (ggP : PySem.W.findIn K (.ref e6) "__getattr__" = some none) (ccP : PySem.W.findIn K (.ref e6) "__class__" = some (some (.builtin "object.__class__"))) (moP : PySem.W.mroIn K e6 (.type "object") = some true) (hxP : PySem.W.hasDictIn K e6 = true)
    (suP : SubAll K (.ref e6) "BadPattern" errNames [e0, e1, e2, e3, e4, e5, e6, e7, e8, e9, e10, e11, e12, e13, e14, e15, e16, e17, e18, e19, e20, e21, e22]) (anP : PySem.W.exmAny K (.ref e6) [.ref cP, .ref cM, .ref e22] = some true)
    (xLS : K.lookup e5 = some (excClassObj nmS qS e5 NS bsS [.ref cP, .type "ValueError", .type "Exception", .type "BaseException", .type "object"] true snS subS abS colS ddS m0S m1S m2S m3S m5S "ValueError.__new__"))
    (saS : PySem.W.findIn K (.ref e5) "__setattr__" = some (some (.builtin "object.__setattr__"))) (eCS : PySem.W.subIn K (.ref e5) (.type "BaseException") = some true) (tyS : PySem.W.typeIn K (.ref e5) = some (.type "type")) (kCS : PySem.W.keepIn K (.ref e5) = true)
    (iCS : PySem.W.findIn K (.ref e5) "__init__" = some (some (.ref fIS))) (tIS : PySem.W.typeIn K (.ref fIS) = some (.type "function")) (lIS : K.lookup fIS = some ⟨ocIS, odIS, .func (PySem.W.fnOf "__init__" "BadSize.__init__" (defArgs sInitBadSize) (defBody sInitBadSize) (defScope sInitBadSize) .none kVIS dcIS pmIS anIS cdIS ctIS), slIS⟩) (cIS : PySem.W.codeIn K cdIS "BadSize.__init__" = true) (kIS : PySem.W.keepIn K (.ref fIS) = true)
    (wdS : PySem.W.findIn K (.ref e5) "word" = some none) (xcS : PySem.W.isClsIn K e5 = true) (gaS : PySem.W.findIn K (.ref e5) "__getattribute__" = some (some (.builtin "BaseException.__getattribute__"))) (ggS : PySem.W.findIn K (.ref e5) "__getattr__" = some none) (ccS : PySem.W.findIn K (.ref e5) "__class__" = some (some (.builtin "object.__class__"))) (moS : PySem.W.mroIn K e5 (.type "object") = some true) (hxS : PySem.W.hasDictIn K e5 = true)
    (suS : SubAll K (.ref e5) "BadSize" errNames [e0, e1, e2, e3, e4, e5, e6, e7, e8, e9, e10, e11, e12, e13, e14, e15, e16, e17, e18, e19, e20, e21, e22]) (anS : PySem.W.exmAny K (.ref e5) [.ref cP, .ref cM, .ref e22] = some true)
    (xLW : K.lookup e18 = some (excClassObj nmW qW e18 NW bsW [.ref cP, .type "ValueError", .type "Exception", .type "BaseException", .type "object"] true snW subW abW colW ddW m0W m1W m2W m3W m5W "ValueError.__new__"))
    (saW : PySem.W.findIn K (.ref e18) "__setattr__" = some (some (.builtin "object.__setattr__"))) (eCW : PySem.W.subIn K (.ref e18) (.type "BaseException") = some true) (tyW : PySem.W.typeIn K (.ref e18) = some (.type "type")) (kCW : PySem.W.keepIn K (.ref e18) = true)
    (iCW : PySem.W.findIn K (.ref e18) "__init__" = some (some (.ref fIW))) (tIW : PySem.W.typeIn K (.ref fIW) = some (.type "function")) (lIW : K.lookup fIW = some ⟨ocIW, odIW, .func (PySem.W.fnOf "__init__" "TooWide.__init__" (defArgs sInitTooWide) (defBody sInitTooWide) (defScope sInitTooWide) .none kVIW dcIW pmIW anIW cdIW ctIW), slIW⟩) (cIW : PySem.W.codeIn K cdIW "TooWide.__init__" = true) (kIW : PySem.W.keepIn K (.ref fIW) = true)
    (wdW : PySem.W.findIn K (.ref e18) "word" = some none) (xcW : PySem.W.isClsIn K e18 = true) (gaW : PySem.W.findIn K (.ref e18) "__getattribute__" = some (some (.builtin "BaseException.__getattribute__"))) (ggW : PySem.W.findIn K (.ref e18) "__getattr__" = some none) (ccW : PySem.W.findIn K (.ref e18) "__class__" = some (some (.builtin "object.__class__"))) (moW : PySem.W.mroIn K e18 (.type "object") = some true) (hxW : PySem.W.hasDictIn K e18 = true)
    (suW : SubAll K (.ref e18) "TooWide" errNames [e0, e1, e2, e3, e4, e5, e6, e7, e8, e9, e10, e11, e12, e13, e14, e15, e16, e17, e18, e19, e20, e21, e22]) (anW : PySem.W.exmAny K (.ref e18) [.ref cP, .ref cM, .ref e22] = some true)
    (wmW : PySem.W.findIn K (.ref e18) "most" = some none)
    (gsX : PySem.W.specialIn K (.builtin "object.__class__") "__get__" = some (some (.builtin "getset_descriptor.__get__"))) (tkX : PySem.W.takesIn K (.builtin "object.__class__") = some true) :
    LamX.LawAtS l w K CX0 8 63 "_law_script" mg fa h := by
  have e := hfa.symm.trans (PySem.W.mg_of X G aL)
  cases e
  have FB := fun_mk (st := sBag) lB cB kB
  have bB := FB.binds (ps := ["_law_script"]) fun _ _ _ _ _ _ us hl => match us, hl with | [_], _ => rfl
  have NB := PySem.W.mg_of X G aB
  have FPu := fun_mk (st := sPull) lPu cPu kPu
  have bPu := FPu.binds (ps := ["_law_bag_here", "_law_many"]) fun _ _ _ _ _ _ us hl => match us, hl with | [_, _], _ => rfl
  have NPu := PySem.W.mg_of X G aPu
  have FO := fun_mk (st := sOf) lO cO kO
  have bO := FO.binds (ps := ["_law_bag_here", "_law_some"]) fun _ _ _ _ _ _ us hl => match us, hl with | [_, _], _ => rfl
  have NO := PySem.W.mg_of X G aO
  have FSm := fun_mk (st := sSame) lSm cSm kSm
  have bSm := FSm.binds (ps := ["_law_found", "_law_due"]) fun _ _ _ _ _ _ us hl => match us, hl with | [_, _], _ => rfl
  have NSm := PySem.W.mg_of X G aSm
  have FKn := fun_mk (st := sKind) lKn cKn kKn
  have bKn := FKn.binds (ps := ["_law_e"]) fun _ _ _ _ _ _ us hl => match us, hl with | [_], _ => rfl
  have NKn := PySem.W.mg_of X G aKn
  have FTo := fun_mk (st := sTold) lTo cTo kTo
  have bTo := FTo.binds (ps := ["_law_ask"]) fun _ _ _ _ _ _ us hl => match us, hl with | [_], _ => rfl
  have NTo := PySem.W.mg_of X G aTo
  have FIp := fun_mk (st := sIsP) lIp cIp kIp
  have bIp := FIp.binds (ps := ["text", "letters"]) fun _ _ _ _ _ _ us hl => match us, hl with | [_, _], _ => rfl
  have NIp := PySem.W.mg_of X G aIp
  have FNg := fun_mk (st := sNeedG) lNg cNg kNg
  have bNg := FNg.binds (ps := ["pattern", "goings"]) fun _ _ _ _ _ _ us hl => match us, hl with | [_, _], _ => rfl
  have NNg := PySem.W.mg_of X G aNg
  have FGo := fun_mk (st := sGone) lGo cGo kGo
  have bGo := FGo.binds (ps := ["pattern", "goings", "nothing", "worth_of"]) fun _ _ _ _ _ _ us hl => match us, hl with | [_, _, _, _], _ => rfl
  have NGo := PySem.W.mg_of X G aGo
  have FLe := fun_mk (st := sLett) lLe cLe kLe
  have bLe := FLe.binds (ps := ["_law_bag_here", "_law_most"]) fun _ _ _ _ _ _ us hl => match us, hl with | [_, _], _ => rfl
  have NLe := PySem.W.mg_of X G aLe
  have FPa := fun_mk (st := sPatt) lPa cPa kPa
  have bPa := FPa.binds (ps := ["_law_bag_here", "_law_letters_here", "_law_depth"]) fun _ _ _ _ _ _ us hl => match us, hl with | [_, _, _], _ => rfl
  have NPa := PySem.W.mg_of X G aPa
  have FLl := fun_mk (st := sLLen) lLl cLl kLl
  have bLl := FLl.binds (ps := ["_law_pattern_here", "_law_many"]) fun _ _ _ _ _ _ us hl => match us, hl with | [_, _], _ => rfl
  have NLl := PySem.W.mg_of X G aLl
  have FLw := fun_mk (st := sLong) lLw cLw kLw
  have bLw := FLw.binds (ps := ["_law_pattern_here", "_law_many"]) fun _ _ _ _ _ _ us hl => match us, hl with | [_, _], _ => rfl
  have NLw := PySem.W.mg_of X G aLw
  have FLn := fun_mk (st := sLenOf) lLn cLn kLn
  have bLn := FLn.binds (ps := ["pattern", "goings"]) fun _ _ _ _ _ _ us hl => match us, hl with | [_, _], _ => rfl
  have NLn := PySem.W.mg_of X G aLn
  have FUn := fun_mk (st := sUnr) lUn cUn kUn
  have bUn := FUn.binds (ps := ["pattern", "goings"]) fun _ _ _ _ _ _ us hl => match us, hl with | [_, _], _ => rfl
  have NUn := PySem.W.mg_of X G aUn
  have sq : ∀ {t : Addr} {its : Array Value} {n : Nat} {st : Array (Option Value)} {xs : List V}, xs.length ≤ 1000 → K.lookup t = some ⟨.type "tuple", none, .seq its n, st⟩ → Vals xs its.toList → ∀ H, SqT K H t xs := fun hx e v H =>
    .inr ⟨_, _, _, e, rfl, rfl, by have q := v.length; simp only [Array.length_toList] at q; have q2 := small1000 hx; omega, v⟩
  have y_isinstance := PySem.W.mg_none_of X G z_isinstance
  have y_list := PySem.W.mg_none_of X G z_list
  have y_tuple := PySem.W.mg_none_of X G z_tuple
  have y_bool := PySem.W.mg_none_of X G z_bool
  have y_int := PySem.W.mg_none_of X G z_int
  have y_str := PySem.W.mg_none_of X G z_str
  have y_len := PySem.W.mg_none_of X G z_len
  have y_all := PySem.W.mg_none_of X G z_all
  have y_zip := PySem.W.mg_none_of X G z_zip
  have y_range := PySem.W.mg_none_of X G z_range
  have y_max := PySem.W.mg_none_of X G z_max
  have gE5 : mg "BadSize" = some (.ref e5) := PySem.W.mg_of X G (show NsAt K errNames _ from nE).2.2.2.2.2.1
  have qE5 : ecOf mg "BadSize" = e5 := ecOf_eq gE5
  have gE6 : mg "BadPattern" = some (.ref e6) := PySem.W.mg_of X G (show NsAt K errNames _ from nE).2.2.2.2.2.2.1
  have qE6 : ecOf mg "BadPattern" = e6 := ecOf_eq gE6
  have gE9 : mg "BadText" = some (.ref e9) := PySem.W.mg_of X G (show NsAt K errNames _ from nE).2.2.2.2.2.2.2.2.2.1
  have qE9 : ecOf mg "BadText" = e9 := ecOf_eq gE9
  have gE12 : mg "BadPage" = some (.ref e12) := PySem.W.mg_of X G (show NsAt K errNames _ from nE).2.2.2.2.2.2.2.2.2.2.2.2.1
  have qE12 : ecOf mg "BadPage" = e12 := ecOf_eq gE12
  have gE18 : mg "TooWide" = some (.ref e18) := PySem.W.mg_of X G (show NsAt K errNames _ from nE).2.2.2.2.2.2.2.2.2.2.2.2.2.2.2.2.2.2.1
  have qE18 : ecOf mg "TooWide" = e18 := ecOf_eq gE18
  have gE22 : mg "NothingLeft" = some (.ref e22) := PySem.W.mg_of X G (show NsAt K errNames _ from nE).2.2.2.2.2.2.2.2.2.2.2.2.2.2.2.2.2.2.2.2.2.2.1
  have qE22 : ecOf mg "NothingLeft" = e22 := ecOf_eq gE22
  have FIP : Fun K "__init__" "BadPattern.__init__" sInitBadPattern fIP _ := ⟨⟨_, _, _, _, _, _, _, _, _, rfl, lIP, cIP⟩, kIP⟩
  have bIP := FIP.binds (ps := ["self"]) fun _ _ _ _ _ _ us hl => match us, hl with | [_], _ => rfl
  have OP : OexC K (ecOf mg "BadPattern") := by
    rw [qE6]
    exact ⟨⟨_, _, _, _, _, _, _, _, _, _, _, _, _, _, _, xLP, by show PySem.HandSPX.refsVE [.type "ValueError", .type "Exception", .type "BaseException", .type "object"] = true; decide +kernel⟩, saP, eCP, tyP, kCP⟩
  have ErP : ErrC K (ecOf mg "BadPattern") := by
    rw [qE6]
    exact ⟨xcP, gaP, ggP, eCP, ccP, gsX, tkX, moP, hxP⟩
  have FIS : Fun K "__init__" "BadSize.__init__" sInitBadSize fIS _ := ⟨⟨_, _, _, _, _, _, _, _, _, rfl, lIS, cIS⟩, kIS⟩
  have bIS := FIS.binds (ps := ["self"]) fun _ _ _ _ _ _ us hl => match us, hl with | [_], _ => rfl
  have OS : OexC K (ecOf mg "BadSize") := by
    rw [qE5]
    exact ⟨⟨_, _, _, _, _, _, _, _, _, _, _, _, _, _, _, xLS, by show PySem.HandSPX.refsVE [.type "ValueError", .type "Exception", .type "BaseException", .type "object"] = true; decide +kernel⟩, saS, eCS, tyS, kCS⟩
  have ErS : ErrC K (ecOf mg "BadSize") := by
    rw [qE5]
    exact ⟨xcS, gaS, ggS, eCS, ccS, gsX, tkX, moS, hxS⟩
  have FIW : Fun K "__init__" "TooWide.__init__" sInitTooWide fIW _ := ⟨⟨_, _, _, _, _, _, _, _, _, rfl, lIW, cIW⟩, kIW⟩
  have bIW := FIW.binds (ps := ["self", "most"]) fun _ _ _ _ _ _ us hl => match us, hl with | [_, _], _ => rfl
  have OW : OexC K (ecOf mg "TooWide") := by
    rw [qE18]
    exact ⟨⟨_, _, _, _, _, _, _, _, _, _, _, _, _, _, _, xLW, by show PySem.HandSPX.refsVE [.type "ValueError", .type "Exception", .type "BaseException", .type "object"] = true; decide +kernel⟩, saW, eCW, tyW, kCW⟩
  have ErW : ErrC K (ecOf mg "TooWide") := by
    rw [qE18]
    exact ⟨xcW, gaW, ggW, eCW, ccW, gsX, tkX, moW, hxW⟩
  have KD : Kd K mg (ecOf mg) ["BadPattern", "BadSize", "TooWide"] cP cM := ⟨ns_of X G _ _ nE, cl_of X G _ _ nE kE kE2, by decide +kernel, List.forall_mem_cons.mpr ⟨ErP, List.forall_mem_cons.mpr ⟨ErS, List.forall_mem_cons.mpr ⟨ErW, fun _ z => nomatch z⟩⟩⟩, List.forall_mem_cons.mpr ⟨by rw [qE6]; exact wdP, List.forall_mem_cons.mpr ⟨by rw [qE5]; exact wdS, List.forall_mem_cons.mpr ⟨by rw [qE18]; exact wdW, fun _ z => nomatch z⟩⟩⟩, List.forall_mem_cons.mpr ⟨by rw [qE6]; exact sub_of X G _ _ nE suP, List.forall_mem_cons.mpr ⟨by rw [qE5]; exact sub_of X G _ _ nE suS, List.forall_mem_cons.mpr ⟨by rw [qE18]; exact sub_of X G _ _ nE suW, fun _ z => nomatch z⟩⟩⟩, List.forall_mem_cons.mpr ⟨by rw [qE9]; exact bx1, List.forall_mem_cons.mpr ⟨by rw [qE12]; exact bx2, List.forall_mem_cons.mpr ⟨by rw [qE18]; exact bx3, fun _ z => nomatch z⟩⟩⟩, PySem.W.mg_of X G aP, PySem.W.mg_of X G aMi, List.forall_mem_cons.mpr ⟨by rw [qE6, qE22]; exact anP, List.forall_mem_cons.mpr ⟨by rw [qE5, qE22]; exact anS, List.forall_mem_cons.mpr ⟨by rw [qE18, qE22]; exact anW, fun _ z => nomatch z⟩⟩⟩⟩
  have BP : MkBadPattern K mg (ecOf mg "BadPattern") fIP _ := ⟨OP, by rw [qE6]; exact iCP, tIP, FIP, bIP, by rw [qE6]; exact gE6, by rw [qE6]; exact wdP⟩
  have BS : MkBadSize K mg (ecOf mg "BadSize") fIS _ := ⟨OS, by rw [qE5]; exact iCS, tIS, FIS, bIS, by rw [qE5]; exact gE5, by rw [qE5]; exact wdS⟩
  have BW : MkTooWide K mg (ecOf mg "TooWide") fIW _ := ⟨OW, by rw [qE18]; exact iCW, tIW, FIW, bIW, by rw [qE18]; exact gE18, by rw [qE18]; exact wdW, by rw [qE18]; exact wmW⟩
  have Ct : Cst mg := ⟨⟨_, PySem.W.mg_of X G g1⟩, ⟨_, PySem.W.mg_of X G g2⟩, ⟨_, PySem.W.mg_of X G g3⟩, ⟨_, PySem.W.mg_of X G g4⟩⟩
  refine ⟨_, [(cL, tb), (cLn_, tbLn), (cUn_, tbUn)], spLaw K tb tbLn tbUn, ?_, ?_, ?_, fun s v => .of_eq rfl, fun H a ns hl hb hH hS => ⟨a, ns, rfl, hS, hH (cL, tb) List.mem_cons_self, hH (cLn_, tbLn) (List.mem_cons_of_mem _ List.mem_cons_self), hH (cUn_, tbUn) (List.mem_cons_of_mem _ (List.mem_cons_of_mem _ List.mem_cons_self)), fun _ => rfl⟩, fun base KB GB TB =>
    ok_law lL c2L lLn cLn bLn NLn kLn lUn cUn bUn NUn kUn ⟨FB, bB, NB⟩ ⟨FPu, bPu, NPu⟩ ⟨FO, bO, NO⟩ ⟨FSm, bSm, NSm⟩ ⟨FKn, bKn, NKn⟩ ⟨FTo, bTo, NTo⟩ ⟨FIp, bIp, NIp⟩ ⟨FNg, bNg, NNg⟩ ⟨FGo, bGo, NGo⟩ ⟨FLe, bLe, NLe⟩ ⟨FPa, bPa, NPa⟩ ⟨FLl, bLl, NLl⟩ ⟨FLw, bLw, NLw⟩
      BP BS BW Ct KD ⟨y_isinstance, y_list, y_tuple, y_bool, y_int, y_str, y_len, y_all, y_zip⟩ y_range y_max (TB (cL, tb) List.mem_cons_self) (TB (cLn_, tbLn) (List.mem_cons_of_mem _ List.mem_cons_self)) (TB (cUn_, tbUn) (List.mem_cons_of_mem _ (List.mem_cons_of_mem _ List.mem_cons_self))) n1 n2 n3⟩
  · exact List.forall_mem_cons.mpr ⟨own _ _ _ _ _ _ _ _ lL rfl rfl clL v11, List.forall_mem_cons.mpr ⟨etLn, List.forall_mem_cons.mpr ⟨etUn, fun _ z => nomatch z⟩⟩⟩
  · exact List.forall_mem_cons.mpr ⟨ntb, List.forall_mem_cons.mpr ⟨ntbLn, List.forall_mem_cons.mpr ⟨ntbUn, fun _ z => nomatch z⟩⟩⟩
  · exact List.forall_mem_cons.mpr ⟨PySem.W.codeHd_of_K X hdL, List.forall_mem_cons.mpr ⟨PySem.W.codeHd_of_K X hdLn, List.forall_mem_cons.mpr ⟨PySem.W.codeHd_of_K X hdUn, fun _ z => nomatch z⟩⟩⟩
end Onp
open PySem PySem.W PyProof.Rows
set_option maxRecDepth 100000 in
set_option maxHeartbeats 0 in
theorem PySem.Challenge.cw_onepurse_k10_patterns_gone_so_often_holds : PySem.Challenge.rw_onepurse_k10_patterns_gone_so_often.Holds := by
  w_on; o_law; k_head; (case hw => w_witness2)
  k_fill
  refine LamX.walk_ofOwn (l := PySem.Challenge.rw_onepurse_k10_patterns_gone_so_often) (n := 63) (k := 8) (x := "_law_script") (CX := fun _ => L2.CX0) rfl (by decide) rfl ⟨rfl, by decide, by decide⟩ (by decide +kernel) (fun w h Y => PySem.W.km_in_of Y) ?F (fun _ _ _ _ _ h => h)
  case F =>
    intro w mg fa h Y KX G hmg own
    refine' Onp.all_mk KX G hmg own ?aB ?lB ?cB ?kB ?aPu ?lPu ?cPu ?kPu ?aO ?lO ?cO ?kO ?aSm ?lSm ?cSm ?kSm ?aKn ?lKn ?cKn ?kKn ?aTo ?lTo ?cTo ?kTo ?aIp ?lIp ?cIp ?kIp ?aNg ?lNg ?cNg ?kNg ?aGo ?lGo ?cGo ?kGo ?aLe ?lLe ?cLe ?kLe ?aPa ?lPa ?cPa ?kPa ?aLl ?lLl ?cLl ?kLl ?aLw ?lLw ?cLw ?kLw ?aL ?lL ?c2L ?clL ?v11 ?ntb ?hdL ?aLn ?lLn ?cLn ?kLn ?clLn ?v11Ln ?ntbLn ?hdLn ?etLn ?aUn ?lUn ?cUn ?kUn ?clUn ?v11Un ?ntbUn ?hdUn ?etUn ?g1 ?g2 ?g3 ?g4 ?n1 ?n2 ?n3 ?z_isinstance ?z_list ?z_tuple ?z_bool ?z_int ?z_str ?z_len ?z_all ?z_zip ?z_range ?z_max ?nE ?kE ?kE2 ?bx1 ?bx2 ?bx3 ?aP ?aMi ?xLP ?saP ?eCP ?tyP ?kCP ?iCP ?tIP ?lIP ?cIP ?kIP ?wdP ?xcP ?gaP ?ggP ?ccP ?moP ?hxP ?suP ?anP ?xLS ?saS ?eCS ?tyS ?kCS ?iCS ?tIS ?lIS ?cIS ?kIS ?wdS ?xcS ?gaS ?ggS ?ccS ?moS ?hxS ?suS ?anS ?xLW ?saW ?eCW ?tyW ?kCW ?iCW ?tIW ?lIW ?cIW ?kIW ?wdW ?xcW ?gaW ?ggW ?ccW ?moW ?hxW ?suW ?anW ?wmW ?gsX ?tkX
    (case aB => k_is)
    (case lB => k_is)
    (case cB => k_is)
    (case kB => k_is)
    (case aPu => k_is)
    (case lPu => k_is)
    (case cPu => k_is)
    (case kPu => k_is)
    (case aO => k_is)
    (case lO => k_is)
    (case cO => k_is)
    (case kO => k_is)
    (case aSm => k_is)
    (case lSm => k_is)
    (case cSm => k_is)
    (case kSm => k_is)
    (case aKn => k_is)
    (case lKn => k_is)
    (case cKn => k_is)
    (case kKn => k_is)
    (case aTo => k_is)
    (case lTo => k_is)
    (case cTo => k_is)
    (case kTo => k_is)
    (case aIp => k_is)
    (case lIp => k_is)
    (case cIp => k_is)
    (case kIp => k_is)
    (case aNg => k_is)
    (case lNg => k_is)
    (case cNg => k_is)
    (case kNg => k_is)
    (case aGo => k_is)
    (case lGo => k_is)
    (case cGo => k_is)
    (case kGo => k_is)
    (case aLe => k_is)
    (case lLe => k_is)
    (case cLe => k_is)
    (case kLe => k_is)
    (case aPa => k_is)
    (case lPa => k_is)
    (case cPa => k_is)
    (case kPa => k_is)
    (case aLl => k_is)
    (case lLl => k_is)
    (case cLl => k_is)
    (case kLl => k_is)
    (case aLw => k_is)
    (case lLw => k_is)
    (case cLw => k_is)
    (case kLw => k_is)
    (case aL => k_is)
    (case lL => k_is)
    (case c2L => k_is)
    (case clL => k_is)
    (case v11 => rfl)
    (case ntb => rfl)
    (case hdL => kernel_rfl)
    (case aLn => k_is)
    (case lLn => k_is)
    (case cLn => k_is)
    (case kLn => k_is)
    (case clLn => k_is)
    (case v11Ln => rfl)
    (case ntbLn => rfl)
    (case hdLn => kernel_rfl)
    (case etLn => exact PySem.W.km_tabs_of Y _ (by decide))
    (case aUn => k_is)
    (case lUn => k_is)
    (case cUn => k_is)
    (case kUn => k_is)
    (case clUn => k_is)
    (case v11Un => rfl)
    (case ntbUn => rfl)
    (case hdUn => kernel_rfl)
    (case etUn => exact PySem.W.km_tabs_of Y _ (by decide))
    (case g1 => first | k_is | decide)
    (case g2 => first | k_is | decide)
    (case g3 => first | k_is | decide)
    (case g4 => first | k_is | decide)
    (case n1 => first | k_is | decide)
    (case n2 => first | k_is | decide)
    (case n3 => first | k_is | decide)
    (case z_isinstance => k_is)
    (case z_list => k_is)
    (case z_tuple => k_is)
    (case z_bool => k_is)
    (case z_int => k_is)
    (case z_str => k_is)
    (case z_len => k_is)
    (case z_all => k_is)
    (case z_zip => k_is)
    (case z_range => k_is)
    (case z_max => k_is)
    (case nE => (iterate 23 (refine And.intro ?_ ?_; focus k_is)); exact True.intro)
    (case kE => (iterate 23 (refine And.intro ?_ ?_; focus k_is)); exact True.intro)
    (case kE2 => (iterate 23 (refine And.intro ?_ ?_; focus k_is)); exact True.intro)
    (case bx1 => k_is)
    (case bx2 => k_is)
    (case bx3 => k_is)
    (case aP => k_is)
    (case aMi => k_is)
    (case xLP => k_is)
    (case saP => k_is)
    (case eCP => k_is)
    (case tyP => k_is)
    (case kCP => k_is)
    (case iCP => k_is)
    (case tIP => k_is)
    (case lIP => k_is)
    (case cIP => k_is)
    (case kIP => k_is)
    (case wdP => k_is)
    (case xcP => k_is)
    (case gaP => k_is)
    (case ggP => k_is)
    (case ccP => k_is)
    (case moP => k_is)
    (case hxP => k_is)
    (case suP => (iterate 23 (refine And.intro ?_ ?_; focus k_is)); exact True.intro)
    (case anP => kernel_rfl)
    (case xLS => k_is)
    (case saS => k_is)
    (case eCS => k_is)
    (case tyS => k_is)
    (case kCS => k_is)
    (case iCS => k_is)
    (case tIS => k_is)
    (case lIS => k_is)
    (case cIS => k_is)
    (case kIS => k_is)
    (case wdS => k_is)
    (case xcS => k_is)
    (case gaS => k_is)
    (case ggS => k_is)
    (case ccS => k_is)
    (case moS => k_is)
    (case hxS => k_is)
    (case suS => (iterate 23 (refine And.intro ?_ ?_; focus k_is)); exact True.intro)
    (case anS => kernel_rfl)
    (case xLW => k_is)
    (case saW => k_is)
    (case eCW => k_is)
    (case tyW => k_is)
    (case kCW => k_is)
    (case iCW => k_is)
    (case tIW => k_is)
    (case lIW => k_is)
    (case cIW => k_is)
    (case kIW => k_is)
    (case wdW => k_is)
    (case xcW => k_is)
    (case gaW => k_is)
    (case ggW => k_is)
    (case ccW => k_is)
    (case moW => k_is)
    (case hxW => k_is)
    (case suW => (iterate 23 (refine And.intro ?_ ?_; focus k_is)); exact True.intro)
    (case anW => kernel_rfl)
    (case wmW => k_is)
    (case gsX => k_is)
    (case tkX => k_is)
