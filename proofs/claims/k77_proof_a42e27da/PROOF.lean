import PyProof.Rows.All
import Wide.All
import OpenK.AllK
import Wide.FinOn
import HandS.Head0
import HandS.Head1
import HandS.Head2
import HandS.HeadHook1
import HandS.HeadHook2
import HandS.HeadHook3
import HandS.HeadHook4
import PyProof.MaxThree
import HandS.Base
import HandS.Call
import HandS.List
import HandS.Comp
import HandS.Ends
import HandS.Iter
import HandS.Text
import HandS.Words
import HandS.Wide
import HandS.Codes
import HandS.Strs
import PyProof.ZipIter
import HandS.Exc
import HandS.Hot
import HandS.HotCalls
import KE.KTurns
import HandS.ExcOwn
import HandS.ExcCtx
import HandS.ExcInit
import HandS.ExcIs
import HandS.ExcField
import KE.KExcIs
import HandS.Lambda
import HandS.CallSlots
import HandS.ForMost
import KE.KExcInit
import PyProof.ExcBaseAll.LookupError
import PyProof.ExcBaseAll.IndexError
import KE.KStateDown
import HandS.Defaults
import HandS.HeadEnd
import HandS.HeadWalk
import KE.KNestM
import PyProof.StrOps2
import PyProof.ListStr
import KE.GoesEnum
import HandS.Walk
import HandS.TupSets
import HandS.Dict
import HandS.SetKeys
import KE.SortData
import PyProof.ListCopy
import HandS.SortInts
import HandS.Zip
import PyProof.DictMoreH
import HandS.MakeKw
import HandS.Deep
import HandS.Style
import KE.KDictZip
import HandS.Star
import HandS.AnyAll
import HandS.TupAny
import KE.KDflt
import HandS.IsInst
import HandS.DictComp
import KE.KDictKeyed
import HandS.TupLen
import PyProof.Rows.TupDisplay
import HandS.SetFor
import HandS.MakeKwOnly
import HandS.Steps
import HandS.Conv
import PySem.Challenge.RW_onepurse_k77_first_dear_words_that_are_l
set_option Elab.async false
set_option linter.all false
set_option maxRecDepth 100000
set_option maxHeartbeats 4000000
set_option autoImplicit false
/-! the look at what the top has left, in parts: each part runs the top anew, so that none wants much memory -/
namespace Onp
open PySem PySem.Spec PyProof.Rows L2
theorem obs_join {n : Nat} {fa1 fa2 : List He.Fa} {fn1 fn2 : List He.DefD} {tf : List He.Defn} {ex : PySem.W.Frag → Bool} {g : Addr → Option Obj} {w : World} (h1 : He.obsX n fa1 fn1 [] [] (fun _ => true) g = He.valX fn1 [] w) (h2 : He.obsX n fa2 fn2 [] tf ex g = He.valX fn2 [] w) :
    He.obsX n (fa1 ++ fa2) (fn1 ++ fn2) [] tf ex g = He.valX (fn1 ++ fn2) [] w := by
  unfold He.obsX He.valX He.obsT He.valT He.obsD He.valD at *
  simp only [Prod.mk.injEq, List.map_nil, and_true, Bool.and_eq_true] at h1 h2 ⊢
  obtain ⟨⟨a1, a2⟩, _⟩ := h1
  obtain ⟨⟨b1, b2⟩, b3⟩ := h2
  refine ⟨⟨⟨?_, ?_⟩, ?_⟩, b3⟩
  · rw [List.all_append, a1.1, b1.1]
    rfl
  · rw [List.all_append, a1.2, b1.2]
    rfl
  · rw [List.map_append, List.map_append, a2, b2]
theorem map_two {σ α β : Type} {x : Option σ} {f : σ → α} {g : σ → β} {a : α} {b : β} (h : x.map f = some a) (h' : x.map g = some b) : x.map (fun s => (f s, g s)) = some (a, b) := by
  cases x with
  | none => cases h
  | some s => exact congrArg some (Prod.ext (Option.some.inj h) (Option.some.inj h'))
theorem map_three {σ α β γ : Type} {x : Option σ} {f : σ → α} {g : σ → β} {k : σ → γ} {a : α} {b : β} {c : γ} (h : x.map f = some a) (h' : x.map g = some b) (h'' : x.map k = some c) : x.map (fun s => (f s, g s, k s)) = some (a, b, c) :=
  map_two h (map_two h' h'')
theorem map_obs {σ : Type} {x : Option σ} {t : σ → Addr → Option Obj} {n : Nat} {fa1 fa2 : List He.Fa} {fn1 fn2 : List He.DefD} {tf : List He.Defn} {ex : PySem.W.Frag → Bool} {w : World}
    (h1 : x.map (fun s => He.obsX n fa1 fn1 [] [] (fun _ => true) (t s)) = some (He.valX fn1 [] w)) (h2 : x.map (fun s => He.obsX n fa2 fn2 [] tf ex (t s)) = some (He.valX fn2 [] w)) :
    x.map (fun s => He.obsX n (fa1 ++ fa2) (fn1 ++ fn2) [] tf ex (t s)) = some (He.valX (fn1 ++ fn2) [] w) := by
  cases x with
  | none => cases h1
  | some s => exact congrArg some (obs_join (Option.some.inj h1) (Option.some.inj h2))
end Onp
/-! rules of my own: o[i] read by values (for o[i] += e), max of three ints, max of a tuple of ints -/
namespace Onp
open PySem PySem.Spec PyProof.Rows L2
section
variable {X : Cx}
def rGetL (K : PySem.W.Frag) : V → V → Hp → VK → Prop := fun x y H Q => ∃ p xs, ∃ (j : Nat), ∃ v, x = .ref p ∧ y = .int (j : Int) ∧ SqL K H p xs ∧ xs[j]? = some v ∧ Q v H
theorem get_list : PGet X (rGetL X.K) := by
  intro pins s σ H o i ov iv Q I ro ri h
  obtain ⟨p, xs, j, v, rfl, rfl, hq, hx, q⟩ := h
  cases ro
  obtain ⟨t, rfl⟩ := ri
  obtain ⟨its, r, pl, hz⟩ := I.list hq
  obtain ⟨w, ew, rw'⟩ := r.get hx
  have hl := r.length
  have hn := line63
  have hj : j < xs.length := (List.getElem?_eq_some_iff.mp hx).1
  exact wpAny_getItem_list pl.isList (by omega) (by omega) (by simpa using ew) ⟨v, H, I, rw', q⟩
theorem vals3 {x y z : V} {us : List Value} (r : Vals [x, y, z] us) : ∃ u w' v', us = [u, w', v'] ∧ RelV x u ∧ RelV y w' ∧ RelV z v' := by
  cases r with
  | cons r1 r2 =>
    cases r2 with
    | cons r3 r4 =>
      cases r4 with
      | cons r5 r6 =>
        cases r6
        exact ⟨_, _, _, rfl, r1, r3, r5⟩
theorem call_max3 (hc : X.calm = true) : CallR X (.builtin "max") (fun xs H Q => ∃ i j k : Int, xs = [.int i, .int j, .int k] ∧ Q (.int (max (max i j) k)) H) := by
  intro pins s σ H xs us Q I r h
  obtain ⟨i, j, k, rfl, q⟩ := h
  obtain ⟨u, w', v', rfl, ⟨t, rfl⟩, ⟨t', rfl⟩, ⟨t'', rfl⟩⟩ := vals3 r
  refine max_three_ints (I.ok.hd hc) fun h' tk k' => ⟨_, H, I.kept k', ?_, q⟩
  by_cases h1 : j > i
  · rw [if_pos h1]
    by_cases h2 : k > j
    · rw [if_pos h2]
      exact ⟨_, by rw [show max (max i j) k = k by omega]⟩
    · rw [if_neg h2]
      exact ⟨_, by rw [show max (max i j) k = j by omega]⟩
  · rw [if_neg h1]
    by_cases h2 : k > i
    · rw [if_pos h2]
      exact ⟨_, by rw [show max (max i j) k = k by omega]⟩
    · rw [if_neg h2]
      exact ⟨_, by rw [show max (max i j) k = i by omega]⟩
/-- max(t) of a tuple of ints -/
theorem max_tupRaw {prog : Program} {w : World} {A : Around} {E : Value → Shared → Prop} {s : Shared} {l : Addr} {xs : Array (Int × Tok)} {Q : Value → Shared → Prop} (hh : A.handled = none) (hl : s.heap.IsTuple l (intItems xs)) (hne : 0 < xs.size)
    (h : ∀ v h' tk, (intItems xs)[argBest (fun i j => decide (numAt xs i > numAt xs j)) (xs.size - 1)]? = some v → (∀ b o, s.heap.get? b = some o → h'.get? b = some o) → Q v { s with heap := h', toks := tk }) :
    wpAny (model prog w) A (call (.builtin "max") [.ref l]) Q E s := by
  have hlt : l < s.heap.objs.size := by obtain ⟨_, e, _⟩ := hl; exact Heap.lt_size e
  refine call_max_walk (wpAny_pyIter_tuple hl ?_)
  refine ⟨_, [s.heap.objs.size, l], [s.heap.objs.size], _, _, _, _, rfl, Walks.tuple (A := A.in1) hh _ l (Nat.ne_of_lt hlt) (intItems xs), ⟨⟨_, Heap.get?_push_size _ rfl, rfl, rfl⟩, hl.push _⟩, fun b hb => ?_, by simpa [intItems] using hne, CmpOf.ints_gt (numAt xs) (fun _ _ => intItems_at), fun v h' tk hP hk => ?_⟩
  · show b < (s.heap.push _).objs.size
    rw [Heap.size_push]
    rcases List.mem_cons.mp hb with rfl | hb
    · exact Nat.lt_succ_self _
    · rcases List.mem_cons.mp hb with rfl | hb
      · exact Nat.lt_succ_of_lt hlt
      · cases hb
  · refine h v h' tk (by simpa [intItems] using hP) fun b o e => ?_
    refine hk b o (fun hm => ?_) (Heap.get?_push_of_some _ e)
    rcases List.mem_cons.mp hm with e1 | hm
    · exact absurd (e1 ▸ Heap.lt_size e) (Nat.lt_irrefl _)
    · cases hm
def rMaxT (K : PySem.W.Frag) : List V → Hp → VK → Prop := fun vs H Q => ∃ (a : Addr) (ns : List Int), vs = [V.ref a] ∧ SqT K H a (ns.map V.int) ∧ 0 < ns.length ∧ ∀ m, m ∈ ns → (∀ y, y ∈ ns → y ≤ m) → Q (.int m) H
theorem cr_maxT (hc : X.calm = true) : CallR X (.builtin "max") (rMaxT X.K) := by
  intro pins s σ H vs us Q I r h
  obtain ⟨a, ns, rfl, hs, hne, q⟩ := h
  obtain ⟨its, rv, ht, _⟩ := I.tuple hs
  rw [Vals.ref1 r]
  have hi := rv.ints
  obtain ⟨xs, e⟩ := hi.allInts.items
  have hn : numsOf (intItems xs).toList = ns := by rw [← e]; exact hi.numsOf
  rw [nums_intItems] at hn
  subst hn
  have hl : s.heap.IsTuple a its.toArray := ht
  rw [e] at hl
  have hsz : 0 < xs.size := by simpa using hne
  refine max_tupRaw (I.ok.hd hc) hl hsz fun v h' tk hv hk => ?_
  obtain ⟨t, rfl⟩ := intItems_at hv
  obtain ⟨h1, h2⟩ := argBest_gt (numAt xs) (xs.size - 1)
  refine ⟨.int _, H, I.kept hk, ⟨_, rfl⟩, q _ ?_ fun a ha => ?_⟩
  · rw [numAt_eq]; exact PySem.getD_mem (by rw [List.length_map, Array.length_toList]; omega)
  · obtain ⟨j, hj, rfl⟩ := mem_getD ha
    rw [List.length_map, Array.length_toList] at hj
    rw [← numAt_eq]; exact h2 j (by omega)
end
end Onp
set_option maxHeartbeats 4000000
namespace Onp
open PySem PySem.Spec PyProof.Rows L2
def topS (i : Nat) : Stmt := PySem.Challenge.pw_onepurse_k77_first_dear_words_that_are_l.main.body.getD i (.Pass ⟨0, 0, 0, 0⟩)
abbrev sBag : Stmt := topS 45
abbrev sPull : Stmt := topS 46
/-! ### heaps: all but b stays -/
def Keep (b : Addr) (H H' : Hp) : Prop := ∀ a o, a ≠ b → H a = some o → H' a = some o
theorem Keep.refl {b : Addr} (H : Hp) : Keep b H H := fun _ _ _ h => h
theorem Keep.trans {b : Addr} {H H1 H2 : Hp} (x : Keep b H H1) (y : Keep b H1 H2) : Keep b H H2 := fun a o n h => y a o n (x a o n h)
theorem Keep.of {b : Addr} {H H' : Hp} (s : Same H H') : Keep b H H' := fun a o _ h => s a o h
theorem Keep.upd {b : Addr} {H : Hp} {o : HO} : Keep b H (upd H b o) := fun a x n h => by rw [upd_ne n]; exact h
theorem same_upd {H : Hp} {p : Addr} {o : HO} (h : H p = none) : Same H (upd H p o) := fun b x e => by
  rw [upd_ne (ne_of_none e h)]
  exact e
theorem Keep.new {b p : Addr} {H : Hp} {o : HO} (h : H p = none) : Keep b H (L2.upd H p o) := .of (same_upd h)
theorem Keep.seqL {K : PySem.W.Frag} {b a : Addr} {H H' : Hp} {xs : List V} (k : Keep b H H') (n : a ≠ b) (h : SqL K H a xs) : SqL K H' a xs := by
  rcases h with (h | ⟨o, h⟩) | h
  · exact .inl (.inl (k _ _ n h))
  · exact .inl (.inr ⟨o, k _ _ n h⟩)
  · exact .inr h
theorem Keep.seqT {K : PySem.W.Frag} {b a : Addr} {H H' : Hp} {xs : List V} (k : Keep b H H') (n : a ≠ b) (h : SqT K H a xs) : SqT K H' a xs := by
  rcases h with (h | ⟨o, h⟩) | h
  · exact .inl (.inl (k _ _ n h))
  · exact .inl (.inr ⟨o, k _ _ n h⟩)
  · exact .inr h
theorem same_seqT {K : PySem.W.Frag} {H H' : Hp} {a : Addr} {xs : List V} (e : Same H H') (h : SqT K H a xs) : SqT K H' a xs := by
  rcases h with (h | ⟨o, h⟩) | h
  · exact .inl (.inl (e _ _ h))
  · exact .inl (.inr ⟨o, e _ _ h⟩)
  · exact .inr h
theorem itT {c A B : Prop} [Decidable c] (hc : c) (h : A) : if decide c = true then A else B := by
  rw [if_pos (decide_eq_true hc)]; exact h
theorem itF {c A B : Prop} [Decidable c] (hc : ¬ c) (h : B) : if decide c = true then A else B := by
  rw [if_neg (by rw [decide_eq_false hc]; decide)]; exact h
/-! ### the bag: where it stands, where its list stands, the list -/
structure Bid where
  b : Addr
  l : Addr
  ns : List Int
def bagV (l : Addr) (i : Nat) (r s c : Int) : HO := .lst [.ref l, .int i, .int r, .int s, .int c]
def Bg (H : Hp) (g : Bid) : Prop := ∃ (i : Nat) (r s c : Int), H g.b = some (bagV g.l i r s c) ∧ H g.l = some (.lst (g.ns.map V.int)) ∧ g.l ≠ g.b
theorem Bg.same {H H' : Hp} {g : Bid} (x : Bg H g) (s : Same H H') : Bg H' g := by
  obtain ⟨i, r, z, c, h1, h2, h3⟩ := x
  exact ⟨i, r, z, c, s _ _ h1, s _ _ h2, h3⟩
theorem Bg.new {H : Hp} {g : Bid} {p : Addr} {o : HO} (x : Bg H g) (h : H p = none) : Bg (upd H p o) g := x.same (same_upd h)
theorem Bg.ne {H : Hp} {g : Bid} {p : Addr} (x : Bg H g) (h : H p = none) : p ≠ g.b := by
  obtain ⟨i, r, z, c, h1, h2, h3⟩ := x
  exact (ne_of_none h1 h).symm
theorem Bg.neL {H : Hp} {g : Bid} {p : Addr} (x : Bg H g) (h : H p = none) : p ≠ g.l := by
  obtain ⟨i, r, z, c, h1, h2, h3⟩ := x
  exact (ne_of_none h2 h).symm
theorem Bg.put {H : Hp} {g : Bid} {p : Addr} {o : HO} (x : Bg H g) (h1 : p ≠ g.b) (h2 : p ≠ g.l) : Bg (upd H p o) g := by
  obtain ⟨i, r, z, c, e1, e2, e3⟩ := x
  exact ⟨i, r, z, c, by rw [upd_ne h1.symm]; exact e1, by rw [upd_ne h2.symm]; exact e2, e3⟩
theorem cut63 (xs : List V) : cutV xs none (some 63) = xs.take 63 := by
  unfold cutV
  rw [HT.sIx_none, show HT.sIx xs.length xs.length (some 63) = min 63 xs.length from HT.sIx_nat xs.length xs.length 63]
  rw [List.drop_zero, Nat.sub_zero]
  by_cases h : xs.length ≤ 63
  · rw [List.take_of_length_le h, List.take_of_length_le (by omega)]
  · rw [show min 63 xs.length = 63 by omega]
section
variable {P : Program} {w : World} {K : PySem.W.Frag} {mg : Str → Option Value} {base : Heap}
def spBag (K : PySem.W.Frag) : Sp := fun vs H Q _ => ∃ (a : Addr) (ns : List Int), vs = [.ref a] ∧ SqL K H a (ns.map V.int) ∧
  ∀ (g : Bid) H', H g.b = none → Same H H' → Bg H' g → Q (.ref g.b) H'
theorem scBag : FnScope ["_law_script", "_law_seed", "_law_cell"] ["_law_script"] (defScope sBag) := ⟨rfl, rfl, rfl, by decide +kernel, rfl, by decide +kernel, by decide +kernel⟩
theorem ok_bag {f : Addr} {fd : FuncData} {k : Nat} (F : Fun K "_law_bag" "_law_bag" sBag f fd) (ml : mg "list" = none) : FnOk P w K mg base CX0 (k + 1) f fd ["_law_script"] (spBag K) := by
  refine F.ok scBag (fun vs H Q E h => ?_) (fun cdv A outer s H vs Q E hr h => ?_)
  · obtain ⟨a, ns, rfl, _⟩ := h
    rfl
  · obtain ⟨a, ns, rfl, hS, q⟩ := h
    refine ⟨_, pss_cons (ps_set (i := 1) scBag.nd rfl (.inl rfl) pe_int)
      (pss_cons (ps_for PassesOwn.never rfl (pi_list (pe_slice sl_list (pv 0) po_none (po_some pe_int))) (pg_name (i := 2) scBag.nd rfl (.inl rfl))
        (pss_one (ps_set (i := 1) scBag.nd rfl (.inl rfl) (pe_op op_mod (pe_op op_add (pe_op op_add (pe_op op_mul (pv 1) pe_int) (pv 2)) pe_int) pe_int))))
      (pss_one (ps_ret (pe_lst (pa_cons (pe_callTy call_list_of (by rfl) ml (by decide +kernel) (pa_cons (pe_slice sl_list (pv 0) po_none (po_some pe_int)) pa_nil))
        (pa_cons pe_int (pa_cons pe_int (pa_cons (pv 1) (pa_cons pe_int pa_nil))))))))), ?_⟩
    refine ⟨.ref a, rfl, 63, rfl, a, ns.map V.int, rfl, hS, fun p np => ?_⟩
    have s1 : Same H (upd H p (.lst (cutV (ns.map V.int) none (some 63)))) := same_upd np
    refine ⟨p, rfl, ⟨_, SqL.of upd_same⟩, for_list (K := K) (a := p) (xs := cutV (ns.map V.int) none (some 63))
      (fun i σ H' => ∃ (z : Int) (y : Option V), σ = [some (.ref a), some (.int z), y] ∧ H' = upd H p (.lst (cutV (ns.map V.int) none (some 63))))
      ⟨37, none, rfl, rfl⟩ (fun i σ H' _ ⟨z, y, _, e⟩ => by rw [e]; exact SqL.of upd_same) ?_ ?_⟩
    · rintro i x σ H' hi ⟨z, y, rfl, rfl⟩
      obtain ⟨n, rfl⟩ : ∃ n, x = V.int n := by
        rw [cut63, ← List.map_take, List.getElem?_map] at hi
        cases e : (ns.take 63)[i]? with
        | none => rw [e] at hi; cases hi
        | some u => rw [e] at hi; exact ⟨u, (Option.some.inj hi).symm⟩
      exact ⟨_, rfl, _, _, rfl, rfl, .inr ⟨by decide, by decide⟩, _, rfl, _, _, rfl, rfl, _, _, rfl, rfl, _, _, rfl, rfl, (by show (0 : Int) < 2147483629; decide), _, _, rfl, rfl⟩
    · rintro σ H' ⟨z, y, rfl, rfl⟩
      refine ⟨.ref a, rfl, 63, rfl, a, ns.map V.int, rfl, s1.seq hS, fun p2 np2 => ?_⟩
      refine ⟨p2, _, rfl, .inl (SqL.of upd_same), fun l nl => ?_⟩
      refine ⟨_, rfl, (by show 5 ≤ sizeLine; decide), fun b nb => ?_⟩
      have s2 := s1.trans (same_upd (o := .lst (cutV (ns.map V.int) none (some 63))) np2)
      have s3 := s2.trans (same_upd (o := .lst (cutV (ns.map V.int) none (some 63))) nl)
      have s4 := s3.trans (same_upd (o := .lst [.ref l, .int 0, .int 0, .int z, .int 0]) nb)
      refine q ⟨b, l, ns.take 63⟩ _ (s3.free nb) s4 ⟨0, 0, z, 0, upd_same, ?_, ?_⟩
      · show upd _ b _ l = _
        rw [upd_ne (ne_of_none upd_same nb), upd_same, cut63, List.map_take]
      · exact ne_of_none upd_same nb
/-! ### pull -/
def spPull (K : PySem.W.Frag) : Sp := fun vs H Q _ => ∃ (g : Bid) (m : Int), vs = [.ref g.b, .int m] ∧ 0 < m ∧ m.natAbs < 2 ^ 200 ∧ Bg H g ∧
  ∀ (z : Int) H', 0 ≤ z → z < m → Keep g.b H H' → Bg H' g → Q (.int z) H'
theorem scPull : FnScope ["_law_bag_here", "_law_many", "_law_rest", "_law_cell", "_law_one", "_law_two"] ["_law_bag_here", "_law_many"] (defScope sPull) := ⟨rfl, rfl, rfl, by decide +kernel, rfl, by decide +kernel, by decide +kernel⟩
theorem upd_bag {H : Hp} {b : Addr} {o o' : HO} : Keep b H (upd (upd H b o) b o') := by
  rw [upd_upd]
  exact Keep.upd
theorem mod_lo {a m : Int} (h : 0 < m) : 0 ≤ a % m := Int.emod_nonneg _ (by omega)
theorem mod_hi {a m : Int} (h : 0 < m) : a % m < m := Int.emod_lt_of_pos _ h
theorem ok_pull {f : Addr} {fd : FuncData} {k : Nat} (F : Fun K "_law_pull" "_law_pull" sPull f fd) (ml : mg "len" = none) : FnOk P w K mg base CX0 (k + 1) f fd ["_law_bag_here", "_law_many"] (spPull K) := by
  refine F.ok scPull (fun vs H Q E h => ?_) (fun cdv A outer s H vs Q E hr h => ?_)
  · obtain ⟨a, ns, rfl, _⟩ := h
    rfl
  · obtain ⟨⟨b, l, ns⟩, m, rfl, m0, m1, ⟨i, r, sd, c, hb, hl0, nlb⟩, q⟩ := h
    have hl : SqL K H l (ns.map V.int) := SqL.of hl0
    refine ⟨_, pss_cons (ps_augS (pv 0) pe_int get_list pe_int ip_add set_list)
      (pss_cons (ps_if (pt_cmpR op_gt (pe_ix ix_list (pv 0) pe_int (fun _ _ => rfl)) pe_int (nomark _))
        (pss_cons (ps_set (i := 2) scPull.nd rfl (.inl rfl) (pe_ix ix_list (pv 0) pe_int (fun _ _ => rfl)))
        (pss_cons (ps_asg (pe_op op_fdivW (pv 2) (pv 1)) (pg_sub (pv 0) pe_int set_list))
        (pss_one (ps_ret (pe_op op_mod (pv 2) (pv 1)))))) pss_nil)
      (pss_cons (ps_set (i := 3) scPull.nd rfl (.inl rfl) (pe_ix ix_list (pv 0) pe_int (fun _ _ => rfl)))
      (C8.pss_cut (ps_if (pt_cmpR op_lt (pe_ix ix_list (pv 0) pe_int (fun _ _ => rfl)) (pe_callB call_len_seq (by rfl) ml PySem.boot_len (pa_cons (pe_ix ix_list (pv 0) pe_int (fun _ _ => rfl)) pa_nil)) (nomark _))
        (pss_cons (ps_set (i := 3) scPull.nd rfl (.inl rfl) (pe_ix ix_list (pe_ix ix_list (pv 0) pe_int (fun _ _ => rfl)) (pe_ix ix_list (pv 0) pe_int (fun _ _ => rfl)) (fun _ _ => rfl)))
        (pss_one (ps_augS (pv 0) pe_int get_list pe_int ip_add set_list))) pss_nil)
      (pss_cons (ps_if (pt_cmpR op_ge (pv 3) (pe_op op_pow pe_int pe_int) (nomark _))
        (pss_cons (ps_asg (pe_op op_fdivW (pv 3) (pv 1)) (pg_sub (pv 0) pe_int set_list))
        (pss_one (ps_ret (pe_op op_mod (pv 3) (pv 1))))) pss_nil)
      (pss_cons (ps_set (i := 4) scPull.nd rfl (.inl rfl) (pe_op op_mod (pe_op op_add (pe_op op_add (pe_op op_add (pe_op op_mul (pv 3) pe_int) (pe_op op_mul (pe_ix ix_list (pv 0) pe_int (fun _ _ => rfl)) pe_int)) (pe_op op_mul (pe_ix ix_list (pv 0) pe_int (fun _ _ => rfl)) pe_int)) pe_int) pe_int))
      (pss_cons (ps_set (i := 5) scPull.nd rfl (.inl rfl) (pe_op op_mod (pe_op op_add (pe_op op_add (pe_op op_mul (pv 4) (pe_op op_add (pe_op op_mod (pv 4) pe_int) pe_int)) (pe_op op_mul (pe_ix ix_list (pv 0) pe_int (fun _ _ => rfl)) pe_int)) (pe_op op_mod (pe_ix ix_list (pv 0) pe_int (fun _ _ => rfl)) pe_int)) pe_int))
      (pss_cons (ps_asg (pe_op op_mod (pe_op op_add (pe_op op_mul (pe_ix ix_list (pv 0) pe_int (fun _ _ => rfl)) pe_int) (pv 5)) pe_int) (pg_sub (pv 0) pe_int set_list))
      (pss_one (ps_ret (pe_op op_mod (pe_op op_fdiv (pv 5) pe_int) (pv 1))))))))))), ?_⟩
    -- bag[4] += 1
    refine ⟨.ref b, rfl, b, _, 4, .int c, rfl, rfl, SqL.of hb, rfl, c, 1, rfl, rfl, b, _, 4, 4, rfl, rfl, hb, rfl, ?_⟩
    -- if bag[2] > 0
    refine ⟨.ref b, rfl, b, _, 2, .int r, rfl, rfl, SqL.of upd_same, rfl, r, 0, rfl, rfl, _, rfl, ite2 (fun _ => ?_) (fun _ => ?_)⟩
    · refine ⟨.ref b, rfl, b, _, 2, .int r, rfl, rfl, SqL.of upd_same, rfl, ?_⟩
      refine ⟨_, rfl, _, rfl, r, m, rfl, rfl, wide_div m0 m1 (by decide) (by decide), .ref b, rfl, b, _, 2, 2, rfl, rfl, upd_same, rfl, ?_⟩
      refine ⟨_, rfl, _, rfl, r, m, rfl, rfl, m0, q _ _ (mod_lo m0) (mod_hi m0) upd_bag ⟨i, r / m, sd, c + 1, upd_same, ?_, nlb⟩⟩
      exact upd_bag _ _ nlb hl0
    · -- cell = bag[3]
      refine ⟨.ref b, rfl, b, _, 3, .int sd, rfl, rfl, SqL.of upd_same, rfl, ?_⟩
      refine ⟨fun σ H1 => ∃ (i' : Nat) (z : Int), σ = [some (.ref b), some (.int m), none, some (.int z), none, none] ∧ H1 = upd H b (bagV l i' r sd (c + 1)), ?_, ?_⟩
      · refine ⟨.ref b, rfl, b, _, 1, .int i, rfl, rfl, SqL.of upd_same, rfl, .ref b, rfl, b, _, 0, .ref l, rfl, rfl, SqL.of upd_same, rfl, l, ns.map V.int, rfl, .inl (Keep.upd.seqL nlb hl), i, ((ns.map V.int).length : Int), rfl, rfl, _, rfl, ite2 (fun hi => ?_) (fun _ => ?_)⟩
        · have hi' : i < ns.length := by
            have := of_decide_eq_true hi
            rw [List.length_map] at this
            omega
          have gi : (ns.map V.int)[i]? = some (.int ns[i]) := by
            rw [List.getElem?_map, List.getElem?_eq_getElem hi']
            rfl
          refine ⟨.ref b, rfl, b, _, 0, .ref l, rfl, rfl, SqL.of upd_same, rfl, .ref b, rfl, b, _, 1, .int i, rfl, rfl, SqL.of upd_same, rfl, l, ns.map V.int, i, .int ns[i], rfl, rfl, Keep.upd.seqL nlb hl, atI_nat gi, ?_⟩
          refine ⟨.ref b, rfl, b, _, 1, .int i, rfl, rfl, SqL.of upd_same, rfl, i, 1, rfl, rfl, b, _, 1, 1, rfl, rfl, upd_same, rfl, i + 1, ns[i], rfl, ?_⟩
          rw [upd_upd]
          rfl
        · exact ⟨i, sd, rfl, rfl⟩
      · rintro σ H1 ⟨i', z, rfl, rfl⟩
        have hb1 : (upd H b (bagV l i' r sd (c + 1))) b = some (bagV l i' r sd (c + 1)) := upd_same
        refine ⟨.int z, rfl, 10, 18, rfl, rfl, ⟨by decide, by decide, by decide⟩, z, _, rfl, rfl, _, rfl, ite2 (fun _ => ?_) (fun _ => ?_)⟩
        · refine ⟨_, rfl, _, rfl, z, m, rfl, rfl, wide_div m0 m1 (by decide) (by decide), .ref b, rfl, b, _, 2, 2, rfl, rfl, upd_same, rfl, ?_⟩
          refine ⟨_, rfl, _, rfl, z, m, rfl, rfl, m0, q _ _ (mod_lo m0) (mod_hi m0) upd_bag ⟨i', z / m, sd, c + 1, upd_same, ?_, nlb⟩⟩
          exact upd_bag _ _ nlb hl0
        · -- one
          refine ⟨_, rfl, _, _, rfl, rfl, .inr ⟨by decide, by decide⟩, .ref b, rfl, b, _, 3, .int sd, rfl, rfl, SqL.of upd_same, rfl, _, _, rfl, rfl, .inr ⟨by decide, by decide⟩, _, _, rfl, rfl, .ref b, rfl, b, _, 4, .int (c + 1), rfl, rfl, SqL.of upd_same, rfl, _, _, rfl, rfl, .inr ⟨by decide, by decide⟩, _, _, rfl, rfl, _, _, rfl, rfl, _, _, rfl, rfl, (by show (0 : Int) < 2147483629; decide), ?_⟩
          have o0 := mod_lo (a := z * 48271 + sd * 40503 + (c + 1) * 69621 + 9176) (m := 2147483629) (by decide)
          have o1 := mod_hi (a := z * 48271 + sd * 40503 + (c + 1) * 69621 + 9176) (m := 2147483629) (by decide)
          generalize hone : (z * 48271 + sd * 40503 + (c + 1) * 69621 + 9176) % 2147483629 = one at o0 o1
          -- two
          refine ⟨_, rfl, _, rfl, _, _, rfl, rfl, (by show (0 : Int) < 65521; decide), _, _, rfl, rfl, _, _, rfl, rfl, .inl ⟨?_, ?_⟩, .ref b, rfl, b, _, 4, .int (c + 1), rfl, rfl, SqL.of upd_same, rfl, _, _, rfl, rfl, .inr ⟨by decide, by decide⟩, _, _, rfl, rfl, .ref b, rfl, b, _, 3, .int sd, rfl, rfl, SqL.of upd_same, rfl, _, _, rfl, rfl, (by show (0 : Int) < 104729; decide), _, _, rfl, rfl, _, _, rfl, rfl, (by show (0 : Int) < 998244353; decide), ?_⟩
          · rw [hone]; omega
          · rw [hone]; omega
          refine ⟨.ref b, rfl, b, _, 3, .int sd, rfl, rfl, SqL.of upd_same, rfl, _, _, rfl, rfl, .inr ⟨by decide, by decide⟩, _, rfl, _, _, rfl, rfl, _, _, rfl, rfl, (by show (0 : Int) < 2147483563; decide), .ref b, rfl, b, _, 3, 3, rfl, rfl, upd_same, rfl, ?_⟩
          refine ⟨_, rfl, _, _, rfl, rfl, ⟨by decide, by decide⟩, _, rfl, _, _, rfl, rfl, m0, q _ _ (mod_lo m0) (mod_hi m0) upd_bag ⟨i', r, _, c + 1, upd_same, ?_, nlb⟩⟩
          exact upd_bag _ _ nlb hl0
/-! ### one of a list -/
def spOf (K : PySem.W.Frag) : Sp := fun vs H Q _ => ∃ (g : Bid) (p : Addr) (xs : List V), vs = [.ref g.b, .ref p] ∧ Bg H g ∧ p ≠ g.b ∧ SqL K H p xs ∧ 0 < xs.length ∧ xs.length < 1000 ∧
  ∀ v H', v ∈ xs → Keep g.b H H' → Bg H' g → Q v H'
end
end Onp
set_option maxHeartbeats 2000000
/-! while an exception is handled: the ends of walks -/
namespace Onp
open PySem PySem.Spec PyProof.Rows L2 HotX L2H
section
variable {prog : Program} {w : World} {A : Around} {E : Value → Shared → Prop} {s : Shared}
/-- a StopIteration raised while x1 is handled -/
theorem stopHot {α : Type} {x1 : Addr} {Q : α → Shared → Prop} (hot : HotAt A x1 s.heap)
    (hE : ∀ h' e, (∀ b o, s.heap.get? b = some o → h'.get? b = some o) → (∃ o, h'.get? e = some o ∧ o.cls = .type "StopIteration") → E (.ref e) { s with heap := h' }) :
    wpAny (model prog w) A ((newExc (.type "StopIteration") [] >>= fun v => raiseNew v) : Sem α) Q E s := by
  obtain ⟨hh, o1, vs1, g1, g2, g3⟩ := hot
  refine wpAny_bind ?_
  simp only [newExc, newTuple]
  refine wpAny_bind (wpAny_newObj_type (wpAny_bind (m := firstArgMember _ _) (wpAny_of_eq (a := Value.none) (by first | rfl | (simp only [firstArgMember]; rfl)) (wpAny_newObj_type ?_ (by size_fits)))) (by size_fits))
  have k1 : (s.heap.push { cls := .type "tuple", data := .seq #[] }).get? x1 = some o1 := Heap.get?_push_of_some _ g1
  refine raiseNew_hot (x1 := x1) ⟨hh, o1, vs1, Heap.get?_push_of_some _ k1, g2, g3⟩ (Nat.ne_of_lt (Heap.lt_size k1)) (Heap.get?_push_size _ rfl) rfl (by first | (simp; done) | (simp; omega)) ?_
  refine hE _ _ (fun b o e => ?_) ⟨_, Heap.get?_update_self _ (Heap.get?_push_size _ rfl) rfl, rfl⟩
  have k2 : (s.heap.push { cls := .type "tuple", data := .seq #[] }).get? b = some o := Heap.get?_push_of_some _ e
  rw [Heap.get?_update_other _ _ (Nat.ne_of_gt (Heap.lt_size k2))]
  exact Heap.get?_push_of_some _ k2
theorem hot_but {x1 a : Addr} {h h' : Heap} (t : HotAt A x1 h) (n : x1 ≠ a) (k : ∀ b o, b ≠ a → h.get? b = some o → h'.get? b = some o) : HotAt A x1 h' := by
  obtain ⟨hh, o1, vs1, g1, g2, g3⟩ := t
  exact ⟨hh, o1, vs1, k _ _ n g1, g2, g3⟩
/-- the end of a list, asked by nextOf -/
theorem listEndHot {x1 it l : Addr} {i : Nat} {items : Array Value} {Q : Value → Shared → Prop} (hot : HotAt A x1 s.heap) (nx : x1 ≠ it) (hit : s.heap.IsListIter it l i) (hl : s.heap.IsList l items) (hx : items[i]? = none)
    (hE : ∀ h' e, Heap.ExtBut it s.heap h' → (∃ o, h'.get? e = some o ∧ o.cls = .type "StopIteration") → E (.ref e) { s with heap := h' }) : wpAny (model prog w) A (Builtin.SmallTypes.nextOf (.ref it)) Q E s := by
  obtain ⟨ob, g1, g2, g3⟩ := id hit
  obtain ⟨lb, k1, _, kn, k3⟩ := hl
  unfold Builtin.SmallTypes.nextOf
  refine wpAny_bind (wpAny_callSpecial?_slot (name := Str.ofString "__next__") hit.typeIs slot_listiter_next (wpAny_call_entry slot_listiter_next hit.typeIs entry_listiter_next ?_ (args_listiter_next _)))
  show wpAny _ _ (field (.ref it) 0 >>= _) _ _ s
  refine wpAny_bind (wpAny_field g1 g3 (x := .ref l) rfl ?_)
  show wpAny _ _ (if (Value.ref l == Value.none) = true then _ else _) _ _ s
  rw [if_neg (by exact Bool.false_ne_true : ¬ ((Value.ref l == Value.none) = true))]
  show wpAny _ _ (field (.ref it) 1 >>= _) _ _ s
  refine wpAny_bind (wpAny_field g1 g3 (x := .int i 0) rfl ?_)
  show wpAny _ _ (seqItems? (.ref l) >>= _) _ _ s
  refine wpAny_bind (wpAny_seqItems k1 k3 ?_)
  simp only [hx, Int.toNat_natCast]
  refine wpAny_bind (wpAny_rule (wpAny_bind (wpAny_setField g1 g3 (by simp) ?_)))
  have sb : Heap.SameBut it s.heap (s.heap.update it (Obj.mapFields (·.setIfInBounds 0 Value.none))) := Heap.SameBut.update ..
  refine stopHot (x1 := x1) (hot_but (A := A.in1) hot nx fun b o n e => sb.extBut b o n e) fun h' e k he => hE h' e (fun b o n q => k b o (sb.extBut b o n q)) he
/-- the end of a tuple -/
theorem tupEndHot {x1 it t : Addr} {i : Nat} {items : Array Value} {Q : Option Value → Shared → Prop} (hot : HotAt A x1 s.heap) (nx : x1 ≠ it) (hit : IsTupIter s.heap it t i) (ht : IsTup s.heap t items) (hx : items[i]? = none)
    (hQ : ∀ h', Heap.ExtBut it s.heap h' → Q none { s with heap := h' }) : wpAny (model prog w) A (pyNext (.ref it)) Q E s := by
  obtain ⟨ob, g1, g2, g3⟩ := id hit
  obtain ⟨lb, k1, _, kn, k3⟩ := ht
  unfold pyNext
  refine wpAny_bind (wpAny_attempt (wpAny_callSpecial?_slot (name := Str.ofString "__next__") hit.typeIs slot_tupleiter_next (wpAny_call_entry slot_tupleiter_next hit.typeIs entry_tupleiter_next ?_ (args_tupleiter_next _))))
  show wpAny _ _ (field (.ref it) 0 >>= _) _ _ s
  refine wpAny_bind (wpAny_field g1 g3 (x := .ref t) rfl ?_)
  show wpAny _ _ (if (Value.ref t == Value.none) = true then _ else _) _ _ s
  rw [if_neg (by exact Bool.false_ne_true : ¬ ((Value.ref t == Value.none) = true))]
  show wpAny _ _ (field (.ref it) 1 >>= _) _ _ s
  refine wpAny_bind (wpAny_field g1 g3 (x := .int i 0) rfl ?_)
  show wpAny _ _ (seqItems? (.ref t) >>= _) _ _ s
  refine wpAny_bind (wpAny_seqItems k1 k3 ?_)
  simp only [hx, Int.toNat_natCast]
  refine wpAny_bind (wpAny_rule (wpAny_bind (wpAny_setField g1 g3 (by simp) ?_)))
  have sb : Heap.SameBut it s.heap (s.heap.update it (Obj.mapFields (·.setIfInBounds 0 Value.none))) := Heap.SameBut.update ..
  refine stopHot (x1 := x1) (hot_but (A := A.in1) hot nx fun b o n e => sb.extBut b o n e) fun h' e k he => ?_
  obtain ⟨oe, q1, q2⟩ := he
  exact wpAny_bind (wpAny_isInstance (T := "StopIteration") (b := true) ⟨oe, q1, q2⟩ isSubtype_stop (wpAny_pure (hQ h' fun b o n q => k b o (sb.extBut b o n q))))
/-- a tuple unpacked -/
theorem unpackHot {x1 t : Addr} {items : Array Value} {Q : List Value → Shared → Prop} (hot : HotAt A x1 s.heap) (ht : IsTup s.heap t items)
    (hQ : ∀ h', Heap.ExtBut s.heap.objs.size s.heap h' → Q items.toList { s with heap := h' }) : wpAny (model prog w) A (unpackItems (.ref t) items.size none) Q E s := by
  have n1 : t ≠ s.heap.objs.size := by
    obtain ⟨o, ho, _⟩ := ht
    exact Nat.ne_of_lt (Heap.lt_size ho)
  have n2 : x1 ≠ s.heap.objs.size := by
    obtain ⟨_, o, _, ho, _⟩ := hot
    exact Nat.ne_of_lt (Heap.lt_size ho)
  unfold unpackItems
  refine wpAny_bind ?_
  unfold notIterableAtAll
  refine wpAny_bind (wpAny_specialOf ht.typeIs slot_tuple_iter.lookup (wpAny_pure ?_))
  simp only [if_false, Bool.false_eq_true]
  refine wpAny_bind (wpAny_holding (iter_tuple ht (wpAny_bind (wpAny_holding (draw_tuple n1 items.size 0 _ _ ⟨_, Heap.get?_push_size _ rfl, rfl, rfl⟩ (ht.push _) (by omega) fun j1 c1 c2 => ?_)))))
  have whole : List.take items.size (List.drop 0 items.toList) = items.toList := by rw [List.drop_zero, List.take_of_length_le (by simp)]
  rw [whole, if_neg (by simp)]
  have tj : IsTup j1 t items := (ht.push _).extBut c2.extBut n1
  have hj : HotAt A x1 j1 := hot_but hot n2 fun b o n e => c2.extBut b o n (Heap.get?_push_of_some _ e)
  refine wpAny_bind (wpAny_holding (tupEndHot hj n2 c1 tj (by simp) fun j2 c3 => ?_))
  simp only [if_false, Option.isSome_none, Bool.false_eq_true]
  exact wpAny_pure (hQ j2 fun b o n e => c3 b o n (c2.extBut b o n (Heap.get?_push_of_some _ e)))
theorem assignTupHot {x1 : Addr} {env : Env} {elts : List Expr} {k} {pos : Pos} {t : Addr} {items : Array Value} {Q : Unit → Shared → Prop} (hot : HotAt A x1 s.heap) (ht : IsTup s.heap t items)
    (hn : (assignEach elts env).length = items.size) (hstar : (assignEach elts env).findIdx? (·.1) = none)
    (h : ∀ h', Heap.ExtBut s.heap.objs.size s.heap h' → wpAny (model prog w) A (assignInOrder ((assignEach elts env).map (·.2)) items.toList) Q E { s with heap := h' }) :
    wpAny (model prog w) A (assign (.Tuple elts k pos) env (.ref t)) Q E s := by
  rw [assign_Tuple]
  refine wpAny_bind (wpAny_standAt ?_)
  unfold unpack
  rw [hn, hstar]
  exact wpAny_bind (wpAny_holding (unpackHot hot ht h))
/-- zip's end: the first list is through -/
theorem zipEndHot {x1 z TI TO i1 i2 l1 l2 : Addr} {k1 : Nat} {xs : Array Value} {a b : Value} {Q : Option Value → Shared → Prop} (hot : HotAt A x1 s.heap) (nx : x1 ≠ z ∧ x1 ≠ i1) (D : ZipApart z TI TO i1 i2 l1 l2)
    (hz : IsZip s.heap z TI TO .none) (hTI : IsPair s.heap TI (.ref i1) (.ref i2)) (hTO : IsPair s.heap TO a b) (h1 : s.heap.IsListIter i1 l1 k1) (hl1 : s.heap.IsList l1 xs) (hx : xs[k1]? = none)
    (hQ : ∀ h', (∀ c o, c ≠ z → c ≠ i1 → s.heap.get? c = some o → h'.get? c = some o) → Q none { s with heap := h' }) : wpAny (model prog w) A (pyNext (.ref z)) Q E s := by
  have hT : s.TypeIs (.ref z) "zip" := ⟨_, hz, rfl⟩
  unfold pyNext
  refine wpAny_bind (wpAny_attempt (wpAny_callSpecial?_slot (name := Str.ofString "__next__") hT F.slot_zip_next (wpAny_call_entry F.slot_zip_next hT F.entry_zip_next ?_ (F.args_zip_next_1 _))))
  show wpAny _ _ (field (.ref z) 2 >>= _) _ _ _
  refine wpAny_bind (wpAny_field hz rfl (x := .bool false) rfl ?_)
  show wpAny _ _ (field (.ref z) 3 >>= _) _ _ _
  refine wpAny_bind (wpAny_field hz rfl (x := .ref TI) rfl (wpAny_bind (wpAny_seqItems hTI rfl ?_)))
  show wpAny _ _ (Builtin.SmallTypes.ownedTupleIsFree (.ref z) >>= _) _ _ _
  refine wpAny_bind ?_
  unfold Builtin.SmallTypes.ownedTupleIsFree
  refine wpAny_bind (wpAny_field hz rfl (x := .none) rfl (wpAny_pure ?_))
  simp only [if_true]
  refine wpAny_bind (wpAny_rule (wpAny_bind (wpAny_field hz rfl (x := .ref TO) rfl (wpAny_bind (wpAny_setField_rec hz (by simp) fun j1 zj sj => ?_)))))
  replace zj : IsZip j1 z TI TO .ellipsis := zj
  refine wpAny_bind ?_
  simp only [List.zipIdx_cons, List.zipIdx_nil, List.forIn_cons, List.forIn_nil]
  refine wpAny_bind (wpAny_bind (wpAny_onRaise ?_))
  show wpAny _ _ (Builtin.SmallTypes.nextOf (.ref i1) >>= _) _ _ _
  refine wpAny_bind (listEndHot (x1 := x1) (hot_but (A := A.in1) hot nx.1 fun b o n e => sj.extBut b o n e) nx.2 (h1.extBut sj.extBut D.i1z) (hl1.extBut sj.extBut D.l1z) hx fun j2 e c2 he => ?_)
  obtain ⟨oe, q1, q2⟩ := he
  have z2 : IsZip j2 z TI TO .ellipsis := c2 _ _ D.i1z.symm zj
  have ez : e ≠ z := fun x => by subst x; rw [z2] at q1; cases q1; simp at q2
  refine wpAny_setField_rec z2 (by simp) fun j3 _ c3 => ?_
  exact wpAny_bind (wpAny_isInstance (T := "StopIteration") (b := true) ⟨oe, c3.extBut _ _ ez q1, q2⟩ isSubtype_stop (wpAny_pure (hQ j3 fun c o n1 n2 q => c3.extBut _ _ n1 (c2 _ _ n2 (sj.extBut _ _ n1 q)))))
end
end Onp
set_option maxHeartbeats 4000000
namespace Onp
open PySem PySem.Spec PyProof.Rows L2 HotX L2H
/-! ### (a, b) = a tuple, while an exception is handled -/
theorem pg_tupH {X : Cx} {es : List Expr} {k : Nat} {t : TGs} {n : Nat} {pos : Pos} (hc : HotC X) (h : PGs X es t) (hn : (assignEach es X.env).length = n := by rfl) (hst : (assignEach es X.env).findIdx? (·.1) = none := by rfl) :
    PG X (.Tuple es k pos) (gTup X.K n t) := by
  refine ⟨fun pins s σ H v u Q I r hw => ?_⟩
  obtain ⟨p, xs, rfl, hq, hl, hw⟩ := hw
  obtain rfl : u = Value.ref p := r
  obtain ⟨its, rv, ht, hz⟩ := I.tuple hq
  obtain ⟨x1, hot⟩ := hc.at I
  refine assignTupHot hot ht (by simp [hn, ← hl, rv.length]) hst fun h' hx => ?_
  exact h.run pins _ σ H xs _ Q (I.kept (t' := s.toks) fun b o e => hx b o (Nat.ne_of_lt (Heap.lt_size e)) e) (by simpa using rv) hw
/-! ### zip of two lists, the first no longer than the second -/
def Itz1 (K : PySem.W.Frag) (a b : Addr) : It := ⟨(Itz K a b).go, (Itz K a b).yld, fun i H => ∃ xs ys : List V, SqL K H a xs ∧ SqL K H b ys ∧ xs.length ≤ i⟩
def zipSt (a b z TI TO i1 i2 : Addr) (i : Nat) (h : Heap) : Prop := IsZip h z TI TO .none ∧ IsPair h TI (.ref i1) (.ref i2) ∧ (∃ x y, IsPair h TO x y) ∧ h.IsListIter i1 a i ∧ h.IsListIter i2 b i
theorem turnZipH {P : Program} {w : World} {K : PySem.W.Frag} {elts : List Expr} {kk : Nat} {tpos : Pos} {a b z TI TO i1 i2 : Addr} (D : ZipApart z TI TO i1 i2 a b) :
    TurnH P w K (.Tuple elts kk tpos) (Itz1 K a b) [z, TI, TO, i1, i2] z (zipSt a b z TI TO i1 i2) where
  mem := List.mem_cons_self
  obj := (turn_zip (P := P) (w := w) (K := K) (elts := elts) (kk := kk) (tpos := tpos) D).obj
  keep := (turn_zip (P := P) (w := w) (K := K) (elts := elts) (kk := kk) (tpos := tpos) D).keep
  self := (turn_zip (P := P) (w := w) (K := K) (elts := elts) (kk := kk) (tpos := tpos) D).self
  item := by
    intro X eP ew eK hc i pins s σ H E I hf st hg
    subst eP ew eK
    obtain ⟨z1, z2, ⟨v1, v2, z3⟩, z4, z5⟩ := st
    obtain ⟨xs, ys, x, y, qx, qy, ex, ey⟩ := hg
    obtain ⟨us, ru, pu, _⟩ := I.list qx
    obtain ⟨ws, rw', pw, _⟩ := I.list qy
    obtain ⟨u1, e1, r1⟩ := ru.get ex
    obtain ⟨u2, e2, r2⟩ := rw'.get ey
    have lz : z < s.heap.objs.size := Heap.lt_size z1
    refine wpAny_pyNext_zip_item D z1 z2 z3 z4 z5 pu.isList pw.isList (x := u1) (y := u2) (by simpa using e1) (by simpa using e2) fun j n1 n2 n3 n4 n5 n6 n7 => ⟨_, rfl, ?_⟩
    refine wpAny_letOwnedTupleGo_zip (s := { s with heap := j }) n1 fun j2 m1 sb => ?_
    have old : ∀ c, c ∈ [z, TI, TO, i1, i2] → c < s.heap.objs.size := fun c hm => by
      have e' : c = z ∨ c = TI ∨ c = TO ∨ c = i1 ∨ c = i2 := by simpa using hm
      obtain ⟨_, q4, _⟩ := z4
      obtain ⟨_, q5, _⟩ := z5
      rcases e' with rfl | rfl | rfl | rfl | rfl
      · exact lz
      · exact Heap.lt_size z2
      · exact Heap.lt_size z3
      · exact Heap.lt_size q4
      · exact Heap.lt_size q5
    have tj : j2.get? s.heap.objs.size = some { cls := .type "tuple", data := .seq #[u1, u2] } := (sb.2 _ (Nat.ne_of_gt lz)).trans n5
    have kp : ∀ c o, c ∉ [z, TI, TO, i1, i2] → s.heap.get? c = some o → j2.get? c = some o := fun c o nm q => by
      have nn : c ≠ z ∧ c ≠ TI ∧ c ≠ TO ∧ c ≠ i1 ∧ c ≠ i2 := by simpa using nm
      exact (sb.2 c nn.1).trans (n7 c o nn.1 nn.2.2.1 nn.2.2.2.1 nn.2.2.2.2 q)
    have J := I.turnedNew (t' := s.toks) (ch := [z, TI, TO, i1, i2]) (ob := .tup [x, y]) kp hf (Nat.le_refl _) ⟨(by decide : 2 ≤ sizeLine), [u1, u2], .cons r1 (.cons r2 .nil), ⟨_, tj, rfl, _, rfl⟩⟩
    refine ⟨.ref s.heap.objs.size, _, J, rfl, ⟨_, x, y, rfl, I.hok.fresh (Nat.le_refl _), rfl, fun l hl => by rw [I.list_inj hl qx]; exact ex, fun l hl => by rw [I.list_inj hl qy]; exact ey⟩, ⟨m1, ?_, ⟨u1, u2, ?_⟩, ?_, ?_⟩, fun c hm => ?_⟩
    · exact (sb.2 _ D.TIz).trans (n7 _ _ D.TIz D.TITO D.TIi1 D.TIi2 z2)
    · exact (sb.2 _ D.TOz).trans n2
    · exact n3.at fun o q => (sb.2 _ D.i1z).trans q
    · exact n4.at fun o q => (sb.2 _ D.i2z).trans q
    · rw [upd_ne (Nat.ne_of_lt (old c hm))]
      exact (hf c hm).1
  done := by
    intro X eP ew eK hc i pins s σ H E I hf st hg
    subst eP ew eK
    obtain ⟨z1, z2, ⟨v1, v2, z3⟩, z4, z5⟩ := st
    obtain ⟨xs, ys, qx, qy, he⟩ := hg
    obtain ⟨us, ru, pu, _⟩ := I.list qx
    have l1 := ru.length
    obtain ⟨p, ⟨hh, v, e1, c1⟩, hp⟩ := hc
    have P1 := (I.pin p (List.mem_append_left _ hp)).1
    have np : ∀ c, c ∈ [z, TI, TO, i1, i2] → p.1 ≠ c := fun c hm => (hf c hm).2.2.2.2.2 p (List.mem_append_left _ hp)
    refine zipEndHot (x1 := p.1) ⟨hh, p.2, v, P1, e1, c1⟩ ⟨np z (by simp), np i1 (by simp)⟩ D z1 z2 z3 z4 pu.isList (by simp; omega) fun j kj => ⟨rfl, I.turnedL (t' := s.toks) (ch := [z, TI, TO, i1, i2]) (fun c o nm q => ?_) hf⟩
    have nn : c ≠ z ∧ c ≠ TI ∧ c ≠ TO ∧ c ≠ i1 ∧ c ≠ i2 := by simpa using nm
    exact kj c o nn.1 nn.2.2.2.1 q
def iZip1 (K : PySem.W.Frag) (ta : TA) : TI := fun σ H R => ta σ H fun vs H1 => ∃ a b xs ys, vs = [.ref a, .ref b] ∧ SqL K H1 a xs ∧ SqL K H1 b ys ∧ R (Itz1 K a b) H1
theorem pi_zipH {X : Cx} {e e2 : Expr} {ta : TA} {p pos tpos : Pos} {elts : List Expr} {kk : Nat} (hg : Gl X "zip") (hm : X.mg "zip" = none) (ha : PA X [e, e2] ta)
    (hs : starEach [e, e2] X.env = (false, eval e X.env) :: starEach [e2] X.env := by rfl) (hpl : (backTo pos (starEach [e2] X.env)).any (·.1) = false := by rfl) : PIH X (.Tuple elts kk tpos) (.Call (.Name "zip" p) [e, e2] [] pos) (iZip1 X.K ta) := by
  refine ⟨fun pins s σ H R I h => Call_ (ld_blt I hg hm PyProof.Rows.boot_zip (PyProof.Rows.callWith_type1 (thn (ha.run pos pins s σ H _ I h) fun us s1 ⟨vs, H1, I1, r1, q1⟩ => ?_) hs hpl))⟩
  obtain ⟨a, b, xs, ys, rfl, qx, qy, q⟩ := q1
  obtain ⟨w1, w2, rfl, ra, rb⟩ := vals2 r1
  cases ra
  cases rb
  obtain ⟨us, ru, pu, _⟩ := I1.list qx
  obtain ⟨ws, rw', pw, _⟩ := I1.list qy
  refine call_zip_2 pu.isList pw.isList fun j y1 y2 y3 y4 y5 y6 y7 => wpAny_pyIter_zip y1 ⟨s1.heap.objs.size + 4, [s1.heap.objs.size + 4, s1.heap.objs.size + 2, s1.heap.objs.size + 3, s1.heap.objs.size, s1.heap.objs.size + 1], _, _, H1, rfl, I1.kept (t' := s1.toks) y7, turnZipH (PySem.W.ktu_apart s1.heap.objs.size a b pu.lt pw.lt), ⟨y1, y2, ⟨_, _, y3⟩, y4, y5⟩, fun c hm => ?_, q⟩
  have hle : s1.heap.objs.size ≤ c := by
    have e' : c = s1.heap.objs.size + 4 ∨ c = s1.heap.objs.size + 2 ∨ c = s1.heap.objs.size + 3 ∨ c = s1.heap.objs.size ∨ c = s1.heap.objs.size + 1 := by simpa using hm
    rcases e' with z | z | z | z | z <;> rw [z] <;> first | exact Nat.le_refl _ | exact Nat.le_add_right _ _
  exact I1.fpOk hle (I1.hok.fresh hle)
/-! ### the block of a comprehension that keeps a pin -/
abbrev blkH (X : Cx) (p : Addr × Obj) (s : Shared) (H : Hp) (scope : Scope) (cenv : Env) (fp : List Addr) : Cx := { X.blk s H scope cenv fp with pn := [p] }
theorem addPn {X : Cx} {p : Addr × Obj} {pins : List (Addr × Obj)} {σ : L2.St} {H : Hp} {s : Shared} (hX : X.pn = []) (I : Inv X pins σ H s) (hp : s.heap.get? p.1 = some p.2 ∧ H p.1 = none ∧ p.1 ≠ X.env.locals ∧ p.1 ∉ X.fs ∧ ∀ v, p.2.data ≠ .cell v) : Inv { X with pn := [p] } pins σ H s := by
  have ok := I.ok
  refine ⟨⟨ok.mod, ok.kind, ok.glob, ok.blt, ok.above, ok.inj, ok.has, ok.cab, ok.hd, ok.frames, ok.stk, ok.exf, ok.bs, ok.bsz, ok.noex, ok.exfs, ok.funs, ok.frf⟩, I.os, I.bare, I.base, I.loc, I.cell, I.free, I.freeC, fun q hq => ?_, I.hok, I.len⟩
  have hq' : q ∈ [p] ++ pins := hq
  rcases List.mem_append.mp hq' with z | z
  · have e : q = p := by simpa using z
    rw [e]
    exact hp
  · exact I.pin q (by rw [hX]; exact z)
theorem hotBlk {X : Cx} {p : Addr × Obj} {s : Shared} {H : Hp} {scope : Scope} {cenv : Env} {fp : List Addr} (h : Hot1 X.A p) : HotC (blkH X p s H scope cenv fp) := ⟨p, h, List.mem_cons_self⟩
theorem lcHot {X : Cx} {p : Addr × Obj} {pins : List (Addr × Obj)} {s : Shared} {σ : L2.St} {H : Hp} {Q : VK} {elt tg iter : Expr} {ifs : List Expr} {scope : Scope} {own : List (Str × Nat)} {pos : Pos} {wi : TI} {g : TG} {tt : TT} {te : TE}
    (hot : Hot1 X.A p) (hp : p ∈ X.pn) (hN : X.N.Nodup) (I : Inv X pins σ H s) (hi : PIH X tg iter wi) (ok : BlkOk X.N X.env.scope scope own)
    (hg : ∀ s H C cl fp, PG (blkH X p s H scope (compEnvC scope cl C X.env) fp) tg g) (ht : ∀ s H C cl fp, PTs (blkH X p s H scope (compEnvC scope cl C X.env) fp) ifs tt) (he : ∀ s H C cl fp, PE (blkH X p s H scope (compEnvC scope cl C X.env) fp) elt te)
    (hs : ∀ x, foldedSetIterable iter X.env x = pure x) (h : tLc wi g tt te (own.map (·.2)) σ H Q) : wpAny (model X.prog X.w) X.A (eval (.ListComp elt [⟨tg, iter, ifs, 0⟩] scope pos) X.env) (EP X pins σ Q) X.xe s := by
  rw [eval_ListComp]
  have caps : ∀ y ∈ scope.names, y.2 = .free → ∃ c, X.env.cells.lookup y.1 = some c := fun y hy e => (ok.free y hy e).elim (fun k => I.ok.has _ (.inl k)) (fun k => I.ok.has _ (.inr k))
  refine wpAny_comprehension_free (use := none) rfl hs (closure_ok caps) ok.kind (fun y hy e => by rw [ok.uniq y hy, e]) (thn (hi.run pins s σ H _ I h) fun xv s1 hx => thn hx fun itv s2 hx2 => ?_)
  obtain ⟨it, fp, tn, J, H2, rfl, I2, T, t2, f2, q⟩ := hx2
  refine wpAny_newObj_type (newEnv_comp ?_) (Nat.zero_le _)
  generalize eD : s2.heap.objs.size = D
  have freeD : H2 D = none := I2.hok.fresh (Nat.le_of_eq eD)
  obtain ⟨W, ⟨m0, w0⟩, turn⟩ := q D freeD
  generalize e3 : ({ s2 with heap := s2.heap.push { cls := .type "list", data := .seq ([] : List Value).toArray } } : Shared) = u3
  have hu3 : u3.heap = s2.heap.push { cls := .type "list", data := .seq ([] : List Value).toArray } := by rw [← e3]
  have I3 : Inv X pins σ (upd H2 D (.lst [])) u3 := by
    rw [← e3]
    exact I2.laid (t' := s2.toks) (fun b o e => Heap.get?_push_of_some _ e) (Nat.le_of_eq eD) ⟨Nat.zero_le _, [], 0, .nil, by rw [← eD]; exact Heap.get?_push_size _ rfl⟩
  have f3 : ∀ b ∈ fp, FpOk X pins (upd H2 D (.lst [])) b ∧ b < u3.heap.objs.size := fun b hb => by
    obtain ⟨o, e, _⟩ := T.obj _ _ t2 b hb
    have lt := Heap.lt_size e
    exact ⟨⟨by rw [upd_ne (by rw [← eD]; exact Nat.ne_of_lt lt)]; exact (f2 b hb).1, (f2 b hb).2⟩, by rw [hu3, Heap.size_push]; exact Nat.lt_succ_of_lt lt⟩
  have I4' := block_start I3 ok hN f3
  generalize eH : upd H2 D (.lst []) = H3 at I3 I4' w0 f3
  generalize ece : compEnvC scope (cellsFrom (u3.heap.objs.size + 1) scope.names (cloFrom X.env.cells scope.names [])) u3.heap.objs.size X.env = ce at I4'
  have cl0 : ce.locals = u3.heap.objs.size := by subst ece; rfl
  generalize e4 : ({ u3 with heap := pushCells (u3.heap.push { cls := .type "dict", data := .dict #[] }) scope.names } : Shared) = u4 at I4'
  have kept4 : ∀ b o, u3.heap.get? b = some o → u4.heap.get? b = some o := fun b o e => by rw [← e4]; exact pushCells_keeps _ _ _ _ (Heap.get?_push_of_some _ e)
  have p3 := I3.pin p (List.mem_append_left _ hp)
  have I4 : Inv (blkH X p u3 H3 scope ce fp) [] (wipe σ (own.map (·.2))) H3 u4 := by
    refine addPn rfl I4' ⟨kept4 _ _ p3.1, p3.2.1, ?_, fun z => ?_, p3.2.2.2.2⟩
    · show p.1 ≠ ce.locals
      rw [cl0]
      exact Nat.ne_of_lt (Heap.lt_size p3.1)
    · rcases List.mem_cons.mp (I3.stkSub p.1 z) with y | y
      · exact p3.2.2.1 y
      · exact p3.2.2.2.1 y
  have pg := hg u3 H3 u3.heap.objs.size (cellsFrom (u3.heap.objs.size + 1) scope.names (cloFrom X.env.cells scope.names [])) fp
  have pt := ht u3 H3 u3.heap.objs.size (cellsFrom (u3.heap.objs.size + 1) scope.names (cloFrom X.env.cells scope.names [])) fp
  have pe := he u3 H3 u3.heap.objs.size (cellsFrom (u3.heap.objs.size + 1) scope.names (cloFrom X.env.cells scope.names [])) fp
  rw [ece] at pg pt pe
  have t4 : tn 0 u4.heap := T.keep _ _ _ t2 fun b _ o e => kept4 b o (by rw [hu3]; exact Heap.get?_push_of_some _ e)
  have hb := hotBlk (X := X) (s := u3) (H := H3) (scope := scope) (cenv := ce) (fp := fp) hot
  have stat : ∀ {σ' : L2.St} {H' : Hp} {s' : Shared}, Inv (blkH X p u3 H3 scope ce fp) [] σ' H' s' → (∀ b ∈ fp, H' b = none) → ∀ b ∈ fp, FpOk (blkH X p u3 H3 scope ce fp) [] H' b := fun {σ' H' s'} I' hn b hb' => by
    refine ⟨hn b hb', (I'.ok.exf b hb').1, I'.ok.exfs b hb', .inl hb', fun x c e => (I'.ok.exf b hb').2 x c e, fun q hq => ?_⟩
    have eq : q = p := by simpa using (show q ∈ [p] ++ ([] : List (Addr × Obj)) from hq)
    rw [eq]
    exact (f3 b hb').1.2.2.2.2.2 p (List.mem_append_left _ hp)
  show codeAny _ _ (.compStart (.ListComp elt [⟨tg, iter, ifs, 0⟩] scope pos) 0 (.ref it) (.ref D) (compEnvC scope (cellsFrom (u3.heap.objs.size + 1) scope.names (cloFrom X.env.cells scope.names [])) u3.heap.objs.size X.env)) (compPost (model X.prog X.w) X.A X.xe none (EP X pins σ Q) (.ref D) u3.heap.objs.size) u4
  rw [ece]
  have loop : codeAny (model X.prog X.w) X.A (.compLoop (.ListComp elt [⟨tg, iter, ifs, 0⟩] scope pos) 0 (.ref it) (.ref D) ce) (compPost (model X.prog X.w) X.A X.xe none (EP X pins σ Q) (.ref D) u3.heap.objs.size) u4 := by
    refine compLoop_any (fun n s' => ∃ i H', Inv (blkH X p u3 H3 scope ce fp) [] (wipe σ (own.map (·.2))) H' s' ∧ tn i s'.heap ∧ (∀ b ∈ fp, H' b = none) ∧ W i n H') (fun n u5 ⟨i, H5, I5, t5, n5, w5⟩ => ?_) m0 ⟨0, H3, I4, t4, fun b hb' => (f3 b hb').1.1, w0⟩
    rcases turn i n H5 w5 with ⟨stop, qq⟩ | ⟨go, Nx, hNx, step⟩
    · refine thnF (T.done (blkH X p u3 H3 scope ce fp) rfl rfl rfl hb i [] u5 _ H5 (fun _ _ => False) I5 (stat I5 n5) t5 stop) fun r u6 ⟨hr, I6⟩ => ?_
      subst hr
      have I7 : Inv X pins σ H5 u6 := I3.call' (ch := fp) I6.os I6.base I6.hok I6.bare fun b hb' => ⟨(f3 b hb').1.2.2.2.1, (f3 b hb').1.2.1, (f3 b hb').1.2.2.2.2.1, (f3 b hb').1.2.2.2.2.2⟩
      obtain ⟨m, hn, _⟩ := I6.loc
      have fr : H5 ce.locals = none := I6.free
      replace hn : u6.heap.Ns ce.locals m := hn
      rw [cl0] at hn fr
      obtain ⟨y0, y1, y2, y3, y4, y5⟩ := I3.fpOk (H' := H5) (Nat.le_refl _) fr
      exact ⟨m, hn, fun h'' sb => ⟨.ref D, H5, I7.turned (t' := u6.toks) (fun b o hb' e => (sb.2 b hb').trans e) y0 y1 y3 y4 y5, rfl, qq⟩⟩
    · refine thnF (T.item (blkH X p u3 H3 scope ce fp) rfl rfl rfl hb i [] u5 _ H5 (fun _ _ => False) I5 (stat I5 n5) t5 go) fun r u6 ⟨v, hr, h6⟩ => ?_
      subst hr
      refine thnF h6 fun _ u7 ⟨x, H7, I7, r7, y7, t7, n7⟩ => ?_
      have J7 := I7.pinned (stat I7 n7) (T.obj _ _ t7)
      refine thnF (pg.run _ u7 _ H7 x v _ J7 r7 (step x H7 y7)) fun _ u8 ⟨σ8, H8, I8, hw8, q8⟩ => ?_
      refine thnF (pt.run _ u8 σ8 H8 _ I8 q8) fun b u9 ⟨H9, I9, q9⟩ => ?_
      have back : ∀ {s' : Shared} {H' : Hp}, Inv (blkH X p u3 H3 scope ce fp) ([] ++ pinsAt fp u7.heap) σ8 H' s' → Nx H' → ∃ m, m < n ∧ ∃ i H', Inv (blkH X p u3 H3 scope ce fp) [] (wipe σ (own.map (·.2))) H' s' ∧ tn i s'.heap ∧ (∀ b ∈ fp, H' b = none) ∧ W i m H' := fun {s' H'} K' nx => by
        obtain ⟨m', hm, w'⟩ := hNx H' nx
        have pin' : ∀ b ∈ fp, ∀ o, u7.heap.get? b = some o → s'.heap.get? b = some o ∧ H' b = none := fun b hb' o e => by
          have z := K'.pin (b, o) (List.mem_append_right _ (List.mem_append_right _ (mem_pinsAt hb' e)))
          exact ⟨z.1, z.2.1⟩
        refine ⟨m', hm, i + 1, H', (K'.unpinned (pins := [])).weak (by rw [← hw8, wipe_length]) (fun j v e => ?_), T.keep _ _ _ t7 fun b hb' o e => (pin' b hb' o e).1, fun b hb' => ?_, w'⟩
        · rw [← hw8] at e
          exact (wipe_some e).1
        · obtain ⟨o, e, _⟩ := T.obj _ _ t7 b hb'
          exact (pin' b hb' o e).2
      cases b with
      | false =>
        simp only [if_false, Bool.false_eq_true] at q9 ⊢
        exact back I9 q9
      | true =>
        simp only [if_true] at q9 ⊢
        refine thnF (pe.run _ u9 σ8 H9 _ I9 q9) fun z u10 ⟨yv, H10, I10, r10, acc, d10, z10, nx⟩ => ?_
        exact app_ok (X := blkH X p u3 H3 scope ce fp) I10 d10 z10 r10 fun u11 I11 => back I11 nx
  exact codeAny_compStart_list loop (T.self X.A 0 _ _ _ t4 loop)
theorem pe_lcH {X : Cx} {p : Addr × Obj} {elt tg iter : Expr} {ifs : List Expr} {scope : Scope} {own : List (Str × Nat)} {pos : Pos} {wi : TI} {g : TG} {tt : TT} {te : TE} (hot : Hot1 X.A p) (hp : p ∈ X.pn) (hN : X.N.Nodup) (hi : PIH X tg iter wi) (ok : BlkOk X.N X.env.scope scope own)
    (hg : ∀ s H C cl fp, PG (blkH X p s H scope (compEnvC scope cl C X.env) fp) tg g) (ht : ∀ s H C cl fp, PTs (blkH X p s H scope (compEnvC scope cl C X.env) fp) ifs tt) (he : ∀ s H C cl fp, PE (blkH X p s H scope (compEnvC scope cl C X.env) fp) elt te)
    (hs : ∀ x, foldedSetIterable iter X.env x = pure x := by intro _; rfl) : PE X (.ListComp elt [⟨tg, iter, ifs, 0⟩] scope pos) (tLc wi g tt te (own.map (·.2))) :=
  ⟨fun pins s σ H Q I h => lcHot hot hp hN I hi ok hg ht he hs h⟩
end Onp
set_option maxHeartbeats 4000000
set_option autoImplicit false
namespace Onp
open PySem PySem.Spec PyProof.Rows L2 HotX L2H
/-! ### try: body, except t1 as n: .. except t2 as n: .. -/
theorem fly_more {B h h' : Heap} {l : List Env} {e : Addr} {Z : Obj → Prop} (x : HandSPX.FlyingZ B l e Z h) (k : ∀ b o, h.get? b = some o → h'.get? b = some o) : HandSPX.FlyingZ B l e Z h' := by
  obtain ⟨x1, x2, x3, oe, vs, T, oT, ts, y1, y2, y3, y4, y5, y6, y7, y8, y9⟩ := x
  exact ⟨fun b o q => k _ _ (x1 b o q), x2, x3.of_keeps fun b o q _ => ⟨o, k b o q, rfl⟩, oe, vs, T, oT, ts, k _ _ y1, y2, y3, y4, y5, y6, k _ _ y7, y8, y9⟩
def TestOk (X : Cx) (t : Expr) (m : Value → Option Bool) : Prop :=
  ∀ (a : Addr) (pn : List (Addr × Obj)) (s : Shared) (σ : L2.St) (H : Hp) (cls : Value) (b : Bool) (Q : Bool → Shared → Prop) (E : Value → Shared → Prop), Inv (X.suite a pn) [] σ H s → PySem.W.Looks (model X.prog X.w) s.heap (typeOf (.ref a)) cls → m cls = some b →
    (∀ h', (∀ c o, s.heap.get? c = some o → h'.get? c = some o) → Q b { s with heap := h' }) →
    wpAny (model X.prog X.w) (X.A.mark (some (.ref a))) (eval t X.env) (fun c s1 => wpAny (model X.prog X.w) (X.A.mark (some (.ref a))) (excMatches (.ref a) c) Q E s1) E s
theorem test_name {X : Cx} {x : Str} {c : Value} {np : Pos} (hg : Gl X x) (hd : (x == ("__debug__" : Str)) = false) (hm : X.mg x = some c) : TestOk X (.Name x np) (fun cls => PySem.W.exmOne X.K cls c) := by
  intro a pn s σ H cls b Q E I LT hb q
  have LM := PySem.W.exm_one (M := model X.prog X.w) I.kIn LT hb
  exact ld_glob (X := X.suite a pn) I hg hm (LM.here (q _ fun _ _ z => z)) hd
theorem test_three {X : Cx} {x y z : Str} {c1 c2 c3 : Addr} {p1 p2 p3 tp : Pos} {k : Nat} (g1 : Gl X x) (g2 : Gl X y) (g3 : Gl X z) (d1 : (x == ("__debug__" : Str)) = false) (d2 : (y == ("__debug__" : Str)) = false) (d3 : (z == ("__debug__" : Str)) = false)
    (m1 : X.mg x = some (.ref c1)) (m2 : X.mg y = some (.ref c2)) (m3 : X.mg z = some (.ref c3)) (hst : starEach [.Name x p1, .Name y p2, .Name z p3] X.env = [(false, eval (.Name x p1) X.env), (false, eval (.Name y p2) X.env), (false, eval (.Name z p3) X.env)] := by rfl) :
    TestOk X (.Tuple [.Name x p1, .Name y p2, .Name z p3] k tp) (fun cls => PySem.W.exmAny X.K cls [.ref c1, .ref c2, .ref c3]) := by
  intro a pn s σ H cls b Q E I LT hb q
  have kp : ∀ c o, s.heap.get? c = some o → (s.heap.push { cls := .type "tuple", data := .seq [Value.ref c1, .ref c2, .ref c3].toArray }).get? c = some o := fun c o e => Heap.get?_push_of_some _ e
  refine wpAny_Tuple_spliced ?_
  rw [hst]
  show wpAny _ _ (spliced ((false, eval (.Name x p1) X.env) :: (false, eval (.Name y p2) X.env) :: (false, eval (.Name z p3) X.env) :: [])) _ _ s
  refine Calls.spliced_cons (ld_glob (X := X.suite a pn) I g1 m1 ?_ d1)
  refine Calls.spliced_cons (ld_glob (X := X.suite a pn) I g2 m2 ?_ d2)
  refine Calls.spliced_cons (ld_glob (X := X.suite a pn) I g3 m3 ?_ d3)
  refine Calls.spliced_nil ⟨(by decide : 3 ≤ sizeLine), ?_⟩
  exact (PySem.W.exm_tup3 (M := model X.prog X.w) (I.kIn.keeps kp) (LT.keeps kp) (Heap.get?_push_size _ rfl) hb).here (q _ kp)
abbrev Clause := (Value → Option Bool) × (Addr → Value → Option Addr → TS)
def clr (i : Nat) (D : Ends) : Ends := { nx := fun σ' H' => D.nx (σ'.set i none) H', rt := D.rt, bk := fun σ' H' => D.bk (σ'.set i none) H', ct := fun σ' H' => D.ct (σ'.set i none) H' }
def wClauses (i : Nat) (Wout : WX) (D : Ends) : List Clause → WX
  | [] => Wout
  | (m, ts) :: r => fun cls d σ H => ∃ b, m cls = some b ∧ (b = true → ∀ a, H a = none → ts a cls d (clr i D) (σ.set i (some (.ref a))) H) ∧ (b = false → wClauses i Wout D r cls d σ H)
inductive Clauses (X : Cx) (n : Str) : List ExceptHandler → List Clause → Prop
  | nil : Clauses X n [] []
  | cons {t : Expr} {m : Value → Option Bool} {ts : Addr → Value → Option Addr → TS} {b₀ : Stmt} {suite : List Stmt} {pos' : Pos} {hds : List ExceptHandler} {l : List Clause} (ht : TestOk X t m)
      (hsu : ∀ (a : Addr) (oe : Obj) (cls : Value) (d : Option Addr) (pn : List (Addr × Obj)), L2N.Zn cls d oe → (∃ vs, oe.data = .fields vs) → PSs (X.suite a ((a, oe) :: pn)) (b₀ :: suite) (ts a cls d)) (r : Clauses X n hds l) :
      Clauses X n (.ExceptHandler (some t) (some n) (b₀ :: suite) pos' :: hds) ((m, ts) :: l)
theorem ps_try_clauses {X : Cx} {n : Str} {i : Nat} {body : List Stmt} {h₀ : ExceptHandler} {hds : List ExceptHandler} {l : List Clause} {pos : Pos} {tb : WX → TS} {Wout : WX} (hs : X.stack = X.env :: X.outer) (hf : X.env.frame = some X.env.locals) (hN : X.N.Nodup) (hi : X.N[i]? = some n)
    (hln : X.env.kindOf n = some .local) (tk : L2N.Takes X Wout)
    (hb : ∀ (W : WX) (pn : List (Addr × Obj)) (xe : Value → Shared → Prop), L2N.Takes (X.tr pn xe) W → PassesOwn (model X.prog X.w) X.A X.env xe → PSs (X.tr pn xe) body (tb W)) (hh : Clauses X n (h₀ :: hds) l) :
    PS X (.Try body (h₀ :: hds) [] [] pos) (fun D σ H => tb (fun cls d σ H => σ.length = X.N.length → wClauses i Wout D l cls d σ H) D σ H) := by
  refine ⟨fun pins s σ H D I h => wpAny_Try_except ?_⟩
  have ok := I.ok
  have efr : X.A.frames = some (X.env :: X.outer) := by rw [ok.frames, hs]
  refine wpAny_mono ((hb (fun cls d σ H => σ.length = X.N.length → wClauses i Wout D l cls d σ H) (X.pn ++ pins) _ (fun u s' xx => ?_) PassesOwn.looking).run [] s σ H D (I.toTry _) h) (fun f s1 hsp => ?_) (fun e s1 he => he)
  · obtain ⟨a, B, sI, pins', σ', H', cls, d, rfl, J', nb, up, sky, na, os, ag, w⟩ := xx
    have J : Inv X pins σ' H' sI := J'.ofTry ok
    rw [hs] at sky
    show wpAny (model X.prog X.w) X.A (noteFrame (.ref a) X.env) _ _ _
    refine L2N.Sky.land L2N.Zn.steady efr hf sky fun h3 fl3 up3 => ?_
    have go : ∀ {hds' : List ExceptHandler} {l' : List Clause}, Clauses X n hds' l' → wClauses i Wout D l' cls d σ' H' → ∀ h4, HandSPX.FlyingZ B (X.env :: X.outer) a (L2N.Zn cls d) h4 → sI.heap.UpToSlots h4 →
        wpAny (model X.prog X.w) X.A (handleBy (.ref a) X.env hds') (SP X pins D) X.xe { s' with heap := h4 } := by
      intro hds' l' hk
      induction hk with
      | nil =>
        intro w h4 fl up4
        refine wpAny_handleBy_nil ?_
        obtain ⟨_, _, _, oe, vs, T, oT, ts', y1, y2, y3, y4, _⟩ := id fl
        unfold PySem.passOn
        refine wpAny_bind (wpAny_field y1 y3 y4 ?_)
        rw [if_neg (by simp : ¬ ((Value.ref T == Value.none) = true))]
        have fin : wpAny (model X.prog X.w) X.A (setFlight (.ref a) X.env.frame) (fun _ s4 => wpAny (model X.prog X.w) X.A (throw (.ref a) : Sem Flow) (SP X pins D) X.xe s4) X.xe { s' with heap := h4 } := by
          rw [hf]
          exact HandSPX.setFlight_upZ fl fun h5 hh5 up5 => wpAny_throw (tk _ _ ⟨a, B, sI, pins, σ', H', cls, d, rfl, J, nb, up4.trans up5, .inr (.inr (by rw [hs]; exact hh5)), na, os, ag, w⟩)
        first
          | exact wpAny_bind (wpAny_pure (wpAny_bind fin))
          | exact wpAny_bind fin
      | @cons t m ts b₀ suite pos' hds2 l2 ht hsu r ih =>
        intro w h4 fl up4
        obtain ⟨b, hb1, hyes, hno⟩ := w
        obtain ⟨oe, vs, ge, gz, gd⟩ := fl.there
        have J4 : Inv X pins σ' H' { s' with heap := h4 } := J.landed nb fl.1 up4 os ag
        have nfr : a ∉ frs (X.env :: X.outer) := fun hm => by
          obtain ⟨_, o', e', hnf⟩ := fl.2.2.1.mem hm
          rw [ge] at e'
          cases e'
          exact hnf _ gd
        have nL : a ≠ X.env.locals := fun z => nfr (List.mem_filterMap.mpr ⟨X.env, List.mem_cons_self, by rw [hf, z]⟩)
        have nF : a ∉ X.fs := fun hm => by
          obtain ⟨e, he, q⟩ := List.mem_filterMap.mp hm
          exact nfr (List.mem_filterMap.mpr ⟨e, List.mem_cons_of_mem _ he, q⟩)
        refine wpAny_handleBy_cons (codeAny_handlers_test ?_) (by intro q; cases q)
        refine ht a _ _ σ' H' cls b _ _ (J4.suite ge gd na nL nF) (fun A Q E s k q => wpAny_typeOf_ref (k _ _ ge) (by rw [gz.1]; exact q)) hb1 fun h5 k5 => ?_
        have fl5 := fly_more fl k5
        have up5 : sI.heap.UpToSlots h5 := up4.trans fun b o e _ => ⟨o.slots, k5 b o e⟩
        cases b with
        | true =>
          refine codeAny_handlers_suite_as (HandSPX.lands_againZ fl5 fun h6 fl6 up6 => ?_)
          have J6 : Inv X pins σ' H' { s' with heap := h6 } := J.landed nb fl6.1 (up5.trans up6) os ag
          obtain ⟨oe6, vs6, ge6, gz6, gd6⟩ := fl6.there
          refine store_ok (X := X.suite a ((a, oe6) :: (X.pn ++ pins))) (v := .ref a) (J6.suite ge6 gd6 na nL nF) hN hi (.inl hln) rfl (fun s7 S7 => ?_) (.inr hln)
          refine wpAny_mono ((hsu a oe6 cls d (X.pn ++ pins) gz6 ⟨_, gd6⟩).run [] s7 _ H' _ S7 (hyes rfl a na)) (fun f s8 hsp => ?_) (fun _ _ z => False.elim z)
          have away : ∀ {σ8 : L2.St} {H8 : Hp} {Q : Shared → Prop}, Inv (X.suite a ((a, oe6) :: (X.pn ++ pins))) [] σ8 H8 s8 → (∀ s9, Inv X pins (σ8.set i none) H8 s9 → Q s9) →
              wpAny (model X.prog X.w) X.A (do bindName X.env n .none; unbindBehindTheSuite X.env n pos') (fun _ s9 => Q s9) X.xe s8 := fun {σ8 H8 Q} S8 hq => gone_ok (S8.unsuite ok) hN hi hln hq
          cases f with
          | next => obtain ⟨σ8, H8, S8, q8⟩ := hsp; exact away S8 fun s9 J9 => ⟨_, _, J9, q8⟩
          | brk => obtain ⟨σ8, H8, S8, q8⟩ := hsp; exact away S8 fun s9 J9 => ⟨_, _, J9, q8⟩
          | cont => obtain ⟨σ8, H8, S8, q8⟩ := hsp; exact away S8 fun s9 J9 => ⟨_, _, J9, q8⟩
          | ret u => obtain ⟨v8, σ8, H8, S8, r8, q8⟩ := hsp; exact away S8 fun s9 J9 => ⟨_, _, _, J9, r8, q8⟩
        | false =>
          show wpAny _ X.A (handleBy (.ref a) X.env hds2) _ _ _
          exact ih (hno rfl) h5 fl5 up5
    exact go hh (w J.len) h3 fl3 (up.trans up3)
  · cases f with
    | next => obtain ⟨σ', H', J', q⟩ := hsp; exact wpAny_execs_nil ⟨σ', H', J'.ofTry ok, q⟩
    | brk => obtain ⟨σ', H', J', q⟩ := hsp; exact ⟨σ', H', J'.ofTry ok, q⟩
    | cont => obtain ⟨σ', H', J', q⟩ := hsp; exact ⟨σ', H', J'.ofTry ok, q⟩
    | ret u => obtain ⟨v, σ', H', J', r, q⟩ := hsp; exact ⟨v, σ', H', J'.ofTry ok, r, q⟩
/-! ### a raise of an own error, made by its __init__ -/
theorem mkRunN {X : Cx} {pins : List (Addr × Obj)} {σ : L2.St} {H1 : Hp} {s1 : Shared} {C fI : Addr} {k : Nat} {fd : FuncData} {ps : List Str} {sp : Sp} {us : List Value} {vs : List V} {Q : XK} (T : OexC X.K C) (iC : PySem.W.findIn X.K (.ref C) "__init__" = some (some (.ref fI)))
    (tI : PySem.W.typeIn X.K (.ref fI) = some (.type "function")) (F1 : FnOk X.prog X.w X.K X.mg X.base CX0 k fI fd ps sp) (hr : Room (k + 1) X.A) (hb : Binds X.K fd ps []) (I1 : Inv X pins σ H1 s1) (r1 : Vals vs us) (hz : vs.length ≤ 1000)
    (q1 : ∀ a, H1 a = none → sp (.ref a :: vs) (upd H1 a (exo a C none)) (fun v H2 => v = .non ∧ ∃ (d : Addr) (fs : List (Str × V)), H2 a = some (exo a C (some d)) ∧ H2 d = some (exd d fs) ∧ H1 d = none ∧ Q (.ref C) (some d) (upd (del H2 a) d (.xd fs))) (fun _ _ _ => False)) :
    wpAny (model X.prog X.w) X.A (call (.ref C) us) (L2N.MkP X pins σ Q) X.xe s1 := by
  obtain ⟨nm, q, N, bs, bm, sn, sub, ab, col, dd, k0, k1, k2, k3, k5, hC, hbm⟩ := T.cls
  obtain ⟨hp, g, dr, tk, os⟩ := s1
  have le1 : hp.objs.size ≤ hp.objs.size + 1 := Nat.le_succ _
  have hq := q1 (hp.objs.size + 1) (I1.hok.fresh le1)
  have kk : ∀ b o, hp.get? b = some o → ((hp.push (PySem.W.kdv_tup us)).push (PySem.HandSPX.excO C hp.objs.size)).get? b = some o := fun b o e => Heap.get?_push_of_some _ (Heap.get?_push_of_some _ e)
  have hget : ((hp.push (PySem.W.kdv_tup us)).push (PySem.HandSPX.excO C hp.objs.size)).get? (hp.objs.size + 1) = some (PySem.HandSPX.excO C hp.objs.size) := by heap_get
  have I2 := I1.laid (t' := tk) (a := hp.objs.size + 1) (o := exo (hp.objs.size + 1) C none) (h' := (hp.push (PySem.W.kdv_tup us)).push (PySem.HandSPX.excO C hp.objs.size)) kk le1 (exo_ok hget)
  have r2 : Vals (V.ref (hp.objs.size + 1) :: vs) (Value.ref (hp.objs.size + 1) :: us) := .cons rfl r1
  have hl : (Value.ref (hp.objs.size + 1) :: us).length = ps.length := by rw [← r2.length]; exact F1.len _ _ _ _ hq
  have hbd := hb ⟨(hp.push (PySem.W.kdv_tup us)).push (PySem.HandSPX.excO C hp.objs.size), g, dr, tk, os⟩ (Value.ref (hp.objs.size + 1) :: us) I2.kIn (by rw [List.append_nil]; exact hl)
  rw [List.append_nil] at hbd
  have hus : us.length ≤ sizeLine := by
    rw [← Paired.length r1, sizeLine_eq]
    omega
  refine wpAny_call (PySem.HandSPX.call_own F.excBase_ValueError (fun Y => PySem.HandSPX.refsVE_contains Y bm hbm) (I1.kIn _ _ hC) (PySem.W.looks_findIn I1.kIn iC) (fun self => PySem.W.bind_fn I1.kIn self tI) hus
    (codeAny_mono (F1.run _ X.stack _ _ ⟨Value.ref (hp.objs.size + 1) :: us, []⟩ (Value.ref (hp.objs.size + 1) :: us) _ _ (fun _ _ _ => False) (hr.make C us []) (I2.env0.make C us []) hbd r2 hq) fun r s' hq' => ?_))
  cases r with
  | error er => exact (show False from hq').elim
  | ok fl =>
    cases fl with
    | ret u =>
      obtain ⟨v, H2, os2, bare2, un2, hok2, rv, ev, d, fs, ea, ed, hd1, q2⟩ := hq'
      subst ev
      obtain ⟨h2, g2, d2, t2, os'⟩ := s'
      obtain ⟨t0, G, J, kG, ge, hoe, na⟩ := mk_end0 (d2 := d2) (t2 := t2) I1 le1 kk un2 hok2 os2 bare2 ea ed hd1
      exact ⟨rv, _, _, _, ⟨G, g2, d2, t2, os'⟩, _, .ref C, some d, rfl, J, kG, ge, hoe, ⟨rfl, rfl, fun vs e => by cases e; rfl⟩, rfl, rfl, na, rfl, bare2, raises_own T.exC T.tyC, q2⟩
    | next => exact False.elim hq'
    | brk => exact False.elim hq'
    | cont => exact False.elim hq'
/-- the heap behind the making: the error's own dict, and nothing else, is new -/
theorem made_heap {H : Hp} {a d : Addr} {o1 : HO} {fs : List (Str × V)} (ha : H a = none) (hd : H d = none) (n : d ≠ a) {o2 : HO} : upd (del (upd (upd (upd H a o1) d (exd d fs)) a o2) a) d (.xd fs) = upd H d (.xd fs) := by
  funext b
  by_cases e1 : b = d
  · rw [e1, upd_same, upd_same]
  · rw [upd_ne e1, upd_ne e1]
    by_cases e2 : b = a
    · rw [e2, del_same, ha]
    · rw [del_ne e2, upd_ne e2, upd_ne e1, upd_ne e2]
/-- the promise of an __init__ that sets word alone -/
def spWord (C : Addr) (wd : Str) : Sp := fun vs H Q _ => ∃ a, vs = [.ref a] ∧ H a = some (exo a C none) ∧ ∀ dx, H dx = none → dx ≠ a → Q .non (upd (upd H dx (exd dx [("word", .str wd)])) a (exo a C (some dx)))
def tRaiseW (C : Addr) (wd : Str) : L2.St → Hp → XK → Prop := fun σ H Q => ∀ d, H d = none → Q (.ref C) (some d) (upd H d (.xd [("word", .str wd)]))
theorem pmk_word {X : Cx} {x wd : Str} {C fI : Addr} {k : Nat} {fd : FuncData} {p pos : Pos} (T : OexC X.K C) (iC : PySem.W.findIn X.K (.ref C) "__init__" = some (some (.ref fI))) (tI : PySem.W.typeIn X.K (.ref fI) = some (.type "function"))
    (F1 : FnOk X.prog X.w X.K X.mg X.base CX0 k fI fd ["self"] (spWord C wd)) (hr : Room (k + 1) X.A) (hb : Binds X.K fd ["self"] []) (hg : Gl X x) (hm : X.mg x = some (.ref C)) (hdb : (x == ("__debug__" : Str)) = false := by decide) :
    L2N.PMk X (.Call (.Name x p) [] [] pos) (tRaiseW C wd) := by
  intro pins s σ H Q I h
  refine wpAny_Call_Name_kw (ld_glob I hg hm ?_ hdb)
  refine PySem.W.callWith_K0 I.kIn T.kC (mkRunN T iC tI F1 hr hb I .nil (Nat.zero_le _) fun a ha => ⟨a, rfl, upd_same, fun dx ndx ne => ⟨rfl, dx, [("word", .str wd)], upd_same, ?_, ?_, ?_⟩⟩)
  · rw [upd_ne ne, upd_same]
  · rw [upd_ne ne] at ndx
    exact ndx
  · rw [upd_ne ne] at ndx
    rw [made_heap ha ndx ne]
    exact h dx ndx
end Onp
set_option maxHeartbeats 4000000
set_option autoImplicit false
namespace Onp
open PySem PySem.Spec PyProof.Rows L2 HotX L2H
/-! ### a def that may raise, its errors with no context -/
theorem okN {P : Program} {w : World} {K : PySem.W.Frag} {mg : Str → Option Value} {base : Heap} {x qual : Str} {st : Stmt} {f : Addr} {fd : FuncData} {N ps : List Str} {k : Nat} {sp : Sp} (F : Fun K x qual st f fd) (S : FnScope N ps (defScope st)) (len : ∀ vs H Q E, sp vs H Q E → vs.length = ps.length)
    (hbody : ∀ (cdv : Value) (A : Around) (outer : List Env) (s : Shared) (H : Hp) (vs : List V) (Q : VK) (E : XK), Room k (A.deeper (envOfC qual (defScope st) s.heap.objs.size f cdv)) → sp vs H Q E →
      ∃ t, PSs (cxOf (L2N.CX P w) P w K mg base N qual (defScope st) f cdv A outer s H E) (defBody st) t ∧ t { nx := fun _ H' => Q .non H', rt := Q } (start N vs) H) : FnOk P w K mg base (L2N.CX P w) (k + 1) f fd ps sp := by
  obtain ⟨oc, od, kV, doc, pm, an, cdv, ct, osl, rfl, lk, hcd⟩ := F.ex
  exact fn_of lk hcd S len fun A outer s H vs Q E hr hsp => hbody cdv A outer s H vs Q E hr hsp
/-! ### a def that is called with the handled exception -/
def FnPin (P : Program) (w : World) (K : PySem.W.Frag) (mg : Str → Option Value) (base : Heap) (k : Nat) (f : Addr) (fd : FuncData) (ps : List Str) (sp : Addr × Obj → List V → Hp → VK → Prop) : Prop :=
  ∀ (A : Around) (outer : List Env) (s : Shared) (H : Hp) (us : List Value) (vs : List V) (Q : VK) (p : Addr × Obj), RoomH k A → Hot1 A p → PinOk outer H s p → Env0 P w K mg base A outer s H → BindsTo s fd ⟨us, []⟩ (ps.zip us) → Vals vs us → vs.length = ps.length → sp p vs H Q →
    codeAny (model P w) A (.call (.ref f) ⟨us, []⟩) (CR CX0 outer P w H s Q E0) s
theorem okPin {P : Program} {w : World} {K : PySem.W.Frag} {mg : Str → Option Value} {base : Heap} {x qual : Str} {st : Stmt} {f : Addr} {fd : FuncData} {N ps : List Str} {k : Nat} {sp : Addr × Obj → List V → Hp → VK → Prop} (F : Fun K x qual st f fd) (S : FnScope N ps (defScope st))
    (hbody : ∀ (cdv : Value) (A : Around) (outer : List Env) (s : Shared) (H : Hp) (vs : List V) (Q : VK) (p : Addr × Obj), Hot1 A p → RoomH k (A.deeper (envOfC qual (defScope st) s.heap.objs.size f cdv)) → sp p vs H Q →
      ∃ t, PSs (cxH CX0 P w K mg base N qual (defScope st) f cdv A outer s H E0 p) (defBody st) t ∧ t { nx := fun _ H' => Q .non H', rt := Q } (L2.start N vs) H) : FnPin P w K mg base (k + 1) f fd ps sp := by
  obtain ⟨oc, od, kV, doc, pm, an, cdv, ct, osl, rfl, lk, hcd⟩ := F.ex
  intro A outer s H us vs Q p hr hot hpin e0 hb r hl hsp
  have KX : K.In s.heap := e0.mod.kin.keeps fun b o e => (e0.bs b o e).1
  have lim : s.heap.NoLimit := e0.mod.nolimit.keeps fun b o e => (e0.bs b o e).1
  refine codeAny_call_function hr.depth (KX _ _ lk) rfl S.co S.gen rfl (PySem.W.codeRec_of KX hcd) (hb _ _ _ _ ?_)
  refine wpAny_newFunctionEnv_cells S.kind (fun ⟨n, v⟩ hy => (S.par n (List.of_mem_zip hy).1).imp id fun q => ⟨q, PySem.W.cellsFrom_some _ _ _ (.inl q)⟩) fun env he s1 y => ?_
  subst he
  refine ⟨lim.keeps y.toInCall.keep, codeAny_func ?_⟩
  obtain ⟨t, ht, hq⟩ := hbody cdv A outer s H vs Q p hot (hr.deeper _) hsp
  refine wpAny_mono (ht.run [] s1 (L2.start N vs) H _ (inv_startH S hpin e0 hl r y) hq) (fun fl s' hs => ?_) fun e s' hs => hs
  cases fl with
  | ret u => obtain ⟨v, σ', H', J, rv, q⟩ := hs; exact ⟨v, H', J.os, J.bare, J.base, J.hok, rv, q⟩
  | next => obtain ⟨σ', H', J, q⟩ := hs; exact ⟨.non, H', J.os, J.bare, J.base, J.hok, rfl, q⟩
  | brk => obtain ⟨_, _, _, q⟩ := hs; exact False.elim q
  | cont => obtain ⟨_, _, _, q⟩ := hs; exact False.elim q
theorem pe_callPin {X : Cx} {k : Nat} {f : Addr} {fd : FuncData} {ps : List Str} {sp : Addr × Obj → List V → Hp → VK → Prop} {x : Str} {q pos : Pos} {e : Expr} {es : List Expr} {t : TA} {p : Addr × Obj} (F : FnPin X.prog X.w X.K X.mg X.base k f fd ps sp) (hr : RoomH k X.A) (hot : Hot1 X.A p) (hp : p ∈ X.pn)
    (hg : Gl X x) (hm : X.mg x = some (.ref f)) (hk : PySem.W.keepIn X.K (.ref f) = true) (hb : Binds X.K fd ps []) (ha : PA X (e :: es) t) (hdb : (x == ("__debug__" : Str)) = false := by decide)
    (he : starEach (e :: es) X.env = (false, eval e X.env) :: starEach es X.env := by rfl) (hpl : (backTo pos (starEach es X.env)).any (·.1) = false := by rfl) :
    PE X (.Call (.Name x q) (e :: es) [] pos) (fun σ H Q => t σ H fun vs H1 => vs.length = ps.length ∧ sp p vs H1 Q) := by
  refine ⟨fun pins s σ H Q I h => wpAny_Call_Name_kw (ld_glob I hg hm ?_ hdb)⟩
  refine PySem.W.callWith_K (h₀ := X.base) I.ok.mod.kin hk (thn (ha.run pos pins s σ H _ I h) fun us s1 ⟨vs, H1, I1, r, hl, q⟩ => ⟨I1.kIn, ?_⟩) he hpl
  have b := hb s1 us I1.kIn (by rw [List.append_nil, ← r.length]; exact hl)
  rw [List.append_nil] at b
  have P1 := I1.pin p (List.mem_append_left _ hp)
  have hpin : PinOk X.stack H1 s1 p := ⟨P1.1, P1.2.1, fun z => (List.mem_cons.mp (I1.stkSub p.1 z)).elim P1.2.2.1 P1.2.2.2.1, P1.2.2.2.2⟩
  refine wpAny_call (codeAny_mono (F X.A X.stack s1 H1 us vs Q p hr hot hpin I1.env0 b r hl q) fun r s' hq => ?_)
  cases r with
  | error e => exact (show False from hq).elim
  | ok fl =>
    cases fl with
    | ret u => exact I1.after hq
    | next => exact False.elim hq
    | brk => exact False.elim hq
    | cont => exact False.elim hq
/-! ### what is asked of a pinned exception -/
structure ErrC (K : PySem.W.Frag) (D : Addr) : Prop where
  cl : (PySem.W.clsIn K D).isSome = true
  ga : PySem.W.findIn K (.ref D) "__getattribute__" = some (some (.builtin "BaseException.__getattribute__"))
  gg : PySem.W.findIn K (.ref D) "__getattr__" = some none
  sb : PySem.W.subIn K (.ref D) (.type "BaseException") = some true
  cc : PySem.W.findIn K (.ref D) "__class__" = some (some (.builtin "object.__class__"))
  gs : PySem.W.specialIn K (.builtin "object.__class__") "__get__" = some (some (.builtin "getset_descriptor.__get__"))
  tk : PySem.W.takesIn K (.builtin "object.__class__") = some true
  mo : PySem.W.mroIn K D (.type "object") = some true
  hd : PySem.W.hasDictIn K D = true
theorem inst_pin {X : Cx} {pins : List (Addr × Obj)} {σ : L2.St} {H : Hp} {s : Shared} {p : Addr × Obj} {D d : Addr} {fs : List (Str × V)} (I : Inv X pins σ H s) (hp : p ∈ X.pn) (hz : Zc (.ref D) (some d) p.2) (hf : ∃ vs, p.2.data = .fields vs) (hd : H d = some (.xd fs)) :
    ∃ od, PySem.W.InstAt s.heap p.1 p.2 D (some od) ∧ ∃ mA : Str → Option Value, (∀ f, RelO (fs.lookup f) (mA f)) ∧ ∀ name, PySem.W.lookIn name od = some (mA name) := by
  obtain ⟨mA, hns, hr⟩ := (show ∃ mA, s.heap.Ns1 d mA ∧ ∀ f, RelO (fs.lookup f) (mA f) from I.hok d _ hd)
  obtain ⟨od, ho, hl⟩ := lookIn_ns hns
  obtain ⟨vs, hv⟩ := hf
  exact ⟨od, ⟨(I.pin p (List.mem_append_left _ hp)).1, hz.1, by unfold PySem.W.notCls; rw [hv] <;> rfl, by rw [hz.2]; exact ho⟩, mA, hr, hl⟩
theorem call_isP {X : Cx} {p : Addr × Obj} {D d : Addr} (C : ErrC X.K D) (hp : p ∈ X.pn) (hz : Zc (.ref D) (some d) p.2) (hf : ∃ vs, p.2.data = .fields vs) :
    CallR X (.builtin "isinstance") (fun xs H Q => ∃ (c : Addr) (b : Bool) (fs : List (Str × V)), xs = [.ref p.1, .ref c] ∧ H d = some (.xd fs) ∧ PySem.W.kitOne X.K (.ref D) (.ref c) = some b ∧ Q (.bl b) H) := by
  intro pins s σ H xs us Q I r h
  obtain ⟨c, b, fs, rfl, hd, e, q⟩ := h
  obtain ⟨u, v, rfl, ru, rv⟩ := vals2 r
  cases ru
  cases rv
  obtain ⟨od, J, _⟩ := inst_pin I hp hz hf hd
  exact PySem.W.kia_one (PySem.W.kitx_exc C.cl C.ga C.gg C.sb C.cc C.gs C.tk C.mo) I.kIn J e (fun z => nomatch z) fun tk => ⟨.bl b, H, I.kept (t' := tk) fun _ _ z => z, rfl, q⟩
/-- e.f of it -/
theorem pe_fldP {X : Cx} {p : Addr × Obj} {D d : Addr} {e : Expr} {te : TE} {pos : Pos} {n : Str} (C : ErrC X.K D) (hno : PySem.W.findIn X.K (.ref D) n = some none) (hp : p ∈ X.pn) (hz : Zc (.ref D) (some d) p.2) (hf : ∃ vs, p.2.data = .fields vs) (he : PE X e te)
    (hb : attributeBase e n X.env (eval e X.env) = eval e X.env := by rfl) : PE X (.Attribute e n pos) (fun σ H Q => te σ H fun x H1 => x = .ref p.1 ∧ ∃ (fs : List (Str × V)) (v : V), H1 d = some (.xd fs) ∧ fs.lookup n = some v ∧ Q v H1) := by
  refine ⟨fun pins s σ H Q I h => attr_of hb (thn (he.run pins s σ H _ I h) fun u s1 ⟨x, H1, I1, rx, ex, fs, v, hd, l, q⟩ => ?_)⟩
  subst ex
  obtain rfl : u = Value.ref p.1 := rx
  obtain ⟨od, J, mA, hr, hl⟩ := inst_pin I1 hp hz hf hd
  obtain ⟨u, hu, ru⟩ := RelO.some_of (v := v) (o := mA n) (by rw [← l]; exact hr n)
  exact HandSPX.exc_get I1.kIn J C.ga C.gg C.sb (PySem.W.findObj_own C.hd hno rfl (by rw [hl, hu])) (handed_of ru) ⟨v, H1, I1.tok _, ru, q⟩
/-! ### a comprehension over zip, the first list no longer -/
theorem lc_zip1 {K : PySem.W.Frag} {a b : Addr} {xs ys : List V} {g : TG} {tt : TT} {te : TE} {vs : List Nat} {σ : L2.St} {H1 : Hp} {D : Addr} {Qd : Hp → Prop} (hl : xs.length ≤ ys.length) (Pv : Nat → Hp → Prop) (h0 : Pv 0 (upd H1 D (.lst []))) (hq : ∀ i H, Pv i H → SqL K H a xs ∧ SqL K H b ys)
    (hs : ∀ i x y T H, xs[i]? = some x → ys[i]? = some y → Pv i H → H T = none → g (.ref T) (wipe σ vs) (upd H T (.tup [x, y])) fun σ2 H2 => wipe σ2 vs = wipe σ vs ∧ tt σ2 H2 fun b H3 =>
      if b = true then te σ2 H3 fun y H4 => ∃ acc, H4 D = some (.lst acc) ∧ acc.length < sizeLine ∧ Pv (i + 1) (upd H4 D (.lst (acc ++ [y]))) else Pv (i + 1) H3) (hd : ∀ H, Pv xs.length H → Qd H) :
    ∃ W : Nat → Nat → Hp → Prop, (∃ m, W 0 m (upd H1 D (.lst []))) ∧ ∀ i m H, W i m H → ((Itz1 K a b).stop i H ∧ Qd H) ∨ ((Itz1 K a b).go i H ∧ ∃ Nx : Hp → Prop, (∀ H', Nx H' → ∃ m', m' < m ∧ W (i + 1) m' H') ∧
      ∀ x H', (Itz1 K a b).yld i H x H' → g x (wipe σ vs) H' fun σ2 H2 => wipe σ2 vs = wipe σ vs ∧ tt σ2 H2 fun b H3 => if b = true then te σ2 H3 fun y H4 => ∃ acc, H4 D = some (.lst acc) ∧ acc.length < sizeLine ∧ Nx (upd H4 D (.lst (acc ++ [y]))) else Nx H3) := by
  refine ⟨fun i m H => m = xs.length - i ∧ i ≤ xs.length ∧ Pv i H, ⟨xs.length, by simp, Nat.zero_le _, h0⟩, fun i m H ⟨em, hi, p⟩ => ?_⟩
  obtain ⟨qa, qb⟩ := hq i H p
  by_cases lt : i < xs.length
  · have lt2 : i < ys.length := by omega
    refine .inr ⟨⟨xs, ys, xs[i], ys[i], qa, qb, List.getElem?_eq_getElem lt, List.getElem?_eq_getElem lt2⟩, Pv (i + 1), fun H' p' => ⟨xs.length - (i + 1), by omega, rfl, lt, p'⟩, fun x H' hy => ?_⟩
    obtain ⟨T, x1, x2, rfl, nT, rfl, e1, e2⟩ := hy
    exact hs i x1 x2 T H (e1 _ qa) (e2 _ qb) p nT
  · have e : i = xs.length := by omega
    subst e
    exact .inl ⟨⟨xs, ys, qa, qb, Nat.le_refl _⟩, hd H p⟩
/-! ### the lambda that a def got, called in its try: errors with no context -/
def lamCxN (X : Cx) (A : Around) (outer : List Env) (s : Shared) (H : Hp) (E : XK) (scope : Scope) (f c' : Addr) : Cx :=
  { LamX.lamCx X A outer s H E scope f c' with xe := fun e s' => wpAny (model X.prog X.w) (A.deeper (LamX.lamEnv X scope s.heap.objs.size f c')) (leaving (LamX.lamEnv X scope s.heap.objs.size f c') e) (fun _ s'' => L2N.CX X.prog X.w outer H s E e s'') (fun e' s'' => L2N.CX X.prog X.w outer H s E e' s'') s' }
theorem reXe {X : Cx} {xe : Value → Shared → Prop} {pins : List (Addr × Obj)} {σ : L2.St} {H : Hp} {s : Shared} (I : Inv X pins σ H s) : Inv { X with xe := xe } pins σ H s := by
  have ok := I.ok
  exact ⟨⟨ok.mod, ok.kind, ok.glob, ok.blt, ok.above, ok.inj, ok.has, ok.cab, ok.hd, ok.frames, ok.stk, ok.exf, ok.bs, ok.bsz, ok.noex, ok.exfs, ok.funs, ok.frf⟩, I.os, I.bare, I.base, I.loc, I.cell, I.free, I.freeC, I.pin, I.hok, I.len⟩
section
variable {X : Cx} {pins : List (Addr × Obj)} {σ : L2.St} {H : Hp} {s : Shared}
open LamX
theorem pe_actN {CXg : CXT} {Eg : XK} {Ng : List Str} {qg : Str} {sg : Scope} {g f c' : Addr} {cdg pm ctv : Value} {params : Arguments} {body : Expr} {scope : Scope} {k i : Nat} {a : Str} {pn : List (Addr × Obj)} {xe : Value → Shared → Prop} {W : WX} {E : XK} {tb : TE} {p1 p2 : Pos}
    (I : Inv X pins σ H s) (L : LamS X.env.scope scope) (hf : s.heap.get? f = some (PySem.W.kla_obj "<lambda>" (X.env.qual ++ "<lambda>") params body scope (cloFrom X.env.cells scope.names []) pm c' ctv)) (hfn : H f = none) (hfr : f ∉ frs X.stack)
    (hbind : bindArgs (PySem.W.kla_fn "<lambda>" (X.env.qual ++ "<lambda>") params body scope (cloFrom X.env.cells scope.names []) pm (.ref c') ctv) ⟨[], []⟩ = pure [])
    (tk : L2N.Takes ((cxOf CXg X.prog X.w X.K X.mg X.base Ng qg sg g cdg X.A X.stack s H Eg).tr pn xe) W) (hW : ∀ cls d σ' H', E cls d H' → W cls d σ' H') (hr : Room (k + 1) (X.A.deeper (envOfC qg sg s.heap.objs.size g cdg)))
    (hbody : ∀ (A : Around) (outer : List Env) (s : Shared) (H : Hp), Room k (A.deeper (lamEnv X scope s.heap.objs.size f c')) → PE (lamCxN X A outer s H E scope f c') body tb)
    (hN : Ng[i]? = some a) (hv : Vis sg a) (hd : (a == ("__debug__" : Str)) = false) (hcd : (a == ("__classdict__" : Str)) = false) :
    PE ((cxOf CXg X.prog X.w X.K X.mg X.base Ng qg sg g cdg X.A X.stack s H Eg).tr pn xe) (.Call (.Name a p1) [] [] p2) (fun σZ HZ Q => σZ[i]? = some (some (.ref f)) ∧ HZ c' = some (CodeO c' (X.env.qual ++ "<lambda>")) ∧ tb σ HZ Q) := by
  refine ⟨fun pinsZ sZ σZ HZ Q IZ ⟨hs, hc, ht⟩ => ?_⟩
  refine wpAny_Call_Name_kw (thn ((pe_var (pos := p1) (i := i) hN hv hd hcd).run pinsZ sZ σZ HZ (fun v H1 => v = .ref f ∧ H1 = HZ) IZ ⟨.ref f, hs, rfl, rfl⟩) fun u s1 ⟨v, H1, I1, r1, ev, eH⟩ => ?_)
  subst ev
  rw [eH] at I1
  obtain rfl : u = Value.ref f := r1
  have of1 := I1.base.keep f _ hf hfn hfr (fun z => nomatch (show f ∈ ([] : List Addr) from z))
  refine PySem.W.callWith_F0 ⟨_, _, _, _, of1⟩ ?_
  obtain ⟨⟨oc, vs, t, hoc, hdc, hvc⟩, _, _⟩ := I1.hok c' _ hc
  have rc : codeAny (model X.prog X.w) (X.A.deeper (envOfC qg sg s.heap.objs.size g cdg)) (.call (.ref f) ⟨[], []⟩) (CR (L2N.CX X.prog X.w) (envOfC qg sg s.heap.objs.size g cdg :: X.stack) X.prog X.w HZ s1 Q E) s1 := by
    refine PySem.W.kla_callFunE hr.depth of1 rfl L.co L.gen rfl ⟨c', oc, vs, t, rfl, hoc, hdc, hvc⟩ ?_
    rw [hbind]
    refine wpAny_pure (wpAny_newFunctionEnv (fun y hy => (L.own y hy).2) (fun y hy => absurd hy (by simp)) (fun j hns hsb => ⟨I1.nolimit.fresh _ hsb, ?_⟩) L.kind)
    show codeAny _ _ (.expr body (lamEnv X scope s1.heap.objs.size f c')) _ _
    have kp : ∀ b o, s1.heap.get? b = some o → j.get? b = some o := fun b o e => hsb.extBut b o (Nat.ne_of_lt (Heap.lt_size e)) (Heap.get?_push_of_some _ e)
    have J0 : Inv (lamCx X (X.A.deeper (envOfC qg sg s.heap.objs.size g cdg)) (envOfC qg sg s.heap.objs.size g cdg :: X.stack) s1 HZ E scope f c') [] σ HZ { s1 with heap := j, toks := s1.toks + ([] : List (Str × Value)).length } := lam_start2 I L I1.env0 hr.hd I1.base hns kp
    have J : Inv (lamCxN X (X.A.deeper (envOfC qg sg s.heap.objs.size g cdg)) (envOfC qg sg s.heap.objs.size g cdg :: X.stack) s1 HZ E scope f c') [] σ HZ { s1 with heap := j, toks := s1.toks + ([] : List (Str × Value)).length } := reXe J0
    refine PySem.W.kla_codeExpr (wpAny_mono ((hbody _ _ s1 HZ (hr.deeper _)).run [] _ _ HZ Q J ht) (fun v s' hq => ?_) fun e s' hq => hq)
    obtain ⟨w', H', J', rv, q⟩ := hq
    exact ⟨w', H', J'.os, J'.bare, J'.base, J'.hok, rv, q⟩
  have hx := L2N.passes_call tk hW
  refine wpAny_call (codeAny_mono rc fun r s' hq => ?_)
  cases r with
  | error e => exact hx pinsZ σZ HZ s1 e s' I1 hq
  | ok fl =>
    cases fl with
    | ret u => exact I1.after hq
    | next => exact False.elim hq
    | brk => exact False.elim hq
    | cont => exact False.elim hq
end
end Onp
set_option maxHeartbeats 4000000
set_option autoImplicit false
namespace Onp
open PySem PySem.Spec PyProof.Rows L2 HotX L2H LamX
/-! ### x(lambda: body), x a def that calls what it got in a try; errors with no context -/
def GivesN (X : Cx) (k : Nat) (Ng : List Str) (x : Str) (sg : Scope) (g : Addr) (cdg : Value) (bg : List Stmt) (a : Str) (q : Str) (TT : (XK → Hp → VK → Prop) → Hp → VK → Prop) : Prop :=
  ∀ (f c' : Addr) (s : Shared) (H : Hp) (Q : VK) (tl : XK → Hp → VK → Prop), Room (k + 1) (X.A.deeper (envOfC x sg s.heap.objs.size g cdg)) →
    (∀ (W : WX) (pn : List (Addr × Obj)) (xe : Value → Shared → Prop) (E : XK) (p1 p2 : Pos), L2N.Takes ((cxOf CX0 X.prog X.w X.K X.mg X.base Ng x sg g cdg X.A X.stack s H E0).tr pn xe) W → (∀ cls d σ' H', E cls d H' → W cls d σ' H') →
      PE ((cxOf CX0 X.prog X.w X.K X.mg X.base Ng x sg g cdg X.A X.stack s H E0).tr pn xe) (.Call (.Name a p1) [] [] p2) (fun σZ HZ Q => σZ[0]? = some (some (.ref f)) ∧ HZ c' = some (CodeO c' q) ∧ tl E HZ Q)) →
    H c' = some (CodeO c' q) → TT tl H Q →
    ∃ t, PSs (cxOf CX0 X.prog X.w X.K X.mg X.base Ng x sg g cdg X.A X.stack s H E0).nox bg t ∧ t { nx := fun _ H' => Q .non H', rt := Q } (L2.start Ng [.ref f]) H
theorem pe_lamN {X : Cx} {T : List (Addr × Str)} {TT : (XK → Hp → VK → Prop) → Hp → VK → Prop} {x a : Str} {g c P : Addr} {k : Nat} {pg : Arguments} {bg : List Stmt} {sg : Scope} {dV kV doc pm cdv ct oc : Value} {an od : Option Addr} {osl : Array (Option Value)} {Ng : List Str}
    {params : Arguments} {body : Expr} {scope : Scope} {t : XK → TE} {p lpos pos : Pos} (hg : Gl X x) (hm : X.mg x = some (.ref g)) (hk : PySem.W.keepIn X.K (.ref g) = true) (lk : X.K.lookup g = some ⟨oc, od, .func (PySem.W.fnOf x x pg bg sg dV kV doc pm an cdv ct), osl⟩)
    (hcg : PySem.W.codeIn X.K cdv x = true) (hb : L2.Binds X.K (PySem.W.fnOf x x pg bg sg dV kV doc pm an cdv ct) [a] []) (Sg : FnScope Ng [a] sg) (hNg : Ng[0]? = some a) (hva : Vis sg a) (hG : GivesN X k Ng x sg g cdv bg a (X.env.qual ++ "<lambda>") TT)
    (TB : TabB X.base X.mg c P) (hcode : X.env.code = .ref c) (hmT : (P, X.env.qual ++ "<lambda>") ∈ T) (hu : ∀ p ∈ T, p.1 = P → p.2 = X.env.qual ++ "<lambda>") (hr : Room (k + 2) X.A) (L : LamS X.env.scope scope) (hdef : defaultsOf params X.env = ([], []))
    (hbind : ∀ (q : Str) (cl : List (Str × Addr)) (pm cv ctv : Value), bindArgs (PySem.W.kla_fn "<lambda>" q params body scope cl pm cv ctv) ⟨[], []⟩ = pure [])
    (hbody : ∀ (A : Around) (outer : List Env) (s : Shared) (H : Hp) (E : XK) (f c' : Addr), Room k (A.deeper (lamEnv X scope s.heap.objs.size f c')) → PE (lamCxN X A outer s H E scope f c') body (t E))
    (hdb : (x == ("__debug__" : Str)) = false := by decide) (hd : (a == ("__debug__" : Str)) = false := by decide) (hcd : (a == ("__classdict__" : Str)) = false := by decide) : PE X (.Call (.Name x p) [.Lambda params body scope lpos] [] pos) (tLam T TT t) := by
  refine ⟨fun pins s σ H Q I ⟨hT, h⟩ => wpAny_Call_Name_kw (ld_glob I hg hm ?_ hdb)⟩
  refine PySem.W.callWith_K (h₀ := X.base) I.ok.mod.kin hk ?_ (by rfl) (by rfl)
  show wpAny _ _ (spliced ((false, eval (.Lambda params body scope lpos) X.env) :: backTo pos (starEach [] X.env))) _ _ s
  refine Calls.spliced_cons (lam_make2 I TB hcode hmT hu hT hdef (L.has I.ok) fun f c' pm' ctv H1 s' I1 eN T1 hf hfn hfr hco => Calls.spliced_nil ⟨I1.kIn, ?_⟩)
  have rc : codeAny (model X.prog X.w) X.A (.call (.ref g) ⟨[.ref f], []⟩) (CR CX0 X.stack X.prog X.w H1 s' Q E0) s' := by
    refine run_ofS (N := Ng) (ps := [a]) (us := [.ref f]) (vs := [.ref f]) lk hcg Sg hr I1.env0 (hb s' [.ref f] I1.kIn rfl) (.cons rfl .nil) rfl fun hr' => ?_
    obtain ⟨t', ht', hq'⟩ := hG f c' s' H1 Q (fun E H' Q' => t E σ H' Q') hr' (fun W pn xe E p1 p2 tk hW => pe_actN (i := 0) I1 L hf hfn hfr (hbind _ _ _ _ _) tk hW hr' (fun A outer s H hr2 => hbody A outer s H E f c' hr2) hNg hva hd hcd) hco (h H1 eN T1)
    exact ⟨t', ht'.nox, hq'⟩
  refine wpAny_call (codeAny_mono rc fun r s2 hq => ?_)
  cases r with
  | error e => exact (show False from hq).elim
  | ok fl =>
    cases fl with
    | ret u => exact I1.after hq
    | next => exact False.elim hq
    | brk => exact False.elim hq
    | cont => exact False.elim hq
theorem takes0N {X : Cx} : L2N.Takes X (fun _ _ _ _ => False) := fun _ _ x => by
  obtain ⟨_, _, _, _, _, _, _, _, _, _, _, _, _, _, _, _, z⟩ := x
  exact z.elim
end Onp
set_option autoImplicit false
namespace Onp
open PySem PySem.Spec PyProof.Rows L2
/-! ### deeds and marks -/
inductive Dd where
  | keep | cent | fill | coin | brim
  deriving DecidableEq
def Dd.nm : Dd → Str
  | .keep => "keep" | .cent => "cent" | .fill => "fill" | .coin => "coin" | .brim => "brim"
def Dd.rk : Dd → Nat
  | .keep => 0 | .cent => 1 | .fill => 2 | .coin => 3 | .brim => 4
def deedsL : List Str := ["keep", "cent", "fill", "coin", "brim"]
def marksL : List Str := ["brim", "fill", "keep", "cent", "coin", "dear", "shut"]
def makingL : List Str := ["keep", "cent", "fill", "coin", "brim", "dear", "shut"]
def mkn (i : Nat) : Str := makingL.getD i "shut"
theorem nm_mkn (d : Dd) : d.nm = mkn d.rk := by cases d <;> rfl
theorem rk_lt (d : Dd) : d.rk < 5 := by cases d <;> decide
theorem nm_in (d : Dd) : d.nm ∈ deedsL := by cases d <;> decide +kernel
theorem in_nm : ∀ z ∈ deedsL, ∃ d : Dd, z = d.nm := fun z h => by
  rcases List.mem_cons.mp h with rfl | h
  · exact ⟨.keep, rfl⟩
  rcases List.mem_cons.mp h with rfl | h
  · exact ⟨.cent, rfl⟩
  rcases List.mem_cons.mp h with rfl | h
  · exact ⟨.fill, rfl⟩
  rcases List.mem_cons.mp h with rfl | h
  · exact ⟨.coin, rfl⟩
  rcases List.mem_cons.mp h with rfl | h
  · exact ⟨.brim, rfl⟩
  cases h
def dv (d : Dd) : V := .str d.nm
def stp (p : Int × Int) : Dd → Int × Int
  | .keep => p
  | .cent => (p.1 + 1, p.2)
  | .fill => (0, p.2)
  | .coin => (0, p.2 + 1)
  | .brim => (0, 0)
theorem flatStrs (ys : List Str) : (ys.map V.str).all flatV = true := by
  rw [List.all_map]
  exact List.all_eq_true.mpr fun _ _ => rfl
theorem inV_strs (z : Str) : ∀ ys : List Str, inV (.str z) (ys.map V.str) = decide (z ∈ ys)
  | [] => by rfl
  | y :: r => by
    have ih := inV_strs z r
    unfold inV at ih ⊢
    rw [List.map_cons, List.any_cons, ih]
    show ((y == z) || decide (z ∈ r)) = decide (z ∈ y :: r)
    by_cases e : z = y
    · subst e
      rw [beq_self_eq_true, decide_eq_true List.mem_cons_self]
      rfl
    · have e1 : (y == z) = false := beq_eq_false_iff_ne.mpr (Ne.symm e)
      rw [e1, Bool.false_or]
      by_cases h : z ∈ r
      · rw [decide_eq_true h, decide_eq_true (List.mem_cons_of_mem _ h)]
      · rw [decide_eq_false h, decide_eq_false (fun q => (List.mem_cons.mp q).elim e h)]
end Onp
set_option maxHeartbeats 4000000
set_option autoImplicit false
/-! own refusals over other built-in ones than ValueError, with one field -/
namespace Onp
open PySem PySem.Spec PyProof.Rows L2 HotX L2H
def isR : Value → Bool
  | .ref _ => true
  | _ => false
theorem isR_ref {v : Value} (h : isR v = true) : ∃ c, v = .ref c := by
  cases v <;> first | exact ⟨_, rfl⟩ | cases h
structure BaseB (B newId initId : String) (tl : List Value) : Prop where
  F : ExcBaseFacts B newId initId tl
  pass : ∀ self : Value, refuseLoop self "__setattr__" tl = pure ()
  ob : tl.contains (.type "object") = true
theorem refsT_pass {tl : List Value} (hp : ∀ self : Value, refuseLoop self "__setattr__" tl = pure ()) (self : Value) : ∀ l : List Value, l.dropWhile isR = tl → refuseLoop self "__setattr__" l = pure ()
  | [], h => by
    have h : [] = tl := h
    rw [h]
    exact hp self
  | v :: r, h => by
    cases e : isR v with
    | true =>
      obtain ⟨c, rfl⟩ := isR_ref e
      rw [refuseLoop_ref]
      exact refsT_pass hp self r (by rw [List.dropWhile_cons_of_pos e] at h; exact h)
    | false =>
      rw [List.dropWhile_cons_of_neg (by rw [e]; decide)] at h
      rw [h]
      exact hp self
theorem refsT_has {tl : List Value} (Y : String) : ∀ l : List Value, l.dropWhile isR = tl → l.contains (.type Y) = tl.contains (.type Y)
  | [], h => by
    have h : [] = tl := h
    rw [h]
  | v :: r, h => by
    cases e : isR v with
    | true =>
      obtain ⟨c, rfl⟩ := isR_ref e
      rw [List.dropWhile_cons_of_pos e] at h
      rw [List.contains_cons, refsT_has Y r h]
      rfl
    | false =>
      rw [List.dropWhile_cons_of_neg (by rw [e]; decide)] at h
      rw [h]
structure OexB (K : PySem.W.Frag) (C : Addr) (newId : String) (tl : List Value) : Prop where
  cls : ∃ nm q N bs bm sn sub ab col dd k0 k1 k2 k3 k5, K.lookup C = some (excClassObj nm q C N bs bm true sn sub ab col dd k0 k1 k2 k3 k5 newId) ∧ bm.dropWhile isR = tl
  sa : PySem.W.findIn K (.ref C) "__setattr__" = some (some (.builtin "object.__setattr__"))
  exC : PySem.W.subIn K (.ref C) (.type "BaseException") = some true
  tyC : PySem.W.typeIn K (.ref C) = some (.type "type")
  kC : PySem.W.keepIn K (.ref C) = true
theorem mkRunB {X : Cx} {B newId initId : String} {tl : List Value} (BB : BaseB B newId initId tl) {pins : List (Addr × Obj)} {σ : L2.St} {H1 : Hp} {s1 : Shared} {C fI : Addr} {k : Nat} {fd : FuncData} {ps : List Str} {sp : Sp} {us : List Value} {vs : List V} {Q : XK} (T : OexB X.K C newId tl) (iC : PySem.W.findIn X.K (.ref C) "__init__" = some (some (.ref fI)))
    (tI : PySem.W.typeIn X.K (.ref fI) = some (.type "function")) (F1 : FnOk X.prog X.w X.K X.mg X.base CX0 k fI fd ps sp) (hr : Room (k + 1) X.A) (hb : Binds X.K fd ps []) (I1 : Inv X pins σ H1 s1) (r1 : Vals vs us) (hz : vs.length ≤ 1000)
    (q1 : ∀ a, H1 a = none → sp (.ref a :: vs) (upd H1 a (exo a C none)) (fun v H2 => v = .non ∧ ∃ (d : Addr) (fs : List (Str × V)), H2 a = some (exo a C (some d)) ∧ H2 d = some (exd d fs) ∧ H1 d = none ∧ Q (.ref C) (some d) (upd (del H2 a) d (.xd fs))) (fun _ _ _ => False)) :
    wpAny (model X.prog X.w) X.A (call (.ref C) us) (L2N.MkP X pins σ Q) X.xe s1 := by
  obtain ⟨nm, q, N, bs, bm, sn, sub, ab, col, dd, k0, k1, k2, k3, k5, hC, hbm⟩ := T.cls
  obtain ⟨hp, g, dr, tk, os⟩ := s1
  have le1 : hp.objs.size ≤ hp.objs.size + 1 := Nat.le_succ _
  have hq := q1 (hp.objs.size + 1) (I1.hok.fresh le1)
  have kk : ∀ b o, hp.get? b = some o → ((hp.push (PySem.W.kdv_tup us)).push (PySem.HandSPX.excO C hp.objs.size)).get? b = some o := fun b o e => Heap.get?_push_of_some _ (Heap.get?_push_of_some _ e)
  have hget : ((hp.push (PySem.W.kdv_tup us)).push (PySem.HandSPX.excO C hp.objs.size)).get? (hp.objs.size + 1) = some (PySem.HandSPX.excO C hp.objs.size) := by heap_get
  have I2 := I1.laid (t' := tk) (a := hp.objs.size + 1) (o := exo (hp.objs.size + 1) C none) (h' := (hp.push (PySem.W.kdv_tup us)).push (PySem.HandSPX.excO C hp.objs.size)) kk le1 (exo_ok hget)
  have r2 : Vals (V.ref (hp.objs.size + 1) :: vs) (Value.ref (hp.objs.size + 1) :: us) := .cons rfl r1
  have hl : (Value.ref (hp.objs.size + 1) :: us).length = ps.length := by rw [← r2.length]; exact F1.len _ _ _ _ hq
  have hbd := hb ⟨(hp.push (PySem.W.kdv_tup us)).push (PySem.HandSPX.excO C hp.objs.size), g, dr, tk, os⟩ (Value.ref (hp.objs.size + 1) :: us) I2.kIn (by rw [List.append_nil]; exact hl)
  rw [List.append_nil] at hbd
  have hus : us.length ≤ sizeLine := by
    rw [← Paired.length r1, sizeLine_eq]
    omega
  refine wpAny_call (PySem.HandSPX.call_own BB.F (fun Y => refsT_has Y bm hbm) (I1.kIn _ _ hC) (PySem.W.looks_findIn I1.kIn iC) (fun self => PySem.W.bind_fn I1.kIn self tI) hus
    (codeAny_mono (F1.run _ X.stack _ _ ⟨Value.ref (hp.objs.size + 1) :: us, []⟩ (Value.ref (hp.objs.size + 1) :: us) _ _ (fun _ _ _ => False) (hr.make C us []) (I2.env0.make C us []) hbd r2 hq) fun r s' hq' => ?_))
  cases r with
  | error er => exact (show False from hq').elim
  | ok fl =>
    cases fl with
    | ret u =>
      obtain ⟨v, H2, os2, bare2, un2, hok2, rv, ev, d, fs, ea, ed, hd1, q2⟩ := hq'
      subst ev
      obtain ⟨h2, g2, d2, t2, os'⟩ := s'
      obtain ⟨t0, G, J, kG, ge, hoe, na⟩ := mk_end0 (d2 := d2) (t2 := t2) I1 le1 kk un2 hok2 os2 bare2 ea ed hd1
      exact ⟨rv, _, _, _, ⟨G, g2, d2, t2, os'⟩, _, .ref C, some d, rfl, J, kG, ge, hoe, ⟨rfl, rfl, fun vs e => by cases e; rfl⟩, rfl, rfl, na, rfl, bare2, raises_own T.exC T.tyC, q2⟩
    | next => exact False.elim hq'
    | brk => exact False.elim hq'
    | cont => exact False.elim hq'
theorem pmk_wordB {X : Cx} {B newId initId : String} {tl : List Value} (BB : BaseB B newId initId tl) {x wd : Str} {C fI : Addr} {k : Nat} {fd : FuncData} {p pos : Pos} (T : OexB X.K C newId tl) (iC : PySem.W.findIn X.K (.ref C) "__init__" = some (some (.ref fI))) (tI : PySem.W.typeIn X.K (.ref fI) = some (.type "function"))
    (F1 : FnOk X.prog X.w X.K X.mg X.base CX0 k fI fd ["self"] (spWord C wd)) (hr : Room (k + 1) X.A) (hb : Binds X.K fd ["self"] []) (hg : Gl X x) (hm : X.mg x = some (.ref C)) (hdb : (x == ("__debug__" : Str)) = false := by decide) :
    L2N.PMk X (.Call (.Name x p) [] [] pos) (tRaiseW C wd) := by
  intro pins s σ H Q I h
  refine wpAny_Call_Name_kw (ld_glob I hg hm ?_ hdb)
  refine PySem.W.callWith_K0 I.kIn T.kC (mkRunB BB T iC tI F1 hr hb I .nil (Nat.zero_le _) fun a ha => ⟨a, rfl, upd_same, fun dx ndx ne => ⟨rfl, dx, [("word", .str wd)], upd_same, ?_, ?_, ?_⟩⟩)
  · rw [upd_ne ne, upd_same]
  · rw [upd_ne ne] at ndx
    exact ndx
  · rw [upd_ne ne] at ndx
    rw [made_heap ha ndx ne]
    exact h dx ndx
/-! ### the first field of such a refusal -/
section
open PySem.W PySem.Calls PySem.HandSPX Builtin Builtin.ObjectAttr
theorem osaB {prog : Program} {w : World} {A : Around} {R : Result → Shared → Prop} {hp : Heap} {g : Array GenState} {d : Drawn} {t : Nat} {os : OsState} {K : PySem.W.Frag} {name : Str} {tk : Tok} {v : Value} {x C : Addr} {fv : Array Value} {cd : ClassData} {B newId initId : String} {tl : List Value} (BB : BaseB B newId initId tl)
    (X : K.In hp) (hx : hp.get? x = some { cls := .ref C, data := .fields fv }) (hcd : PySem.W.clsIn K C = some cd) (hm : cd.mro.dropWhile isR = tl) (hne : cd.mro ≠ []) (hh : cd.hasDict = true) (ha : PySem.W.findIn K (.ref C) name = some none)
    (hq : ∀ h' tk' dx, (∀ b o, b ≠ x → hp.get? b = some o → h'.get? b = some o) → hp.objs.size ≤ dx → dx ≠ x → h'.get? x = some { cls := .ref C, dict := some dx, data := .fields fv } →
      h'.Ns1 dx (fun y => if y = name then some v else none) → R (.ok (.ret .none)) ⟨h', g, d, tk', os⟩) :
    codeAny (model prog w) A (.call (.builtin "object.__setattr__") ⟨[.ref x, .str name tk, v], []⟩) R ⟨hp, g, d, t, os⟩ := by
  have mroOb : cd.mro.contains (.type "object") = true := (refsT_has "object" _ hm).trans BB.ob
  have xNew : x ≠ hp.objs.size := Nat.ne_of_lt (Heap.lt_size hx)
  have J : PySem.W.InstAt hp x { cls := .ref C, data := .fields fv } C none := ⟨hx, rfl, rfl, trivial⟩
  have isOb : PySem.W.Looks (model prog w) hp (isInstance (.ref x) (.type "object")) true := by
    refine J.type.andThen (PySem.W.looks_mroIn X ?_)
    unfold PySem.W.mroIn
    rw [hcd, Option.bind_some, if_neg (by rw [List.isEmpty_iff]; exact hne), mroOb]
  have S := PySem.F.store_object
  refine codeAny_call_builtin S.slot.plain S.entry (@PySem.W.check_slot (model prog w) _ _ ⟨hp, g, d, t, os⟩ "object.__setattr__" "object" "__setattr__" (.ref x) [.str name tk, v] [] _ S.kind S.split isOb (S.args (.ref x) (.str name tk) v) ?_)
  have mroL : PySem.W.Looks (model prog w) hp (mroOf (.ref C)) cd.mro := (PySem.W.looks_clsIn X hcd).andThen .now
  have clsL : PySem.W.Looks (model prog w) hp (classData C) cd := PySem.W.looks_clsIn X hcd
  have noTaker : PySem.W.Looks (model prog w) hp (storeTaker? none) none := .now
  rw [PySem.W.osa_eq, refuse_eq]
  refine wpAny_bind (wpAny_bind (J.type.at (wpAny_bind (mroL.at ?_))))
  rw [refsT_pass BB.pass _ _ hm]
  refine wpAny_pure (wpAny_bind (J.type.at (wpAny_bind ((PySem.W.looks_findIn X ha).at (wpAny_bind (noTaker.at ?_))))))
  show wpAny _ _ (storeInOwnDict (.ref x) (.ref C) (.str name tk) name v false) _ _ _
  cases cd with
  | mk nm bs mro ns qn hd sn sb ab col del =>
    have hd1 : hd = true := hh
    rw [hd1] at clsL
    unfold storeInOwnDict ownDictForStores
    repeat (first | with_reducible refine store_in_new ?_ ?_ | with_reducible refine wpAny_loadPart_at hx ?_ | with_reducible refine clsL.at ?_ | wp_step)
    · exact ⟨_, #[], _, (Heap.get?_update_ne _ _ _ _ xNew.symm).trans (Heap.get?_push_at rfl rfl), rfl, fun e he => absurd he (by simp), fun _ => rfl⟩
    · intro h' tk' nsN but
      have hx1 : (hp.push { cls := .type "dict", data := .dict #[] }).get? x = some { cls := .ref C, data := .fields fv } := Heap.get?_push_of_some _ hx
      refine hq h' tk' hp.objs.size (fun b o hb ho => ?_) (Nat.le_refl _) xNew.symm ((but.2 x xNew).trans (Heap.get?_update_self _ hx1 rfl)) nsN
      rw [but.2 b (Nat.ne_of_lt (Heap.lt_size ho)), Heap.get?_update_ne _ _ _ _ hb]
      exact Heap.get?_push_of_some _ ho
end
section
variable {X : Cx} {pins : List (Addr × Obj)} {σ : L2.St} {H : Hp} {s : Shared} {a C : Addr} {f : Str} {y : V} {u : Value} {Q : Unit → Shared → Prop} {E : Value → Shared → Prop} {A : Around} {B newId initId : String} {tl : List Value}
theorem ost_newB (BB : BaseB B newId initId tl) (T : OexB X.K C newId tl) (I : Inv X pins σ H s) (e : H a = some (exo a C none)) (hno : PySem.W.findIn X.K (.ref C) f = some none) (ry : RelV y u)
    (h : ∀ dx s', H dx = none → dx ≠ a → Inv X pins σ (upd (upd H dx (exd dx [(f, y)])) a (exo a C (some dx))) s' → Q () s') : wpAny (model X.prog X.w) A (setAttr (.ref a) f u) Q E s := by
  obtain ⟨nm, q, N, bs, bm, sn, sub, ab, col, dd, k0, k1, k2, k3, k5, hC, hbm⟩ := T.cls
  have clsA : PySem.W.clsIn X.K C = some { name := nm, bases := bs, mro := .ref C :: bm, ns := N, qualname := q, hasDict := true, slotNames := sn, subclasses := sub, abstract := ab, collection := col, hasDel := false } := by
    unfold PySem.W.clsIn
    rw [hC] <;> rfl
  obtain ⟨t1, objA⟩ := exo_at I.hok e
  obtain ⟨hp, g, d, t, os⟩ := s
  refine PySem.W.set_plain I.kIn (ox := { cls := .ref C, dict := none, data := .fields #[.ref t1, .none, .none, .none, .bool false, .none] }) (od := none) ⟨objA, rfl, rfl, trivial⟩ T.sa (osaB BB I.kIn objA clsA (by rw [List.dropWhile_cons_of_pos rfl]; exact hbm) (fun z => nomatch z) rfl hno fun h' tk' dx kept far ne objB nsB => ?_)
  have free : H dx = none := I.hok.fresh far
  have old : ∀ {b : Addr} {o : Obj}, hp.get? b = some o → b ≠ dx := fun hb => Nat.ne_of_lt (Nat.lt_of_lt_of_le (Heap.lt_size hb) far)
  have own : ∀ {b : Addr}, H b = none → b ≠ a := fun hb z => by
    rw [z, e] at hb
    exact nomatch hb
  have look : ∀ {b : Addr} {o : HO}, H b = some o → exo a C none ≠ o → upd (upd H dx (exd dx [(f, y)])) a (exo a C (some dx)) b = some o := fun hb d => by
    rw [upd_ne (at_ne e hb d), upd_ne (ne_of_none hb free)]
    exact hb
  have U : Un X.fs [] H (upd (upd H dx (exd dx [(f, y)])) a (exo a C (some dx))) hp h' := {
    keep := fun b o q n _ _ => kept b o (own n) q
    slot := fun b o q n _ _ => ⟨o.slots, kept b o (own n) q⟩
    free := fun b o q n _ => by
      rw [upd_ne (own n), upd_ne (old q)]
      exact n
    there := fun b o q _ => by
      rcases Classical.em (b = a) with z | z
      · subst z
        exact ⟨_, objB⟩
      · exact ⟨o, kept b o z q⟩
    tups := fun b xs q => look q exo_tup
    frzs := fun b o v q => look q exo_frz
    tbls := fun b ps q => ⟨#[], by rw [look q exo_tbl]; simp⟩ }
  refine h dx _ free ne (I.un (t' := tk') U fun b o q => ?_)
  by_cases z1 : b = a
  · subst z1
    rw [upd_same] at q
    cases q
    exact exo_ok objB
  rw [upd_ne z1] at q
  by_cases z2 : b = dx
  · subst z2
    rw [upd_same] at q
    cases q
    exact exd_ok nsB (relO_put (fs := []) ry fun g => True.intro)
  rw [upd_ne z2] at q
  refine (I.hok b o q).stay (fun c v hc z => kept c v ?_ z) (fun c hc => look hc exo_own) (fun c xs hc => look hc exo_tup)
  rcases hc with hc | hc
  · rw [hc]
    exact z1
  · exact at_ne e hc exo_own
/-- self.f = e, the first field -/
def tOstB (K : PySem.W.Frag) (newId : String) (tl : List Value) (f : Str) (to te : TE) : TS := fun D σ H => te σ H fun y H1 => to σ H1 fun x H2 => ∃ a C : Addr, x = .ref a ∧ OexB K C newId tl ∧ PySem.W.findIn K (.ref C) f = some none ∧
  H2 a = some (exo a C none) ∧ ∀ dx, H2 dx = none → dx ≠ a → D.nx σ (upd (upd H2 dx (exd dx [(f, y)])) a (exo a C (some dx)))
theorem ps_ostB (BB : BaseB B newId initId tl) {o e : Expr} {to te : TE} {p' pos : Pos} (ho : PE X o to) (he : PE X e te) (hs : swapsWith e (some (.Attribute o f p')) pos.line X.env = pure false := by rfl) : PS X (.Assign [.Attribute o f p'] e pos) (tOstB X.K newId tl f to te) := by
  refine ⟨fun pins s σ H D I h => plainObj_wpAny_Assign_Attribute (thn (he.run pins s σ H _ I h) fun v s1 ⟨y, H1, I1, r1, q1⟩ => thn (ho.run pins s1 σ H1 _ I1 q1) fun u s2 ⟨x, H2, I2, r2, a, C, ex, T, hno, ea, q⟩ => ?_) hs⟩
  subst ex
  cases r2
  exact ost_newB BB T I2 ea hno r1 fun dx s' n ne J => ⟨σ, _, J, q dx n ne⟩
end
abbrev leTail : List Value := [.type "LookupError", .type "Exception", .type "BaseException", .type "object"]
abbrev ieTail : List Value := [.type "IndexError", .type "LookupError", .type "Exception", .type "BaseException", .type "object"]
theorem baseL : BaseB "LookupError" "LookupError.__new__" "LookupError.__init__" leTail := ⟨PySem.F.excBase_LookupError, fun self => PySem.F.store_LookupError.passes self, by decide +kernel⟩
theorem baseI : BaseB "IndexError" "IndexError.__new__" "IndexError.__init__" ieTail := ⟨PySem.F.excBase_IndexError, fun self => PySem.F.store_IndexError.passes self, by decide +kernel⟩
end Onp
set_option maxHeartbeats 4000000
set_option autoImplicit false
/-! what is asked of the top, by names -/
namespace Onp
open PySem PySem.Spec PyProof.Rows L2
open He (ga ma eqO eqO_ok ba)
def errNs : List Str := ["BadMark", "BadLetters", "BadRoom", "BadArrow", "BadWord", "BadSize", "BadPattern", "BadTable", "BadTree", "BadText", "BadName", "BadDeed", "BadPage", "Taken", "Full", "Unlike", "NotDear", "InUse", "TooWide", "NoArrow", "NoName", "NoTraveller", "NothingLeft"]
def slB : List (Option Value) → Bool
  | [_, _, _, _, some (.builtin n), _] => n == "ValueError.__new__"
  | _ => false
/-- a refusal's class, as it is laid -/
def oexB (K : PySem.W.Frag) (C : Addr) : Bool := match K.lookup C with
  | some ⟨.type t, _, .cls cd, sl⟩ => t == "type" && (match cd.mro with
    | .ref D :: bm => D == C && (cd.hasDel == false && (cd.hasDict && PySem.HandSPX.refsVE bm))
    | _ => false) && slB sl.toList
  | _ => false
/-- all that is asked of a refusal's class -/
def errB (K : PySem.W.Frag) (x : Str) : Bool :=
  (oexB K (ga K x) && (eqO (PySem.W.findIn K (.ref (ga K x)) "__setattr__") (some (some (.builtin "object.__setattr__"))) && (decide (PySem.W.subIn K (.ref (ga K x)) (.type "BaseException") = some true) && (decide (PySem.W.typeIn K (.ref (ga K x)) = some (.type "type")) && PySem.W.keepIn K (.ref (ga K x))))))
  && ((eqO (PySem.W.findIn K (.ref (ga K x)) "__init__") (some (some (.ref (ma K (ga K x) "__init__")))) && (decide (PySem.W.typeIn K (.ref (ma K (ga K x) "__init__")) = some (.type "function")) && eqO (PySem.W.findIn K (.ref (ga K x)) "word") (some none)))
  && (((PySem.W.clsIn K (ga K x)).isSome && (eqO (PySem.W.findIn K (.ref (ga K x)) "__getattribute__") (some (some (.builtin "BaseException.__getattribute__"))) && (eqO (PySem.W.findIn K (.ref (ga K x)) "__getattr__") (some none) && (eqO (PySem.W.findIn K (.ref (ga K x)) "__class__") (some (some (.builtin "object.__class__"))) && (decide (PySem.W.mroIn K (ga K x) (.type "object") = some true) && PySem.W.hasDictIn K (ga K x))))))
  && ((errNs.all fun y => decide (PySem.W.subIn K (.ref (ga K x)) (.ref (ga K y)) = some (y == x))) && decide (PySem.W.exmAny K (.ref (ga K x)) [.ref (ga K "PurseError"), .ref (ga K "Missing"), .ref (ga K "NothingLeft")] = some true))))
def slLB (newId : String) : List (Option Value) → Bool
  | [_, _, _, _, some (.builtin n), _] => n == newId
  | _ => false
def oexLB (newId : String) (tl : List Value) (K : PySem.W.Frag) (C : Addr) : Bool := match K.lookup C with
  | some ⟨.type t, _, .cls cd, sl⟩ => t == "type" && (match cd.mro with
    | .ref D :: bm => D == C && (cd.hasDel == false && (cd.hasDict && (bm.dropWhile isR == tl)))
    | _ => false) && slLB newId sl.toList
  | _ => false
/-- the same, over another built-in one -/
def errLB (newId : String) (tl : List Value) (K : PySem.W.Frag) (x : Str) : Bool :=
  (oexLB newId tl K (ga K x) && (eqO (PySem.W.findIn K (.ref (ga K x)) "__setattr__") (some (some (.builtin "object.__setattr__"))) && (decide (PySem.W.subIn K (.ref (ga K x)) (.type "BaseException") = some true) && (decide (PySem.W.typeIn K (.ref (ga K x)) = some (.type "type")) && PySem.W.keepIn K (.ref (ga K x))))))
  && ((eqO (PySem.W.findIn K (.ref (ga K x)) "__init__") (some (some (.ref (ma K (ga K x) "__init__")))) && (decide (PySem.W.typeIn K (.ref (ma K (ga K x) "__init__")) = some (.type "function")) && eqO (PySem.W.findIn K (.ref (ga K x)) "word") (some none)))
  && (((PySem.W.clsIn K (ga K x)).isSome && (eqO (PySem.W.findIn K (.ref (ga K x)) "__getattribute__") (some (some (.builtin "BaseException.__getattribute__"))) && (eqO (PySem.W.findIn K (.ref (ga K x)) "__getattr__") (some none) && (eqO (PySem.W.findIn K (.ref (ga K x)) "__class__") (some (some (.builtin "object.__class__"))) && (decide (PySem.W.mroIn K (ga K x) (.type "object") = some true) && PySem.W.hasDictIn K (ga K x))))))
  && ((errNs.all fun y => decide (PySem.W.subIn K (.ref (ga K x)) (.ref (ga K y)) = some (y == x))) && decide (PySem.W.exmAny K (.ref (ga K x)) [.ref (ga K "PurseError"), .ref (ga K "Missing"), .ref (ga K "NothingLeft")] = some true))))
/-- of object.__class__, and of every refusal's name -/
def allB (K : PySem.W.Frag) : Bool := decide (PySem.W.specialIn K (.builtin "object.__class__") "__get__" = some (some (.builtin "getset_descriptor.__get__"))) && (decide (PySem.W.takesIn K (.builtin "object.__class__") = some true)
  && ((errNs.all fun y => decide (PySem.W.typeIn K (.ref (ga K y)) = some (.type "type")) && PySem.W.isClsIn K (ga K y)) && ((["BadText", "BadPage", "TooWide"] : List Str).all fun y => decide (PySem.W.subIn K (.ref (ga K y)) (.type "BaseException") = some true))))
end Onp
set_option maxHeartbeats 4000000
set_option autoImplicit false
/-! facts by names, for the end of a law without refusals of its own -/
namespace Onp
open PySem PySem.Spec PyProof.Rows L2 HotX L2H LamX
open He (ga ma eqO eqO_ok ba)
section
variable {K : PySem.W.Frag}
theorem slB_ok : ∀ {l : List (Option Value)}, slB l = true → ∃ k0 k1 k2 k3 k5, l = [k0, k1, k2, k3, some (.builtin "ValueError.__new__"), k5]
  | [k0, k1, k2, k3, some (.builtin n), k5], h => ⟨k0, k1, k2, k3, k5, by rw [show n = "ValueError.__new__" from beq_iff_eq.mp h]⟩
theorem oexB_ok {C : Addr} (h : oexB K C = true) : ∃ nm q N bs bm sn sub ab col dd k0 k1 k2 k3 k5, K.lookup C = some (excClassObj nm q C N bs bm true sn sub ab col dd k0 k1 k2 k3 k5 "ValueError.__new__") ∧ PySem.HandSPX.refsVE bm = true := by
  unfold oexB at h
  cases e : K.lookup C with
  | none => rw [e] at h; cases h
  | some o =>
    obtain ⟨oc, od, dt, sl⟩ := o
    rw [e] at h
    cases oc <;> try (cases dt <;> cases h)
    rename_i t
    cases dt <;> try cases h
    rename_i cd
    obtain ⟨h1, h2⟩ := ba h
    obtain ⟨ht, h3⟩ := ba h1
    have et : t = "type" := beq_iff_eq.mp ht
    obtain ⟨a1, a2, a3, a4, a5, a6, a7, a8, a9, a10, a11⟩ := cd
    cases a3 with
    | nil => cases h3
    | cons v bm =>
      cases v <;> try cases h3
      rename_i D
      obtain ⟨g1, g2⟩ := ba h3
      obtain ⟨g3, g4⟩ := ba g2
      obtain ⟨g5, g6⟩ := ba g4
      have eD : D = C := beq_iff_eq.mp g1
      have e11 : a11 = false := beq_iff_eq.mp g3
      have e6 : a6 = true := g5
      obtain ⟨l⟩ := sl
      obtain ⟨k0, k1, k2, k3, k5, el⟩ := slB_ok (show slB l = true from h2)
      rw [et, eD, e11, e6, el]
      exact ⟨_, _, _, _, bm, _, _, _, _, _, _, _, _, _, _, rfl, g6⟩
/-- what is asked of a refusal's class that only the program raises -/
def errQ (K : PySem.W.Frag) (x : Str) : Bool :=
  (oexB K (ga K x) && (eqO (PySem.W.findIn K (.ref (ga K x)) "__setattr__") (some (some (.builtin "object.__setattr__"))) && (decide (PySem.W.subIn K (.ref (ga K x)) (.type "BaseException") = some true) && (decide (PySem.W.typeIn K (.ref (ga K x)) = some (.type "type")) && PySem.W.keepIn K (.ref (ga K x))))))
  && (eqO (PySem.W.findIn K (.ref (ga K x)) "__init__") (some (some (.ref (ma K (ga K x) "__init__")))) && (decide (PySem.W.typeIn K (.ref (ma K (ga K x) "__init__")) = some (.type "function")) && eqO (PySem.W.findIn K (.ref (ga K x)) "word") (some none)))
structure ErrQ (K : PySem.W.Frag) (x : Str) : Prop where
  oex : OexC K (ga K x)
  iC : PySem.W.findIn K (.ref (ga K x)) "__init__" = some (some (.ref (ma K (ga K x) "__init__")))
  tI : PySem.W.typeIn K (.ref (ma K (ga K x) "__init__")) = some (.type "function")
  wd : PySem.W.findIn K (.ref (ga K x)) "word" = some none
theorem errQ_ok {x : Str} (h : errQ K x = true) : ErrQ K x := by
  obtain ⟨h1, h2⟩ := ba h
  obtain ⟨a1, h1⟩ := ba h1
  obtain ⟨a2, h1⟩ := ba h1
  obtain ⟨a3, h1⟩ := ba h1
  obtain ⟨a4, a5⟩ := ba h1
  obtain ⟨b1, h2⟩ := ba h2
  obtain ⟨b2, b3⟩ := ba h2
  exact ⟨⟨oexB_ok a1, eqO_ok a2, of_decide_eq_true a3, of_decide_eq_true a4, a5⟩, eqO_ok b1, of_decide_eq_true b2, eqO_ok b3⟩
/-- a def without defaults -/
theorem fun_of {x q : Str} {st : Stmt} {f : Addr} {fd : FuncData} {kws : List (Str × V)} (F : FunD K x q (defArgs st) (defBody st) (defScope st) [] kws f fd) : Fun K x q st f fd := by
  obtain ⟨oc, od, dV, kV, doc, pm, an, cdv, ct, osl, rfl, lk, hcd, hD, _⟩ := F.ex
  rcases hD with ⟨_, rfl⟩ | ⟨e, _⟩
  · exact ⟨⟨oc, od, kV, doc, pm, an, cdv, ct, osl, rfl, lk, hcd⟩, F.kp⟩
  · exact absurd rfl e
/-- a def that makes lambdas: its code object is told by name -/
theorem lam_of {x q : Str} {st : Stmt} {p : He.Defn} {fd : FuncData} (F : Fun K x q st (He.fAd K p) fd) : ∃ oc od kV doc pm an ct osl, fd = PySem.W.fnOf x q (defArgs st) (defBody st) (defScope st) .none kV doc pm an (.ref (He.codeOf K p)) ct ∧ K.lookup (He.fAd K p) = some ⟨oc, od, .func (PySem.W.fnOf x q (defArgs st) (defBody st) (defScope st) .none kV doc pm an (.ref (He.codeOf K p)) ct), osl⟩ ∧ PySem.W.codeIn K (.ref (He.codeOf K p)) q = true := by
  obtain ⟨oc, od, kV, doc, pm, an, cdv, ct, osl, rfl, lk, hcd⟩ := F.ex
  obtain ⟨c, rfl⟩ := He.codeIn_ref hcd
  have e := He.codeOf_eq (p := p) (c := c) lk rfl
  rw [e]
  exact ⟨oc, od, kV, doc, pm, an, ct, osl, rfl, lk, hcd⟩
end
end Onp
set_option maxHeartbeats 0
namespace Onp
open PySem PySem.Spec PyProof.Rows L2
def fa0 : List He.Fa := [.glo "_law_bag", .glo "_law_pull", .glo "_law_same", .glo "_law_letters", .glo "_law_made", .glo "are_letters", .glo "is_letter", .glo "is_arrow", .glo "need_arrows", .glo "need_rooms", .glo "steps_by_start", .glo "need_deed", .glo "spend", .glo "need_size", .glo "least_ones"]
def fa1 : List He.Fa := [.glo "first_board", .glo "leads", .glo "ends_well", .glo "_law_steps", .glo "_law_spent", .glo "_law_least", .glo "_law_on", .glo "_law_board_on", .glo "_law_begin", .glo "_law_well", .glo "first_pair", .glo "next_pair", .glo "has_last", .glo "fails", .glo "searched_pairs"]
def fa2 : List He.Fa := [.glo "need_most", .glo "_law_rooms_on", .glo "_law_pair_on", .glo "_law_fails", .glo "_law_pairs", .glo "law", .glo "next_board", .glo "first_dear", .glo "is_enough", .free "isinstance", .free "list", .free "tuple", .free "bool", .free "int", .free "str"]
def fa3 : List He.Fa := [.free "len", .free "all", .free "zip", .free "set", .free "sorted", .free "range", .free "any", .free "max", .str "SMALL_LETTERS" "abcdefghijklmnopqrstuvwxyz", .int "MOST_LETTERS" 3, .int "MOST_ROOMS" 8, .int "MOST_ARROWS" 40, .int "MOST_PAIRS" 1000, .glo "Machine", .cls "Machine"]
def fa4 : List He.Fa := [.noat "Machine" "room_count", .noat "Machine" "letter_text", .noat "Machine" "arrow_row", .noat "Machine" "first_row", .noat "Machine" "last_row", .noat "Machine" "step_rows", .mkr "Machine", .meth "Machine" "letters", .meth "Machine" "firsts", .meth "Machine" "lasts", .meth "Machine" "steps", .meth "Machine" "rooms_behind", .glo "DEEDS", .glo "BadSize", .glo "BadWord"]
def fa5 : List He.Fa := [.noat "TooWide" "most", .glo "TooWide"]
def fasA : List He.Fa := fa0 ++ (fa1 ++ (fa2))
def fasB : List He.Fa := fa3 ++ (fa4 ++ (fa5))
def fas : List He.Fa := (fasA ++ fasB)
def d_B : He.DefD := ⟨("_law_bag", none), "_law_bag", "_law_bag", defArgs (topS 45), defBody (topS 45), defScope (topS 45), [], []⟩
def d_Pu : He.DefD := ⟨("_law_pull", none), "_law_pull", "_law_pull", defArgs (topS 46), defBody (topS 46), defScope (topS 46), [], []⟩
def d_Sm : He.DefD := ⟨("_law_same", none), "_law_same", "_law_same", defArgs (topS 47), defBody (topS 47), defScope (topS 47), [], []⟩
def d_Le : He.DefD := ⟨("_law_letters", none), "_law_letters", "_law_letters", defArgs (topS 49), defBody (topS 49), defScope (topS 49), [], []⟩
def d_Md : He.DefD := ⟨("_law_made", none), "_law_made", "_law_made", defArgs (topS 50), defBody (topS 50), defScope (topS 50), [], []⟩
def d_Al : He.DefD := ⟨("are_letters", none), "are_letters", "are_letters", defArgs (topS 20), defBody (topS 20), defScope (topS 20), [], []⟩
def d_Il : He.DefD := ⟨("is_letter", none), "is_letter", "is_letter", defArgs (topS 21), defBody (topS 21), defScope (topS 21), [], []⟩
def d_Ia : He.DefD := ⟨("is_arrow", none), "is_arrow", "is_arrow", defArgs (topS 22), defBody (topS 22), defScope (topS 22), [], []⟩
def d_Na : He.DefD := ⟨("need_arrows", none), "need_arrows", "need_arrows", defArgs (topS 23), defBody (topS 23), defScope (topS 23), [], []⟩
def d_Nr : He.DefD := ⟨("need_rooms", none), "need_rooms", "need_rooms", defArgs (topS 24), defBody (topS 24), defScope (topS 24), [], []⟩
def d_Sb : He.DefD := ⟨("steps_by_start", none), "steps_by_start", "steps_by_start", defArgs (topS 25), defBody (topS 25), defScope (topS 25), [], []⟩
def d_Nd : He.DefD := ⟨("need_deed", none), "need_deed", "need_deed", defArgs (topS 13), defBody (topS 13), defScope (topS 13), [], []⟩
def d_Sp : He.DefD := ⟨("spend", none), "spend", "spend", defArgs (topS 14), defBody (topS 14), defScope (topS 14), [], []⟩
def d_Sz : He.DefD := ⟨("need_size", none), "need_size", "need_size", defArgs (topS 28), defBody (topS 28), defScope (topS 28), [], []⟩
def d_Lo : He.DefD := ⟨("least_ones", none), "least_ones", "least_ones", defArgs (topS 29), defBody (topS 29), defScope (topS 29), [], []⟩
def d_Fb : He.DefD := ⟨("first_board", none), "first_board", "first_board", defArgs (topS 30), defBody (topS 30), defScope (topS 30), [], []⟩
def d_Ld : He.DefD := ⟨("leads", none), "leads", "leads", defArgs (topS 31), defBody (topS 31), defScope (topS 31), [], []⟩
def d_Ew : He.DefD := ⟨("ends_well", none), "ends_well", "ends_well", defArgs (topS 33), defBody (topS 33), defScope (topS 33), [], []⟩
def d_Lz : He.DefD := ⟨("_law_steps", none), "_law_steps", "_law_steps", defArgs (topS 51), defBody (topS 51), defScope (topS 51), [], []⟩
def d_Lst : He.DefD := ⟨("_law_spent", none), "_law_spent", "_law_spent", defArgs (topS 48), defBody (topS 48), defScope (topS 48), [], []⟩
def d_LL : He.DefD := ⟨("_law_least", none), "_law_least", "_law_least", defArgs (topS 53), defBody (topS 53), defScope (topS 53), [], []⟩
def d_Lon : He.DefD := ⟨("_law_on", none), "_law_on", "_law_on", defArgs (topS 54), defBody (topS 54), defScope (topS 54), [], []⟩
def d_Lbo : He.DefD := ⟨("_law_board_on", none), "_law_board_on", "_law_board_on", defArgs (topS 55), defBody (topS 55), defScope (topS 55), [], []⟩
def d_Lg : He.DefD := ⟨("_law_begin", none), "_law_begin", "_law_begin", defArgs (topS 56), defBody (topS 56), defScope (topS 56), [], []⟩
def d_Lw : He.DefD := ⟨("_law_well", none), "_law_well", "_law_well", defArgs (topS 57), defBody (topS 57), defScope (topS 57), [], []⟩
def d_Fp : He.DefD := ⟨("first_pair", none), "first_pair", "first_pair", defArgs (topS 37), defBody (topS 37), defScope (topS 37), [], []⟩
def d_Np : He.DefD := ⟨("next_pair", none), "next_pair", "next_pair", defArgs (topS 38), defBody (topS 38), defScope (topS 38), [], []⟩
def d_Hl : He.DefD := ⟨("has_last", none), "has_last", "has_last", defArgs (topS 39), defBody (topS 39), defScope (topS 39), [], []⟩
def d_Fa : He.DefD := ⟨("fails", none), "fails", "fails", defArgs (topS 40), defBody (topS 40), defScope (topS 40), [], []⟩
def d_Sr : He.DefD := ⟨("searched_pairs", none), "searched_pairs", "searched_pairs", defArgs (topS 41), defBody (topS 41), defScope (topS 41), [], []⟩
def d_Nm : He.DefD := ⟨("need_most", none), "need_most", "need_most", defArgs (topS 36), defBody (topS 36), defScope (topS 36), [], []⟩
def d_Ro : He.DefD := ⟨("_law_rooms_on", none), "_law_rooms_on", "_law_rooms_on", defArgs (topS 52), defBody (topS 52), defScope (topS 52), [], []⟩
def d_Po : He.DefD := ⟨("_law_pair_on", none), "_law_pair_on", "_law_pair_on", defArgs (topS 58), defBody (topS 58), defScope (topS 58), [], []⟩
def d_Lf : He.DefD := ⟨("_law_fails", none), "_law_fails", "_law_fails", defArgs (topS 59), defBody (topS 59), defScope (topS 59), [], []⟩
def d_Ps : He.DefD := ⟨("_law_pairs", none), "_law_pairs", "_law_pairs", defArgs (topS 60), defBody (topS 60), defScope (topS 60), [], []⟩
def d_L : He.DefD := ⟨("law", none), "law", "law", defArgs (topS 61), defBody (topS 61), defScope (topS 61), [], []⟩
def d_Nb : He.DefD := ⟨("next_board", none), "next_board", "next_board", defArgs (topS 32), defBody (topS 32), defScope (topS 32), [], []⟩
def d_Fd : He.DefD := ⟨("first_dear", none), "first_dear", "first_dear", defArgs (topS 42), defBody (topS 42), defScope (topS 42), [], [("most", .int 1000)]⟩
def d_En : He.DefD := ⟨("is_enough", none), "is_enough", "is_enough", defArgs (topS 43), defBody (topS 43), defScope (topS 43), [], [("most", .int 1000)]⟩
def d_I : He.DefD := ⟨("Machine", some "__init__"), "__init__", "Machine.__init__", defArgs (inClass (topS 26) 0), defBody (inClass (topS 26) 0), defScope (inClass (topS 26) 0), [.adr (He.dflAt ("Machine", some "__init__") 0)], []⟩
def d_Lt : He.DefD := ⟨("Machine", some "letters"), "letters", "Machine.letters", defArgs (inClass (topS 26) 2), defBody (inClass (topS 26) 2), defScope (inClass (topS 26) 2), [], []⟩
def d_Fs : He.DefD := ⟨("Machine", some "firsts"), "firsts", "Machine.firsts", defArgs (inClass (topS 26) 4), defBody (inClass (topS 26) 4), defScope (inClass (topS 26) 4), [], []⟩
def d_Ls : He.DefD := ⟨("Machine", some "lasts"), "lasts", "Machine.lasts", defArgs (inClass (topS 26) 5), defBody (inClass (topS 26) 5), defScope (inClass (topS 26) 5), [], []⟩
def d_Ms : He.DefD := ⟨("Machine", some "steps"), "steps", "Machine.steps", defArgs (inClass (topS 26) 6), defBody (inClass (topS 26) 6), defScope (inClass (topS 26) 6), [], []⟩
def d_Br : He.DefD := ⟨("Machine", some "rooms_behind"), "rooms_behind", "Machine.rooms_behind", defArgs (inClass (topS 26) 15), defBody (inClass (topS 26) 15), defScope (inClass (topS 26) 15), [], []⟩
def d_IS_ : He.DefD := ⟨("BadSize", some "__init__"), "__init__", "BadSize.__init__", defArgs (inClass (topS 8) 0), defBody (inClass (topS 8) 0), defScope (inClass (topS 8) 0), [], []⟩
def d_IW_ : He.DefD := ⟨("BadWord", some "__init__"), "__init__", "BadWord.__init__", defArgs (inClass (topS 7) 0), defBody (inClass (topS 7) 0), defScope (inClass (topS 7) 0), [], []⟩
def d_IT_ : He.DefD := ⟨("TooWide", some "__init__"), "__init__", "TooWide.__init__", defArgs (inClass (topS 10) 0), defBody (inClass (topS 10) 0), defScope (inClass (topS 10) 0), [], []⟩
def fn0 : List He.DefD := [d_B, d_Pu, d_Sm, d_Le, d_Md, d_Al, d_Il, d_Ia, d_Na, d_Nr, d_Sb, d_Nd, d_Sp, d_Sz, d_Lo]
def fn1 : List He.DefD := [d_Fb, d_Ld, d_Ew, d_Lz, d_Lst, d_LL, d_Lon, d_Lbo, d_Lg, d_Lw, d_Fp, d_Np, d_Hl, d_Fa, d_Sr]
def fn2 : List He.DefD := [d_Nm, d_Ro, d_Po, d_Lf, d_Ps, d_L, d_Nb, d_Fd, d_En, d_I, d_Lt, d_Fs, d_Ls, d_Ms, d_Br]
def fn3 : List He.DefD := [d_IS_, d_IW_, d_IT_]
def fnsA : List He.DefD := fn0 ++ (fn1)
def fnsB : List He.DefD := fn2 ++ (fn3)
def fns : List He.DefD := (fnsA ++ fnsB)
def tfs : List He.Defn := []
def exK (K : PySem.W.Frag) : Bool := true && (He.tupB K "DEEDS" [.str "keep", .str "cent", .str "fill", .str "coin", .str "brim"] && (errQ K "BadSize" && (errQ K "BadWord" && (errQ K "TooWide"))))
def nm0 : List PySem.Str := ["_wall", "PurseError", "BadMark", "BadLetters", "BadRoom", "BadArrow", "BadWord", "BadSize", "Full", "TooWide", "DEEDS", "need_deed", "spend", "SMALL_LETTERS", "MOST_ROOMS"]
def nm1 : List PySem.Str := ["MOST_LETTERS", "MOST_ARROWS", "are_letters", "is_letter", "is_arrow", "need_arrows", "need_rooms", "steps_by_start", "Machine", "need_size", "least_ones", "first_board", "leads", "next_board", "ends_well"]
def nm2 : List PySem.Str := ["MOST_PAIRS", "need_most", "first_pair", "next_pair", "has_last", "fails", "searched_pairs", "first_dear", "is_enough", "_law_bag", "_law_pull", "_law_same", "_law_spent", "_law_letters", "_law_made"]
def nm3 : List PySem.Str := ["_law_steps", "_law_rooms_on", "_law_least", "_law_on", "_law_board_on", "_law_begin", "_law_well", "_law_pair_on", "_law_fails", "_law_pairs"]
def loose : List PySem.Str := nm0 ++ (nm1 ++ (nm2 ++ (nm3)))
abbrev R : PySem.W.OpenRow := PySem.W.OpenLaw.row PySem.Challenge.rw_onepurse_k77_first_dear_words_that_are_l
abbrev hk : PySem.W.Hook := He.hookX 4 fas fns [] tfs exK
noncomputable def ob (s : PySem.W.SharedT) : He.AlX := He.obsX 4 fas fns [] tfs exK (HandSHeadRun.getT s)
theorem ob_eq (s : PySem.W.SharedT) : ob s = hk.obs s.abs := He.obsX_eq (HandSHeadRun.getT_eq s)
noncomputable def XR (w : World) (os : OsState) := HandSHeadRun.endF (HandSHeadRun.stepQ (HandSHeadRun.denQ HandSHeadRun.tabQ) R.prog w) 9500 R.prog w os
theorem runA (w : World) (os : OsState) : (XR w os).map (fun s => HandSHeadRun.looksF R.prog (PySem.W.boot_heap w.params) s.abs) = some true := by
  kernel_rfl
theorem runB (w : World) (os : OsState) : (XR w os).map (fun s => HandSHeadRun.seenQ (PySem.W.view R.prog [61]) loose (PySem.importedModules R.prog.main.body) (fun s => PySem.W.xlAt (PySem.W.view R.prog [61]) [] s && PySem.W.recOk R.toRowW.records s) s.abs) = some (PySem.W.openGood (PySem.W.view R.prog [61]) loose) := by
  kernel_rfl
theorem runCA (w : World) (os : OsState) : (XR w os).map (fun s => He.obsX 4 fasA fnsA [] [] (fun _ => true) (HandSHeadRun.getT s)) = some (He.valX fnsA [] w) := by
  kernel_rfl
theorem runCB (w : World) (os : OsState) : (XR w os).map (fun s => He.obsX 4 fasB fnsB [] tfs exK (HandSHeadRun.getT s)) = some (He.valX fnsB [] w) := by
  kernel_rfl
theorem run (w : World) : HandSHeadRun.RunEq R (PySem.W.view R.prog [61]) hk ob 9500 loose w := by
  intro os
  show (XR w os).map (fun s => (HandSHeadRun.looksF R.prog (PySem.W.boot_heap w.params) s.abs, HandSHeadRun.seenQ (PySem.W.view R.prog [61]) loose (PySem.importedModules R.prog.main.body) (fun s => PySem.W.xlAt (PySem.W.view R.prog [61]) [] s && PySem.W.recOk R.toRowW.records s) s.abs, He.obsX 4 (fasA ++ fasB) (fnsA ++ fnsB) [] tfs exK (HandSHeadRun.getT s))) = some (true, PySem.W.openGood (PySem.W.view R.prog [61]) loose, He.valX (fnsA ++ fnsB) [] w)
  exact map_three (runA w os) (runB w os) (map_obs (runCA w os) (runCB w os))
end Onp
set_option maxHeartbeats 4000000
set_option autoImplicit false
namespace Onp
open PySem PySem.Spec PyProof.Rows L2
/-! ### texts as lists of code points -/
def Sx (xs : List Nat) : Str := ⟨xs.toArray⟩
theorem sx_len (xs : List Nat) : (Sx xs).length = xs.length := by simp [Sx, Str.length]
theorem sx_cps (xs : List Nat) : (Sx xs).cps.toList = xs := rfl
theorem sx_app (xs ys : List Nat) : Sx xs ++ Sx ys = Sx (xs ++ ys) := by
  show Str.mk (xs.toArray ++ ys.toArray) = Str.mk (xs ++ ys).toArray
  rw [List.append_toArray]
theorem sx_of (z : Str) : z = Sx z.cps.toList := rfl
theorem sx_inj {xs ys : List Nat} (h : Sx xs = Sx ys) : xs = ys := by
  have := congrArg (fun z : Str => z.cps.toList) h
  simpa [Sx] using this
def rep {α : Type} (n : Nat) (xs : List α) : List α := (List.replicate n xs).flatten
theorem rep_len {α : Type} (n : Nat) (xs : List α) : (rep n xs).length = n * xs.length := by
  unfold rep
  induction n with
  | zero => simp
  | succ n ih =>
    rw [List.replicate_succ, List.flatten_cons, List.length_append, ih, Nat.succ_mul]
    omega
theorem foldl_cps (n : Nat) (xs : List Nat) (a : List Nat) : ((List.replicate n xs.toArray).foldl (· ++ ·) a.toArray) = (a ++ rep n xs).toArray := by
  induction n generalizing a with
  | zero => simp [rep]
  | succ n ih =>
    rw [List.replicate_succ, List.foldl_cons, List.append_toArray, ih]
    unfold rep
    rw [List.replicate_succ, List.flatten_cons, List.append_assoc]
section
variable {X : Cx}
/-- text * int -/
def rMulS : R2 := fun x y H Q => ∃ (xs : List Nat) (n : Nat), x = .str (Sx xs) ∧ y = .int (n : Int) ∧ n ≤ 1000 ∧ n * xs.length ≤ sizeLine ∧ Q (.str (Sx (rep n xs))) H
theorem op_mulS : OpR X (binaryOp .Mult) rMulS := by
  intro pins s σ H x y v u Q I rx ry h
  obtain ⟨xs, n, rfl, rfl, hn, hz, q⟩ := h
  obtain ⟨t, rfl⟩ := rx
  obtain ⟨t', rfl⟩ := ry
  have hl : (Sx xs).length = xs.length := sx_len xs
  refine P.mul_str ?_ (fun h1 h2 => ?_) (fun h1 h2 => ?_) ?_
  · have h1 : ¬ ((n : Int) < -(2 ^ 63 : Int)) := by omega
    have h2 : ¬ ((n : Int) ≥ 2 ^ 63) := by omega
    rw [decide_eq_false h1, decide_eq_false h2]
    rfl
  · rw [hl]
    have hs := sizeLine_eq
    have q1 : ((xs.length : Int) * (n : Int)) ≤ 2 ^ 63 - 1 := by
      have q2 : n * xs.length ≤ 9223372036854775807 := by omega
      have q3 : ((n * xs.length : Nat) : Int) ≤ ((9223372036854775807 : Nat) : Int) := Int.ofNat_le.mpr q2
      rw [Int.mul_comm, ← Int.natCast_mul]
      exact q3
    have q3 := Int.le_ediv_of_mul_le (show (0 : Int) < n by omega) q1
    omega
  · rw [hl]
    unfold Builtin.Str.tooLong
    rw [Int.toNat_natCast, Nat.mul_comm]
    exact decide_eq_false (by omega)
  · by_cases h1 : (n : Int) < 1
    · rw [if_pos h1]
      have e : n = 0 := by omega
      subst e
      exact ⟨by decide, .str (Sx (rep 0 xs)), H, I.tok _, ⟨_, rfl⟩, q⟩
    · rw [if_neg h1]
      by_cases h2 : ((n : Int) == 1 || (Sx xs).length == 0) = true
      · rw [if_pos h2]
        have e : rep n xs = xs := by
          rcases Bool.or_eq_true_iff.mp h2 with h | h
          · have : n = 1 := by have := beq_iff_eq.mp h; omega
            subst this
            simp [rep]
          · rw [hl] at h
            have : xs = [] := List.length_eq_zero_iff.mp (beq_iff_eq.mp h)
            subst this
            simp [rep]
        rw [e] at q
        exact ⟨.str (Sx xs), H, I, ⟨_, rfl⟩, q⟩
      · rw [if_neg h2, Int.toNat_natCast]
        have e : (List.replicate n (Sx xs).cps).foldl (· ++ ·) #[] = (rep n xs).toArray := foldl_cps n xs []
        rw [e]
        refine ⟨?_, .str (Sx (rep n xs)), H, I.tok _, ⟨_, rfl⟩, q⟩
        show (Sx (rep n xs)).length ≤ sizeLine
        rw [sx_len, rep_len]
        exact hz
/-- list(text) -/
def signsV (xs : List Nat) : List V := xs.map fun c => V.str (Sx [c])
theorem call_list_s (hc : X.calm = true) : CallR X (.type "list") (fun vs H Q => ∃ xs : List Nat, vs = [.str (Sx xs)] ∧ xs.length ≤ sizeLine ∧ ∀ l, H l = none → Q (.ref l) (upd H l (.lst (signsV xs)))) := by
  intro pins s σ H vs us Q I r h
  obtain ⟨xs, rfl, hz, q⟩ := h
  obtain ⟨u, rfl, t, rfl⟩ := vals1 r
  refine call_list_str (I.ok.hd hc) (Sx xs) t (hn := by show (Sx xs).length ≤ sizeLine; rw [sx_len]; exact hz) fun h' tk acc c hk hS ha => ?_
  refine ⟨.ref s.heap.objs.size, upd H s.heap.objs.size (.lst (signsV xs)), I.laid (t' := tk) hk (Nat.le_refl _) ?_, rfl, q _ (I.hok.fresh (Nat.le_refl _))⟩
  have e : acc = acc.toList.toArray := by simp
  refine ⟨by unfold signsV; rw [List.length_map]; exact hz, acc.toList, c, ?_, by rw [← e]; exact hS⟩
  have hsz : acc.toList.length = xs.length := by
    rw [Array.length_toList, ha.1]
    exact sx_len xs
  have key : ∀ (ys : List Nat) (vs : List Value) (k : Nat), vs.length = ys.length → (∀ (j : Nat) (v : Value), vs[j]? = some v → ∃ cc uu, ys[j]? = some cc ∧ v = Value.str ⟨#[cc]⟩ uu) → Vals (signsV ys) vs := by
    intro ys
    induction ys with
    | nil =>
      intro vs _ hl _
      rw [List.length_eq_zero_iff.mp hl]
      exact .nil
    | cons y ys ih =>
      intro vs k hl hv
      cases vs with
      | nil => simp at hl
      | cons v vs =>
        obtain ⟨cc, uu, e1, e2⟩ := hv 0 v rfl
        cases e1
        subst e2
        exact .cons ⟨uu, rfl⟩ (ih vs k (by simpa using hl) fun j v hj => hv (j + 1) v hj)
  refine key xs acc.toList 0 hsz fun j v hj => ?_
  obtain ⟨cc, uu, e1, e2⟩ := ha.2 j v (by simpa using hj)
  refine ⟨cc, uu, ?_, e2⟩
  have e1 : xs.toArray[j]? = some cc := e1
  simpa using e1
end
end Onp
set_option maxHeartbeats 4000000
set_option autoImplicit false
/-! zip(text, text) -/
namespace Onp
open PySem PySem.Spec PyProof.Rows L2
abbrev sgn (c : Nat) : V := .str ⟨#[c]⟩
def ItzS (x y : Str) : It :=
  ⟨fun i _ => i < min x.cps.size y.cps.size, fun i H v H' => ∃ T c d, v = .ref T ∧ H T = none ∧ H' = upd H T (.tup [sgn c, sgn d]) ∧ x.cps[i]? = some c ∧ y.cps[i]? = some d, fun i _ => i = min x.cps.size y.cps.size⟩
abbrev stS2 (x y : Str) (t u : Tok) (z TI TO i1 i2 : Addr) : Nat → Heap → Prop := fun i h => IsZip h z TI TO .none ∧ IsTupOf2 h TI (.ref i1) (.ref i2) ∧ (∃ a1 a2, IsTupOf2 h TO a1 a2) ∧ h.IsStrIter i1 (strIterType x) x t i ∧ h.IsStrIter i2 (strIterType y) y u i
theorem zipS_obj {x y : Str} {t u : Tok} {z TI TO i1 i2 : Addr} {i : Nat} {h : Heap} (st : stS2 x y t u z TI TO i1 i2 i h) : ∀ c ∈ z :: TI :: TO :: ([i1] ++ [i2]), ∃ o, h.get? c = some o ∧ ∀ v, o.data ≠ .cell v := fun c hc => by
    obtain ⟨g1, g2, ⟨_, _, g3⟩, ⟨o1, e1, _, d1⟩, ⟨o2, e2, _, d2⟩⟩ := st
    have hc' : c = z ∨ c = TI ∨ c = TO ∨ c = i1 ∨ c = i2 := by simpa using hc
    rcases hc' with rfl | rfl | rfl | rfl | rfl
    · exact ⟨_, g1, fun v q => nomatch q⟩
    · exact ⟨_, g2, fun v q => nomatch q⟩
    · exact ⟨_, g3, fun v q => nomatch q⟩
    · exact ⟨o1, e1, fun v q => by rw [d1] at q; cases q⟩
    · exact ⟨o2, e2, fun v q => by rw [d2] at q; cases q⟩
theorem turn_zipS {P : Program} {w : World} {K : PySem.W.Frag} {elts : List Expr} {kk : Nat} {tpos : Pos} {x y : Str} {t u : Tok} {z TI TO i1 i2 : Addr} (S : ZipSep2 z TI TO i1 i2 [i1] [i2]) :
    Turn P w K (.Tuple elts kk tpos) (ItzS x y) (z :: TI :: TO :: ([i1] ++ [i2])) z (stS2 x y t u z TI TO i1 i2) where
  mem := List.mem_cons_self
  obj := fun i h st => zipS_obj st
  keep := fun i h h' st k => by
    obtain ⟨g1, g2, ⟨a1, a2, g3⟩, ⟨o1, e1, r1⟩, ⟨o2, e2, r2⟩⟩ := st
    exact ⟨k z (by simp) _ g1, k TI (by simp) _ g2, ⟨a1, a2, k TO (by simp) _ g3⟩, ⟨o1, k i1 (by simp) _ e1, r1⟩, ⟨o2, k i2 (by simp) _ e2, r2⟩⟩
  item := by
    intro X hP hw hK hc i pins s σ H E I hf st go
    subst hP hw hK
    have W := WalksT.zipD2 (A := X.A) S (Draws.text (prog := X.prog) (w := X.w) (A := X.A.in1) (by simp [I.ok.hd hc]) i1 x t) (Draws.text (prog := X.prog) (w := X.w) (A := X.A.in1) (by simp [I.ok.hd hc]) i2 y u)
    refine W.item i s _ _ go st fun T vals h' tk pv hT isT mid kp => ?_
    obtain ⟨x1, x2, ⟨c, u1, hc1, rfl⟩, ⟨d, u2, hd1, rfl⟩, rfl⟩ := pv
    refine ⟨_, rfl, W.go elts kk tpos i T { s with heap := h', toks := tk } _ _ mid fun h2 st2 kp2 => ?_⟩
    obtain ⟨o, ho, r⟩ := isT
    have hoT : h2.IsTuple T #[.str ⟨#[c]⟩ u1, .str ⟨#[d]⟩ u2] := ⟨o, kp2 _ _ (W.apart i T _ mid) ho, r⟩
    have new : ObjOk X.prog X.w (upd H T (.tup [sgn c, sgn d])) h2 T (.tup [sgn c, sgn d]) := ⟨by show 2 ≤ sizeLine; decide, [.str ⟨#[c]⟩ u1, .str ⟨#[d]⟩ u2], .cons ⟨_, rfl⟩ (.cons ⟨_, rfl⟩ .nil), hoT⟩
    have I1 : Inv X pins σ (upd H T (.tup [sgn c, sgn d])) { s with heap := h2, toks := tk } := I.turnedNew (t' := tk) (ch := z :: TI :: TO :: ([i1] ++ [i2])) (fun b o hb q => kp2 b o (fun z => hb (W.sub b z)) (kp b o (fun z => hb (W.sub b z)) q)) hf hT new
    refine ⟨.ref T, _, I1, rfl, ⟨T, c, d, rfl, I.hok.fresh hT, rfl, hc1, hd1⟩, st2, fun b hb => ?_⟩
    have ne : b ≠ T := fun e => by
      obtain ⟨o', eo', _⟩ := (zipS_obj st b hb)
      exact absurd (Heap.lt_size eo') (Nat.not_lt_of_le (e ▸ hT))
    rw [upd_ne ne]
    exact (hf b hb).1
  done := by
    intro X hP hw hK hc i pins s σ H E I hf st go
    subst hP hw hK
    have W := WalksT.zipD2 (A := X.A) S (Draws.text (prog := X.prog) (w := X.w) (A := X.A.in1) (by simp [I.ok.hd hc]) i1 x t) (Draws.text (prog := X.prog) (w := X.w) (A := X.A.in1) (by simp [I.ok.hd hc]) i2 y u)
    rw [show i = min x.cps.size y.cps.size from go] at st
    exact W.done s _ _ st fun h' tk kp => ⟨rfl, I.turnedL (t' := tk) (ch := z :: TI :: TO :: ([i1] ++ [i2])) (fun b o hb q => kp b o (fun z => hb (W.sub b z)) q) hf⟩
  self := fun A i s Q E st h => wpAny_pyIter_zip st.1 h
def iZipS (ta : TA) : TI := fun σ H R => ta σ H fun vs H1 => ∃ x y, vs = [.str x, .str y] ∧ R (ItzS x y) H1
theorem pi_zipS {X : Cx} {e e2 : Expr} {ta : TA} {p pos tpos : Pos} {elts : List Expr} {kk : Nat} (hg : Gl X "zip") (hm : X.mg "zip" = none) (ha : PA X [e, e2] ta)
    (hs : starEach [e, e2] X.env = (false, eval e X.env) :: starEach [e2] X.env := by rfl) (hpl : (backTo pos (starEach [e2] X.env)).any (·.1) = false := by rfl) :
    PI X (.Tuple elts kk tpos) (.Call (.Name "zip" p) [e, e2] [] pos) (iZipS ta) := by
  refine ⟨fun pins s σ H R I h => ?_⟩
  refine Call_ (ld_blt I hg hm PyProof.Rows.boot_zip (PyProof.Rows.callWith_type1 (thn (ha.run pos pins s σ H _ I h) fun us s1 ⟨vs, H1, I1, r1, q1⟩ => ?_) hs hpl))
  obtain ⟨x, y, ex, q⟩ := q1
  subst ex
  cases r1 with
  | cons r rr =>
    cases rr with
    | cons r' rr =>
      cases rr
      obtain ⟨t, rfl⟩ := r
      obtain ⟨u, rfl⟩ := r'
      refine zip_begins2 (begins_text x t) (begins_text y u) trivial trivial fun h' g1 g2 g3 g4 g5 sz kp => wpAny_pyIter_zip g1 ?_
      have I2 : Inv X pins σ H1 { s1 with heap := h' } := I1.kept (t' := s1.toks) kp
      refine ⟨s1.heap.objs.size + 4, _, _, _, H1, rfl, I2, turn_zipS (x := x) (y := y) (t := t) (u := u) (zip_sep2 (N := s1.heap.objs.size) (fp1 := []) (fp2 := []) (fun _ h => nomatch h) (fun _ h => nomatch h)), ⟨g1, g2, ⟨_, _, g3⟩, ⟨_, g4, rfl, rfl⟩, ⟨_, g5, rfl, rfl⟩⟩, fun c hc => ?_, q⟩
      have hc' : c = s1.heap.objs.size + 4 ∨ c = s1.heap.objs.size + 2 ∨ c = s1.heap.objs.size + 3 ∨ c = s1.heap.objs.size ∨ c = s1.heap.objs.size + 1 := by simpa using hc
      have le : s1.heap.objs.size ≤ c := by
        rcases hc' with rfl | rfl | rfl | rfl | rfl <;> first | exact Nat.le_refl _ | exact Nat.le_add_right _ _
      exact I1.fpOk le (I1.hok.fresh le)
theorem walk_zipS (x y : Str) : Walk (ItzS x y) (min x.cps.size y.cps.size) (fun _ => True) (fun i H v H' => ∃ T c d, v = .ref T ∧ H T = none ∧ H' = upd H T (.tup [sgn c, sgn d]) ∧ x.cps[i]? = some c ∧ y.cps[i]? = some d) :=
  ⟨fun _ _ h _ => h, fun _ _ => rfl, fun _ _ _ _ _ _ y => y⟩
end Onp
set_option maxHeartbeats 4000000
set_option autoImplicit false
/-! sets of tuples of ints and texts (fewer than 64) -/
namespace Onp
open PySem PySem.Spec PyProof.Rows L2
abbrev hM (P : Program) (w : World) (k : List Key) : Int := tupleKeyHash (mixKind P w) k
abbrev IsM (P : Program) (w : World) (h : Heap) (k : List Key) (a : Addr) : Prop := IsTupleKey (mixKind P w) h k a
abbrev AK : Type := Addr × List Key
section
variable {P : Program} {w : World} {A : Around} {E : Value → Shared → Prop} {s : Shared}
def Flat (v : Value) : Prop := (∃ i t, v = Value.int i t) ∨ ∃ x t, v = Value.str x t
theorem flat_of {k : List Key} {vs : List Value} (h : ItemsAre (mixKind P w) k vs) : ∀ v ∈ vs, Flat v := by
  induction h with
  | nil => exact fun v hv => nomatch hv
  | cons h1 _ ih =>
    intro v hv
    rcases List.mem_cons.mp hv with rfl | hv
    · rcases keyIs_shape h1 with ⟨i, t, _, e⟩ | ⟨x, t, _, e⟩
      · exact .inl ⟨_, _, e⟩
      · exact .inr ⟨_, _, e⟩
    · exact ih v hv
theorem flat_cls (n : Nat) {v : Value} (h : Flat v) : ofAClassStatement n v = pure false := by
  rcases h with ⟨i, t, rfl⟩ | ⟨x, t, rfl⟩ <;> cases n <;> rfl
theorem clsM {k : List Key} {b : Addr} {Q : Bool → Shared → Prop} (hk : IsM P w s.heap k b) (h : Q false s) : wpAny (model P w) A (ofAClassStatement 8 (.ref b)) Q E s := by
  have tT := hk.typeIs
  obtain ⟨ob, its, n, g1, _, g2, g3⟩ := hk
  unfold ofAClassStatement
  refine wpAny_bind (wpAny_typeOf tT ?_)
  dsimp only
  have e : (("tuple" : String) == "tuple") = true := by decide
  simp only [e, if_true, Bool.not_true, Bool.false_eq_true, if_false]
  try refine wpAny_bind (wpAny_pure ?_)
  try simp only [Bool.not_true, Bool.false_eq_true, if_false]
  show wpAny _ _ (seqItems? (.ref b) >>= _) _ _ s
  refine wpAny_bind (wpAny_seqItems g1 g2 ?_)
  dsimp only
  refine wpAny_bind ?_
  show wpAny _ _ (forIn its _ _) _ _ s
  rw [← Array.forIn_toList]
  refine wpAny_forIn_list _ (fun rest r s' => r.1 = none ∧ s' = s ∧ ∀ v ∈ rest, Flat v) _ ?_ ?_ _ _ ⟨rfl, rfl, flat_of g3⟩
  · rintro v rest r s' ⟨_, rfl, al⟩
    rw [flat_cls _ (al v List.mem_cons_self)]
    refine wpAny_bind (wpAny_pure ?_)
    simp only [Bool.false_eq_true, if_false]
    exact wpAny_pure ⟨rfl, rfl, fun u z => al u (List.mem_cons_of_mem _ z)⟩
  · rintro ⟨r1, r2⟩ s' ⟨er, rfl, _⟩
    simp only at er
    subst er
    exact wpAny_pure h
theorem flat_hash (n : Nat) {v : Value} (h : Flat v) : ∃ b, hashByValue n v = pure b := by
  rcases h with ⟨i, t, rfl⟩ | ⟨x, t, rfl⟩
  · exact ⟨true, by cases n <;> rfl⟩
  · exact ⟨false, by cases n <;> rfl⟩
theorem hashM {k : List Key} {b : Addr} {Q : Bool → Shared → Prop} (hk : IsM P w s.heap k b) (h : ∀ y, Q y s) : wpAny (model P w) A (hashByValue 8 (.ref b)) Q E s := by
  have tT := hk.typeIs
  obtain ⟨ob, its, n, g1, _, g2, g3⟩ := hk
  unfold hashByValue
  refine wpAny_bind (wpAny_specialOf tT F.slot_tuple_hash.lookup ?_)
  show wpAny _ _ (seqItems? (.ref b) >>= _) _ _ s
  refine wpAny_bind (wpAny_seqItems g1 g2 ?_)
  refine wpAny_bind ?_
  show wpAny _ _ (forIn its _ _) _ _ s
  rw [← Array.forIn_toList]
  refine wpAny_forIn_list _ (fun rest r s' => s' = s ∧ ∀ v ∈ rest, Flat v) _ ?_ ?_ _ _ ⟨rfl, flat_of g3⟩
  · rintro v rest r s' ⟨rfl, al⟩
    obtain ⟨y, ey⟩ := flat_hash 7 (al v List.mem_cons_self)
    rw [ey]
    refine wpAny_bind (wpAny_pure ?_)
    cases y with
    | true =>
      simp only [Bool.not_true, Bool.false_eq_true, if_false]
      exact wpAny_pure ⟨rfl, fun u z => al u (List.mem_cons_of_mem _ z)⟩
    | false =>
      simp only [Bool.not_false, if_true]
      exact wpAny_pure (wpAny_pure (h false))
  · rintro ⟨r1, r2⟩ s' ⟨rfl, _⟩
    cases r1 with
    | none => exact wpAny_pure (h _)
    | some y => exact wpAny_pure (h _)
theorem seenM {k : List Key} {b : Addr} {Q : Bool → Shared → Prop} (hk : IsM P w s.heap k b) {ys : List Value} (hy : ∀ y ∈ ys, ∃ k' c, y = Value.ref c ∧ IsM P w s.heap k' c) (h : Q false s) :
    wpAny (model P w) A (searchCouldBeSeen (.ref b) ys) Q E s := by
  unfold searchCouldBeSeen
  refine wpAny_bind ?_
  refine wpAny_forIn_list _ (fun rest r s' => r.1 = none ∧ s' = s ∧ ∀ y ∈ rest, ∃ k' c, y = Value.ref c ∧ IsM P w s.heap k' c) _ ?_ ?_ _ _ ⟨rfl, rfl, hy⟩
  · rintro v rest r s' ⟨_, rfl, al⟩
    obtain ⟨k', c, rfl, ic⟩ := al v List.mem_cons_self
    have more : ∀ y ∈ rest, ∃ k' c, y = Value.ref c ∧ IsM P w s'.heap k' c := fun u z => al u (List.mem_cons_of_mem _ z)
    dsimp only
    by_cases hv : (b == c || (carriedByValue (.ref b) && carriedByValue (.ref c))) = true
    · exact wp_if_pos hv (wpAny_pure ⟨rfl, rfl, more⟩)
    · refine wp_if_neg hv (wpAny_bind (wpAny_eqIsQuiet_tuple hk ?_))
      simp only [Bool.not_true, Bool.false_eq_true, if_false]
      refine wpAny_bind (wpAny_eqIsQuiet_tuple ic ?_)
      simp only [Bool.not_true, Bool.false_eq_true, if_false]
      refine wpAny_bind (clsM hk ?_)
      simp only [Bool.false_eq_true, if_false]
      refine wpAny_bind (clsM ic ?_)
      simp only [Bool.false_eq_true, if_false]
      exact wpAny_pure ⟨rfl, rfl, more⟩
  · rintro ⟨r1, r2⟩ s' ⟨er, rfl, _⟩
    simp only at er
    subst er
    exact wpAny_pure h
/-! ### the set -/
def rowsM (P : Program) (w : World) (L : List AK) : List (Int × Value) := L.map fun p => (hM P w p.2, Value.ref p.1)
structure SetM (P : Program) (w : World) (h : Heap) (a : Addr) (L : List AK) (es : Array (Int × Value)) (ep : Nat) (t : SetTable) : Prop where
  ob : ∃ o, h.get? a = some o ∧ o.ExactSet ∧ o.data = .set es ep t
  rows : es.toList = rowsM P w L
  tab : TabOk t (L.map fun p => hM P w p.2)
  nd : (L.map (·.2)).Nodup
  tup : ∀ p ∈ L, IsM P w h p.2 p.1
  led : w.params.followText "set-order" = true ∨ t.led = true
  room : L.length * 5 < t.mask * 3
  few : L.length < 64
variable {a : Addr} {L : List AK} {es : Array (Int × Value)} {ep : Nat} {t : SetTable}
theorem rowsM_len {L : List AK} {es : Array (Int × Value)} (e : es.toList = rowsM P w L) : es.size = L.length := by
  have q := congrArg List.length e
  simpa [rowsM] using q
theorem fitsM {n : Nat} (hd : t.dummies = #[]) (h1 : t.place.size = n) (h2 : n ≤ t.mask) : t.fits n = true := by
  unfold SetTable.fits SetTable.fill
  rw [hd, Bool.and_eq_true, beq_iff_eq, decide_eq_true_eq]
  show t.place.size = n ∧ t.place.size + 0 ≤ t.mask
  omega
theorem SetM.fits (R : SetM P w s.heap a L es ep t) : t.fits es.size = true := by
  have z1 := R.tab.sz
  rw [List.length_map] at z1
  have z2 := rowsM_len R.rows
  have z3 := R.room
  exact fitsM R.tab.dm (by omega) (by omega)
theorem SetM.entry (R : SetM P w s.heap a L es ep t) {i : Nat} {p : AK} (h : L[i]? = some p) : es[i]? = some (hM P w p.2, Value.ref p.1) := by
  rw [← Array.getElem?_toList, R.rows]
  unfold rowsM
  rw [List.getElem?_map, h]
  rfl
theorem SetM.gw (R : SetM P w s.heap a L es ep t) : ¬ t.gaveWay = true := by
  unfold SetTable.gaveWay
  rw [mask_odd R.tab.mok]
  decide
abbrev str0 (t : SetTable) (h : Int) : SetTable.Probe := runAt t.mask (SetTable.bits h % (t.mask + 1)) (SetTable.bits h)
theorem nth_dummy (m : Nat) : ∀ (n : Nat) (p : SetTable.Probe), p.dummy = none → (nth m p n).dummy = none
  | 0, _, h => h
  | n + 1, p, h => nth_dummy m n (adv m p) (by unfold adv; split <;> exact h)
theorem searchM (R : SetM P w s.heap a L es ep t) {x : Addr} {k : List Key} (hx : IsM P w s.heap k x) (hu : A.units < cLine) {K : Nat} (kf : K < 10 * SetTable.turns t.mask)
    (k1 : way t.mask (hM P w k) K ∉ t.place.toList) (k2 : ∀ c, c < K → way t.mask (hM P w k) c ∈ t.place.toList) {Q : SetFound → Shared → Prop}
    (yes : k ∈ L.map (·.2) → Q (.there none) s) (no : k ∉ L.map (·.2) → Q (.free (way t.mask (hM P w k) K) false) s) :
    ∀ (f c : Nat) (stand : Option SetTable.Probe), stand.getD (t.probeStart (hM P w k)) = nth t.mask (str0 t (hM P w k)) c → c ≤ K → K - c < f →
      (∀ (i : Nat) p, L[i]? = some p → p.2 = k → ∃ c', c ≤ c' ∧ c' < K ∧ t.place.toList[i]? = some (way t.mask (hM P w k) c')) →
      wpAny (model P w) A (setSearchFrom a (.ref x) (hM P w k) true f stand) Q E s
  | 0, c, stand, _, _, bad, _ => absurd bad (Nat.not_lt_zero _)
  | f + 1, c, stand, es0, hcK, hf, hre => by
    obtain ⟨ob, g1, gx, g2⟩ := R.ob
    rw [setSearchFrom_succ]
    refine wpAny_bind (wpAny_setState_of g1 g2 R.fits ?_)
    dsimp only
    refine wp_if_neg R.gw ?_
    try refine wpAny_bind (wpAny_pure ?_)
    have nd0 := nth_dummy t.mask c (str0 t (hM P w k)) rfl
    have sh : ∀ q, nth t.mask (nth t.mask (str0 t (hM P w k)) c) q = nth t.mask (str0 t (hM P w k)) (c + q) := fun q => (nth_add t.mask c _ q).symm
    have e1 : ∀ q, (nth t.mask (nth t.mask (str0 t (hM P w k)) c) q).j = way t.mask (hM P w k) (c + q) := fun q => congrArg SetTable.Probe.j (sh q)
    have hat : ∀ (i : Nat) p, L[i]? = some p → (fun i => (es[i]?.map (·.1)).getD 0) i = hM P w p.2 := fun i p hp => by
      show (es[i]?.map (·.1)).getD 0 = _
      rw [R.entry hp]
      rfl
    rcases go_spec t R.tab.ris R.tab.dm (fun i => (es[i]?.map (·.1)).getD 0) (hM P w k) (10 * SetTable.turns t.mask) (K - c) _ nd0 (by omega)
      (fun q hq => by rw [e1]; exact k2 (c + q) (by omega)) (by rw [e1, show c + (K - c) = K by omega]; exact k1) with ⟨q, i, hq, hi, hh, hno, hpr⟩ | ⟨hno, hpr⟩
    · have hpr' : t.probe (fun i => (es[i]?.map (·.1)).getD 0) (hM P w k) (stand.getD (t.probeStart (hM P w k))) = some (.candidate (way t.mask (hM P w k) (c + q)) i (nth t.mask (str0 t (hM P w k)) (c + (q + 1)))) := by
        rw [es0, ← e1, ← sh]
        exact hpr
      rw [hpr']
      dsimp only
      rw [e1] at hi
      have hil : i < L.length := by
        have z1 : i < t.place.toList.length := (List.getElem?_eq_some_iff.mp hi).1
        have z2 := R.tab.sz
        rw [List.length_map] at z2
        rw [Array.length_toList] at z1
        omega
      obtain ⟨p, hp⟩ : ∃ p, L[i]? = some p := ⟨_, List.getElem?_eq_getElem hil⟩
      have pm : p ∈ L := List.mem_of_getElem? hp
      have pt := R.tup p pm
      have rest : wpAny (model P w) A (searchRest a (.ref x) (hM P w k) true f es t (way t.mask (hM P w k) (c + q)) i (nth t.mask (str0 t (hM P w k)) (c + (q + 1)))) Q E s := by
        unfold searchRest
        rw [R.entry hp]
        dsimp only
        refine wpAny_bind (wpAny_holding (wpAny_eqBool_tuple hu pt hx ?_))
        refine wpAny_bind (wpAny_setState_of g1 g2 R.fits ?_)
        dsimp only
        by_cases kk : p.2 = k
        · refine wp_if_pos (by simp [kk]) ?_
          exact wpAny_pure (yes (List.mem_map.mpr ⟨p, pm, kk⟩))
        · refine wp_if_neg (by simp [kk]) ?_
          try refine wpAny_bind (wpAny_pure ?_)
          rw [sameMem]
          dsimp only
          have sl : t.slot (way t.mask (hM P w k) (c + q)) = .live i := slot_live R.tab.ris hi
          simp only [if_true, sl, R.entry hp]
          refine wpAny_bind (wpAny_isSame_ref_self (wpAny_bind (wpAny_pure ?_)))
          simp only [if_true]
          refine wp_if_neg (by simp [kk]) ?_
          refine searchM R hx hu kf k1 k2 yes no f (c + (q + 1)) _ rfl (by omega) (by omega) fun i0 p0 z0 hk0 => ?_
          obtain ⟨c', a1, a2, a3⟩ := hre i0 p0 z0 hk0
          refine ⟨c', ?_, a2, a3⟩
          by_cases y1 : c' < c + q
          · exfalso
            refine hno (c' - c) i0 (by omega) (by rw [e1, show c + (c' - c) = c' by omega]; exact a3) ?_
            exact (hat i0 p0 z0).trans (congrArg (hM P w) hk0)
          · by_cases y2 : c + q < c'
            · omega
            · exfalso
              have ec : c' = c + q := by omega
              rw [ec] at a3
              have s0 := slot_live R.tab.ris a3
              rw [sl] at s0
              injection s0 with s0
              rw [← s0, hp] at z0
              rw [← Option.some.inj z0] at hk0
              exact kk hk0
      by_cases hl : t.led = true
      · refine wp_if_neg (by simp [hl]) ?_
        try refine wpAny_bind (wpAny_pure ?_)
        exact rest
      · refine wp_if_pos (by simp [hl]) (wpAny_bind (seenM hx (fun y hy => ?_) ?_))
        · obtain ⟨e, he, ee⟩ := List.mem_map.mp hy
          have he1 : e ∈ es ∧ e.1 = hM P w k := by simpa using he
          have he2 : e ∈ es.toList := by simpa using he1.1
          rw [R.rows] at he2
          obtain ⟨p2, m2, q2⟩ := List.mem_map.mp he2
          exact ⟨p2.2, p2.1, by rw [← ee, ← q2], R.tup p2 m2⟩
        · refine wp_if_neg (by decide) ?_
          try refine wpAny_bind (wpAny_pure ?_)
          exact rest
    · have hpr' : t.probe (fun i => (es[i]?.map (·.1)).getD 0) (hM P w k) (stand.getD (t.probeStart (hM P w k))) = some (.empty (way t.mask (hM P w k) K) none) := by
        have e2 : way t.mask (hM P w k) K = (nth t.mask (nth t.mask (str0 t (hM P w k)) c) (K - c)).j := by
          rw [e1, show c + (K - c) = K by omega]
        rw [es0, e2]
        exact hpr
      rw [hpr']
      dsimp only
      refine wpAny_pure (no fun hm => ?_)
      obtain ⟨p0, z0, hk0⟩ := List.mem_map.mp hm
      obtain ⟨i0, hi0⟩ := List.mem_iff_getElem?.mp z0
      obtain ⟨c', a1, a2, a3⟩ := hre i0 p0 hi0 hk0
      refine hno (c' - c) i0 (by omega) (by rw [e1, show c + (c' - c) = c' by omega]; exact a3) ?_
      exact (hat i0 p0 hi0).trans (congrArg (hM P w) hk0)
theorem searchM0 (R : SetM P w s.heap a L es ep t) {x : Addr} {k : List Key} (hx : IsM P w s.heap k x) (hu : A.units < cLine) {Q : SetFound → Shared → Prop}
    (yes : k ∈ L.map (·.2) → Q (.there none) s)
    (no : ∀ K, k ∉ L.map (·.2) → way t.mask (hM P w k) K ∉ t.place.toList → (∀ c, c < K → way t.mask (hM P w k) c ∈ t.place.toList) → Q (.free (way t.mask (hM P w k) K) false) s) :
    wpAny (model P w) A (setSearch a (.ref x) (hM P w k) true) Q E s := by
  have z3 := R.room
  obtain ⟨K, kf, k1, k2⟩ := R.tab.first (by rw [List.length_map]; omega) (hM P w k)
  have big : K < 100000 := by
    have : 10 * SetTable.turns t.mask ≤ 1420 := by
      unfold SetTable.turns
      rcases R.tab.mok with e | e | e <;> omega
    omega
  unfold setSearch
  refine searchM R hx hu kf k1 k2 yes (fun z => no K z k1 k2) 100000 0 none rfl (Nat.zero_le _) (by omega) fun i p hp hk => ?_
  have hi : (L.map fun p => hM P w p.2)[i]? = some (hM P w k) := by
    rw [List.getElem?_map, hp, ← hk]
    rfl
  have hil : i < t.place.toList.length := by
    have z1 : i < L.length := (List.getElem?_eq_some_iff.mp hp).1
    have z2 := R.tab.sz
    rw [List.length_map] at z2
    rw [Array.length_toList]
    omega
  obtain ⟨c, hc, e⟩ := R.tab.before k1 hi (List.getElem?_eq_getElem hil)
  exact ⟨c, Nat.zero_le _, hc, by rw [List.getElem?_eq_getElem hil, e]⟩
theorem isM_but {h h' : Heap} {k : List Key} {a b : Addr} {o : Obj} {es : Array (Int × Value)} {ep : Nat} {t : SetTable} (hb : IsM P w h k b) (g1 : h.get? a = some o) (g2 : o.data = .set es ep t) (sb : Heap.SameBut a h h') : IsM P w h' k b := by
  obtain ⟨o', its, n, z1, z2, z3, z4⟩ := hb
  have ne : b ≠ a := by
    rintro rfl
    obtain rfl : o' = o := Option.some.inj (z1.symm.trans g1)
    rw [g2] at z3
    exact nomatch z3
  exact ⟨o', its, n, (sb.2 b ne).trans z1, z2, z3, z4⟩
theorem orderM (L : List AK) (es : Array (Int × Value)) (order : Array Nat) (hr : es.toList = rowsM P w L) (hp : order.toList.Perm (List.range L.length)) :
    ∃ L2, (order.filterMap (es[·]?)).toList = rowsM P w L2 ∧ L2.Perm L ∧ (L2.map fun p => hM P w p.2) = order.toList.map fun i => (es.map (·.1)).getD i 0 := by
  have sz := rowsM_len hr
  have ent : ∀ i, es[i]? = (L[i]?).map fun (p : AK) => (hM P w p.2, Value.ref p.1) := fun i => by
    rw [← Array.getElem?_toList, hr]
    unfold rowsM
    rw [List.getElem?_map]
  have key : ∀ l : List Nat, (∀ i ∈ l, i < L.length) → l.filterMap (fun i => es[i]?) = rowsM P w (l.filterMap fun i => L[i]?) ∧ ((l.filterMap fun i => L[i]?).map fun p => hM P w p.2) = l.map fun i => (es.map (·.1)).getD i 0 := by
    intro l
    induction l with
    | nil => exact fun _ => ⟨rfl, rfl⟩
    | cons i l ih =>
      intro hl
      have hi := hl i List.mem_cons_self
      obtain ⟨q1, q2⟩ := ih fun j hj => hl j (List.mem_cons_of_mem _ hj)
      have g : L[i]? = some L[i] := List.getElem?_eq_getElem hi
      have g' : es[i]? = some (hM P w L[i].2, Value.ref L[i].1) := by rw [ent, g]; rfl
      refine ⟨?_, ?_⟩
      · rw [List.filterMap_cons_some g', List.filterMap_cons_some g, q1]
        rfl
      · rw [List.filterMap_cons_some g, List.map_cons, List.map_cons, q2]
        congr 1
        have q5 : (es.map (·.1))[i]? = some (hM P w L[i].2) := by rw [Array.getElem?_map, g']; rfl
        simp [Array.getD_eq_getD_getElem?, q5]
  obtain ⟨q1, q2⟩ := key order.toList fun i hi => List.mem_range.mp (hp.mem_iff.mp hi)
  refine ⟨_, by first | (rw [Array.toList_filterMap]; exact q1) | simpa using q1, ?_, q2⟩
  have m1 : (order.toList.filterMap fun i => L[i]?).Perm ((List.range L.length).filterMap fun i => L[i]?) := hp.filterMap _
  have m2 : (List.range L.length).filterMap (fun i => L[i]?) = L := by
    have key2 : ∀ n, n ≤ L.length → (List.range n).filterMap (fun i => L[i]?) = L.take n := by
      intro n
      induction n with
      | zero => exact fun _ => rfl
      | succ n ih =>
        intro hn
        rw [List.range_succ, List.filterMap_append, ih (by omega), List.take_succ, List.getElem?_eq_getElem hn, List.filterMap_cons_some (List.getElem?_eq_getElem hn)]
        rfl
    rw [key2 L.length (Nat.le_refl _), List.take_length]
  rw [m2] at m1
  exact m1
theorem relayM {o : Obj} (g1 : s.heap.get? a = some o) (gx : o.ExactSet) (g2 : o.data = .set es ep t) (hr : es.toList = rowsM P w L) (z1 : t.place.size = es.size) (z2 : t.dummies = #[]) (z3 : es.size ≤ t.mask)
    (nd : (L.map (·.2)).Nodup) (tup : ∀ p ∈ L, IsM P w s.heap p.2 p.1) (ld : w.params.followText "set-order" = true ∨ t.led = true) (few : L.length < 64) {wanted M : Nat}
    (w1 : SetTable.sizeAbove wanted - 1 = M) (w2 : MaskOk M) (w3 : SetTable.sizeAbove wanted ≤ 128) (w4 : L.length * 5 < M * 3) {Q : Unit → Shared → Prop}
    (q : ∀ h' L' es' ep' t', Heap.SameBut a s.heap h' → SetM P w h' a L' es' ep' t' → L'.Perm L → Q () { s with heap := h' }) : wpAny (model P w) A (setRelay a wanted) Q E s := by
  have sz := rowsM_len hr
  obtain ⟨t', order, e, hp, T, em, el, ep2, ed⟩ := relaid_ok t (hs := es.map (·.1)) (wanted := wanted) w1 w2 (by rw [Array.size_map, sz]; omega)
  rw [Array.size_map, sz] at hp
  obtain ⟨L2, r1, r2, r3⟩ := orderM L es order hr hp
  rw [← r3] at T
  have sz2 : (order.filterMap (es[·]?)).size = es.size := by
    rw [rowsM_len r1, r2.length_eq, sz]
  rw [setRelay_eq]
  refine wpAny_bind (wpAny_setState_of g1 g2 (fitsM z2 z1 z3) ?_)
  dsimp only
  refine wp_if_neg (by rw [sizeLine_eq]; omega) ?_
  try refine wpAny_bind (wpAny_pure ?_)
  rw [e]
  dsimp only
  refine wpAny_bind (wp_if_neg (by rw [sz2]; simp) ?_)
  try refine wpAny_bind (wpAny_pure ?_)
  refine wpAny_pure ?_
  dsimp only
  refine wpAny_storeSet_of g1 g2 ?_ (by rw [sz2, sz, sizeLine_eq]; omega)
  have sb : Heap.SameBut a s.heap (s.heap.update a (Obj.putSet (order.filterMap (es[·]?)) t')) := Heap.SameBut.update ..
  refine q _ L2 (order.filterMap (es[·]?)) (ep + 1) t' sb ⟨⟨_, store_at g1 g2, ⟨gx.1, gx.2.1, gx.2.2⟩, rfl⟩, r1, T, (r2.map (·.2)).nodup_iff.mpr nd, fun p z => isM_but (tup p (r2.mem_iff.mp z)) g1 g2 sb, by rw [el]; exact ld, ?_, by rw [r2.length_eq]; exact few⟩ r2
  rw [r2.length_eq, em]
  exact w4
theorem addM (R : SetM P w s.heap a L es ep t) {x : Addr} {k : List Key} (hx : IsM P w s.heap k x) (hu : A.units < cLine) (few : L.length + 1 < 64) {Q : Bool → Shared → Prop}
    (q : ∀ b h' L' es' ep' t', Heap.SameBut a s.heap h' → SetM P w h' a L' es' ep' t' → (k ∈ L.map (·.2) → L' = L) → (k ∉ L.map (·.2) → L'.Perm ((x, k) :: L)) → Q b { s with heap := h' }) :
    wpAny (model P w) A (setAddHashed a (.ref x) (hM P w k)) Q E s := by
  obtain ⟨ob, g1, gx, g2⟩ := R.ob
  have sz := rowsM_len R.rows
  have z3 := R.room
  unfold setAddHashed
  refine wpAny_holding ?_
  rw [show (100000 : Nat) = 99999 + 1 from rfl, setAddHashedIn_succ]
  refine wpAny_bind (wpAny_setState_of g1 g2 R.fits ?_)
  dsimp only
  refine wp_if_neg (by simp [byScan, Value.scannable]) ?_
  try refine wpAny_bind (wpAny_pure ?_)
  refine wpAny_bind (searchM0 R hx hu (fun hm => ?_) fun K hm k1 k2 => ?_)
  · dsimp only
    exact wpAny_pure (q false s.heap L es ep t (Heap.SameBut.refl a s.heap) R (fun _ => rfl) fun z => absurd hm z)
  · dsimp only
    refine wpAny_bind (wpAny_setState_of g1 g2 R.fits ?_)
    dsimp only
    obtain ⟨q1, q2, q3, q4, q5, q6, q7, q8, q9⟩ := R.tab.put k1 k2
    generalize t.put (way t.mask (hM P w k) K) = pt at q1 q3 q4 q5 q6 q7 q8 q9 ⊢
    obtain ⟨t1, p⟩ := pt
    dsimp only at q1 q3 q4 q5 q6 q7 q8 q9 ⊢
    subst q1
    have put : ∀ t2 : SetTable, TabOk t2 ((L.map fun p => hM P w p.2).take (SetTable.below t.place (way t.mask (hM P w k) K)) ++ hM P w k :: (L.map fun p => hM P w p.2).drop (SetTable.below t.place (way t.mask (hM P w k) K))) → t2.mask = t.mask → t2.led = t.led → t2.fill = (L.map fun p => hM P w p.2).length + 1 →
        wpAny (model P w) A (do
          storeSet a (SetTable.insertAt es (SetTable.below t.place (way t.mask (hM P w k) K)) (hM P w k, Value.ref x)) t2
          if (!false && t2.tooFull) = true then do
            setRelay a (SetTable.grown (es.size + 1))
            pure true
          else pure true) Q E s := fun t1 q3 q4 q5 q9 => by
      generalize epp : SetTable.below t.place (way t.mask (hM P w k) K) = p at q2 q3 ⊢
      have pm := put_perm L p (x, k)
      have hin : (SetTable.insertAt es p (hM P w k, Value.ref x)).toList = rowsM P w (L.take p ++ (x, k) :: L.drop p) := by
        rw [SetTable.toList_insertAt, R.rows]
        unfold rowsM
        rw [List.map_append, List.map_cons, List.map_take, List.map_drop]
      have hhs : (L.take p ++ (x, k) :: L.drop p).map (fun p => hM P w p.2) = (L.map fun p => hM P w p.2).take p ++ hM P w k :: (L.map fun p => hM P w p.2).drop p := by
        rw [List.map_append, List.map_cons, List.map_take, List.map_drop]
      rw [← hhs] at q3
      have sz1 := rowsM_len hin
      generalize SetTable.insertAt es p (hM P w k, Value.ref x) = es1 at hin sz1 ⊢
      generalize L.take p ++ (x, k) :: L.drop p = L1 at pm q3 hin sz1
      have len1 : L1.length = L.length + 1 := pm.length_eq
      have nd1 : (L1.map (·.2)).Nodup := by
        refine (pm.map (·.2)).nodup_iff.mpr ?_
        rw [List.map_cons]
        exact List.nodup_cons.mpr ⟨hm, R.nd⟩
      refine wpAny_bind (wpAny_storeSet_of g1 g2 ?_ (by rw [sz1, len1, sizeLine_eq]; omega))
      have sb : Heap.SameBut a s.heap (s.heap.update a (Obj.putSet es1 t1)) := Heap.SameBut.update ..
      have o1 := store_at (es' := es1) (t' := t1) g1 g2
      generalize s.heap.update a (Obj.putSet es1 t1) = h1 at sb o1 ⊢
      have tup1 : ∀ p ∈ L1, IsM P w h1 p.2 p.1 := fun p hp => by
        rcases List.mem_cons.mp (pm.mem_iff.mp hp) with e | hp
        · rw [e]
          exact isM_but hx g1 g2 sb
        · exact isM_but (R.tup p hp) g1 g2 sb
      have ld1 : w.params.followText "set-order" = true ∨ t1.led = true := by rw [q5]; exact R.led
      have hfull : t1.tooFull = decide ((L.length + 1) * 5 ≥ t1.mask * 3) := by
        unfold SetTable.tooFull
        rw [q9, List.length_map]
      by_cases hf : (L.length + 1) * 5 ≥ t1.mask * 3
      · have hf' : t1.tooFull = true := by rw [hfull, decide_eq_true hf]
        first
          | (refine wpAny_bind ?_; refine wp_if_pos (by simp [hf']) ?_)
          | (refine wp_if_pos (by simp [hf']) ?_; refine wpAny_bind ?_)
        rw [sz]
        have y1 : t1.place.size = es1.size := by
          have z := q3.sz
          rw [List.length_map] at z
          rw [z, sz1]
        have two : (t.mask = 7 ∧ L.length = 4) ∨ (t.mask = 31 ∧ L.length = 18) := by
          rw [q4] at hf
          rcases R.tab.mok with e | e | e <;> rw [e] at hf z3
          · exact .inl ⟨e, by omega⟩
          · exact .inr ⟨e, by omega⟩
          · omega
        have go : ∀ M, SetTable.sizeAbove (SetTable.grown (L.length + 1)) - 1 = M → MaskOk M → SetTable.sizeAbove (SetTable.grown (L.length + 1)) ≤ 128 → (L.length + 1) * 5 < M * 3 →
            wpAny (model P w) A (setRelay a (SetTable.grown (L.length + 1))) (fun _ s' => wpAny (model P w) A (pure true) Q E s') E { s with heap := h1 } := fun M m1 m2 m3 m4 => by
          refine relayM (s := { s with heap := h1 }) o1 ⟨gx.1, gx.2.1, gx.2.2⟩ rfl hin y1 q3.dm (by rw [sz1, len1, q4]; rcases two with ⟨e, e2⟩ | ⟨e, e2⟩ <;> omega) nd1 tup1 ld1 (by rw [len1]; exact few) m1 m2 m3 (by rw [len1]; exact m4) ?_
          exact fun h2 L2 es2 ep2 t2 sb2 R2 pm2 => wpAny_pure (q true h2 L2 es2 ep2 t2 (sb.trans sb2) R2 (fun z => absurd z hm) fun _ => pm2.trans pm)
        rcases two with ⟨_, e2⟩ | ⟨_, e2⟩
        · exact go 31 (by rw [e2, size_20]) (.inr (.inl rfl)) (by rw [e2, size_20]; decide) (by omega)
        · exact go 127 (by rw [e2, size_76]) (.inr (.inr rfl)) (by rw [e2, size_76]; decide) (by omega)
      · have hf' : ¬ t1.tooFull = true := by
          rw [hfull, decide_eq_false hf]
          decide
        first
          | refine wp_if_neg (by simp [hf']) ?_
          | (refine wpAny_bind ?_; refine wp_if_neg (by simp [hf']) ?_; refine wpAny_pure ?_)
        exact wpAny_pure (q true h1 L1 es1 (ep + 1) t1 sb ⟨⟨_, o1, ⟨gx.1, gx.2.1, gx.2.2⟩, rfl⟩, hin, q3, nd1, tup1, ld1, by rw [len1]; omega, by rw [len1]; exact few⟩ (fun z => absurd z hm) fun _ => pm)
    have any := fun y : Bool => put (if y = true then t1 else { t1 with plain := false })
      (by cases y; exact ⟨q3.ris, q3.dm, q3.sz, q3.mok, q3.bd, q3.reach⟩; exact q3) (by cases y <;> exact q4) (by cases y <;> exact q5) (by cases y <;> exact q9)
    first
      | (refine wpAny_bind ?_; by_cases pl : t1.plain = true; exact wp_if_pos pl (hashM hx any); exact wp_if_neg pl (wpAny_pure (any true)))
      | (by_cases pl : t1.plain = true; exact wp_if_pos pl (wpAny_bind (hashM hx any)); exact wp_if_neg pl (wpAny_bind (wpAny_pure (any true))))
end
end Onp
set_option maxHeartbeats 4000000
set_option autoImplicit false
/-! set(list), set(tuple) by an invariant; of tuples of ints and texts -/
namespace Onp
open PySem PySem.Spec PyProof.Rows L2
section
variable {P : Program} {w : World} {A : Around} {E : Value → Shared → Prop} {s : Shared}
abbrev set0 (w : World) : Obj := { cls := .type "set", dict := none, data := .set #[] 0 (.fresh 0 0 (!w.params.followText "set-order")) }
/-- one more item is put in -/
def AddsTo (P : Program) (w : World) (A : Around) (S : Addr) (h0 : Heap) (Pv : Nat → Value → Prop) (G : Nat → Heap → Prop) : Prop :=
  ∀ (i : Nat) (v : Value) (s : Shared) (E : Value → Shared → Prop), Pv i v → G i s.heap → (∀ b o, h0.get? b = some o → s.heap.get? b = some o) →
    wpAny (model P w) A (setAdd S v) (fun _ s' => ∃ h' tk, s' = { s with heap := h', toks := tk } ∧ s.toks ≤ tk ∧ Heap.SameBut S s.heap h' ∧ G (i + 1) h') E s
def KeepsSet (S : Addr) (h0 : Heap) (G : Nat → Heap → Prop) : Prop :=
  ∀ (i : Nat) (h h' : Heap), G i h → (∀ o, h.get? S = some o → h'.get? S = some o) → (∀ b o, h0.get? b = some o → h'.get? b = some o) → G i h'
theorem setLoop {I : Addr} {fp wr : List Addr} {GG : Array GenState → Array GenState → Prop} {n : Nat} {Pv : Nat → Value → Prop} {St : Nat → Shared → Prop} {R : Result → Shared → Prop}
    (W : WalksS P w A.in1 I fp wr GG n Pv St) (S : Addr) (hSf : S ∉ fp) (h0 : Heap) (G : Nat → Heap → Prop) (ad : AddsTo P w A.in1 S h0 Pv G) (kp : KeepsSet S h0 G) (n0 : h0.get? S = none) (nw : ∀ b ∈ wr, h0.get? b = none) :
    ∀ (k i : Nat) (s : Shared), n - i = k → i ≤ n → St i s → (∀ b o, h0.get? b = some o → s.heap.get? b = some o) → G i s.heap →
      (∀ s', Moved (S :: wr) GG s s' → G n s'.heap → (∀ b o, h0.get? b = some o → s'.heap.get? b = some o) → R (.ok (.ret .none)) s') →
      codeAny (model P w) A (.builtin "set.update.loop" ⟨[.ref S, .ref I], []⟩) R s := by
  have Sw : S ∉ wr := fun z => hSf (W.sub _ z)
  have wide : ∀ b ∈ wr, b ∈ S :: wr := fun b hb => List.mem_cons_of_mem _ hb
  have mv : ∀ {s s' : Shared}, Moved wr GG s s' → (∀ b o, h0.get? b = some o → s.heap.get? b = some o) → ∀ b o, h0.get? b = some o → s'.heap.get? b = some o := fun m z b o e =>
    m.heap b o (fun hb => by rw [nw b hb] at e; cases e) (z b o e)
  intro k
  induction k with
  | zero =>
    intro i s ek hi hst stays g fin
    obtain rfl : i = n := by omega
    refine codeAny_builtin F.entry_set_update_loop ?_
    rw [Around.under_plainId F.plain_set_update_loop _]
    show wpAny _ A.in1 (pyNext (.ref I) >>= _) _ _ s
    refine wpAny_bind (W.done s _ _ hst fun s' m => ?_)
    show wpAny _ A.in1 (ret Value.none) _ _ s'
    have stays' := mv m stays
    exact wpAny_pure (fin s' (m.mono wide) (kp _ _ _ g (fun o e => m.heap S o Sw e) stays') stays')
  | succ k ih =>
    intro i s ek hi hst stays g fin
    have lt : i < n := by omega
    refine codeAny_builtin F.entry_set_update_loop ?_
    rw [Around.under_plainId F.plain_set_update_loop _]
    show wpAny _ A.in1 (pyNext (.ref I) >>= _) _ _ s
    refine wpAny_bind (W.item i s _ _ lt hst fun v s' pv hst' m => ?_)
    have stays' := mv m stays
    have g' := kp _ _ _ g (fun o e => m.heap S o Sw e) stays'
    show wpAny _ A.in1 (holding [v] (setAdd S v) >>= _) _ _ s'
    refine wpAny_bind (wpAny_holding (wpAny_mono (ad i v s' _ pv g' stays') (fun _ s2 q => ?_) fun _ _ z => z))
    obtain ⟨h', tk, rfl, ht, sb, g2⟩ := q
    have stays2 : ∀ b o, h0.get? b = some o → h'.get? b = some o := fun b o e => (sb.2 b (fun z => by rw [z, n0] at e; cases e)).trans (stays' b o e)
    refine wpAny_pure ⟨plainId_quiet F.plain_set_update_loop _, ih (i + 1) _ (by omega) lt (W.frame _ s' _ _ hst' ht fun b hb o e => ?_) stays2 g2 fun s'' m2 g3 z3 => ?_⟩
    · rw [sb.2 b (fun z : b = S => hSf (by rw [← z]; exact hb))]
      exact e
    · refine fin s'' (Moved.trans W.gtrans ((m.mono wide).then_heap ht fun b o hb e => ?_) m2) g3 z3
      rw [sb.2 b (fun z : b = S => hb (by rw [z]; exact List.mem_cons_self))]
      exact e
set_option maxHeartbeats 6400000 in
theorem callSet_list {l : Addr} {its : Array Value} {Q : Value → Shared → Prop} (hh : A.handled = none) (hl : s.heap.IsList l its) (G : Nat → Heap → Prop)
    (ad : AddsTo P w A.in1.in1.in1 s.heap.objs.size s.heap (fun i v => its[i]? = some v) G) (kp : KeepsSet s.heap.objs.size s.heap G) (g0 : ∀ h, h.get? s.heap.objs.size = some (set0 w) → G 0 h)
    (q : ∀ (h' : Heap) (tk : Nat), G its.size h' → (∀ b o, s.heap.get? b = some o → h'.get? b = some o) → Q (.ref s.heap.objs.size) { s with heap := h', toks := tk }) :
    wpAny (model P w) A (call (.type "set") [.ref l]) Q E s := by
  obtain ⟨cc, tl, c1⟩ := F.called_set.mro
  have c2 := F.called_set.made
  have c3 := F.called_set.sub
  refine wpAny_call (codeAny_of_tree ?_)
  show wpAny _ _ (callAny (.type "set") _) _ _ _
  refine wpAny_pure ⟨Code.quiet_builtin _ (by decide +kernel), codeAny_builtin F.entry_type_call ?_⟩
  rw [Around.under_plain (weight_type_call_type "set" [.ref l] []) rfl]
  have c4 := F.called_set.notType
  have c5 := F.called_set.canCreate
  have c6 := F.typeCall_set_1 (.ref l)
  repeat (any_goals (first | assumption | wp_step))
  refine codeAny_mono (code_set_led1 (.ref l) (E := E) (Q₁ := fun obj s₁ => obj = .ref s.heap.objs.size ∧ s₁ = { s with heap := s.heap.push (set0 w) }) ⟨rfl, rfl⟩) fun r s₁ hr => ?_
  cases r with
  | error e => exact hr
  | ok fl =>
    cases fl with
    | ret obj =>
      obtain ⟨rfl, rfl⟩ := hr
      have nS : (s.heap.push (set0 w)).get? s.heap.objs.size = some (set0 w) := Heap.get?_push_size _ rfl
      have tS : Shared.TypeIs { s with heap := s.heap.push (set0 w) } (.ref s.heap.objs.size) "set" := ⟨_, nS, rfl⟩
      have c7 := F.called_set.init.lookup
      have c8 := F.called_set.init.bind (.ref s.heap.objs.size)
      repeat (any_goals (first | assumption | wp_step))
      refine codeAny_mono (codeAny_call_builtin (R := wants (fun r s₂ => r = .none ∧ ∃ h' tk, s₂ = { s with heap := h', toks := tk } ∧ G its.size h' ∧ (∀ b o, s.heap.get? b = some o → h'.get? b = some o)) E) F.called_set.init.plain F.entry_set_init (check_set_init_1 tS ?_)) fun r₂ s₂ hr₂ => ?_
      · obtain ⟨ol, ol1, ol2, nl, ol3⟩ := hl
        obtain ⟨ocls, odict, odata, oslots⟩ := ol
        simp only at ol2 ol3
        subst ol2; subst ol3
        have ol4 : (s.heap.push (set0 w)).get? l = some { cls := .type "list", dict := odict, data := .seq its nl, slots := oslots } := Heap.get?_push_of_some _ ol1
        have d1 := F.sub_list_set
        have d2 := F.sub_list_frozenset
        have d3 : (Value.type "list" == Value.type "dict") = false := by decide
        have hl1 : (s.heap.push (set0 w)).IsList l its := ⟨_, ol4, rfl, nl, rfl⟩
        unfold Builtin.«set.__init__» noKeywords Builtin.Frozenset.updateFrom
        generalize ePI : pyIter = PI
        wp_walk
        subst ePI
        refine wpAny_pyIter_list hl1 ?_
        refine wpAny_bind (wpAny_runValue ?_)
        have ll : l < s.heap.objs.size := Heap.lt_size ol1
        have h3 : A.in1.in1.in1.handled = none := by simp [hh]
        have ne1 : l ≠ (s.heap.push (set0 w)).objs.size := fun z => by
          rw [Heap.size_push] at z
          exact absurd (z ▸ ll) (Nat.not_lt_of_le (Nat.le_succ _))
        have ne2 : s.heap.objs.size ∉ [(s.heap.push (set0 w)).objs.size, l] := by
          rw [Heap.size_push]
          exact fun z => (List.mem_cons.mp z).elim (fun y => absurd y (Nat.ne_of_lt (Nat.lt_succ_self _))) fun y => absurd (List.mem_singleton.mp y) (Nat.ne_of_gt ll)
        have none_of : ∀ b, s.heap.objs.size ≤ b → s.heap.get? b = none := fun b hb => by
          cases z : s.heap.get? b with
          | none => rfl
          | some o => exact absurd (Heap.lt_size z) (Nat.not_lt_of_le hb)
        refine setLoop ((Walks.list h3 _ l ne1 its).toS) s.heap.objs.size ne2 s.heap G ad kp (none_of _ (Nat.le_refl _)) (fun b hb => none_of b (by
            rw [List.mem_singleton.mp hb, Heap.size_push]
            exact Nat.le_succ _)) (its.size - 0) 0 _ (by omega) (Nat.zero_le _)
          ⟨⟨_, Heap.get?_push_size _ rfl, rfl, rfl⟩, (hl1.push _)⟩ (fun b o e => Heap.get?_push_of_some _ (Heap.get?_push_of_some _ e)) (g0 _ (Heap.get?_push_of_some _ nS)) ?hR
        case hR =>
          intro s' m g' z'
          obtain ⟨h', g2, d', tk', os'⟩ := s'
          have eg : g2 = s.gens := m.gens
          have ed : d' = s.drawn := m.drawn
          have eo : os' = s.os := m.os
          subst eg; subst ed; subst eo
          show wpAny _ _ _ _ _ _
          refine wpAny_pure ?_
          show wpAny _ _ (ret Value.none) _ _ _
          exact wpAny_pure ⟨rfl, h', tk', rfl, g', z'⟩
      · cases r₂ with
        | error e => exact hr₂
        | ok fl₂ =>
          cases fl₂ with
          | ret r =>
            obtain ⟨rfl, h', tk, rfl, g', z'⟩ := hr₂
            repeat (any_goals (first | assumption | wp_step))
            exact q _ _ g' z'
          | _ => exact hr₂.elim
    | _ => exact hr.elim
set_option maxHeartbeats 6400000 in
theorem callSet_tuple {l : Addr} {its : Array Value} {Q : Value → Shared → Prop} (hh : A.handled = none) (hl : s.heap.IsTuple l its) (G : Nat → Heap → Prop)
    (ad : AddsTo P w A.in1.in1.in1 s.heap.objs.size s.heap (fun i v => its[i]? = some v) G) (kp : KeepsSet s.heap.objs.size s.heap G) (g0 : ∀ h, h.get? s.heap.objs.size = some (set0 w) → G 0 h)
    (q : ∀ (h' : Heap) (tk : Nat), G its.size h' → (∀ b o, s.heap.get? b = some o → h'.get? b = some o) → Q (.ref s.heap.objs.size) { s with heap := h', toks := tk }) :
    wpAny (model P w) A (call (.type "set") [.ref l]) Q E s := by
  obtain ⟨cc, tl, c1⟩ := F.called_set.mro
  have c2 := F.called_set.made
  have c3 := F.called_set.sub
  refine wpAny_call (codeAny_of_tree ?_)
  show wpAny _ _ (callAny (.type "set") _) _ _ _
  refine wpAny_pure ⟨Code.quiet_builtin _ (by decide +kernel), codeAny_builtin F.entry_type_call ?_⟩
  rw [Around.under_plain (weight_type_call_type "set" [.ref l] []) rfl]
  have c4 := F.called_set.notType
  have c5 := F.called_set.canCreate
  have c6 := F.typeCall_set_1 (.ref l)
  repeat (any_goals (first | assumption | wp_step))
  refine codeAny_mono (code_set_led1 (.ref l) (E := E) (Q₁ := fun obj s₁ => obj = .ref s.heap.objs.size ∧ s₁ = { s with heap := s.heap.push (set0 w) }) ⟨rfl, rfl⟩) fun r s₁ hr => ?_
  cases r with
  | error e => exact hr
  | ok fl =>
    cases fl with
    | ret obj =>
      obtain ⟨rfl, rfl⟩ := hr
      have nS : (s.heap.push (set0 w)).get? s.heap.objs.size = some (set0 w) := Heap.get?_push_size _ rfl
      have tS : Shared.TypeIs { s with heap := s.heap.push (set0 w) } (.ref s.heap.objs.size) "set" := ⟨_, nS, rfl⟩
      have c7 := F.called_set.init.lookup
      have c8 := F.called_set.init.bind (.ref s.heap.objs.size)
      repeat (any_goals (first | assumption | wp_step))
      refine codeAny_mono (codeAny_call_builtin (R := wants (fun r s₂ => r = .none ∧ ∃ h' tk, s₂ = { s with heap := h', toks := tk } ∧ G its.size h' ∧ (∀ b o, s.heap.get? b = some o → h'.get? b = some o)) E) F.called_set.init.plain F.entry_set_init (check_set_init_1 tS ?_)) fun r₂ s₂ hr₂ => ?_
      · obtain ⟨ol, ol1, ol2, nl, ol3⟩ := hl
        obtain ⟨ocls, odict, odata, oslots⟩ := ol
        simp only at ol2 ol3
        subst ol2; subst ol3
        have ol4 : (s.heap.push (set0 w)).get? l = some { cls := .type "tuple", dict := odict, data := .seq its nl, slots := oslots } := Heap.get?_push_of_some _ ol1
        have d1 := F.sub_tuple_set
        have d2 := F.sub_tuple_frozenset
        have d3 : (Value.type "tuple" == Value.type "dict") = false := by decide
        have hl1 : (s.heap.push (set0 w)).IsTuple l its := ⟨_, ol4, rfl, nl, rfl⟩
        unfold Builtin.«set.__init__» noKeywords Builtin.Frozenset.updateFrom
        generalize ePI : pyIter = PI
        wp_walk
        subst ePI
        refine wpAny_pyIter_tuple hl1 ?_
        refine wpAny_bind (wpAny_runValue ?_)
        have ll : l < s.heap.objs.size := Heap.lt_size ol1
        have h3 : A.in1.in1.in1.handled = none := by simp [hh]
        have ne1 : l ≠ (s.heap.push (set0 w)).objs.size := fun z => by
          rw [Heap.size_push] at z
          exact absurd (z ▸ ll) (Nat.not_lt_of_le (Nat.le_succ _))
        have ne2 : s.heap.objs.size ∉ [(s.heap.push (set0 w)).objs.size, l] := by
          rw [Heap.size_push]
          exact fun z => (List.mem_cons.mp z).elim (fun y => absurd y (Nat.ne_of_lt (Nat.lt_succ_self _))) fun y => absurd (List.mem_singleton.mp y) (Nat.ne_of_gt ll)
        have none_of : ∀ b, s.heap.objs.size ≤ b → s.heap.get? b = none := fun b hb => by
          cases z : s.heap.get? b with
          | none => rfl
          | some o => exact absurd (Heap.lt_size z) (Nat.not_lt_of_le hb)
        refine setLoop ((Walks.tuple h3 _ l ne1 its).toS) s.heap.objs.size ne2 s.heap G ad kp (none_of _ (Nat.le_refl _)) (fun b hb => none_of b (by
            rw [List.mem_singleton.mp hb, Heap.size_push]
            exact Nat.le_succ _)) (its.size - 0) 0 _ (by omega) (Nat.zero_le _)
          ⟨⟨_, Heap.get?_push_size _ rfl, rfl, rfl⟩, (hl1.push _)⟩ (fun b o e => Heap.get?_push_of_some _ (Heap.get?_push_of_some _ e)) (g0 _ (Heap.get?_push_of_some _ nS)) ?hR
        case hR =>
          intro s' m g' z'
          obtain ⟨h', g2, d', tk', os'⟩ := s'
          have eg : g2 = s.gens := m.gens
          have ed : d' = s.drawn := m.drawn
          have eo : os' = s.os := m.os
          subst eg; subst ed; subst eo
          show wpAny _ _ _ _ _ _
          refine wpAny_pure ?_
          show wpAny _ _ (ret Value.none) _ _ _
          exact wpAny_pure ⟨rfl, h', tk', rfl, g', z'⟩
      · cases r₂ with
        | error e => exact hr₂
        | ok fl₂ =>
          cases fl₂ with
          | ret r =>
            obtain ⟨rfl, h', tk, rfl, g', z'⟩ := hr₂
            repeat (any_goals (first | assumption | wp_step))
            exact q _ _ g' z'
          | _ => exact hr₂.elim
    | _ => exact hr.elim
/-! ### of tuples of ints and texts -/
structure GotM (ks : List AK) (i : Nat) (L : List AK) : Prop where
  sub : ∀ p ∈ L, p ∈ ks.take i
  all : ∀ p ∈ ks.take i, p.2 ∈ L.map (·.2)
  len : L.length ≤ i
theorem GotM.same {ks L : List AK} {i : Nat} {x : AK} (g : GotM ks i L) (h : ks[i]? = some x) (hm : x.2 ∈ L.map (·.2)) : GotM ks (i + 1) L := by
  have e : ks.take (i + 1) = ks.take i ++ [x] := by rw [List.take_add_one, h]; rfl
  refine ⟨fun p hp => ?_, fun p hp => ?_, Nat.le_succ_of_le g.len⟩
  · rw [e]
    exact List.mem_append_left _ (g.sub p hp)
  · rw [e] at hp
    rcases List.mem_append.mp hp with z | z
    · exact g.all p z
    · rw [List.mem_singleton.mp z]
      exact hm
theorem GotM.more {ks L L' : List AK} {i : Nat} {x : AK} (g : GotM ks i L) (h : ks[i]? = some x) (pm : L'.Perm (x :: L)) : GotM ks (i + 1) L' := by
  have e : ks.take (i + 1) = ks.take i ++ [x] := by rw [List.take_add_one, h]; rfl
  refine ⟨fun p hp => ?_, fun p hp => ?_, ?_⟩
  · rw [e]
    rcases List.mem_cons.mp (pm.mem_iff.mp hp) with y | z
    · rw [y]
      exact List.mem_append_right _ List.mem_cons_self
    · exact List.mem_append_left _ (g.sub p z)
  · rw [(pm.map (·.2)).mem_iff, List.map_cons]
    rw [e] at hp
    rcases List.mem_append.mp hp with z | z
    · exact List.mem_cons_of_mem _ (g.all p z)
    · rw [List.mem_singleton.mp z]
      exact List.mem_cons_self
  · rw [pm.length_eq]
    exact Nat.succ_le_succ g.len
def GM (P : Program) (w : World) (S : Addr) (ks : List AK) (i : Nat) (h : Heap) : Prop := ∃ L es ep t, SetM P w h S L es ep t ∧ GotM ks i L
theorem keepsM {S : Addr} {h0 : Heap} {ks : List AK} (hk : ∀ p ∈ ks, IsM P w h0 p.2 p.1) : KeepsSet S h0 (GM P w S ks) := fun i h h' ⟨L, es, ep, t, R, g⟩ z1 z2 => by
  obtain ⟨o, ho, r⟩ := R.ob
  refine ⟨L, es, ep, t, ⟨⟨o, z1 o ho, r⟩, R.rows, R.tab, R.nd, fun p hp => ?_, R.led, R.room, R.few⟩, g⟩
  obtain ⟨o2, its, n, y1, y2⟩ := hk p (List.mem_of_mem_take (g.sub p hp))
  exact ⟨o2, its, n, z2 _ _ y1, y2⟩
theorem addsM {S : Addr} {h0 : Heap} {ks : List AK} {its : Array Value} (hu : A.units < cLine) (hit : its.toList = ks.map fun p => Value.ref p.1) (hk : ∀ p ∈ ks, IsM P w h0 p.2 p.1) (few : ks.length < 64) : AddsTo P w A S h0 (fun i v => its[i]? = some v) (GM P w S ks) := by
  intro i v s E pv ⟨L, es, ep, t, R, g⟩ z
  obtain ⟨p, hp, rfl⟩ : ∃ p, ks[i]? = some p ∧ v = .ref p.1 := by
    have e : its.toList[i]? = some v := by rw [Array.getElem?_toList]; exact pv
    rw [hit, List.getElem?_map] at e
    cases y : ks[i]? with
    | none => rw [y] at e; cases e
    | some p => rw [y] at e; exact ⟨p, rfl, (Option.some.inj e).symm⟩
  have hlt : i < ks.length := (List.getElem?_eq_some_iff.mp hp).1
  have hx : IsM P w s.heap p.2 p.1 := by
    obtain ⟨o2, its, n, y1, y2⟩ := hk p (List.mem_of_getElem? hp)
    exact ⟨o2, its, n, z _ _ y1, y2⟩
  unfold setAdd
  refine wpAny_holding (wpAny_bind (wpAny_pyHash_tuple hu hx ?_))
  refine addM (s := { s with toks := s.toks + (p.2.length + 1) }) R hx hu (by have := g.len; omega) fun b h' L' es' ep' t' sb R' c1 c2 => ?_
  refine ⟨h', s.toks + (p.2.length + 1), rfl, Nat.le_add_right _ _, sb, L', es', ep', t', R', ?_⟩
  by_cases c : p.2 ∈ L.map (·.2)
  · rw [c1 c]
    exact g.same hp c
  · exact g.more hp (c2 c)
theorem freshM {h : Heap} {S : Addr} {ks : List AK} (e : h.get? S = some (set0 w)) : GM P w S ks 0 h := by
  refine ⟨[], #[], 0, .fresh 0 0 (!w.params.followText "set-order"), ⟨⟨_, e, ⟨rfl, rfl, rfl⟩, rfl⟩, rfl, ⟨List.Pairwise.nil, rfl, rfl, .inl rfl, fun x hx => (by cases hx), fun i h j hi => (by simp at hi)⟩, List.nodup_nil, fun p hp => (by cases hp), ?_, by show 0 * 5 < 7 * 3; decide, by show 0 < 64; decide⟩, ⟨fun p hp => (by cases hp), fun p hp => (by simp at hp), Nat.le_refl _⟩⟩
  show _ ∨ (!w.params.followText "set-order") = true
  cases w.params.followText "set-order"
  · exact .inr rfl
  · exact .inl rfl
/-! ### how many -/
theorem nd_le {α : Type} [DecidableEq α] : ∀ (l D : List α), l.Nodup → (∀ x ∈ l, x ∈ D) → l.length ≤ D.length
  | [], _, _, _ => Nat.zero_le _
  | a :: l, D, hn, hs => by
    have n1 := List.nodup_cons.mp hn
    have ha : a ∈ D := hs a List.mem_cons_self
    have ih := nd_le l (D.erase a) n1.2 fun x hx => (List.mem_erase_of_ne (fun (e : x = a) => n1.1 (e ▸ hx))).mpr (hs x (List.mem_cons_of_mem _ hx))
    rw [List.length_erase_of_mem ha] at ih
    have : 0 < D.length := List.length_pos_of_mem ha
    simp only [List.length_cons]
    omega
theorem nd_lt {α : Type} [DecidableEq α] : ∀ (D : List α), ¬ D.Nodup → ∃ (x : α) (D' : List α), D.length = D'.length + 1 ∧ ∀ y, y ∈ D → y ∈ D'
  | [], h => absurd List.nodup_nil h
  | a :: D, h => by
    by_cases ha : a ∈ D
    · exact ⟨a, D, rfl, fun y hy => by
        rcases List.mem_cons.mp hy with rfl | hy
        · exact ha
        · exact hy⟩
    · have hD : ¬ D.Nodup := fun z => h (List.nodup_cons.mpr ⟨ha, z⟩)
      obtain ⟨x, D', e, hs⟩ := nd_lt D hD
      refine ⟨x, a :: D', by simp [e], fun y hy => ?_⟩
      rcases List.mem_cons.mp hy with rfl | hy
      · exact List.mem_cons_self
      · exact List.mem_cons_of_mem _ (hs y hy)
theorem count_nd {α : Type} [DecidableEq α] {l D : List α} (hn : l.Nodup) (h1 : ∀ x ∈ l, x ∈ D) (h2 : ∀ x ∈ D, x ∈ l) : l.length ≤ D.length ∧ (l.length < D.length ↔ ¬ D.Nodup) := by
  refine ⟨nd_le l D hn h1, fun lt hd => ?_, fun hd => ?_⟩
  · have := nd_le D l hd h2
    omega
  · obtain ⟨x, D', e, hs⟩ := nd_lt D hd
    have := nd_le l D' hn fun y hy => hs y (h1 y hy)
    omega
end
/-! ### len(set(..)) over the layer -/
section
variable {X : Cx}
theorem itemsM {P : Program} {w : World} : ∀ {k : List Key} {us : List Value}, Vals (k.map kV) us → ItemsAre (mixKind P w) k us
  | [], _, .nil => .nil
  | _ :: k, _, .cons r t => .cons (kV_is r) (itemsM t)
theorem refsM : ∀ {ks : List AK} {us : List Value}, Vals (ks.map fun p => V.ref p.1) us → us = ks.map fun p => Value.ref p.1
  | [], _, .nil => rfl
  | p :: ks, _, .cons r t => by
    cases r
    rw [refsM t]
    rfl
theorem inv_isM {pins : List (Addr × Obj)} {σ : L2.St} {H : Hp} {s : Shared} {b : Addr} {k : List Key} (I : Inv X pins σ H s) (h : SqT X.K H b (k.map kV)) : IsM X.prog X.w s.heap k b := by
  obtain ⟨its, r, ⟨o, ho, hc, n, hd⟩, _⟩ := I.tuple h
  exact ⟨o, its.toArray, n, ho, hc, hd, by simpa using itemsM r⟩
def tLenSetM (K : PySem.W.Frag) (ta : TE) : TE := fun σ H Q => ta σ H fun x H1 => ∃ (l : Addr) (ks : List AK), x = .ref l ∧ (SqL K H1 l (ks.map fun p => V.ref p.1) ∨ SqT K H1 l (ks.map fun p => V.ref p.1)) ∧ (∀ p ∈ ks, SqT K H1 p.1 (p.2.map kV)) ∧ ks.length < 64 ∧
  ∀ n : Nat, n ≤ ks.length → (n < ks.length ↔ ¬ (ks.map (·.2)).Nodup) → Q (.int n) H1
theorem pe_lenSetM {a : Expr} {ta : TE} {p p2 q pos : Pos} (hc : X.calm = true) (hu : X.A.units + 64 < cLine) (hg : Gl X "len") (hm : X.mg "len" = none) (hg2 : Gl X "set") (hm2 : X.mg "set" = none) (ha : PE X a ta)
    (na : starEach [a] X.env = (false, eval a X.env) :: starEach [] X.env := by rfl) : PE X (.Call (.Name "len" p) [.Call (.Name "set" p2) [a] [] q] [] pos) (tLenSetM X.K ta) := by
  refine ⟨fun pins s σ H Q I h => ?_⟩
  refine Call_ (ld_blt I hg hm PySem.boot_len (PyProof.Rows.callWith_builtin1 (PyProof.Rows.args_cons ?_ rfl) rfl rfl))
  refine Call_ (ld_blt I hg2 hm2 PyProof.Rows.boot_set (PyProof.Rows.callWith_type1 (PyProof.Rows.args_cons (thn (ha.run pins s σ H _ I h) fun v s1 ⟨x, H1, I1, r1, q1⟩ => PyProof.Rows.args_nil ?_) na) na rfl))
  obtain ⟨l, ks, rfl, hq, hk, few, q1⟩ := q1
  cases r1
  have tu : ∀ p ∈ ks, IsM X.prog X.w s1.heap p.2 p.1 := fun p hp => inv_isM I1 (hk p hp)
  have fin : ∀ (its : Array Value), its.size = ks.length → ∀ (h' : Heap) (tk : Nat), GM X.prog X.w s1.heap.objs.size ks its.size h' → (∀ b o, s1.heap.get? b = some o → h'.get? b = some o) →
      wpAny (model X.prog X.w) X.A (spliced (backTo pos (starEach [] X.env))) (fun vs s₂ => wpAny (model X.prog X.w) X.A (call (.builtin "len") (Value.ref s1.heap.objs.size :: vs)) (EP X pins σ Q) X.xe s₂) X.xe { s1 with heap := h', toks := tk } := fun its sz h' tk g kp => by
    refine PyProof.Rows.args_nil ?_
    obtain ⟨L, es, ep, t, R, g⟩ := g
    rw [sz, ] at g
    have I2 : Inv X pins σ H1 { s1 with heap := h', toks := tk } := I1.kept fun b o e => kp b o e
    obtain ⟨o, ho, hex, hd⟩ := R.ob
    have ez := rowsM_len R.rows
    have cn := count_nd (l := L.map (·.2)) (D := ks.map (·.2)) R.nd (fun x hx => by
      obtain ⟨p, hp, rfl⟩ := List.mem_map.mp hx
      exact List.mem_map_of_mem (List.mem_of_mem_take (g.sub p hp))) (fun x hx => by
      obtain ⟨p, hp, rfl⟩ := List.mem_map.mp hx
      exact g.all p (by rw [List.take_length]; exact hp))
    simp only [List.length_map] at cn
    refine call_len_set ho hex hd (R.fits (s := { s1 with heap := h', toks := tk })) (by rw [ez]; omega) ⟨.int L.length, H1, I2.tok _, ⟨_, by rw [ez]⟩, q1 L.length cn.1 cn.2⟩
  rcases hq with hq | hq
  · obtain ⟨its, r, pl, hz⟩ := I1.list hq
    have sz : its.toArray.size = ks.length := by rw [List.size_toArray, ← r.length, List.length_map]
    exact callSet_list (I1.ok.hd hc) pl.isList (GM X.prog X.w s1.heap.objs.size ks) (addsM (by show X.A.in1.in1.in1.units < cLine; simp; omega) (by simpa using refsM r) tu few) (keepsM tu) (fun h e => freshM e) fun h' tk g kp => fin its.toArray sz h' tk g kp
  · obtain ⟨its, r, pl, hz⟩ := I1.tuple hq
    have sz : its.toArray.size = ks.length := by rw [List.size_toArray, ← r.length, List.length_map]
    exact callSet_tuple (I1.ok.hd hc) pl (GM X.prog X.w s1.heap.objs.size ks) (addsM (by show X.A.in1.in1.in1.units < cLine; simp; omega) (by simpa using refsM r) tu few) (keepsM tu) (fun h e => freshM e) fun h' tk g kp => fin its.toArray sz h' tk g kp
end
end Onp
set_option maxHeartbeats 4000000
set_option autoImplicit false
/-! len(set(list or tuple of ints and texts)) -/
namespace Onp
open PySem PySem.Spec PyProof.Rows L2
section
variable {P : Program} {w : World} {A : Around} {E : Value → Shared → Prop} {s : Shared}
def memK (l : List L2.Key) (k : L2.Key) : Bool := l.any fun x => decide (x = k)
theorem memK_iff {l : List L2.Key} {k : L2.Key} : memK l k = true ↔ k ∈ l := by
  unfold memK
  rw [List.any_eq_true]
  exact ⟨fun ⟨x, h1, h2⟩ => of_decide_eq_true h2 ▸ h1, fun h => ⟨k, h, decide_eq_true rfl⟩⟩
theorem setOf_as {h : Heap} {a : Addr} {S S' : L2.Key → Bool} {n n' : Nat} (hS : h.SetOf (mixKind P w) a S n) (e : ∀ k, S k = S' k) (en : n = n') : h.SetOf (mixKind P w) a S' n' := by
  have : S = S' := funext e
  subst this
  subst en
  exact hS
def GK (P : Program) (w : World) (S : Addr) (ks : List L2.Key) (i : Nat) (h : Heap) : Prop := ∃ l : List L2.Key, l.Nodup ∧ (∀ k, k ∈ l ↔ k ∈ ks.take i) ∧ h.SetOf (mixKind P w) S (memK l) l.length
theorem keepsK {S : Addr} {h0 : Heap} {ks : List L2.Key} : KeepsSet S h0 (GK P w S ks) := fun i h h' ⟨l, n, e, R⟩ z1 _ => ⟨l, n, e, setOf_at R z1⟩
theorem keys_at : ∀ {ks : List L2.Key} {us : List Value}, Vals (ks.map kV) us → ∀ {i : Nat} {v : Value}, us[i]? = some v → ∃ k, ks[i]? = some k ∧ RelV (kV k) v
  | [], _, .nil, i, v, h => by simp at h
  | k :: ks, _, .cons r t, i, v, h => by
    cases i with
    | zero =>
      obtain rfl := Option.some.inj h
      exact ⟨k, rfl, r⟩
    | succ i => exact keys_at t h
theorem addsK {S : Addr} {h0 : Heap} {ks : List L2.Key} {its : Array Value} (r : Vals (ks.map kV) its.toList) (few : ks.length < 1000) : AddsTo P w A S h0 (fun i v => its[i]? = some v) (GK P w S ks) := by
  intro i v s E pv ⟨l, nd, e, R⟩ z
  obtain ⟨k, hk, rk⟩ := keys_at r (i := i) (v := v) (by rw [Array.getElem?_toList]; exact pv)
  have hlt : i < ks.length := (List.getElem?_eq_some_iff.mp hk).1
  have hll : l.length ≤ i := by
    have q := nd_le l (ks.take i) nd fun x hx => (e x).mp hx
    rw [List.length_take] at q
    omega
  have et : ks.take (i + 1) = ks.take i ++ [k] := by rw [List.take_add_one, hk]; rfl
  have ik : (mixKind P w).is k v = true := kV_is rk
  unfold setAdd
  refine wpAny_holding (wpAny_bind ((mixKind P w).pyHash ik ?_))
  refine wpAny_setAddHashed_of (s := { s with toks := s.toks + 1 }) ik (key_scan rk) R (by unfold scanBound; omega) fun h' sb R' => ?_
  refine ⟨h', s.toks + 1, rfl, Nat.le_succ _, sb, ?_⟩
  by_cases c : k ∈ l
  · refine ⟨l, nd, fun x => ?_, setOf_as R' (fun x => ?_) ?_⟩
    · rw [et, List.mem_append, ← e x]
      exact ⟨.inl, fun y => y.elim id fun y => by rw [List.mem_singleton.mp y]; exact c⟩
    · by_cases x1 : x = k
      · rw [decide_eq_true x1, Bool.or_true, x1]
        exact (memK_iff.mpr c).symm
      · rw [decide_eq_false x1, Bool.or_false]
    · rw [if_pos (memK_iff.mpr c)]
  · refine ⟨k :: l, List.nodup_cons.mpr ⟨c, nd⟩, fun x => ?_, setOf_as R' (fun x => ?_) ?_⟩
    · rw [et, List.mem_append, ← e x, List.mem_cons, List.mem_singleton]
      exact or_comm
    · rw [Bool.eq_iff_iff, Bool.or_eq_true, memK_iff, memK_iff, decide_eq_true_eq, List.mem_cons]
      exact or_comm
    · rw [if_neg (fun y => c (memK_iff.mp y))]
      rfl
theorem freshK {h : Heap} {S : Addr} {ks : List L2.Key} (e : h.get? S = some (set0 w)) : GK P w S ks 0 h :=
  ⟨[], List.nodup_nil, fun k => by simp, _, #[], 0, _, e, ⟨rfl, rfl, rfl⟩, rfl, fun x hx => by simp at hx, fun k => by simp [memK], by unfold scanBound; decide, rfl, rfl⟩
end
section
variable {X : Cx}
def tLenSetK (K : PySem.W.Frag) (ta : TE) : TE := fun σ H Q => ta σ H fun x H1 => ∃ (l : Addr) (ks : List L2.Key), x = .ref l ∧ (SqL K H1 l (ks.map kV) ∨ SqT K H1 l (ks.map kV)) ∧ ks.length < 1000 ∧ ∀ n : Nat, n ≤ ks.length → (n < ks.length ↔ ¬ ks.Nodup) → Q (.int n) H1
theorem pe_lenSetK {a : Expr} {ta : TE} {p p2 q pos : Pos} (hc : X.calm = true) (hg : Gl X "len") (hm : X.mg "len" = none) (hg2 : Gl X "set") (hm2 : X.mg "set" = none) (ha : PE X a ta)
    (na : starEach [a] X.env = (false, eval a X.env) :: starEach [] X.env := by rfl) : PE X (.Call (.Name "len" p) [.Call (.Name "set" p2) [a] [] q] [] pos) (tLenSetK X.K ta) := by
  refine ⟨fun pins s σ H Q I h => ?_⟩
  refine Call_ (ld_blt I hg hm PySem.boot_len (PyProof.Rows.callWith_builtin1 (PyProof.Rows.args_cons ?_ rfl) rfl rfl))
  refine Call_ (ld_blt I hg2 hm2 PyProof.Rows.boot_set (PyProof.Rows.callWith_type1 (PyProof.Rows.args_cons (thn (ha.run pins s σ H _ I h) fun v s1 ⟨x, H1, I1, r1, q1⟩ => PyProof.Rows.args_nil ?_) na) na rfl))
  obtain ⟨l, ks, rfl, hq, few, q1⟩ := q1
  cases r1
  have fin : ∀ (its : Array Value), its.size = ks.length → ∀ (h' : Heap) (tk : Nat), GK X.prog X.w s1.heap.objs.size ks its.size h' → (∀ b o, s1.heap.get? b = some o → h'.get? b = some o) →
      wpAny (model X.prog X.w) X.A (spliced (backTo pos (starEach [] X.env))) (fun vs s₂ => wpAny (model X.prog X.w) X.A (call (.builtin "len") (Value.ref s1.heap.objs.size :: vs)) (EP X pins σ Q) X.xe s₂) X.xe { s1 with heap := h', toks := tk } := fun its sz h' tk g kp => by
    refine PyProof.Rows.args_nil ?_
    obtain ⟨m, nd, e, R⟩ := g
    rw [sz, List.take_length] at e
    have I2 : Inv X pins σ H1 { s1 with heap := h', toks := tk } := I1.kept fun b o e => kp b o e
    obtain ⟨o, es, ep, t, ho, hex, hd, _, _, _, hf, hn⟩ := R
    have cn := count_nd (l := m) (D := ks) nd (fun x hx => (e x).mp hx) (fun x hx => (e x).mpr hx)
    exact call_len_set ho hex hd hf (by rw [hn]; omega) ⟨.int m.length, H1, I2.tok _, ⟨_, by rw [hn]⟩, q1 m.length cn.1 cn.2⟩
  rcases hq with hq | hq
  · obtain ⟨its, r, pl, hz⟩ := I1.list hq
    have sz : its.toArray.size = ks.length := by rw [List.size_toArray, ← r.length, List.length_map]
    exact callSet_list (I1.ok.hd hc) pl.isList (GK X.prog X.w s1.heap.objs.size ks) (addsK (by simpa using r) few) keepsK (fun h e => freshK e) fun h' tk g kp => fin its.toArray sz h' tk g kp
  · obtain ⟨its, r, pl, hz⟩ := I1.tuple hq
    have sz : its.toArray.size = ks.length := by rw [List.size_toArray, ← r.length, List.length_map]
    exact callSet_tuple (I1.ok.hd hc) pl (GK X.prog X.w s1.heap.objs.size ks) (addsK (by simpa using r) few) keepsK (fun h e => freshK e) fun h' tk g kp => fin its.toArray sz h' tk g kp
/-! ### for over a list or a tuple -/
def iAny (K : PySem.W.Frag) (te : TE) : TI := fun σ H R => te σ H fun v H1 => ∃ (a : Addr) (xs : List V), v = .ref a ∧ (SqL K H1 a xs ∨ SqT K H1 a xs) ∧ ∀ (J : It) (G : Hp → Prop), Walk J xs.length G (YAt xs) → (∀ H', Same H1 H' → G H') → R J H1
theorem pi_any {tg l : Expr} {tl : TE} (hl : PE X l tl) : PI X tg l (iAny X.K tl) := by
  refine ⟨fun pins s σ H R I h => ?_⟩
  refine thn (hl.run pins s σ H _ I h) fun v s1 ⟨x, H1, I1, r1, q1⟩ => ?_
  obtain ⟨a, xs, rfl, hq, q⟩ := q1
  cases r1
  have fp : ∀ b ∈ [s1.heap.objs.size], FpOk X pins H1 b := fun b hb => by
    rw [List.mem_singleton.mp hb]
    exact I1.fpOk (Nat.le_refl _) (I1.hok.fresh (Nat.le_refl _))
  rcases hq with hq | hq
  · obtain ⟨its, rv, p, hz⟩ := I1.list hq
    exact wpAny_pyIter_list p.isList ⟨s1.heap.objs.size, [s1.heap.objs.size], _, _, H1, rfl, I1.kept (t' := s1.toks) fun b o e => Heap.get?_push_of_some _ e, turn_list a _, ⟨_, Heap.get?_push_size _ rfl, rfl, rfl⟩, fp, q _ _ walk_list fun H' sm => sm.seq hq⟩
  · obtain ⟨its, rv, p, hz⟩ := I1.tuple hq
    refine wpAny_pyIter_tuple (show s1.heap.IsTuple a its.toArray from p) ⟨s1.heap.objs.size, [s1.heap.objs.size], _, _, H1, rfl, I1.kept (t' := s1.toks) fun b o e => Heap.get?_push_of_some _ e, turn_tuple a _, ⟨_, Heap.get?_push_size _ rfl, rfl, rfl⟩, fp, q _ _ walk_tup fun H' sm => ?_⟩
    rcases hq with (h | ⟨o, h⟩) | h
    · exact .inl (.inl (sm _ _ h))
    · exact .inl (.inr ⟨o, sm _ _ h⟩)
    · exact .inr h
end
end Onp
set_option maxHeartbeats 4000000
set_option autoImplicit false
/-! sorted(list or tuple) of data -/
namespace Onp
open PySem PySem.Spec PyProof.Rows L2 PySem.W
section
variable {prog : Program} {w : World} {A : Around} {E : Value → Shared → Prop} {s : Shared}
theorem collect_seq {l : Addr} {T : String} {o : Obj} {vs : List Value} {n : Nat} {Q : List Value → Shared → Prop} (hT : T = "list" ∨ T = "tuple") (g1 : s.heap.get? l = some o) (g2 : o.cls = .type T) (g3 : o.data = .seq vs.toArray n) (hz : vs.length ≤ sizeLine)
    (h : Q vs { s with heap := (s.heap.push (seqObj "list" #[] 0)).update s.heap.objs.size (Obj.mapSeq (· ++ vs.toArray)) }) : wpAny (model prog w) A (collect (.ref l)) Q E s := by
  unfold collect
  refine wpAny_bind (wpAny_runValue (codeAny_builtin entry_proto_collect' ?_))
  show wpAny _ _ (do again (.builtin "list.__iadd__" ⟨[← newList [], .ref l], []⟩)) _ _ s
  refine wpAny_bind (wpAny_newList (wpAny_pure ⟨Code.quiet_builtin _ (by decide +kernel), codeAny_builtin entry_list_iadd' ?_⟩))
  show wpAny _ _ (Builtin.List.listExtendWith (.ref s.heap.objs.size) (.ref l) (.ref s.heap.objs.size)) _ _ { s with heap := s.heap.push (seqObj "list" #[] 0) }
  unfold Builtin.List.listExtendWith
  have g1' : (s.heap.push (seqObj "list" #[] 0)).get? l = some o := Heap.get?_push_of_some _ g1
  refine wpAny_bind (wpAny_typeOf (T := T) ⟨o, g1', g2⟩ ?_)
  have tt : (Builtin.List.listSameRef (.ref s.heap.objs.size) (.ref l) || Value.type T == Value.type "list" || Value.type T == Value.type "tuple") = true := by
    rcases hT with rfl | rfl <;> simp
  rw [if_pos tt]
  refine wpAny_bind (listItems_at g1' g3 (wpAny_bind (listItems_at (xs := #[]) (n := 0) (Heap.get?_push_size _ rfl) rfl ?_)))
  rw [if_neg (by simp)]
  refine wpAny_bind (listUpdate_at (xs := #[]) (n := 0) (Heap.get?_push_size _ rfl) rfl (wpAny_pure ?_) (Nat.zero_le _) (by show (#[] ++ vs.toArray).size ≤ sizeLine + 1; simp only [Array.size_append, List.size_toArray, List.length_nil]; omega))
  show wpAny (model prog w) A (do
      let o ← load s.heap.objs.size
      match o.data with
      | .seq xs _ => pure xs.toList
      | _ => unsupported "internal:collect") Q E { s with heap := (s.heap.push (seqObj "list" #[] 0)).update s.heap.objs.size (Obj.mapSeq (· ++ vs.toArray)) }
  refine wpAny_bind (wpAny_load (get?_update_seq (Heap.get?_push_size _ rfl) _) ?_)
  show wpAny _ _ (pure ((#[] : Array Value) ++ vs.toArray).toList) Q E _
  rw [show ((#[] : Array Value) ++ vs.toArray).toList = vs by simp]
  exact wpAny_pure h
theorem sorted_seq {β : Type} {vs : List Value} {bs : List β} {enc : β → PyData} {R : Value → β → Prop} {l : Addr} {T : String} {o : Obj} {n : Nat} {Q : Value → Shared → Prop} (hT : T = "list" ∨ T = "tuple") (g1 : s.heap.get? l = some o) (g2 : o.cls = .type T) (g3 : o.data = .seq vs.toArray n)
    (e : EachIs R vs bs) (er : EachIs (fun v b => ∃ as, Reads s.heap v (enc b) as) vs bs) (al : AllAlike (bs.map enc)) (so : Sortable (bs.map enc)) (hz : bs.length ≤ sizeLine) (hu : ∀ b, b ∈ bs → A.units + 2 + (enc b).depth < cLine)
    (h : ∀ out, out.length = bs.length → EachIs R out (bs.mergeSort (dataLe false enc)) → Q (.ref (s.heap.objs.size + 1)) { s with heap := sortedAll s.heap vs (List.toArray out) }) : wpAny (model prog w) A (call (.builtin "sorted") [.ref l]) Q E s := by
  have hv : vs.length ≤ sizeLine := by rw [e.length]; exact hz
  have er' : EachIs (fun v b => ∃ as, Reads (sortingHeap (copyHeap s.heap vs) (s.heap.objs.size + 1) vs) v (enc b) as) vs bs := er.mono fun _ _ ⟨as, r⟩ => ⟨as, PyProof.Rows.Reads.keeps (fun _ _ => sorting_copy_old) r⟩
  refine call_function_entry_kw kind_sorted plain_sorted entry_sorted (args_sorted1 _) ?_
  unfold Builtin.«sorted»
  refine wpAny_bind (m := checkCount "sorted" 1 1 _) (wpAny_pure ?_)
  refine wpAny_bind (collect_seq hT g1 g2 g3 hv ?_)
  refine wpAny_bind (wpAny_newList ?_ hv)
  have sz : ((s.heap.push (seqObj "list" #[] 0)).update s.heap.objs.size (Obj.mapSeq (· ++ vs.toArray))).objs.size = s.heap.objs.size + 1 := by
    rw [Heap.size_update, size_push']
  show wpAny _ _ _ _ _ { s with heap := copyHeap s.heap vs }
  rw [sz]
  refine wpAny_bind (wpAny_holding (wpAny_call_entry_kw slot_list_sort ⟨_, copyHeap_at s.heap vs, rfl⟩ entry_list_sort ?body (args_list_sort _)))
  case body =>
    show wpAny (model prog w) A.in1.in1 (Builtin.«list.sort» ⟨[.ref (s.heap.objs.size + 1)], []⟩) _ _ _
    refine list_sort_vals (s := { s with heap := copyHeap s.heap vs }) (κ := dataKind (sortingHeap (copyHeap s.heap vs) (s.heap.objs.size + 1) vs) (bs.map enc)) (copyHeap_at s.heap vs)
      (SortsAt.data (s := { s with heap := sortingHeap (copyHeap s.heap vs) (s.heap.objs.size + 1) vs }) (each_map (R := fun v d => ∃ as, Reads (sortingHeap (copyHeap s.heap vs) (s.heap.objs.size + 1) vs) v d as) enc er') al so (bound_map hu)) hv ?_
    exact ⟨_, rfl, wpAny_pure ⟨_, rfl, h _ (by rw [sortVals_length false rfl]; exact e.length) (sortVals_data false e er' al)⟩⟩
end
/-! ### over the layer -/
abbrev VD : Type := V × PyData
def srtD (xs : List VD) : List VD := xs.mergeSort (dataLe false (·.2))
theorem each_vals {X : Cx} {pins : List (Addr × Obj)} {σ : L2.St} {H : Hp} {s : Shared} (I : L2.Inv X pins σ H s) : ∀ (xs : List VD) (us : List Value), Vals (xs.map (·.1)) us → (∀ p ∈ xs, Dp X.K H p.1 p.2) →
    EachIs (fun v (b : VD) => RelV b.1 v) us xs ∧ EachIs (fun v (b : VD) => ∃ as, Reads s.heap v b.2 as) us xs
  | [], _, .nil, _ => ⟨.nil, .nil⟩
  | p :: xs, _, .cons r t, hd => by
    obtain ⟨q1, q2⟩ := each_vals I xs _ t fun x hx => hd x (List.mem_cons_of_mem _ hx)
    exact ⟨.cons r q1, .cons (Dp.reads I p.2 p.1 _ (hd p List.mem_cons_self) r) q2⟩
theorem vals_each : ∀ (xs : List VD) (us : List Value), EachIs (fun v (b : VD) => RelV b.1 v) us xs → Vals (xs.map (·.1)) us
  | [], _, .nil => .nil
  | _ :: xs, _, .cons r t => .cons r (vals_each xs _ t)
def rSortD (K : PySem.W.Frag) : List V → Hp → VK → Prop := fun vs H Q => ∃ (a : Addr) (xs : List VD), vs = [.ref a] ∧ (SqL K H a (xs.map (·.1)) ∨ SqT K H a (xs.map (·.1))) ∧ (∀ p ∈ xs, Dp K H p.1 p.2) ∧ AllAlike (xs.map (·.2)) ∧ Sortable (xs.map (·.2)) ∧ (∀ p ∈ xs, p.2.depth ≤ 8) ∧
  ∀ p, H p = none → Q (.ref p) (upd H p (.lst ((srtD xs).map (·.1))))
theorem cr_sortD {X : Cx} (hu : X.A.units + 64 < cLine) : CallR X (.builtin "sorted") (rSortD X.K) := by
  intro pins s σ H vs us Q I r h
  obtain ⟨a, xs, rfl, hs, hd, al, so, dp, q⟩ := h
  rw [Vals.ref1 r]
  have fin : ∀ (T : String) (its : List Value) (o : Obj) (n : Nat), (T = "list" ∨ T = "tuple") → s.heap.get? a = some o → o.cls = .type T → o.data = .seq its.toArray n → Vals (xs.map (·.1)) its → (xs.map (·.1)).length ≤ sizeLine →
      wpAny (model X.prog X.w) X.A (call (.builtin "sorted") [.ref a]) (EP X pins σ Q) X.xe s := fun T its o n hT g1 g2 g3 rv hz => by
    obtain ⟨e, er⟩ := each_vals I xs its rv hd
    rw [List.length_map] at hz
    refine sorted_seq (enc := fun b : VD => b.2) (R := fun v b => RelV b.1 v) hT g1 g2 g3 e er al so hz (fun b hb => by have := dp b hb; omega) fun out ol eo => ?_
    obtain ⟨ep, he⟩ := PyProof.Rows.sortedAll_at s.heap its out.toArray
    have hl : ((srtD xs).map (·.1)).length ≤ sizeLine := by
      unfold srtD
      rw [List.length_map, List.length_mergeSort]
      exact hz
    exact ⟨.ref _, upd H (s.heap.objs.size + 1) (.lst ((srtD xs).map (·.1))), I.laid (t' := s.toks) (fun _ _ => PyProof.Rows.sortedAll_old) (Nat.le_succ _) ⟨hl, out, ep, vals_each _ _ eo, he⟩, rfl, q _ (I.hok.fresh (Nat.le_succ _))⟩
  rcases hs with hs | hs
  · obtain ⟨its, rv, pl, hz⟩ := I.list hs
    obtain ⟨o, g1, g2, n, g3⟩ := pl.isList
    exact fin "list" its o n (.inl rfl) g1 g2 g3 rv hz
  · obtain ⟨its, rv, pl, hz⟩ := I.tuple hs
    obtain ⟨o, g1, g2, n, g3⟩ := pl
    exact fin "tuple" its o n (.inr rfl) g1 g2 g3 rv hz
end Onp
set_option maxHeartbeats 4000000
set_option autoImplicit false
/-! machines: letters, arrows, rows of them -/
namespace Onp
open PySem PySem.Spec PyProof.Rows L2
def smallL : List Nat := [97, 98, 99, 100, 101, 102, 103, 104, 105, 106, 107, 108, 109, 110, 111, 112, 113, 114, 115, 116, 117, 118, 119, 120, 121, 122]
theorem small_eq : ("abcdefghijklmnopqrstuvwxyz" : Str) = Sx smallL := by decide +kernel
theorem em_eq : ("" : Str) = Sx [] := by decide +kernel
theorem cut_to (xs : List Nat) (n : Nat) (h : n ≤ xs.length) : cutS (Sx xs) none (some (n : Int)) = Sx (xs.take n) := by
  unfold cutS
  rw [HT.sIx_none, HT.sIx_nat, sx_cps, sx_len, List.drop_zero, Nat.sub_zero, Nat.min_eq_left h]
  rfl
theorem cut_from (xs : List Nat) (n : Nat) : cutS (Sx xs) (some (n : Int)) none = Sx (xs.drop n) := by
  unfold cutS
  rw [HT.sIx_none, HT.sIx_nat, sx_cps, sx_len]
  by_cases h : n ≤ xs.length
  · rw [Nat.min_eq_left h, List.take_of_length_le (by rw [List.length_drop]; omega)]
    rfl
  · rw [Nat.min_eq_right (by omega), List.drop_length, List.drop_eq_nil_of_le (by omega), List.take_nil]
    rfl
/-! ### letters -/
def risB (xs : List Nat) : Bool := (xs.zip (xs.drop 1)).all fun p => decide (p.1 < p.2)
def smaB (xs : List Nat) : Bool := xs.all fun c => decide (c ∈ smallL)
def letB (xs : List Nat) : Bool := risB xs && (smaB xs && (decide (1 ≤ xs.length) && decide (xs.length ≤ 3)))
theorem one_lt (c d : Nat) : decide (([c] : List Nat) < [d]) = decide (c < d) := by
  by_cases h : c < d
  · rw [decide_eq_true h, decide_eq_true]
    exact List.Lex.rel h
  · rw [decide_eq_false h, decide_eq_false]
    intro z
    cases z with
    | rel z => exact h z
    | cons z => cases z
/-! ### arrows -/
abbrev Arw : Type := Int × Str × Str × Int
def akey (a : Arw) : List Key := [.inl a.1, .inr a.2.1, .inr a.2.2.1, .inl a.2.2.2]
def aV (a : Arw) : List V := [.int a.1, .str a.2.1, .str a.2.2.1, .int a.2.2.2]
theorem akey_V (a : Arw) : (akey a).map kV = aV a := rfl
theorem akey_inj {a b : Arw} (h : akey a = akey b) : a = b := by
  obtain ⟨a1, a2, a3, a4⟩ := a
  obtain ⟨b1, b2, b3, b4⟩ := b
  simp only [akey, List.cons.injEq, Sum.inl.injEq, Sum.inr.injEq, and_true] at h
  obtain ⟨rfl, rfl, rfl, rfl⟩ := h
  rfl
def adat (a : Arw) : PyData := .tuple [.int a.1, .str a.2.1, .str a.2.2.1, .int a.2.2.2]
abbrev AR : Type := Addr × Arw
def rfs (ps : List AR) : List V := ps.map fun p => V.ref p.1
def RowAt (K : PySem.W.Frag) (H : Hp) (ps : List AR) : Prop := ∀ p ∈ ps, SqT K H p.1 (aV p.2)
theorem sameT {K : PySem.W.Frag} {H H' : Hp} {a : Addr} {xs : List V} (e : Same H H') (h : SqT K H a xs) : SqT K H' a xs := by
  rcases h with (h | ⟨o, h⟩) | h
  · exact .inl (.inl (e _ _ h))
  · exact .inl (.inr ⟨o, e _ _ h⟩)
  · exact .inr h
theorem RowAt.same {K : PySem.W.Frag} {H H' : Hp} {ps : List AR} (r : RowAt K H ps) (s : Same H H') : RowAt K H' ps := fun p hp => sameT s (r p hp)
theorem dp_arw {K : PySem.W.Frag} {H : Hp} {p : AR} (h : SqT K H p.1 (aV p.2)) : Dp K H (.ref p.1) (adat p.2) := .tup h (.cons (.int _) (.cons (.str _) (.cons (.str _) (.cons (.int _) .nil))))
/-- whether a tuple of four is an arrow -/
def arrB (n : Int) (ls : List Nat) (a : Arw) : Bool := decide (0 ≤ a.1) && decide (a.1 < n) && (decide (0 ≤ a.2.2.2) && decide (a.2.2.2 < n)) && (ls.any fun c => decide (a.2.1 = Sx [c])) && decide (a.2.2.1 ∈ deedsL)
def rooB (n : Int) (r : Int) : Bool := decide (0 ≤ r) && decide (r < n)
/-! ### sorted -/
def sortA (as : List Arw) : List Arw := as.mergeSort (PySem.W.dataLe false adat)
def sortI (ns : List Int) : List Int := ns.mergeSort fun a b => decide (a ≤ b)
end Onp
set_option maxHeartbeats 8000000
set_option autoImplicit false
namespace Onp
open PySem PySem.Spec PyProof.Rows L2
abbrev sAreL : Stmt := topS 20
abbrev sIsL : Stmt := topS 21
abbrev sIsA : Stmt := topS 22
abbrev sNeedA : Stmt := topS 23
abbrev sNeedR : Stmt := topS 24
abbrev sStepsB : Stmt := topS 25
structure FnM (K : PySem.W.Frag) (mg : Str → Option Value) (f : Addr) (fd : FuncData) (x : Str) (st : Stmt) (ps : List Str) : Prop where
  F : Fun K x x st f fd
  b : Binds K fd ps []
  g : mg x = some (.ref f)
structure Bl1 (mg : Str → Option Value) : Prop where
  all : mg "all" = none
  zip : mg "zip" = none
  len : mg "len" = none
  set : mg "set" = none
structure CsM (K : PySem.W.Frag) (mg : Str → Option Value) (tD : Addr) : Prop where
  small : ∃ t, mg "SMALL_LETTERS" = some (.str "abcdefghijklmnopqrstuvwxyz" t)
  letters : ∃ t, mg "MOST_LETTERS" = some (.int 3 t)
  rooms : ∃ t, mg "MOST_ROOMS" = some (.int 8 t)
  arrows : ∃ t, mg "MOST_ARROWS" = some (.int 40 t)
  deeds : mg "DEEDS" = some (.ref tD)
  deedsT : ∀ H, SqT K H tD (deedsL.map V.str)
section
variable {P : Program} {w : World} {K : PySem.W.Frag} {mg : Str → Option Value} {base : Heap}
/-! ### are_letters -/
def NAl : List Str := ["text", "rising", "small", "one", "other", "sign"]
theorem scAreL : FnScope NAl ["text"] (defScope sAreL) := ⟨rfl, rfl, rfl, by decide +kernel, rfl, by decide +kernel, by decide +kernel⟩
def spAreL : Sp := fun vs H Q _ => ∃ xs : List Nat, vs = [.str (Sx xs)] ∧ xs.length ≤ 1000 ∧ ∀ H', Same H H' → Q (.bl (letB xs)) H'
theorem ok_areL {f tD : Addr} {fd : FuncData} {k : Nat} (F : Fun K "are_letters" "are_letters" sAreL f fd) (B : Bl1 mg) (C : CsM K mg tD) : FnOk P w K mg base CX0 (k + 1) f fd ["text"] spAreL := by
  obtain ⟨t1, gS⟩ := C.small
  obtain ⟨t2, gL⟩ := C.letters
  refine F.ok scAreL (fun vs H Q E h => ?_) (fun cdv A outer s H vs Q E hr h => ?_)
  · obtain ⟨xs, rfl, _⟩ := h
    rfl
  · obtain ⟨xs, rfl, hlen, q⟩ := h
    refine ⟨_, pss_cons (ps_set (i := 1) scAreL.nd rfl (.inl rfl) (pe_callB (cr_all rfl) (by rfl) B.all (by decide +kernel) (pa_cons (pe_lc (own := [("one", 3), ("other", 4)]) (g := gTup K 2 (gCons (gName 3) (gCons (gName 4) gNil))) (tt := tYes) rfl scAreL.nd
          (pi_zipS (by rfl) B.zip (pa_cons (pv 0) (pa_cons (pe_slice sl_str (pv 0) (po_some pe_int) po_none) pa_nil)))
          (blkOk_by (own := [("one", 3), ("other", 4)]) (N := NAl) (sc := defScope sAreL) (by decide +kernel))
          (fun _ _ _ _ _ => pg_tup rfl (pgs_cons (pg_name (i := 3) scAreL.nd rfl (.inl rfl)) (pgs_cons (pg_name (i := 4) scAreL.nd rfl (.inl rfl)) pgs_nil)))
          (fun _ _ _ _ _ => pts_nil) (fun _ _ _ _ _ => pe_cmpR op_lt_str (pv 3) (pv 4) (nomark _))) pa_nil)))
      (pss_cons (ps_set (i := 2) scAreL.nd rfl (.inl rfl) (pe_callB (cr_all rfl) (by rfl) B.all (by decide +kernel) (pa_cons (pe_lc (own := [("sign", 5)]) (g := gName 5) (tt := tYes) rfl scAreL.nd
          (pi_str (pv 0)) (blkOk_by (own := [("sign", 5)]) (N := NAl) (sc := defScope sAreL) (by decide +kernel))
          (fun _ _ _ _ _ => pg_name (i := 5) scAreL.nd rfl (.inl rfl)) (fun _ _ _ _ _ => pts_nil) (fun _ _ _ _ _ => pe_cmpR op_in_sign (pv 5) (pe_glob (v := .str "abcdefghijklmnopqrstuvwxyz") rfl gS ⟨_, rfl⟩) (by rfl))) pa_nil)))
      (pss_one (ps_ret (pe_and (pv 1) (pe_and (pv 2) (pe_one (pe_chain op_le op_le pe_int (pe_callB call_len_str (by rfl) B.len PySem.boot_len (pa_cons (pv 0) pa_nil)) (pe_glob (v := .int 3) rfl gL ⟨_, rfl⟩)))))))), ?_⟩
    have hbig : 5000 ≤ sizeLine := by decide
    refine ⟨_, rfl, _, rfl, 1, rfl, Sx xs, rfl, by rw [sx_len]; omega, ?_⟩
    rw [show (some (1 : Int)) = some ((1 : Nat) : Int) from rfl, cut_from]
    refine ⟨Sx xs, Sx (xs.drop 1), rfl, fun D nD => ?_⟩
    have hn : min (Sx xs).cps.size (Sx (xs.drop 1)).cps.size = (xs.zip (xs.drop 1)).length := by
      rw [List.length_zip]
      rfl
    refine lc_it (walk_zipS (Sx xs) (Sx (xs.drop 1))) (fun i H' => Same H H' ∧ H D = none ∧ H' D = some (.lst ((((xs.zip (xs.drop 1)).take i).map fun p => decide (p.1 < p.2)).map V.bl)))
      ⟨same_upd nD, nD, upd_same⟩ (fun _ _ _ _ => True.intro) ?_ ?_
    · rintro i v H1 H2 hi ⟨sm, fD, hD⟩ ⟨T, c, d, rfl, nT, rfl, hc, hd⟩
      have hc : xs[i]? = some c := by
        have : xs.toArray[i]? = some c := hc
        simpa using this
      have hd : (xs.drop 1)[i]? = some d := by
        have : (xs.drop 1).toArray[i]? = some d := hd
        simpa using this
      have ez : (xs.zip (xs.drop 1))[i]? = some (c, d) := by
        rw [List.getElem?_zip_eq_some]
        exact ⟨hc, hd⟩
      have et : (xs.zip (xs.drop 1)).take (i + 1) = (xs.zip (xs.drop 1)).take i ++ [(c, d)] := by rw [List.take_add_one, ez]; rfl
      have st : Same H1 (upd H1 T (.tup [sgn c, sgn d])) := same_upd nT
      refine ⟨T, _, rfl, SqT.of upd_same, rfl, _, _, rfl, _, _, rfl, rfl, rfl, ?_⟩
      unfold tYes
      dsimp only
      rw [if_pos rfl]
      refine ⟨_, rfl, _, rfl, ⟨#[c]⟩, ⟨#[d]⟩, rfl, rfl, _, st _ _ hD, ?_, fun b o e => ?_, fD, ?_⟩
      · rw [List.length_map, List.length_map, List.length_take]
        rw [hn] at hi
        rw [List.length_zip] at hi ⊢
        omega
      · rw [upd_ne (ne_of_none e fD)]
        exact st _ _ (sm _ _ e)
      · rw [upd_same, et, List.map_append, List.map_append]
        show some (HO.lst (_ ++ [V.bl (decide (([c] : List Nat) < [d]))])) = _
        rw [one_lt]
        rfl
    · rintro H1 ⟨s1, fD, hD⟩
      rw [hn, List.take_length] at hD
      refine ⟨D, _, rfl, SqL.of hD, ?_⟩
      have er : ((xs.zip (xs.drop 1)).map fun p => decide (p.1 < p.2)).all id = risB xs := by
        unfold risB
        rw [List.all_map]
        rfl
      rw [er]
      refine ⟨_, rfl, Sx xs, rfl, fun D2 nD2 => ?_⟩
      refine lc_it walk_str (fun i H' => Same H1 H' ∧ H1 D2 = none ∧ H' D2 = some (.lst (((xs.take i).map fun c => decide (c ∈ smallL)).map V.bl))) ⟨same_upd nD2, nD2, upd_same⟩ (fun _ _ _ _ => True.intro) ?_ ?_
      · rintro i v H2 H3 hi ⟨sm, fD2, hD2⟩ ⟨rfl, c, hc, rfl⟩
        have hc : xs[i]? = some c := by
          have : xs.toArray[i]? = some c := hc
          simpa using this
        have et : xs.take (i + 1) = xs.take i ++ [c] := by rw [List.take_add_one, hc]; rfl
        refine ⟨rfl, ?_⟩
        unfold tYes
        dsimp only
        rw [if_pos rfl]
        refine ⟨_, rfl, c, "abcdefghijklmnopqrstuvwxyz", rfl, rfl, _, hD2, ?_, fun b o e => ?_, fD2, ?_⟩
        · rw [List.length_map, List.length_map, List.length_take]
          omega
        · rw [upd_ne (ne_of_none e fD2)]
          exact sm _ _ e
        · rw [upd_same, et, List.map_append, List.map_append, small_eq, sx_cps]
          rfl
      · rintro H2 ⟨s2, fD2, hD2⟩
        have hsz : (Sx xs).cps.size = xs.length := sx_len xs
        rw [hsz, List.take_length] at hD2
        refine ⟨D2, _, rfl, SqL.of hD2, ?_⟩
        have es : (xs.map fun c => decide (c ∈ smallL)).all id = smaB xs := by
          unfold smaB
          rw [List.all_map]
          rfl
        rw [es]
        have q1 := q H2 (s1.trans s2)
        unfold letB at q1
        refine ⟨_, rfl, _, rfl, ?_⟩
        cases hr1 : risB xs with
        | false =>
          rw [hr1] at q1
          exact iteF q1
        | true =>
          rw [hr1, Bool.true_and] at q1
          refine iteT ⟨_, rfl, _, rfl, ?_⟩
          cases hs1 : smaB xs with
          | false =>
            rw [hs1] at q1
            exact iteF q1
          | true =>
            rw [hs1, Bool.true_and] at q1
            refine iteT ⟨_, rfl, Sx xs, rfl, by rw [sx_len]; omega, _, _, rfl, rfl, _, rfl, ?_⟩
            rw [sx_len]
            by_cases h1 : 1 ≤ xs.length
            · rw [decide_eq_true h1, Bool.true_and] at q1
              refine itT (by omega) ⟨_, _, rfl, rfl, ?_⟩
              have e : decide ((xs.length : Int) ≤ 3) = decide (xs.length ≤ 3) := by
                by_cases h : xs.length ≤ 3
                · rw [decide_eq_true h, decide_eq_true (by omega)]
                · rw [decide_eq_false h, decide_eq_false (by omega)]
              rw [← e] at q1
              exact q1
            · rw [decide_eq_false h1, Bool.false_and] at q1
              rw [decide_eq_false (by omega)]
              exact iteF q1
end
end Onp
set_option maxHeartbeats 8000000
set_option autoImplicit false
namespace Onp
open PySem PySem.Spec PyProof.Rows L2
theorem in_one (xs : List Nat) (c : Nat) : (!(Builtin.Str.occurrences (Sx xs) (Sx [c]) 0 (Sx xs).length 1).isEmpty) = decide (c ∈ xs) := PySem.StrLaws.found_one (Sx xs) c
theorem any_one (ls : List Nat) (c : Nat) : (ls.any fun d => decide (Sx [c] = Sx [d])) = decide (c ∈ ls) := by
  rw [Bool.eq_iff_iff, List.any_eq_true, decide_eq_true_eq]
  constructor
  · rintro ⟨d, h1, h2⟩
    have := sx_inj (of_decide_eq_true h2)
    rw [(List.cons.inj this).1]
    exact h1
  · exact fun h => ⟨c, h, decide_eq_true rfl⟩
theorem any_not (ls : List Nat) {z : Str} (h : z.length ≠ 1) : (ls.any fun d => decide (z = Sx [d])) = false := by
  rw [Bool.eq_false_iff]
  intro e
  obtain ⟨d, _, h2⟩ := List.any_eq_true.mp e
  rw [of_decide_eq_true h2] at h
  exact h rfl
theorem len_one {z : Str} (h : z.length = 1) : ∃ c, z = Sx [c] := by
  have h1 : z.cps.toList.length = 1 := by simpa [Str.length] using h
  obtain ⟨c, hc⟩ := List.length_eq_one_iff.mp h1
  exact ⟨c, by rw [sx_of z, hc]⟩
section
variable {P : Program} {w : World} {K : PySem.W.Frag} {mg : Str → Option Value} {base : Heap}
/-! ### is_letter -/
theorem scIsL : FnScope ["text", "letters"] ["text", "letters"] (defScope sIsL) := ⟨rfl, rfl, rfl, by decide +kernel, rfl, by decide +kernel, by decide +kernel⟩
def spIsL : Sp := fun vs H Q _ => ∃ (z : Str) (ls : List Nat), vs = [.str z, .str (Sx ls)] ∧ z.length ≤ sizeLine ∧ Q (.bl (ls.any fun c => decide (z = Sx [c]))) H
theorem ok_isL {f : Addr} {fd : FuncData} {k : Nat} (F : Fun K "is_letter" "is_letter" sIsL f fd) (B : Bl1 mg) : FnOk P w K mg base CX0 (k + 1) f fd ["text", "letters"] spIsL := by
  refine F.ok scIsL (fun vs H Q E h => ?_) (fun cdv A outer s H vs Q E hr h => ?_)
  · obtain ⟨z, ls, rfl, _⟩ := h
    rfl
  · obtain ⟨z, ls, rfl, hz, q⟩ := h
    refine ⟨_, pss_one (ps_ret (pe_and (pe_cmpR op_eq (pe_callB call_len_str (by rfl) B.len PySem.boot_len (pa_cons (pv 0) pa_nil)) pe_int (nomark _)) (pe_one (pe_cmpR op_in_str (pv 0) (pv 1) (by rfl))))), ?_⟩
    refine ⟨_, rfl, z, rfl, hz, rfl, _, rfl, ?_⟩
    by_cases h1 : z.length = 1
    · obtain ⟨c, rfl⟩ := len_one h1
      rw [any_one] at q
      refine itT (by rw [h1]; rfl) ⟨_, rfl, _, rfl, Sx [c], Sx ls, rfl, rfl, ?_⟩
      rw [in_one]
      exact q
    · rw [any_not ls h1] at q
      exact itF (fun e => h1 (Int.ofNat.inj (V.int.inj e))) q
/-! ### is_arrow -/
def NIa : List Str := ["arrow", "rooms", "letters", "start", "letter", "deed", "end"]
theorem scIsA : FnScope NIa ["arrow", "rooms", "letters"] (defScope sIsA) := ⟨rfl, rfl, rfl, by decide +kernel, rfl, by decide +kernel, by decide +kernel⟩
def spIsA (K : PySem.W.Frag) : Sp := fun vs H Q _ => ∃ (t : Addr) (a : Arw) (n : Int) (ls : List Nat), vs = [.ref t, .int n, .str (Sx ls)] ∧ SqT K H t (aV a) ∧ a.2.1.length ≤ sizeLine ∧ Q (.bl (arrB n ls a)) H
theorem ok_isA {f fL tD : Addr} {fd fdL : FuncData} {k : Nat} (F : Fun K "is_arrow" "is_arrow" sIsA f fd) (Il : FnM K mg fL fdL "is_letter" sIsL ["text", "letters"]) (B : Bl1 mg) (C : CsM K mg tD) : FnOk P w K mg base CX0 (k + 2) f fd ["arrow", "rooms", "letters"] (spIsA K) := by
  have GL : FnOk P w K mg base CX0 (k + 1) fL fdL ["text", "letters"] spIsL := ok_isL Il.F B
  refine F.ok scIsA (fun vs H Q E h => ?_) (fun cdv A outer s H vs Q E hr h => ?_)
  · obtain ⟨t, a, n, ls, rfl, _⟩ := h
    rfl
  · obtain ⟨t, ⟨a1, a2, a3, a4⟩, n, ls, rfl, hT, hz, q⟩ := h
    refine ⟨_, pss_cons (ps_asg (pv 0) (pg_tup rfl (pgs_cons (pg_name (i := 3) scIsA.nd rfl (.inl rfl)) (pgs_cons (pg_name (i := 4) scIsA.nd rfl (.inl rfl)) (pgs_cons (pg_name (i := 5) scIsA.nd rfl (.inl rfl)) (pgs_cons (pg_name (i := 6) scIsA.nd rfl (.inl rfl)) pgs_nil))))))
      (pss_one (ps_ret (pe_and (pe_chain op_le op_lt pe_int (pv 3) (pv 1)) (pe_and (pe_chain op_le op_lt pe_int (pv 6) (pv 1)) (pe_and (pe_call GL hr (by rfl) Il.g Il.F.kp Il.b .nil pass0 (pa_cons (pv 4) (pa_cons (pv 2) pa_nil)))
        (pe_one (pe_cmpR op_in_seq (pv 5) (pe_glob (v := .ref tD) rfl C.deeds rfl) (by rfl)))))))), ?_⟩
    refine ⟨_, rfl, t, _, rfl, hT, rfl, _, _, rfl, _, _, rfl, _, _, rfl, _, _, rfl, rfl, ?_⟩
    unfold arrB at q
    dsimp only at q
    refine ⟨_, rfl, _, _, rfl, rfl, _, rfl, ?_⟩
    by_cases h1 : 0 ≤ a1
    · rw [decide_eq_true h1, Bool.true_and] at q
      refine itT h1 ⟨_, rfl, _, _, rfl, rfl, _, rfl, ?_⟩
      by_cases h2 : a1 < n
      · rw [decide_eq_true h2, Bool.true_and] at q
        rw [decide_eq_true h2]
        refine iteT ⟨_, rfl, _, _, rfl, rfl, _, rfl, ?_⟩
        by_cases h3 : 0 ≤ a4
        · rw [decide_eq_true h3, Bool.true_and] at q
          refine itT h3 ⟨_, rfl, _, _, rfl, rfl, _, rfl, ?_⟩
          by_cases h4 : a4 < n
          · rw [decide_eq_true h4, Bool.true_and] at q
            rw [decide_eq_true h4]
            refine iteT ⟨_, rfl, _, rfl, a2, ls, rfl, hz, _, rfl, ?_⟩
            cases h5 : (ls.any fun c => decide (a2 = Sx [c])) with
            | true =>
              rw [h5, Bool.true_and] at q
              refine iteT ⟨_, rfl, tD, deedsL.map V.str, rfl, .inr (C.deedsT _), rfl, by decide +kernel, ?_⟩
              show Q (.bl (inV (.str a3) (deedsL.map V.str))) H
              rw [inV_strs]
              exact q
            | false =>
              rw [h5, Bool.false_and] at q
              exact iteF q
          · rw [decide_eq_false h4, Bool.false_and, Bool.false_and] at q
            rw [decide_eq_false h4]
            exact iteF q
        · rw [decide_eq_false h3, Bool.false_and, Bool.false_and, Bool.false_and] at q
          exact itF h3 ⟨_, rfl, iteF q⟩
      · rw [decide_eq_false h2, Bool.false_and, Bool.false_and, Bool.false_and] at q
        rw [decide_eq_false h2]
        exact iteF q
    · rw [decide_eq_false h1, Bool.false_and, Bool.false_and, Bool.false_and, Bool.false_and] at q
      exact itF h1 ⟨_, rfl, iteF q⟩
end
end Onp
set_option maxHeartbeats 8000000
set_option autoImplicit false
namespace Onp
open PySem PySem.Spec PyProof.Rows L2
theorem arrB_len {n : Int} {ls : List Nat} {a : Arw} (h : arrB n ls a = true) : a.2.1.length ≤ sizeLine := by
  unfold arrB at h
  simp only [Bool.and_eq_true] at h
  obtain ⟨d, _, e⟩ := List.any_eq_true.mp h.1.2
  rw [of_decide_eq_true e]
  exact (by decide : 1 ≤ sizeLine)
theorem nodup_map_inj {α β : Type} {f : α → β} (hf : ∀ a b, f a = f b → a = b) {l : List α} (h : l.Nodup) : (l.map f).Nodup := List.pairwise_map.mpr (h.imp fun n e => n (hf _ _ e))
section
variable {P : Program} {w : World} {K : PySem.W.Frag} {mg : Str → Option Value} {base : Heap}
/-! ### need_arrows, need_rooms, of what they let pass -/
def NNa : List Str := ["arrows", "rooms", "letters", "arrow"]
theorem scNeedA : FnScope NNa ["arrows", "rooms", "letters"] (defScope sNeedA) := ⟨rfl, rfl, rfl, by decide +kernel, rfl, by decide +kernel, by decide +kernel⟩
def spNeedA (K : PySem.W.Frag) : Sp := fun vs H Q _ => ∃ (l : Addr) (ps : List AR) (n : Int) (ls : List Nat), vs = [.ref l, .int n, .str (Sx ls)] ∧ (SqL K H l (rfs ps) ∨ SqT K H l (rfs ps)) ∧ RowAt K H ps ∧ (∀ p ∈ ps, arrB n ls p.2 = true) ∧ (ps.map (·.2)).Nodup ∧ ps.length ≤ 40 ∧
  ∀ H', Same H H' → Q .non H'
theorem ok_needA {f fA fL tD : Addr} {fd fdA fdL : FuncData} {k : Nat} (F : Fun K "need_arrows" "need_arrows" sNeedA f fd) (Ia : FnM K mg fA fdA "is_arrow" sIsA ["arrow", "rooms", "letters"]) (Il : FnM K mg fL fdL "is_letter" sIsL ["text", "letters"]) (B : Bl1 mg) (C : CsM K mg tD) :
    FnOk P w K mg base CX0 (k + 3) f fd ["arrows", "rooms", "letters"] (spNeedA K) := by
  have GA : FnOk P w K mg base CX0 (k + 2) fA fdA ["arrow", "rooms", "letters"] (spIsA K) := ok_isA Ia.F Il B C
  obtain ⟨t1, gA⟩ := C.arrows
  refine F.ok scNeedA (fun vs H Q E h => ?_) (fun cdv A outer s H vs Q E hr h => ?_)
  · obtain ⟨l, ps, n, ls, rfl, _⟩ := h
    rfl
  · obtain ⟨l, ps, n, ls, rfl, hl, hR, hA, hnd, hfew, q⟩ := h
    refine ⟨_, pss_cons (ps_if (PW.pt (pw_or (pt_not (pt_val (pe_callB (cr_all rfl) (by rfl) B.all (by decide +kernel) (pa_cons (pe_lc (own := [("arrow", 3)]) (g := gName 3) (tt := tYes) (te := tCall (spIsA K) [] E0 (tCons (tVar 3) (tCons (tVar 1) (tCons (tVar 2) tNil)))) rfl scNeedA.nd
          (pi_any (pv 0)) (blkOk_by (own := [("arrow", 3)]) (N := NNa) (sc := defScope sNeedA) (by decide +kernel)) (fun _ _ _ _ _ => pg_name (i := 3) scNeedA.nd rfl (.inl rfl)) (fun _ _ _ _ _ => pts_nil)
          (fun _ _ _ _ _ => pe_call GA hr (by rfl) Ia.g Ia.F.kp Ia.b .nil pass0 (pa_cons (pv 3) (pa_cons (pv 1) (pa_cons (pv 2) pa_nil))))) pa_nil))))
          (pw_or1 (pt_cmpR op_lt (pe_lenSetM rfl hr.units (by rfl) B.len (by rfl) B.set (pv 0)) (pe_callB call_len_seq (by rfl) B.len PySem.boot_len (pa_cons (pv 0) pa_nil)) (nomark _))))) pss_never pss_nil)
      (pss_one (ps_if (pt_cmpR op_gt (pe_callB call_len_seq (by rfl) B.len PySem.boot_len (pa_cons (pv 0) pa_nil)) (pe_glob (v := .int 40) rfl gA ⟨_, rfl⟩) (nomark _)) pss_never pss_nil)), ?_⟩
    refine ⟨_, rfl, l, rfs ps, rfl, hl, fun J G W hG D nD => ?_⟩
    have hlen : (rfs ps).length = ps.length := List.length_map ..
    have hbig : 5000 ≤ sizeLine := by decide
    refine lc_it W (fun i H' => Same H H' ∧ H D = none ∧ H' D = some (.lst ((List.replicate i true).map V.bl))) ⟨same_upd nD, nD, upd_same⟩ (fun i H' _ ⟨sm, _, _⟩ => hG H' sm) ?_ ?_
    · rintro i v H1 H2 hi ⟨sm, fD, hD⟩ ⟨rfl, hv⟩
      rw [hlen] at hi
      have hp : ps[i]? = some ps[i] := List.getElem?_eq_getElem hi
      have ev : v = .ref ps[i].1 := by
        unfold rfs at hv
        rw [List.getElem?_map, hp] at hv
        exact (Option.some.inj hv).symm
      subst ev
      refine ⟨rfl, ?_⟩
      unfold tYes
      dsimp only
      rw [if_pos rfl]
      refine ⟨_, rfl, _, rfl, _, rfl, ps[i].1, ps[i].2, n, ls, rfl, same_seqT sm (hR _ (List.getElem_mem hi)), arrB_len (hA _ (List.getElem_mem hi)), ?_⟩
      rw [hA _ (List.getElem_mem hi)]
      refine ⟨_, hD, ?_, fun b o e => ?_, fD, ?_⟩
      · rw [List.length_map, List.length_replicate]
        omega
      · rw [upd_ne (ne_of_none e fD)]
        exact sm _ _ e
      · rw [upd_same, List.replicate_succ', List.map_append]
        rfl
    · rintro H1 ⟨s1, fD, hD⟩
      refine ⟨D, _, rfl, SqL.of hD, _, rfl, ?_⟩
      have ea : (List.replicate (rfs ps).length true).all id = true := List.all_eq_true.mpr fun b hb => by rw [(List.mem_replicate.mp hb).2]; rfl
      rw [ea]
      refine iteF ⟨_, rfl, l, ps.map fun p => (p.1, akey p.2), rfl, ?_, ?_, by rw [List.length_map]; omega, fun m m1 m2 => ?_⟩
      · have e : ((ps.map fun p => (p.1, akey p.2)).map fun p => V.ref p.1) = rfs ps := by
          unfold rfs
          rw [List.map_map]
          rfl
        rw [e]
        exact hl.elim (fun h => .inl (s1.seq h)) (fun h => .inr (same_seqT s1 h))
      · intro p hp
        obtain ⟨a, ha, rfl⟩ := List.mem_map.mp hp
        exact same_seqT s1 (hR a ha)
      · have em : m = ps.length := by
          rw [List.length_map] at m1 m2
          have nd2 : ((ps.map fun p => (p.1, akey p.2)).map (·.2)).Nodup := by
            rw [List.map_map]
            have e : ((fun p : AK => p.2) ∘ fun p : AR => (p.1, akey p.2)) = akey ∘ (fun p : AR => p.2) := rfl
            rw [e, ← List.map_map]
            exact nodup_map_inj (fun _ _ => akey_inj) hnd
          by_cases h : m < ps.length
          · exact absurd nd2 (m2.mp h)
          · omega
        subst em
        refine ⟨_, rfl, l, rfs ps, rfl, hl.elim (fun h => .inl (s1.seq h)) (fun h => .inr (same_seqT s1 h)), _, _, rfl, rfl, _, rfl, itF (by rw [hlen]; omega) ?_⟩
        refine ⟨_, rfl, l, rfs ps, rfl, hl.elim (fun h => .inl (s1.seq h)) (fun h => .inr (same_seqT s1 h)), _, _, rfl, rfl, _, rfl, itF (by rw [hlen]; omega) (q H1 s1)⟩
def NNr : List Str := ["some", "rooms", "room"]
theorem scNeedR : FnScope NNr ["some", "rooms"] (defScope sNeedR) := ⟨rfl, rfl, rfl, by decide +kernel, rfl, by decide +kernel, by decide +kernel⟩
def spNeedR (K : PySem.W.Frag) : Sp := fun vs H Q _ => ∃ (l : Addr) (ns : List Int) (n : Int), vs = [.ref l, .int n] ∧ (SqL K H l (ns.map V.int) ∨ SqT K H l (ns.map V.int)) ∧ (∀ r ∈ ns, rooB n r = true) ∧ ns.Nodup ∧ ns.length ≤ 100 ∧ ∀ H', Same H H' → Q .non H'
theorem ok_needR {f : Addr} {fd : FuncData} {k : Nat} (F : Fun K "need_rooms" "need_rooms" sNeedR f fd) (B : Bl1 mg) : FnOk P w K mg base CX0 (k + 1) f fd ["some", "rooms"] (spNeedR K) := by
  refine F.ok scNeedR (fun vs H Q E h => ?_) (fun cdv A outer s H vs Q E hr h => ?_)
  · obtain ⟨l, ns, n, rfl, _⟩ := h
    rfl
  · obtain ⟨l, ns, n, rfl, hl, hA, hnd, hfew, q⟩ := h
    refine ⟨_, pss_one (ps_if (PW.pt (pw_or (pt_not (pt_val (pe_callB (cr_all rfl) (by rfl) B.all (by decide +kernel) (pa_cons (pe_lc (own := [("room", 2)]) (g := gName 2) (tt := tYes) rfl scNeedR.nd
          (pi_any (pv 0)) (blkOk_by (own := [("room", 2)]) (N := NNr) (sc := defScope sNeedR) (by decide +kernel)) (fun _ _ _ _ _ => pg_name (i := 2) scNeedR.nd rfl (.inl rfl)) (fun _ _ _ _ _ => pts_nil)
          (fun _ _ _ _ _ => pe_chain op_le op_lt pe_int (pv 2) (pv 1))) pa_nil))))
          (pw_or1 (pt_cmpR op_lt (pe_lenSetK rfl (by rfl) B.len (by rfl) B.set (pv 0)) (pe_callB call_len_seq (by rfl) B.len PySem.boot_len (pa_cons (pv 0) pa_nil)) (nomark _))))) pss_never pss_nil), ?_⟩
    have hlen : (ns.map V.int).length = ns.length := List.length_map ..
    have hbig : 5000 ≤ sizeLine := by decide
    refine ⟨_, rfl, l, ns.map V.int, rfl, hl, fun J G W hG D nD => ?_⟩
    refine lc_it W (fun i H' => Same H H' ∧ H D = none ∧ H' D = some (.lst ((List.replicate i true).map V.bl))) ⟨same_upd nD, nD, upd_same⟩ (fun i H' _ ⟨sm, _, _⟩ => hG H' sm) ?_ ?_
    · rintro i v H1 H2 hi ⟨sm, fD, hD⟩ ⟨rfl, hv⟩
      rw [hlen] at hi
      rw [List.getElem?_map, List.getElem?_eq_getElem hi] at hv
      obtain rfl := Option.some.inj hv
      have hr1 := hA _ (List.getElem_mem hi)
      unfold rooB at hr1
      rw [Bool.and_eq_true, decide_eq_true_eq, decide_eq_true_eq] at hr1
      refine ⟨rfl, ?_⟩
      unfold tYes
      dsimp only
      rw [if_pos rfl]
      have fin : ∃ acc, H2 D = some (.lst acc) ∧ acc.length < sizeLine ∧ Same H (upd H2 D (.lst (acc ++ [V.bl true]))) ∧ H D = none ∧ (upd H2 D (.lst (acc ++ [V.bl true]))) D = some (.lst ((List.replicate (i + 1) true).map V.bl)) := by
        refine ⟨_, hD, ?_, fun b o e => ?_, fD, ?_⟩
        · rw [List.length_map, List.length_replicate]
          omega
        · rw [upd_ne (ne_of_none e fD)]
          exact sm _ _ e
        · rw [upd_same, List.replicate_succ', List.map_append]
          rfl
      refine ⟨_, rfl, _, _, rfl, rfl, _, rfl, itT hr1.1 ⟨_, rfl, _, _, rfl, rfl, ?_⟩⟩
      show ∃ acc, _ ∧ _ ∧ Same H (upd H2 D (.lst (acc ++ [V.bl (decide (ns[i] < n))]))) ∧ _ ∧ (upd H2 D (.lst (acc ++ [V.bl (decide (ns[i] < n))]))) D = _
      rw [decide_eq_true hr1.2]
      exact fin
    · rintro H1 ⟨s1, fD, hD⟩
      refine ⟨D, _, rfl, SqL.of hD, _, rfl, ?_⟩
      have ea : (List.replicate (ns.map V.int).length true).all id = true := List.all_eq_true.mpr fun b hb => by rw [(List.mem_replicate.mp hb).2]; rfl
      rw [ea]
      refine iteF ⟨_, rfl, l, ns.map Sum.inl, rfl, ?_, by rw [List.length_map]; omega, fun m m1 m2 => ?_⟩
      · have e : (ns.map Sum.inl).map kV = ns.map V.int := by
          rw [List.map_map]
          rfl
        rw [e]
        exact hl.elim (fun h => .inl (s1.seq h)) (fun h => .inr (same_seqT s1 h))
      · have em : m = ns.length := by
          rw [List.length_map] at m1 m2
          by_cases h : m < ns.length
          · exact absurd (nodup_map_inj (fun _ _ e => Sum.inl.inj e) hnd) (m2.mp h)
          · omega
        subst em
        exact ⟨_, rfl, l, ns.map V.int, rfl, hl.elim (fun h => .inl (s1.seq h)) (fun h => .inr (same_seqT s1 h)), _, _, rfl, rfl, _, rfl, itF (by rw [hlen]; omega) (q H1 s1)⟩
end
end Onp
set_option maxHeartbeats 4000000
set_option autoImplicit false
/-! d.setdefault(key, z), the key a tuple of ints and texts -/
namespace Onp
open PySem PySem.Spec PyProof.Rows L2
section
variable {X : Cx} {pins : List (Addr × Obj)} {σ : L2.St} {H : Hp} {s : Shared} {a b : Addr} {r : Value} {d : V} {k : List L2.Key} {A : Around} {E : Value → Shared → Prop}
theorem d_setdT {kvs : List (List L2.Key × V)} {Q : Value → Shared → Prop} (hu : A.units + 1 < cLine) (I : Inv X pins σ H s) (e : H a = some (.dT kvs)) (eb : H b = some (.tup (k.map kV))) (rd : RelV d r) (hl : kvs.length < sizeLine)
    (h1 : ∀ v, valV kvs k = some v → ∀ (w' : Value) (s' : Shared), Inv X pins σ H s' → RelV v w' → Q w' s') (h2 : valV kvs k = none → ∀ (w' : Value) (s' : Shared), Inv X pins σ (upd H a (.dT (putK kvs k d))) s' → RelV d w' → Q w' s') :
    wpAny (model X.prog X.w) A (call (.builtin "dict.setdefault") [.ref a, .ref b, r]) Q E s := by
  obtain ⟨z, hd, xs, rel, dd⟩ := dt_of I.hok e
  have hz : xs.length ≤ sizeLine := by rw [← Paired.length rel]; exact z
  have rk := rel.val k
  refine call_setdefault_heap (hsz := hz) (tupleKind_room_in1 hu) (key_of I.hok eb) hd dd (fun p hp => ?_) fun hn h' dd' hs => ?_
  · rw [hp] at rk
    cases ev : valV kvs k with
    | none =>
      rw [ev] at rk
      exact (show False from rk).elim
    | some v0 =>
      rw [ev] at rk
      exact h1 v0 ev _ _ (I.tok _) rk
  · rw [hn] at rk
    cases ev : valV kvs k with
    | some v0 =>
      rw [ev] at rk
      exact (show False from rk).elim
    | none =>
      have hl2 : (putK kvs k d).length ≤ sizeLine := by
        have := length_putK kvs k d
        omega
      obtain ⟨q, es, ep, hq, c2, c3, c4, _, c5⟩ := dd'
      refine h2 ev _ _ (d_write I (by rw [e]; exact True.intro) hs ⟨q, hq⟩ ⟨hl2, hd, _, (rel.put k eb rd).keeps fun c ys ec => ?_, q, es, ep, hq, c2, c3, c4, c5⟩) rd
      rw [upd_ne (ne_of ec e (fun z => nomatch z))]
      exact ec
end
def tDSetT (td ty tx : TE) : TE := fun σ H Q => td σ H fun x H1 => ∃ a, x = .ref a ∧ (∃ kvs, H1 a = some (.dT kvs)) ∧ ty σ H1 fun y H2 => tx σ H2 fun z H3 => ∃ (kvs : List (List L2.Key × V)) (k : List L2.Key) (b : Addr), H3 a = some (.dT kvs) ∧ y = .ref b ∧ H3 b = some (.tup (k.map kV)) ∧ kvs.length < sizeLine ∧
  (∀ v, valV kvs k = some v → Q v H3) ∧ (valV kvs k = none → Q z (upd H3 a (.dT (putK kvs k z))))
section
variable {X : Cx} {o e f : Expr} {td ty tx : TE} {apos cpos : Pos}
theorem pe_dsetT (hu : X.A.units + 64 < cLine) (ho : PE X o td) (he : PE X e ty) (hf : PE X f tx) (m : M2 X o "setdefault" apos e f cpos) : PE X (.Call (.Attribute o "setdefault" apos) [e, f] [] cpos) (tDSetT td ty tx) := by
  refine ⟨fun pins s σ H Q I h => ?_⟩
  refine wpAny_Call_method m.base m.few m.line PySem.F.plainAttrs_dict PySem.F.slot_dict_setdefault PySem.F.type_dict_setdefault (thn (ho.run pins s σ H _ I h) fun u s1 ⟨x, H1, I1, rx, a, ex, ⟨kv0, d⟩, q1⟩ => ?_)
  subst ex
  obtain rfl : u = Value.ref a := rx
  obtain ⟨t1, t2, _⟩ := isD_at I1 (.inr ⟨kv0, .inl d⟩)
  refine ⟨t1, t2, ?_⟩
  rw [m.trees]
  refine Calls.callWith_builtin rfl (Calls.evalArgs_plain (Calls.spliced_cons (thn (he.run pins s1 σ H1 _ I1 q1) fun iv s2 ⟨y, H2, I2, ry, q2⟩ =>
    Calls.spliced_cons (thn (hf.run pins s2 σ H2 _ I2 q2) fun fv s3 ⟨z, H3, I3, rz, kvs, k, b, ea, ey, eb, hl, q3, q4⟩ => Calls.spliced_nil ?_))))
  subst ey
  obtain rfl : iv = Value.ref b := ry
  exact d_setdT (by omega) I3 ea eb rz hl (fun v hv w' s4 I4 rw' => ⟨v, _, I4, rw', q3 v hv⟩) fun hn w' s4 I4 rw' => ⟨z, _, I4, rw', q4 hn⟩
end
end Onp
set_option maxHeartbeats 4000000
set_option autoImplicit false
namespace Onp
open PySem PySem.Spec PyProof.Rows L2
/-! ### the steps of each room and letter -/
def stepsOf (as : List Arw) (r : Int) (l : Str) : List (Str × Int) := (as.filter fun a => decide (a.1 = r) && decide (a.2.1 = l)).map fun a => (a.2.2.1, a.2.2.2)
theorem stepsOf_snoc (as : List Arw) (a : Arw) (r : Int) (l : Str) : stepsOf (as ++ [a]) r l = stepsOf as r l ++ (if (decide (a.1 = r) && decide (a.2.1 = l)) = true then [(a.2.2.1, a.2.2.2)] else []) := by
  unfold stepsOf
  rw [List.filter_append, List.map_append]
  congr 1
  by_cases h : (decide (a.1 = r) && decide (a.2.1 = l)) = true
  · rw [if_pos h, List.filter_cons_of_pos (p := fun a : Arw => decide (a.1 = r) && decide (a.2.1 = l)) h]
    rfl
  · rw [if_neg h, List.filter_cons_of_neg (p := fun a : Arw => decide (a.1 = r) && decide (a.2.1 = l)) h]
    rfl
abbrev ST : Type := Addr × Str × Int
def skey (r : Int) (l : Str) : List L2.Key := [.inl r, .inr l]
theorem skey_inj {r r' : Int} {l l' : Str} (h : skey r l = skey r' l') : r = r' ∧ l = l' := by
  simp only [skey, List.cons.injEq, Sum.inl.injEq, Sum.inr.injEq, and_true] at h
  exact h
/-- one key's list, new since H0 -/
structure OneS (H0 H : Hp) (at_ : Addr) (ys : List (Str × Int)) : Prop where
  fr : H0 at_ = none
  ex : ∃ xs : List ST, H at_ = some (.lst (xs.map fun x => V.ref x.1)) ∧ (∀ x ∈ xs, H x.1 = some (.tup [.str x.2.1, .int x.2.2])) ∧ xs.map (·.2) = ys
structure StepsK (H0 H : Hp) (D : Addr) (as : List Arw) (kvs : List (List L2.Key × V)) : Prop where
  at' : H D = some (.dT kvs)
  len : kvs.length ≤ as.length
  no : ∀ r l, stepsOf as r l = [] → valV kvs (skey r l) = none
  yes : ∀ r l, stepsOf as r l ≠ [] → ∃ a, valV kvs (skey r l) = some (.ref a) ∧ OneS H0 H a (stepsOf as r l)
  inj : ∀ r l r' l' a, valV kvs (skey r l) = some (.ref a) → valV kvs (skey r' l') = some (.ref a) → r = r' ∧ l = l'
def StepsAt (H0 H : Hp) (D : Addr) (as : List Arw) : Prop := ∃ kvs, StepsK H0 H D as kvs
theorem cond_iff {r r' : Int} {l l' : Str} : (decide (r' = r) && decide (l' = l)) = true ↔ r' = r ∧ l' = l := by
  rw [Bool.and_eq_true, decide_eq_true_eq, decide_eq_true_eq]
/-- a step more for a key that is there -/
theorem stepOld {H H2 H' : Hp} {D at_ p3 : Addr} {as : List Arw} {kvs : List (List L2.Key × V)} {a1 a4 : Int} {a2 a3 : Str} {xs : List ST} (S : StepsK H H2 D as kvs) (hv : valV kvs (skey a1 a2) = some (.ref at_)) (fr : H at_ = none) (x1 : H2 at_ = some (.lst (xs.map fun x => V.ref x.1))) (x2 : ∀ x ∈ xs, H2 x.1 = some (.tup [.str x.2.1, .int x.2.2])) (x3 : xs.map (·.2) = stepsOf as a1 a2)
    (kp : ∀ b o, b ≠ at_ → H2 b = some o → H' b = some o) (n1 : H' at_ = some (.lst ((xs.map fun x => V.ref x.1) ++ [.ref p3]))) (n3 : H' p3 = some (.tup [.str a3, .int a4])) : StepsAt H H' D (as ++ [(a1, a2, a3, a4)]) := by
  have hx : ∀ {b : Addr} {ys : List V}, H2 b = some (.tup ys) → H' b = some (.tup ys) := fun e => kp _ _ (ne_of e x1 (fun z => nomatch z)) e
  refine ⟨kvs, kp _ _ (ne_of S.at' x1 (fun z => nomatch z)) S.at', by rw [List.length_append]; have := S.len; omega, fun r l h => ?_, fun r l h => ?_, S.inj⟩
  · rw [stepsOf_snoc] at h
    exact S.no r l (List.append_eq_nil_iff.mp h).1
  · rw [stepsOf_snoc] at h ⊢
    by_cases c : a1 = r ∧ a2 = l
    · obtain ⟨rfl, rfl⟩ := c
      rw [if_pos (cond_iff.mpr ⟨rfl, rfl⟩)]
      refine ⟨at_, hv, fr, xs ++ [(p3, a3, a4)], by rw [n1, List.map_append]; rfl, fun x hx' => ?_, by rw [List.map_append, x3]; rfl⟩
      rcases List.mem_append.mp hx' with y | y
      · exact hx (x2 x y)
      · rw [List.mem_singleton.mp y]
        exact n3
    · rw [if_neg (fun z => c (cond_iff.mp z)), List.append_nil] at h ⊢
      obtain ⟨a, ea, O⟩ := S.yes r l h
      obtain ⟨ys, y1, y2, y3⟩ := O.ex
      have ne : a ≠ at_ := fun z => by
        rw [z] at ea
        exact c (S.inj _ _ _ _ _ hv ea)
      exact ⟨a, ea, O.fr, ys, kp _ _ ne y1, fun x hx' => hx (y2 x hx'), y3⟩
/-- a step for a new key -/
theorem stepNew {H H2 H' : Hp} {D p2 p3 : Addr} {as : List Arw} {kvs : List (List L2.Key × V)} {a1 a4 : Int} {a2 a3 : Str} (S : StepsK H H2 D as kvs) (hv : valV kvs (skey a1 a2) = none) (fr : H p2 = none) (fr2 : H2 p2 = none)
    (kp : ∀ b o, b ≠ D → H2 b = some o → H' b = some o) (n0 : H' D = some (.dT (putK kvs (skey a1 a2) (.ref p2)))) (n1 : H' p2 = some (.lst [.ref p3])) (n3 : H' p3 = some (.tup [.str a3, .int a4])) : StepsAt H H' D (as ++ [(a1, a2, a3, a4)]) := by
  have e0 : stepsOf as a1 a2 = [] := by
    by_cases z : stepsOf as a1 a2 = []
    · exact z
    · obtain ⟨a, ea, _⟩ := S.yes a1 a2 z
      rw [hv] at ea
      cases ea
  have hx : ∀ {b : Addr} {ys : List V}, H2 b = some (.tup ys) → H' b = some (.tup ys) := fun e => kp _ _ (ne_of e S.at' (fun z => nomatch z)) e
  have hl : ∀ {b : Addr} {ys : List V}, H2 b = some (.lst ys) → H' b = some (.lst ys) := fun e => kp _ _ (ne_of e S.at' (fun z => nomatch z)) e
  have np : ∀ {r : Int} {l : Str} {a : Addr}, valV kvs (skey r l) = some (.ref a) → a ≠ p2 := fun {r l a} ea z => by
    have h : stepsOf as r l ≠ [] := fun y => by
      rw [S.no r l y] at ea
      cases ea
    obtain ⟨a', ea', O⟩ := S.yes r l h
    rw [ea] at ea'
    cases ea'
    obtain ⟨ys, y1, _⟩ := O.ex
    rw [z, fr2] at y1
    cases y1
  have vp : ∀ r l, valV (putK kvs (skey a1 a2) (.ref p2)) (skey r l) = if skey r l = skey a1 a2 then some (.ref p2) else valV kvs (skey r l) := fun r l => valV_put kvs _ _ _
  refine ⟨_, n0, ?_, fun r l h => ?_, fun r l h => ?_, fun r l r' l' a h1 h2 => ?_⟩
  · rw [List.length_append]
    have := S.len
    have := length_putK kvs (skey a1 a2) (V.ref p2)
    simp only [List.length_cons, List.length_nil]
    omega
  · rw [stepsOf_snoc] at h
    have h3 := List.append_eq_nil_iff.mp h
    rw [vp, if_neg (fun z => ?_)]
    · exact S.no r l h3.1
    · obtain ⟨rfl, rfl⟩ := skey_inj z
      rw [if_pos (cond_iff.mpr ⟨rfl, rfl⟩)] at h3
      exact absurd h3.2 (by simp)
  · rw [stepsOf_snoc] at h ⊢
    rw [vp]
    by_cases c : a1 = r ∧ a2 = l
    · obtain ⟨rfl, rfl⟩ := c
      rw [if_pos rfl, if_pos (cond_iff.mpr ⟨rfl, rfl⟩), e0]
      refine ⟨p2, rfl, fr, [(p3, a3, a4)], n1, fun x hx' => ?_, rfl⟩
      rw [List.mem_singleton.mp hx']
      exact n3
    · rw [if_neg (fun z => c (cond_iff.mp z)), List.append_nil] at h ⊢
      rw [if_neg (fun z => c ⟨(skey_inj z).1.symm, (skey_inj z).2.symm⟩)]
      obtain ⟨a, ea, O⟩ := S.yes r l h
      obtain ⟨ys, y1, y2, y3⟩ := O.ex
      exact ⟨a, ea, O.fr, ys, hl y1, fun x hx' => hx (y2 x hx'), y3⟩
  · rw [vp] at h1 h2
    by_cases c1 : skey r l = skey a1 a2
    · by_cases c2 : skey r' l' = skey a1 a2
      · exact skey_inj (c1.trans c2.symm)
      · rw [if_pos c1] at h1
        rw [if_neg c2] at h2
        cases h1
        exact absurd rfl (np h2)
    · by_cases c2 : skey r' l' = skey a1 a2
      · rw [if_neg c1] at h1
        rw [if_pos c2] at h2
        cases h2
        exact absurd rfl (np h1)
      · rw [if_neg c1] at h1
        rw [if_neg c2] at h2
        exact S.inj _ _ _ _ _ h1 h2
end Onp
set_option maxHeartbeats 8000000
set_option autoImplicit false
namespace Onp
open PySem PySem.Spec PyProof.Rows L2
section
variable {P : Program} {w : World} {K : PySem.W.Frag} {mg : Str → Option Value} {base : Heap}
def NSb : List Str := ["arrows", "found", "start", "letter", "deed", "end"]
theorem scStepsB : FnScope NSb ["arrows"] (defScope sStepsB) := ⟨rfl, rfl, rfl, by decide +kernel, rfl, by decide +kernel, by decide +kernel⟩
def spStepsB (K : PySem.W.Frag) : Sp := fun vs H Q _ => ∃ (t : Addr) (ps : List AR), vs = [.ref t] ∧ SqT K H t (rfs ps) ∧ RowAt K H ps ∧ ps.length ≤ 100 ∧ ∀ D H', H D = none → Same H H' → StepsAt H H' D (ps.map (·.2)) → Q (.ref D) H'
theorem ok_stepsB {f : Addr} {fd : FuncData} {k : Nat} (F : Fun K "steps_by_start" "steps_by_start" sStepsB f fd) : FnOk P w K mg base CX0 (k + 1) f fd ["arrows"] (spStepsB K) := by
  refine F.ok scStepsB (fun vs H Q E h => ?_) (fun cdv A outer s H vs Q E hr h => ?_)
  · obtain ⟨t, ps, rfl, _⟩ := h
    rfl
  · obtain ⟨t, ps, rfl, hT, hR, hfew, q⟩ := h
    have hu : (cxOf CX0 P w K mg base NSb "steps_by_start" (defScope sStepsB) f cdv A outer s H E).A.units + 64 < cLine := hr.units
    refine ⟨_, pss_cons (ps_set (i := 1) scStepsB.nd rfl (.inl rfl) pe_dnewT)
      (pss_cons (ps_for PassesOwn.never rfl (pi_tup (pv 0)) (pg_tup rfl (pgs_cons (pg_name (i := 2) scStepsB.nd rfl (.inl rfl)) (pgs_cons (pg_name (i := 3) scStepsB.nd rfl (.inl rfl)) (pgs_cons (pg_name (i := 4) scStepsB.nd rfl (.inl rfl)) (pgs_cons (pg_name (i := 5) scStepsB.nd rfl (.inl rfl)) pgs_nil)))))
        (pss_one (ps_expr (pe_bm PySem.F.plainAttrs_list PySem.F.slot_list_append PySem.F.type_list_append mt_append (pe_dsetT hu (pv 1) (pe_tup (pa_cons (pv 2) (pa_cons (pv 3) pa_nil))) (pe_lst pa_nil) ⟨rfl, rfl, rfl, rfl⟩) (pa_cons (pe_tup (pa_cons (pv 4) (pa_cons (pv 5) pa_nil))) pa_nil)))))
      (pss_one (ps_ret (pv 1)))), ?_⟩
    refine fun D nD => ?_
    have hbig : 5000 ≤ sizeLine := by decide
    have hlen : (rfs ps).length = ps.length := List.length_map ..
    refine ⟨_, rfl, t, rfl, ⟨_, same_seqT (same_upd nD) hT⟩, for_it (walk_tup (xs := rfs ps)) (fun i σ H' => ∃ y2 y3 y4 y5 : Option V, σ = [some (.ref t), some (.ref D), y2, y3, y4, y5] ∧ Same H H' ∧ StepsAt H H' D ((ps.map (·.2)).take i))
      ⟨none, none, none, none, rfl, same_upd nD, [], upd_same, Nat.le_refl _, fun _ _ _ => rfl, fun r l h => absurd rfl h, fun r l r' l' a h => nomatch h⟩ (fun i σ H' _ ⟨_, _, _, _, _, sm, _⟩ => same_seqT sm hT) ?_ ?_⟩
    · rintro i v σ H1 H2 hi ⟨y2, y3, y4, y5, rfl, sm, ⟨kvs, S⟩⟩ ⟨rfl, hv⟩
      have hD := S.at'
      have hkl := S.len
      rw [hlen] at hi
      have hp : ps[i]? = some ps[i] := List.getElem?_eq_getElem hi
      have hT1 := hR _ (List.getElem_mem hi)
      have ev : v = .ref ps[i].1 := by
        unfold rfs at hv
        rw [List.getElem?_map, hp] at hv
        exact (Option.some.inj hv).symm
      subst ev
      have et : (ps.map (·.2)).take (i + 1) = (ps.map (·.2)).take i ++ [ps[i].2] := by
        rw [List.take_add_one, List.getElem?_map, hp]
        rfl
      have hkl' : kvs.length ≤ i := by
        rw [List.length_take] at hkl
        omega
      generalize ps[i] = p at hT1 et
      obtain ⟨pa, a1, a2, a3, a4⟩ := p
      refine ⟨pa, _, rfl, same_seqT sm hT1, rfl, _, _, rfl, _, _, rfl, _, _, rfl, _, _, rfl, rfl, ?_⟩
      refine ⟨_, rfl, D, rfl, ⟨_, hD⟩, _, rfl, _, rfl, (by decide : 2 ≤ sizeLine), fun p1 n1 => ⟨(by decide : 0 ≤ sizeLine), fun p2 n2 => ?_⟩⟩
      have e1 := same_upd (o := .tup [.int a1, .str a2]) n1
      have e2 := e1.trans (same_upd (o := .lst []) n2)
      have g1 : (upd (upd H2 p1 (.tup [.int a1, .str a2])) p2 (.lst [])) p1 = some (.tup ((skey a1 a2).map kV)) := Eq.trans (upd_ne (ne_of_none upd_same n2)) upd_same
      refine ⟨kvs, skey a1 a2, p1, e2 _ _ hD, rfl, g1, by omega, ?_, ?_⟩
      · intro v hval
        have hne : stepsOf ((ps.map (·.2)).take i) a1 a2 ≠ [] := fun z => by
          rw [S.no a1 a2 z] at hval
          cases hval
        obtain ⟨at_, ea, O⟩ := S.yes a1 a2 hne
        rw [hval] at ea
        obtain rfl := Option.some.inj ea
        obtain ⟨xs, x1, x2, x3⟩ := O.ex
        refine ⟨.inl ⟨rfl, _, SqL.of (e2 _ _ x1)⟩, _, rfl, _, rfl, (by decide : 2 ≤ sizeLine), fun p3 n3 => ?_⟩
        have e3 := e2.trans (same_upd (o := .tup [.str a3, .int a4]) n3)
        have nat3 : p3 ≠ at_ := (ne_of_none (e2 _ _ x1) n3).symm
        have hxl : xs.length ≤ i := by
          have z := congrArg List.length x3
          have z2 : (stepsOf ((ps.map (·.2)).take i) a1 a2).length ≤ ((ps.map (·.2)).take i).length := by
            unfold stepsOf
            rw [List.length_map]
            exact List.length_filter_le _ _
          rw [List.length_map] at z
          rw [List.length_take] at z2
          omega
        refine ⟨at_, _, _, rfl, rfl, e3 _ _ x1, by rw [List.length_map]; omega, _, _, _, _, rfl, fun b o e => ?_, ?_⟩
        · rw [upd_ne (fun z => by rw [z, O.fr] at e; cases e)]
          exact e3 _ _ (sm _ _ e)
        · rw [et]
          refine stepOld S hval O.fr x1 x2 x3 (fun b o n e => ?_) upd_same ?_
          · rw [upd_ne n]
            exact e3 _ _ e
          · rw [upd_ne nat3]
            exact upd_same
      · intro hval
        have n2' : H2 p2 = none := e1.free n2
        have nD2 : p2 ≠ D := (ne_of_none (e1 _ _ hD) n2).symm
        refine ⟨.inl ⟨rfl, _, SqL.of ((upd_ne nD2).trans upd_same)⟩, _, rfl, _, rfl, (by decide : 2 ≤ sizeLine), fun p3 n3 => ?_⟩
        have hp2 : (upd (upd (upd H2 p1 (.tup [.int a1, .str a2])) p2 (.lst [])) D (.dT (putK kvs (skey a1 a2) (.ref p2)))) p2 = some (.lst []) := (upd_ne nD2).trans upd_same
        have hDD : (upd (upd (upd H2 p1 (.tup [.int a1, .str a2])) p2 (.lst [])) D (.dT (putK kvs (skey a1 a2) (.ref p2)))) D = some (.dT (putK kvs (skey a1 a2) (.ref p2))) := upd_same
        have keep : ∀ b o, b ≠ D → H2 b = some o → (upd (upd (upd H2 p1 (.tup [.int a1, .str a2])) p2 (.lst [])) D (.dT (putK kvs (skey a1 a2) (.ref p2)))) b = some o := fun b o n e => by
          rw [upd_ne n]
          exact e2 _ _ e
        generalize upd (upd (upd H2 p1 (.tup [.int a1, .str a2])) p2 (.lst [])) D (.dT (putK kvs (skey a1 a2) (.ref p2))) = H3 at hp2 hDD keep n3
        have e3 := same_upd (o := .tup [.str a3, .int a4]) n3
        have n32 : p3 ≠ p2 := (ne_of_none hp2 n3).symm
        have nDp : D ≠ p2 := nD2.symm
        refine ⟨p2, _, _, rfl, rfl, e3 _ _ hp2, (by decide : 0 < sizeLine), _, _, _, _, rfl, fun b o e => ?_, ?_⟩
        · have b1 : b ≠ p2 := fun z => by rw [z, sm.free n2'] at e; cases e
          have b2 : b ≠ D := fun z => by rw [z, nD] at e; cases e
          rw [upd_ne b1]
          exact e3 _ _ (keep _ _ b2 (sm _ _ e))
        · rw [et]
          refine stepNew (p2 := p2) (p3 := p3) S hval (sm.free n2') n2' (fun b o n e => ?_) ?_ upd_same ?_
          · have b1 : b ≠ p2 := fun z => by rw [z, n2'] at e; cases e
            rw [upd_ne b1]
            exact e3 _ _ (keep _ _ n e)
          · rw [upd_ne nDp]
            exact e3 _ _ hDD
          · rw [upd_ne n32]
            exact upd_same
    · rintro σ H1 ⟨y2, y3, y4, y5, rfl, sm, S⟩
      rw [hlen, List.take_of_length_le (by rw [List.length_map]; exact Nat.le_refl _)] at S
      exact ⟨_, rfl, q D H1 nD sm S⟩
end
end Onp
set_option maxHeartbeats 4000000
set_option autoImplicit false
/-! a machine as an object -/
namespace Onp
open PySem PySem.Spec PyProof.Rows L2
/-! ### sorted rows -/
def vdA (p : AR) : VD := (.ref p.1, adat p.2)
def vdI (r : Int) : VD := (.int r, .int r)
def srtR (ps : List AR) : List AR := ps.mergeSort fun p q => PySem.W.dataLe false adat p.2 q.2
theorem srtD_A (ps : List AR) : srtD (ps.map vdA) = (srtR ps).map vdA := (PySem.W.sort_maps vdA (fun _ _ _ _ => rfl)).symm
theorem srtR_as (ps : List AR) : (srtR ps).map (·.2) = sortA (ps.map (·.2)) := PySem.W.sort_maps (fun p : AR => p.2) (fun _ _ _ _ => rfl)
theorem srtR_mem {ps : List AR} {p : AR} : p ∈ srtR ps ↔ p ∈ ps := List.mem_mergeSort
theorem srtR_len (ps : List AR) : (srtR ps).length = ps.length := List.length_mergeSort ..
theorem srtD_I (ns : List Int) : srtD (ns.map vdI) = (sortI ns).map vdI := by
  refine (PySem.W.sort_maps vdI (fun a _ b _ => ?_)).symm
  have e := congrFun (congrFun (PySem.W.dataLe_int (fun b : Int => b)) a) b
  exact e.symm
theorem al_I (ns : List Int) : PySem.W.AllAlike ((ns.map vdI).map (·.2)) := fun d hd d' hd' => by
  obtain ⟨p, hp, rfl⟩ := List.mem_map.mp hd
  obtain ⟨r, _, rfl⟩ := List.mem_map.mp hp
  obtain ⟨p', hp', rfl⟩ := List.mem_map.mp hd'
  obtain ⟨r', _, rfl⟩ := List.mem_map.mp hp'
  rfl
theorem so_I (ns : List Int) : PySem.W.Sortable ((ns.map vdI).map (·.2)) := .inr fun d hd => by
  obtain ⟨p, hp, rfl⟩ := List.mem_map.mp hd
  obtain ⟨r, _, rfl⟩ := List.mem_map.mp hp
  exact ⟨(fun z => nomatch z), (fun _ z => nomatch z)⟩
theorem al_A (ps : List AR) : PySem.W.AllAlike ((ps.map vdA).map (·.2)) := fun d hd d' hd' => by
  obtain ⟨p, hp, rfl⟩ := List.mem_map.mp hd
  obtain ⟨r, _, rfl⟩ := List.mem_map.mp hp
  obtain ⟨p', hp', rfl⟩ := List.mem_map.mp hd'
  obtain ⟨r', _, rfl⟩ := List.mem_map.mp hp'
  rfl
theorem so_A (ps : List AR) : PySem.W.Sortable ((ps.map vdA).map (·.2)) := .inl fun d hd => by
  obtain ⟨p, hp, rfl⟩ := List.mem_map.mp hd
  obtain ⟨r, _, rfl⟩ := List.mem_map.mp hp
  exact ⟨_, _, rfl⟩
theorem vdA_fst (ps : List AR) : (ps.map vdA).map (·.1) = rfs ps := by
  rw [List.map_map]
  rfl
theorem vdI_fst (ns : List Int) : (ns.map vdI).map (·.1) = ns.map V.int := by
  rw [List.map_map]
  rfl
theorem dep_A (ps : List AR) : ∀ p ∈ ps.map vdA, p.2.depth ≤ 8 := fun p hp => by
  obtain ⟨r, _, rfl⟩ := List.mem_map.mp hp
  show (adat r.2).depth ≤ 8
  unfold adat
  simp [PyData.depth, PyData.depthAll]
theorem dep_I (ns : List Int) : ∀ p ∈ ns.map vdI, p.2.depth ≤ 8 := fun p hp => by
  obtain ⟨r, _, rfl⟩ := List.mem_map.mp hp
  show (PyData.int r).depth ≤ 8
  simp [PyData.depth]
/-! ### the object -/
structure AM where
  n : Int
  ls : List Nat
  as : List Arw
  fs : List Int
  gs : List Int
def AM.ok (M : AM) : Prop := 1 ≤ M.n ∧ M.n ≤ 8 ∧ letB M.ls = true ∧ (∀ a ∈ M.as, arrB M.n M.ls a = true) ∧ M.as.Nodup ∧ M.as.length ≤ 40 ∧ (∀ r ∈ M.fs, rooB M.n r = true) ∧ M.fs.Nodup ∧ (∀ r ∈ M.gs, rooB M.n r = true) ∧ M.gs.Nodup ∧ M.fs.length ≤ 100 ∧ M.gs.length ≤ 100
/-- as it is kept: rising -/
def AM.srt (M : AM) : AM := ⟨M.n, M.ls, sortA M.as, sortI M.fs, sortI M.gs⟩
def mfl (n : Int) (ls : List Nat) (ta tf tg D : Addr) : List (Str × V) :=
  putF "step_rows" (.ref D) (putF "last_row" (.ref tg) (putF "first_row" (.ref tf) (putF "arrow_row" (.ref ta) (putF "letter_text" (.str (Sx ls)) (putF "room_count" (.int n) [])))))
section
variable {n : Int} {ls : List Nat} {ta tf tg D : Addr}
theorem mfl_rooms : (mfl n ls ta tf tg D).lookup ("room_count" : Str) = some (.int n) := by
  unfold mfl
  rw [lookup_putF, if_neg (by decide +kernel), lookup_putF, if_neg (by decide +kernel), lookup_putF, if_neg (by decide +kernel), lookup_putF, if_neg (by decide +kernel), lookup_putF, if_neg (by decide +kernel), lookup_putF, if_pos rfl]
theorem mfl_letters : (mfl n ls ta tf tg D).lookup ("letter_text" : Str) = some (.str (Sx ls)) := by
  unfold mfl
  rw [lookup_putF, if_neg (by decide +kernel), lookup_putF, if_neg (by decide +kernel), lookup_putF, if_neg (by decide +kernel), lookup_putF, if_neg (by decide +kernel), lookup_putF, if_pos rfl]
theorem mfl_arrows : (mfl n ls ta tf tg D).lookup ("arrow_row" : Str) = some (.ref ta) := by
  unfold mfl
  rw [lookup_putF, if_neg (by decide +kernel), lookup_putF, if_neg (by decide +kernel), lookup_putF, if_neg (by decide +kernel), lookup_putF, if_pos rfl]
theorem mfl_firsts : (mfl n ls ta tf tg D).lookup ("first_row" : Str) = some (.ref tf) := by
  unfold mfl
  rw [lookup_putF, if_neg (by decide +kernel), lookup_putF, if_neg (by decide +kernel), lookup_putF, if_pos rfl]
theorem mfl_lasts : (mfl n ls ta tf tg D).lookup ("last_row" : Str) = some (.ref tg) := by
  unfold mfl
  rw [lookup_putF, if_neg (by decide +kernel), lookup_putF, if_pos rfl]
theorem mfl_steps : (mfl n ls ta tf tg D).lookup ("step_rows" : Str) = some (.ref D) := by
  unfold mfl
  rw [lookup_putF, if_pos rfl]
def mnames : List Str := ["step_rows", "last_row", "first_row", "arrow_row", "letter_text", "room_count"]
theorem mfl_none {f : Str} (h : f ∉ mnames) : (mfl n ls ta tf tg D).lookup f = none := by
  unfold mnames at h
  simp only [List.mem_cons, List.not_mem_nil, or_false, not_or] at h
  unfold mfl
  rw [lookup_putF, if_neg h.1, lookup_putF, if_neg h.2.1, lookup_putF, if_neg h.2.2.1, lookup_putF, if_neg h.2.2.2.1, lookup_putF, if_neg h.2.2.2.2.1, lookup_putF, if_neg h.2.2.2.2.2]
  rfl
end
theorem putF_len (f : Str) (v : V) : ∀ fs : List (Str × V), (putF f v fs).length ≤ fs.length + 1
  | [] => Nat.le_refl _
  | (g, x) :: r => by
    unfold putF
    by_cases h : g = f
    · rw [if_pos h]
      exact Nat.le_succ _
    · rw [if_neg h]
      exact Nat.succ_le_succ (putF_len f v r)
/-- the steps, to be read -/
def StepsR (H : Hp) (D : Addr) (as : List Arw) : Prop := ∃ kvs : List (List L2.Key × V), H D = some (.dT kvs) ∧ (∀ r l, stepsOf as r l = [] → valV kvs (skey r l) = none) ∧
  (∀ r l, stepsOf as r l ≠ [] → ∃ (a : Addr) (xs : List ST), valV kvs (skey r l) = some (.ref a) ∧ H a = some (.lst (xs.map fun x => V.ref x.1)) ∧ (∀ x ∈ xs, H x.1 = some (.tup [.str x.2.1, .int x.2.2])) ∧ xs.map (·.2) = stepsOf as r l)
theorem StepsAt.rd {H0 H : Hp} {D : Addr} {as : List Arw} (S : StepsAt H0 H D as) : StepsR H D as := by
  obtain ⟨kvs, S⟩ := S
  refine ⟨kvs, S.at', S.no, fun r l h => ?_⟩
  obtain ⟨a, ea, O⟩ := S.yes r l h
  obtain ⟨xs, x1, x2, x3⟩ := O.ex
  exact ⟨a, xs, ea, x1, x2, x3⟩
theorem StepsR.same {H H' : Hp} {D : Addr} {as : List Arw} (S : StepsR H D as) (s : Same H H') : StepsR H' D as := by
  obtain ⟨kvs, h1, h2, h3⟩ := S
  refine ⟨kvs, s _ _ h1, h2, fun r l h => ?_⟩
  obtain ⟨a, xs, ea, x1, x2, x3⟩ := h3 r l h
  exact ⟨a, xs, ea, s _ _ x1, fun x hx => s _ _ (x2 x hx), x3⟩
/-- a machine stands at m -/
def MachAt (K : PySem.W.Frag) (C : Addr) (H : Hp) (m : Addr) (M : AM) : Prop := ∃ (dx ta tf tg D : Addr) (ps : List AR), H m = some (.ins C dx (mfl M.n M.ls ta tf tg D)) ∧ H ta = some (.tup (rfs ps)) ∧ RowAt K H ps ∧ ps.map (·.2) = M.as ∧
  H tf = some (.tup (M.fs.map V.int)) ∧ H tg = some (.tup (M.gs.map V.int)) ∧ StepsR H D M.as
theorem MachAt.same {K : PySem.W.Frag} {C : Addr} {H H' : Hp} {m : Addr} {M : AM} (h : MachAt K C H m M) (s : Same H H') : MachAt K C H' m M := by
  obtain ⟨dx, ta, tf, tg, D, ps, h1, h2, h3, h4, h5, h6, h7⟩ := h
  exact ⟨dx, ta, tf, tg, D, ps, s _ _ h1, s _ _ h2, h3.same s, h4, s _ _ h5, s _ _ h6, h7.same s⟩
end Onp
set_option maxHeartbeats 8000000
set_option autoImplicit false
namespace Onp
open PySem PySem.Spec PyProof.Rows L2
abbrev sMach : Stmt := topS 26
abbrev sMInit : Stmt := inClass sMach 0
structure Bl2 (mg : Str → Option Value) : Prop where
  tuple : mg "tuple" = none
  sorted : mg "sorted" = none
structure ClsM (K : PySem.W.Frag) (C : Addr) : Prop where
  cl : Cls K C
  n1 : NoAttr K C "room_count"
  n2 : NoAttr K C "letter_text"
  n3 : NoAttr K C "arrow_row"
  n4 : NoAttr K C "first_row"
  n5 : NoAttr K C "last_row"
  n6 : NoAttr K C "step_rows"
section
variable {P : Program} {w : World} {K : PySem.W.Frag} {mg : Str → Option Value} {base : Heap}
def psMI : List Str := ["self", "rooms", "letters", "arrows", "firsts", "lasts"]
theorem scMInit : FnScope psMI psMI (defScope sMInit) := ⟨rfl, rfl, rfl, by decide +kernel, rfl, by decide +kernel, by decide +kernel⟩
abbrev SqA (K : PySem.W.Frag) (H : Hp) (l : Addr) (xs : List V) : Prop := SqL K H l xs ∨ SqT K H l xs
theorem sqA_same {K : PySem.W.Frag} {H H' : Hp} {l : Addr} {xs : List V} (s : Same H H') (h : SqA K H l xs) : SqA K H' l xs := h.elim (fun h => .inl (s.seq h)) (fun h => .inr (same_seqT s h))
theorem sqA_keep {K : PySem.W.Frag} {b l : Addr} {H H' : Hp} {xs : List V} (k : Keep b H H') (n : l ≠ b) (h : SqA K H l xs) : SqA K H' l xs := h.elim (fun h => .inl (k.seqL n h)) (fun h => .inr (k.seqT n h))
theorem keepI_T {C x dx a : Addr} {fs : List (Str × V)} {H H' : Hp} {xs : List V} (hx : H x = some (.ins C dx fs)) (k : Keep x H H') (h : SqT K H a xs) : SqT K H' a xs := by
  by_cases e : a = x
  · subst e
    rcases h with (h | ⟨o, h⟩) | h
    · rw [hx] at h
      cases h
    · rw [hx] at h
      cases h
    · exact .inr h
  · exact k.seqT e h
theorem keepI_A {C x dx a : Addr} {fs : List (Str × V)} {H H' : Hp} {xs : List V} (hx : H x = some (.ins C dx fs)) (k : Keep x H H') (h : SqA K H a xs) : SqA K H' a xs := by
  rcases h with h | h
  · by_cases e : a = x
    · subst e
      rcases h with (h | ⟨o, h⟩) | h
      · rw [hx] at h
        cases h
      · rw [hx] at h
        cases h
      · exact .inl (.inr h)
    · exact .inl (k.seqL e h)
  · exact .inr (keepI_T hx k h)
/-- what is handed to Machine(..), of a machine that there is -/
def spMInit (K : PySem.W.Frag) (C : Addr) : Sp := fun vs H Q _ => ∃ (x dx la lf lg : Addr) (ps : List AR) (M : AM), vs = [.ref x, .int M.n, .str (Sx M.ls), .ref la, .ref lf, .ref lg] ∧ H x = some (.ins C dx []) ∧ SqA K H la (rfs ps) ∧ RowAt K H ps ∧ ps.map (·.2) = M.as ∧ SqA K H lf (M.fs.map V.int) ∧ SqA K H lg (M.gs.map V.int) ∧ M.ok ∧
  ∀ H', Keep x H H' → MachAt K C H' x M.srt → Q .non H'
theorem mlen {f : Str} {v : V} {fs : List (Str × V)} {k : Nat} (h : fs.length ≤ k) : (putF f v fs).length ≤ k + 1 := Nat.le_trans (putF_len f v fs) (Nat.succ_le_succ h)
theorem letB_len {xs : List Nat} (h : letB xs = true) : xs.length ≤ 3 := by
  unfold letB at h
  simp only [Bool.and_eq_true, decide_eq_true_eq] at h
  exact h.2.2.2
theorem ok_minit {f C fAl fIl fIa fNa fNr fSb tD : Addr} {fd fdAl fdIl fdIa fdNa fdNr fdSb : FuncData} {k : Nat} {dvs : List V} {kws : List (Str × V)} (F : FunD K "__init__" "Machine.__init__" (defArgs sMInit) (defBody sMInit) (defScope sMInit) dvs kws f fd)
    (Al : FnM K mg fAl fdAl "are_letters" sAreL ["text"]) (Il : FnM K mg fIl fdIl "is_letter" sIsL ["text", "letters"]) (Ia : FnM K mg fIa fdIa "is_arrow" sIsA ["arrow", "rooms", "letters"]) (Na : FnM K mg fNa fdNa "need_arrows" sNeedA ["arrows", "rooms", "letters"]) (Nr : FnM K mg fNr fdNr "need_rooms" sNeedR ["some", "rooms"]) (Sb : FnM K mg fSb fdSb "steps_by_start" sStepsB ["arrows"])
    (B : Bl1 mg) (B2 : Bl2 mg) (Cs : CsM K mg tD) (T : ClsM K C) : FnOk P w K mg base CX0 (k + 4) f fd psMI (spMInit K C) := by
  have GAl : FnOk P w K mg base CX0 (k + 3) fAl fdAl ["text"] spAreL := ok_areL Al.F B Cs
  have GNa : FnOk P w K mg base CX0 (k + 3) fNa fdNa ["arrows", "rooms", "letters"] (spNeedA K) := ok_needA Na.F Ia Il B Cs
  have GNr : FnOk P w K mg base CX0 (k + 3) fNr fdNr ["some", "rooms"] (spNeedR K) := ok_needR Nr.F B
  have GSb : FnOk P w K mg base CX0 (k + 3) fSb fdSb ["arrows"] (spStepsB K) := ok_stepsB Sb.F
  obtain ⟨t1, gR⟩ := Cs.rooms
  refine F.ok scMInit (fun vs H Q E h => ?_) (fun cdv A outer s H vs Q E hr h => ?_)
  · obtain ⟨x, dx, la, lf, lg, ps, M, rfl, _⟩ := h
    rfl
  · obtain ⟨x, dx, la, lf, lg, ps, M, rfl, hx, hla, hR, eas, hlf, hlg, ok, q⟩ := h
    obtain ⟨o1, o2, o3, o4, o5, o6, o7, o8, o9, o10, o11, o12⟩ := ok
    have hu : (cxOf CX0 P w K mg base psMI "Machine.__init__" (defScope sMInit) f cdv A outer s H E).A.units + 64 < cLine := hr.units
    refine ⟨_, pss_cons (ps_if (pt_not (pt_chain op_le op_le pe_int (pv 1) (pe_glob (v := .int 8) rfl gR ⟨_, rfl⟩))) pss_never pss_nil)
      (pss_cons (ps_if (pt_not (pt_val (pe_call GAl hr (by rfl) Al.g Al.F.kp Al.b .nil pass0 (pa_cons (pv 2) pa_nil)))) pss_never pss_nil)
      (pss_cons (ps_expr (pe_call GNa hr (by rfl) Na.g Na.F.kp Na.b .nil pass0 (pa_cons (pv 3) (pa_cons (pv 1) (pa_cons (pv 2) pa_nil)))))
      (pss_cons (ps_expr (pe_call GNr hr (by rfl) Nr.g Nr.F.kp Nr.b .nil pass0 (pa_cons (pv 4) (pa_cons (pv 1) pa_nil))))
      (pss_cons (ps_expr (pe_call GNr hr (by rfl) Nr.g Nr.F.kp Nr.b .nil pass0 (pa_cons (pv 5) (pa_cons (pv 1) pa_nil))))
      (pss_cons (ps_fld (pv 0) (pv 1) rfl)
      (pss_cons (ps_fld (pv 0) (pv 2) rfl)
      (pss_cons (ps_fld (pv 0) (pe_callTy call_tuple_of (by rfl) B2.tuple (by decide +kernel) (pa_cons (pe_callB (cr_sortD hu) (by rfl) B2.sorted (by decide +kernel) (pa_cons (pv 3) pa_nil)) pa_nil)) rfl)
      (pss_cons (ps_fld (pv 0) (pe_callTy call_tuple_of (by rfl) B2.tuple (by decide +kernel) (pa_cons (pe_callB (cr_sortD hu) (by rfl) B2.sorted (by decide +kernel) (pa_cons (pv 4) pa_nil)) pa_nil)) rfl)
      (pss_cons (ps_fld (pv 0) (pe_callTy call_tuple_of (by rfl) B2.tuple (by decide +kernel) (pa_cons (pe_callB (cr_sortD hu) (by rfl) B2.sorted (by decide +kernel) (pa_cons (pv 5) pa_nil)) pa_nil)) rfl)
      (pss_one (ps_fld (pv 0) (pe_call GSb hr (by rfl) Sb.g Sb.F.kp Sb.b .nil pass0 (pa_cons (pe_fld (pv 0) rfl) pa_nil)) rfl))))))))))), ?_⟩
    refine ⟨_, rfl, _, _, rfl, rfl, _, rfl, itT o1 ⟨_, _, rfl, rfl, _, rfl, ?_⟩⟩
    rw [decide_eq_true o2]
    refine iteF ⟨_, rfl, M.ls, rfl, by have := letB_len o3; omega, fun H1 s1 => ⟨_, rfl, ?_⟩⟩
    rw [o3]
    have oa : ∀ p ∈ ps, arrB M.n M.ls p.2 = true := fun p hp => o4 p.2 (by rw [← eas]; exact List.mem_map_of_mem hp)
    have on : (ps.map (·.2)).Nodup := by rw [eas]; exact o5
    have ol : ps.length ≤ 40 := by
      have := congrArg List.length eas
      rw [List.length_map] at this
      omega
    refine iteF ⟨_, rfl, _, rfl, _, rfl, la, ps, M.n, M.ls, rfl, sqA_same s1 hla, hR.same s1, oa, on, ol, fun H2 s2 => ?_⟩
    refine ⟨_, rfl, _, rfl, lf, M.fs, M.n, rfl, sqA_same (s1.trans s2) hlf, o7, o8, o11, fun H3 s3 => ?_⟩
    refine ⟨_, rfl, _, rfl, lg, M.gs, M.n, rfl, sqA_same (s1.trans (s2.trans s3)) hlg, o9, o10, o12, fun H4 s4 => ?_⟩
    have s14 : Same H H4 := s1.trans (s2.trans (s3.trans s4))
    have hx4 := s14 _ _ hx
    -- rooms, letters
    refine ⟨_, rfl, _, rfl, x, C, dx, _, rfl, hx4, T.cl, T.n1, (by decide : 0 < 1000), ?_⟩
    refine ⟨_, rfl, _, rfl, x, C, dx, _, rfl, upd_same, T.cl, T.n2, Nat.lt_of_le_of_lt (mlen (Nat.le_refl 0)) (by decide), ?_⟩
    have k6 : Keep x H4 (upd (upd H4 x (.ins C dx (putF "room_count" (.int M.n) []))) x (.ins C dx (putF "letter_text" (.str (Sx M.ls)) (putF "room_count" (.int M.n) [])))) := Keep.upd.trans Keep.upd
    have hx6 : (upd (upd H4 x (.ins C dx (putF "room_count" (.int M.n) []))) x (.ins C dx (putF "letter_text" (.str (Sx M.ls)) (putF "room_count" (.int M.n) [])))) x = some (.ins C dx (putF "letter_text" (.str (Sx M.ls)) (putF "room_count" (.int M.n) []))) := upd_same
    generalize upd (upd H4 x (.ins C dx (putF "room_count" (.int M.n) []))) x (.ins C dx (putF "letter_text" (.str (Sx M.ls)) (putF "room_count" (.int M.n) []))) = H6 at k6 hx6
    have kx6 : Keep x H H6 := (Keep.of s14).trans k6
    -- arrows
    refine ⟨_, rfl, la, ps.map vdA, rfl, ?_, ?_, al_A ps, so_A ps, dep_A ps, fun p1 np1 => ?_⟩
    · rw [vdA_fst]
      exact keepI_A hx kx6 hla
    · intro p hp
      obtain ⟨a, ha, rfl⟩ := List.mem_map.mp hp
      exact dp_arw (keepI_T hx kx6 (hR a ha))
    rw [srtD_A, vdA_fst]
    refine ⟨p1, _, rfl, .inl ⟨SqL.of upd_same, fun ta nta => ?_⟩⟩
    have e7 := (same_upd (o := .lst (rfs (srtR ps))) np1).trans (same_upd (o := .tup (rfs (srtR ps))) nta)
    have hta : (upd (upd H6 p1 (.lst (rfs (srtR ps)))) ta (.tup (rfs (srtR ps)))) ta = some (.tup (rfs (srtR ps))) := upd_same
    generalize upd (upd H6 p1 (.lst (rfs (srtR ps)))) ta (.tup (rfs (srtR ps))) = H7 at e7 hta
    have hx7 := e7 _ _ hx6
    have kx7 : Keep x H H7 := kx6.trans (Keep.of e7)
    have nta : ta ≠ x := ne_of hta hx7 (fun z => nomatch z)
    refine ⟨_, rfl, x, C, dx, _, rfl, hx7, T.cl, T.n3, Nat.lt_of_le_of_lt (mlen (mlen (Nat.le_refl 0))) (by decide), ?_⟩
    have k8 : Keep x H7 (upd H7 x (.ins C dx (putF "arrow_row" (.ref ta) (putF "letter_text" (.str (Sx M.ls)) (putF "room_count" (.int M.n) []))))) := Keep.upd
    have hx8 : (upd H7 x (.ins C dx (putF "arrow_row" (.ref ta) (putF "letter_text" (.str (Sx M.ls)) (putF "room_count" (.int M.n) []))))) x = some (.ins C dx (putF "arrow_row" (.ref ta) (putF "letter_text" (.str (Sx M.ls)) (putF "room_count" (.int M.n) [])))) := upd_same
    generalize upd H7 x (.ins C dx (putF "arrow_row" (.ref ta) (putF "letter_text" (.str (Sx M.ls)) (putF "room_count" (.int M.n) [])))) = H8 at k8 hx8
    have kx8 : Keep x H H8 := kx7.trans k8
    have hta8 := k8 _ _ nta hta
    -- firsts
    refine ⟨_, rfl, lf, M.fs.map vdI, rfl, ?_, ?_, al_I _, so_I _, dep_I _, fun p2 np2 => ?_⟩
    · rw [vdI_fst]
      exact keepI_A hx kx8 hlf
    · intro p hp
      obtain ⟨a, ha, rfl⟩ := List.mem_map.mp hp
      exact .int a
    rw [srtD_I, vdI_fst]
    refine ⟨p2, _, rfl, .inl ⟨SqL.of upd_same, fun tf ntf => ?_⟩⟩
    have e9 := (same_upd (o := .lst ((sortI M.fs).map V.int)) np2).trans (same_upd (o := .tup ((sortI M.fs).map V.int)) ntf)
    have htf : (upd (upd H8 p2 (.lst ((sortI M.fs).map V.int))) tf (.tup ((sortI M.fs).map V.int))) tf = some (.tup ((sortI M.fs).map V.int)) := upd_same
    generalize upd (upd H8 p2 (.lst ((sortI M.fs).map V.int))) tf (.tup ((sortI M.fs).map V.int)) = H9 at e9 htf
    have hx9 := e9 _ _ hx8
    have kx9 : Keep x H H9 := kx8.trans (Keep.of e9)
    have ntf : tf ≠ x := ne_of htf hx9 (fun z => nomatch z)
    refine ⟨_, rfl, x, C, dx, _, rfl, hx9, T.cl, T.n4, Nat.lt_of_le_of_lt (mlen (mlen (mlen (Nat.le_refl 0)))) (by decide), ?_⟩
    have k10 : Keep x H9 (upd H9 x (.ins C dx (putF "first_row" (.ref tf) (putF "arrow_row" (.ref ta) (putF "letter_text" (.str (Sx M.ls)) (putF "room_count" (.int M.n) [])))))) := Keep.upd
    have hx10 : (upd H9 x (.ins C dx (putF "first_row" (.ref tf) (putF "arrow_row" (.ref ta) (putF "letter_text" (.str (Sx M.ls)) (putF "room_count" (.int M.n) [])))))) x = some (.ins C dx (putF "first_row" (.ref tf) (putF "arrow_row" (.ref ta) (putF "letter_text" (.str (Sx M.ls)) (putF "room_count" (.int M.n) []))))) := upd_same
    generalize upd H9 x (.ins C dx (putF "first_row" (.ref tf) (putF "arrow_row" (.ref ta) (putF "letter_text" (.str (Sx M.ls)) (putF "room_count" (.int M.n) []))))) = H10 at k10 hx10
    have kx10 : Keep x H H10 := kx9.trans k10
    have hta10 := k10 _ _ nta (e9 _ _ hta8)
    have htf10 := k10 _ _ ntf htf
    -- lasts
    refine ⟨_, rfl, lg, M.gs.map vdI, rfl, ?_, ?_, al_I _, so_I _, dep_I _, fun p3 np3 => ?_⟩
    · rw [vdI_fst]
      exact keepI_A hx kx10 hlg
    · intro p hp
      obtain ⟨a, ha, rfl⟩ := List.mem_map.mp hp
      exact .int a
    rw [srtD_I, vdI_fst]
    refine ⟨p3, _, rfl, .inl ⟨SqL.of upd_same, fun tg ntg => ?_⟩⟩
    have e11 := (same_upd (o := .lst ((sortI M.gs).map V.int)) np3).trans (same_upd (o := .tup ((sortI M.gs).map V.int)) ntg)
    have htg : (upd (upd H10 p3 (.lst ((sortI M.gs).map V.int))) tg (.tup ((sortI M.gs).map V.int))) tg = some (.tup ((sortI M.gs).map V.int)) := upd_same
    generalize upd (upd H10 p3 (.lst ((sortI M.gs).map V.int))) tg (.tup ((sortI M.gs).map V.int)) = H11 at e11 htg
    have hx11 := e11 _ _ hx10
    have kx11 : Keep x H H11 := kx10.trans (Keep.of e11)
    have ntg : tg ≠ x := ne_of htg hx11 (fun z => nomatch z)
    refine ⟨_, rfl, x, C, dx, _, rfl, hx11, T.cl, T.n5, Nat.lt_of_le_of_lt (mlen (mlen (mlen (mlen (Nat.le_refl 0))))) (by decide), ?_⟩
    have k12 : Keep x H11 (upd H11 x (.ins C dx (putF "last_row" (.ref tg) (putF "first_row" (.ref tf) (putF "arrow_row" (.ref ta) (putF "letter_text" (.str (Sx M.ls)) (putF "room_count" (.int M.n) []))))))) := Keep.upd
    have hx12 : (upd H11 x (.ins C dx (putF "last_row" (.ref tg) (putF "first_row" (.ref tf) (putF "arrow_row" (.ref ta) (putF "letter_text" (.str (Sx M.ls)) (putF "room_count" (.int M.n) []))))))) x = some (.ins C dx (putF "last_row" (.ref tg) (putF "first_row" (.ref tf) (putF "arrow_row" (.ref ta) (putF "letter_text" (.str (Sx M.ls)) (putF "room_count" (.int M.n) [])))))) := upd_same
    generalize upd H11 x (.ins C dx (putF "last_row" (.ref tg) (putF "first_row" (.ref tf) (putF "arrow_row" (.ref ta) (putF "letter_text" (.str (Sx M.ls)) (putF "room_count" (.int M.n) [])))))) = H12 at k12 hx12
    have kx12 : Keep x H H12 := kx11.trans k12
    have hta12 := k12 _ _ nta (e11 _ _ hta10)
    have htf12 := k12 _ _ ntf (e11 _ _ htf10)
    have htg12 := k12 _ _ ntg htg
    have hR12 : RowAt K H12 (srtR ps) := fun p hp => keepI_T hx kx12 (hR p (srtR_mem.mp hp))
    -- the steps
    have lk : (putF "last_row" (.ref tg) (putF "first_row" (.ref tf) (putF "arrow_row" (.ref ta) (putF "letter_text" (.str (Sx M.ls)) (putF "room_count" (.int M.n) []))))).lookup ("arrow_row" : Str) = some (V.ref ta) := by
      rw [lookup_putF, if_neg (by decide +kernel), lookup_putF, if_neg (by decide +kernel), lookup_putF, if_pos rfl]
    refine ⟨_, rfl, x, C, dx, _, _, rfl, hx12, T.cl, T.n3, lk, ta, srtR ps, rfl, SqT.of hta12, hR12, by rw [srtR_len]; omega, fun D H13 nD s13 S13 => ?_⟩
    have hx13 := s13 _ _ hx12
    refine ⟨_, rfl, x, C, dx, _, rfl, hx13, T.cl, T.n6, Nat.lt_of_le_of_lt (mlen (mlen (mlen (mlen (mlen (Nat.le_refl 0)))))) (by decide), q _ (kx12.trans ((Keep.of s13).trans Keep.upd)) ?_⟩
    have S14 := S13.rd
    have hk : ∀ b o, b ≠ x → H13 b = some o → (upd H13 x (.ins C dx (mfl M.n M.ls ta tf tg D))) b = some o := fun b o n e => by rw [upd_ne n]; exact e
    refine ⟨dx, ta, tf, tg, D, srtR ps, upd_same, hk _ _ nta (s13 _ _ hta12), fun p hp => ?_, ?_, hk _ _ ntf (s13 _ _ htf12), hk _ _ ntg (s13 _ _ htg12), ?_⟩
    · exact keepI_T hx13 Keep.upd (same_seqT s13 (hR12 p hp))
    · rw [srtR_as, eas]
      rfl
    · rw [srtR_as, eas] at S14
      obtain ⟨kvs, h1, h2, h3⟩ := S14
      refine ⟨kvs, hk _ _ (ne_of h1 hx13 (fun z => nomatch z)) h1, h2, fun r l h => ?_⟩
      obtain ⟨a, xs, ea, x1, x2, x3⟩ := h3 r l h
      exact ⟨a, xs, ea, hk _ _ (ne_of x1 hx13 (fun z => nomatch z)) x1, fun y hy => hk _ _ (ne_of (x2 y hy) hx13 (fun z => nomatch z)) (x2 y hy), x3⟩
end
end Onp
set_option maxHeartbeats 8000000
set_option autoImplicit false
namespace Onp
open PySem PySem.Spec PyProof.Rows L2
abbrev sLett : Stmt := topS 49
theorem join_signs : ∀ cs : List Nat, Str.join (Sx []) (cs.map fun c => Sx [c]) = Sx cs
  | [] => rfl
  | [c] => rfl
  | c :: d :: r => by
    show Sx [c] ++ Sx [] ++ Str.join (Sx []) ((d :: r).map fun c => Sx [c]) = _
    rw [join_signs (d :: r), sx_app, sx_app]
    rfl
theorem sum_ones : ∀ cs : List Nat, ((cs.map fun c => Sx [c]).map (·.length)).sum = cs.length
  | [] => rfl
  | c :: r => by
    have h := sum_ones r
    rw [List.map_cons, List.map_cons, List.sum_cons, h, List.length_cons, sx_len]
    simp only [List.length_cons, List.length_nil]
    omega
theorem signs_map (cs : List Nat) : signsV cs = (cs.map fun c => Sx [c]).map V.str := by
  unfold signsV
  rw [List.map_map]
  rfl

section
variable {P : Program} {w : World} {K : PySem.W.Frag} {mg : Str → Option Value} {base : Heap}
def NLe : List Str := ["_law_bag_here", "_law_most_z", "_law_alphabet", "_law_first", "_law_by", "_law_k"]
theorem scLett : FnScope NLe ["_law_bag_here", "_law_most_z"] (defScope sLett) := ⟨rfl, rfl, rfl, by decide +kernel, rfl, by decide +kernel, by decide +kernel⟩
def spLett : Sp := fun vs H Q _ => ∃ (g : Bid) (m : Int), vs = [.ref g.b, .int m] ∧ 1 ≤ m ∧ m ≤ 3 ∧ Bg H g ∧ ∀ (ls : List Nat) H', letB ls = true → (ls.length : Int) ≤ m → (∀ c ∈ ls.take 2, c < 122) → Keep g.b H H' → Bg H' g → Q (.str (Sx ls)) H'
def lrow (x y n : Nat) : List Nat := (List.range n).map fun k => 97 + x + y * k
theorem small_code : ∀ j : Fin 26, smallL[j.val]? = some (97 + j.val) := by decide
theorem small_mem : ∀ j : Fin 26, 97 + j.val ∈ smallL := by decide
theorem lrow_ok {x y n : Nat} (hx : x < 20) (hy1 : 1 ≤ y) (hy : y ≤ 3) (h1 : 1 ≤ n) (h3 : n ≤ 3) : letB (lrow x y n) = true := by
  have hs : ∀ k, k < 3 → decide (97 + x + y * k ∈ smallL) = true := fun k hk => by
    have hyk : y * k ≤ 3 * 2 := Nat.mul_le_mul hy (by omega)
    have := small_mem ⟨x + y * k, by omega⟩
    exact decide_eq_true (by rw [Nat.add_assoc]; exact this)
  have e0 := hs 0 (by decide)
  have e1 := hs 1 (by decide)
  have e2 := hs 2 (by decide)
  have r1 : decide (97 + x + y * 0 < 97 + x + y * 1) = true := decide_eq_true (by omega)
  have r2 : decide (97 + x + y * 1 < 97 + x + y * 2) = true := decide_eq_true (by omega)
  have h : n = 1 ∨ n = 2 ∨ n = 3 := by omega
  unfold letB risB smaB
  rcases h with rfl | rfl | rfl
  · show (true && ((decide (97 + x + y * 0 ∈ smallL) && true) && _)) = true
    rw [e0]
    rfl
  · show ((decide (97 + x + y * 0 < 97 + x + y * 1) && true) && ((decide (97 + x + y * 0 ∈ smallL) && (decide (97 + x + y * 1 ∈ smallL) && true)) && _)) = true
    rw [r1, e0, e1]
    rfl
  · show ((decide (97 + x + y * 0 < 97 + x + y * 1) && (decide (97 + x + y * 1 < 97 + x + y * 2) && true)) && ((decide (97 + x + y * 0 ∈ smallL) && (decide (97 + x + y * 1 ∈ smallL) && (decide (97 + x + y * 2 ∈ smallL) && true))) && _)) = true
    rw [r1, r2, e0, e1, e2]
    rfl
theorem lrow_low {x y n : Nat} (hx : x < 20) (hy : y ≤ 3) : ∀ c ∈ (lrow x y n).take 2, c < 122 := by
  intro c hc
  unfold lrow at hc
  rw [← List.map_take] at hc
  obtain ⟨k, hk, rfl⟩ := List.mem_map.mp hc
  rw [List.take_range] at hk
  have hk2 : k < 2 := by
    have := List.mem_range.mp hk
    omega
  have : y * k ≤ 3 * 1 := Nat.mul_le_mul hy (by omega)
  show 97 + x + y * k < 122
  omega
theorem ok_lett {f fP : Addr} {fd fdP : FuncData} {k : Nat} (F : Fun K "_law_letters" "_law_letters" sLett f fd) (Pu : FnM K mg fP fdP "_law_pull" sPull ["_law_bag_here", "_law_many"]) (ml : mg "len" = none) (mr : mg "range" = none) : FnOk P w K mg base CX0 (k + 2) f fd ["_law_bag_here", "_law_most_z"] spLett := by
  have GP : FnOk P w K mg base CX0 (k + 1) fP fdP ["_law_bag_here", "_law_many"] (spPull K) := ok_pull Pu.F ml
  refine F.ok scLett (fun vs H Q E h => ?_) (fun cdv A outer s H vs Q E hr h => ?_)
  · obtain ⟨g, m, rfl, _⟩ := h
    rfl
  · obtain ⟨g, m, rfl, m1, m2, B, q⟩ := h
    refine ⟨_, pss_cons (ps_set (i := 2) scLett.nd rfl (.inr rfl) pe_str)
      (pss_cons (ps_asg (pe_tup (pa_cons (pe_call GP hr (by rfl) Pu.g Pu.F.kp Pu.b .nil pass0 (pa_cons (pv 0) (pa_cons pe_int pa_nil))) (pa_cons (pe_op op_add pe_int (pe_call GP hr (by rfl) Pu.g Pu.F.kp Pu.b .nil pass0 (pa_cons (pv 0) (pa_cons pe_int pa_nil)))) pa_nil))) (pg_tup rfl (pgs_cons (pg_name (i := 3) scLett.nd rfl (.inr rfl)) (pgs_cons (pg_name (i := 4) scLett.nd rfl (.inr rfl)) pgs_nil))))
      (pss_one (ps_ret (pe_join pe_str (pe_lc (own := [("_law_k", 5)]) (g := gName 5) (tt := tYes) (te := tOp rIxS (tVar 2) (tOp (rI0 fun i j => .int (i + j)) (tVar 3) (tOp (rI CMul fun i j => .int (i * j)) (tVar 4) (tVar 5)))) rfl scLett.nd
        (pi_range1 (by rfl) mr (pa_cons (pe_op op_add pe_int (pe_call GP hr (by rfl) Pu.g Pu.F.kp Pu.b .nil pass0 (pa_cons (pv 0) (pa_cons (pv 1) pa_nil)))) pa_nil)) (blkOk_by (own := [("_law_k", 5)]) (N := NLe) (sc := defScope sLett) (by decide +kernel))
        (fun _ _ _ _ _ => pg_name (i := 5) scLett.nd rfl (Or.inl rfl)) (fun _ _ _ _ _ => pts_nil) (fun _ _ _ _ _ => pe_ix ix_str (pv 2) (pe_op op_add (pv 3) (pe_op op_mul (pv 4) (pv 5))) (fun _ _ => rfl))))))), ?_⟩
    refine ⟨_, rfl, g, 20, rfl, by decide, by decide, B, fun x H1 x0 x1 k1 B1 => ?_⟩
    refine ⟨_, rfl, g, 3, rfl, by decide, by decide, B1, fun y H2 y0 y1 k2 B2 => ?_⟩
    refine ⟨_, _, rfl, rfl, (by decide : 2 ≤ sizeLine), fun p np => ?_⟩
    have s3 := same_upd (o := .tup [.int x, .int (1 + y)]) np
    refine ⟨p, _, rfl, SqT.of upd_same, rfl, _, _, rfl, _, _, rfl, rfl, ?_⟩
    have B3 := B2.same s3
    generalize upd H2 p (.tup [.int x, .int (1 + y)]) = H3 at s3 B3
    refine ⟨⟨_, rfl⟩, _, rfl, _, rfl, g, m, rfl, by omega, Nat.lt_trans (show m.natAbs < 2 ^ 64 by omega) (by decide), B3, fun z H4 z0 z1 k4 B4 => ?_⟩
    obtain ⟨xn, rfl⟩ : ∃ xn : Nat, x = (xn : Int) := ⟨x.toNat, by omega⟩
    obtain ⟨yn, ey⟩ : ∃ yn : Nat, 1 + y = (yn : Int) := ⟨(1 + y).toNat, by omega⟩
    obtain ⟨zn, ez⟩ : ∃ zn : Nat, 1 + z = (zn : Int) := ⟨(1 + z).toNat, by omega⟩
    refine ⟨_, _, rfl, rfl, 1 + z, rfl, by omega, by omega, fun D nD => ?_⟩
    rw [show (1 + z).toNat = zn by omega]
    refine lc_range (lo := 0) (n := zn) (fun i H' => H' D = some (.lst (signsV (lrow xn yn i))) ∧ Same H4 H') ⟨upd_same, same_upd nD⟩ (fun j H' hj ⟨hD, sm⟩ => ?_) (fun H5 ⟨hD, sm⟩ => ?_)
    · refine ⟨rfl, ?_⟩
      unfold tYes
      dsimp only
      rw [if_pos rfl]
      have hyj : yn * j ≤ 3 * 2 := Nat.mul_le_mul (by omega) (by omega)
      have eix : (xn : Int) + (1 + y) * (0 + (j : Int)) = ((xn + yn * j : Nat) : Int) := by
        rw [ey, Int.zero_add, ← Int.natCast_mul, ← Int.natCast_add]
      have hc := small_code ⟨xn + yn * j, by omega⟩
      refine ⟨_, rfl, _, rfl, _, rfl, _, rfl, _, _, rfl, rfl, .inl ⟨by omega, by omega⟩, _, _, rfl, rfl, Sx smallL, ((xn + yn * j : Nat) : Int), 97 + (xn + yn * j), by rw [small_eq], congrArg V.int eix, ?_, ?_, ?_⟩
      · rw [sx_len]
        decide
      · rw [sx_cps]
        exact atI_nat hc
      · refine ⟨_, hD, ?_, ?_, fun b o hb => ?_⟩
        · unfold signsV lrow
          rw [List.length_map, List.length_map, List.length_range]
          exact small1000 (by omega)
        · rw [upd_same]
          unfold signsV lrow
          rw [List.range_succ, List.map_append, List.map_append, ← Nat.add_assoc]
          rfl
        · rw [upd_ne (ne_of_none hb nD)]
          exact sm b o hb
    · have hll : (lrow xn yn zn).length = zn := by
        unfold lrow
        rw [List.length_map, List.length_range]
      refine ⟨Sx [], D, (lrow xn yn zn).map fun c => Sx [c], by rw [em_eq], rfl, .inl (SqL.of (by rw [hD, signs_map])), ?_, ?_⟩
      · rw [sum_ones, sx_len, List.length_nil, Nat.mul_zero, hll]
        omega
      · rw [TL.join_eq, join_signs]
        refine q _ H5 (lrow_ok (by omega) (by omega) (by omega) (by omega) (by omega)) (by rw [hll]; omega) (lrow_low (by omega) (by omega)) ?_ (B4.same sm)
        exact ((k1.trans k2).trans (Keep.of s3)).trans (k4.trans (Keep.of sm))
end
end Onp
set_option maxHeartbeats 4000000
set_option autoImplicit false
namespace Onp
open PySem PySem.Spec PyProof.Rows L2
/-! ### == of arrows and of rows of them -/
theorem eqv_adat (a b : Arw) : PyData.eqv (adat a) (adat b) = decide (a = b) := by
  obtain ⟨a1, a2, a3, a4⟩ := a
  obtain ⟨b1, b2, b3, b4⟩ := b
  simp only [adat, PyData.eqv, PyData.eqvAll]
  rw [Bool.eq_iff_iff, decide_eq_true_eq]
  simp only [Bool.and_eq_true, beq_iff_eq, Prod.mk.injEq, and_true]
theorem any_adat (as : List Arw) (a : Arw) : ((as.map adat).any fun z => PyData.eqv z (adat a)) = decide (a ∈ as) := by
  rw [Bool.eq_iff_iff, List.any_eq_true, decide_eq_true_eq]
  constructor
  · rintro ⟨d, hd, e⟩
    obtain ⟨b, hb, rfl⟩ := List.mem_map.mp hd
    rw [eqv_adat, decide_eq_true_eq] at e
    rw [← e]
    exact hb
  · intro h
    exact ⟨adat a, List.mem_map_of_mem h, by rw [eqv_adat]; exact decide_eq_true rfl⟩
/-- texts of the kind that arrows bear -/
def okS (a : Arw) : Prop := PyData.strOk a.2.1 = true ∧ PyData.strOk a.2.2.1 = true
theorem small_strOk : ∀ c ∈ smallL, PyData.strOk (Sx [c]) = true := by decide +kernel
theorem deeds_strOk : ∀ d ∈ deedsL, PyData.strOk d = true := by decide +kernel
theorem letB_small {ls : List Nat} (h : letB ls = true) : ∀ c ∈ ls, c ∈ smallL := fun c hc => by
  unfold letB smaB at h
  simp only [Bool.and_eq_true] at h
  exact of_decide_eq_true (List.all_eq_true.mp h.2.1 c hc)
theorem arrB_okS {n : Int} {ls : List Nat} {a : Arw} (hl : letB ls = true) (h : arrB n ls a = true) : okS a := by
  unfold arrB at h
  simp only [Bool.and_eq_true] at h
  obtain ⟨c, hc, e⟩ := List.any_eq_true.mp h.1.2
  refine ⟨?_, deeds_strOk _ (of_decide_eq_true h.2)⟩
  rw [of_decide_eq_true e]
  exact small_strOk c (letB_small hl c hc)
theorem lay_adat {a : Arw} (h : okS a) : (adat a).canLay0 = true := by
  unfold adat
  simp only [PyData.canLay0, PyData.canLayAll0, h.1, h.2, Bool.and_true]
theorem lay_row : ∀ {as : List Arw}, (∀ a ∈ as, okS a) → PyData.canLayAll0 (as.map adat) = true
  | [], _ => rfl
  | a :: r, h => by
    show (PyData.canLay0 (adat a) && PyData.canLayAll0 (r.map adat)) = true
    rw [lay_adat (h a List.mem_cons_self), lay_row fun b hb => h b (List.mem_cons_of_mem _ hb)]
    rfl
theorem dep_adat (a : Arw) : (adat a).depth ≤ 8 := by
  unfold adat
  simp [PyData.depth, PyData.depthAll]
theorem dep_row : ∀ as : List Arw, PyData.depthAll (as.map adat) ≤ 8
  | [] => by simp [PyData.depthAll]
  | a :: r => by
    show PyData.depthAll (adat a :: r.map adat) ≤ 8
    have h1 := dep_adat a
    have h2 := dep_row r
    rw [PyData.depthAll]
    exact Nat.max_le.mpr ⟨h1, h2⟩
theorem shA {a : Arw} (h : okS a) : SeqAt.shaped (adat a) = true := by
  unfold SeqAt.shaped
  rw [lay_adat h, decide_eq_true (Nat.le_trans (dep_adat a) (by decide))]
  rfl
theorem shR {as : List Arw} (h : ∀ a ∈ as, okS a) : SeqAt.shaped (.list (as.map adat)) = true := by
  unfold SeqAt.shaped
  have h1 : (PyData.list (as.map adat)).canLay0 = true := by rw [PyData.canLay0]; exact lay_row h
  have h2 : (PyData.list (as.map adat)).depth ≤ 64 := by
    rw [PyData.depth]
    have := dep_row as
    omega
  rw [h1, decide_eq_true h2]
  rfl
theorem lay_ints : ∀ ns : List Int, PyData.canLayAll0 (ns.map PyData.int) = true
  | [] => rfl
  | a :: r => by
    show (PyData.canLay0 (.int a) && PyData.canLayAll0 (r.map PyData.int)) = true
    rw [lay_ints r]
    rfl
theorem shI (ns : List Int) : SeqAt.shaped (.list (ns.map .int)) = true := by
  unfold SeqAt.shaped
  have h1 : (PyData.list (ns.map .int)).canLay0 = true := by rw [PyData.canLay0]; exact lay_ints ns
  have h2 : (PyData.list (ns.map .int)).depth ≤ 64 := by
    rw [PyData.depth, PySem.W.depth_ints]
    decide
  rw [h1, decide_eq_true h2]
  rfl
theorem dpRow {K : PySem.W.Frag} {H : Hp} : ∀ {ps : List AR}, RowAt K H ps → DpAll K H (rfs ps) ((ps.map (·.2)).map adat)
  | [], _ => .nil
  | p :: r, h => .cons (dp_arw (h p List.mem_cons_self)) (dpRow fun q hq => h q (List.mem_cons_of_mem _ hq))
theorem dpInts {K : PySem.W.Frag} {H : Hp} : ∀ ns : List Int, DpAll K H (ns.map V.int) (ns.map PyData.int)
  | [] => .nil
  | _ :: r => .cons (.int _) (dpInts r)
/-! ### what the law draws: a tuple of five -/
def DrawnAt (K : PySem.W.Frag) (H : Hp) (t : Addr) (M : AM) : Prop := ∃ (la lf lg : Addr) (ps : List AR), H t = some (.tup [.int M.n, .str (Sx M.ls), .ref la, .ref lf, .ref lg]) ∧ H la = some (.lst (rfs ps)) ∧ RowAt K H ps ∧ ps.map (·.2) = M.as ∧ H lf = some (.lst (M.fs.map V.int)) ∧ H lg = some (.lst (M.gs.map V.int))
theorem DrawnAt.same {K : PySem.W.Frag} {H H' : Hp} {t : Addr} {M : AM} (h : DrawnAt K H t M) (s : Same H H') : DrawnAt K H' t M := by
  obtain ⟨la, lf, lg, ps, h1, h2, h3, h4, h5, h6⟩ := h
  exact ⟨la, lf, lg, ps, s _ _ h1, s _ _ h2, h3.same s, h4, s _ _ h5, s _ _ h6⟩
end Onp
set_option maxHeartbeats 8000000
set_option autoImplicit false
namespace Onp
open PySem PySem.Spec PyProof.Rows L2
theorem Bg.keepT {K : PySem.W.Frag} {g : Bid} {H H' : Hp} {a : Addr} {xs : List V} (B : Bg H g) (k : Keep g.b H H') (h : SqT K H a xs) : SqT K H' a xs := by
  obtain ⟨i, r, z, c, h1, h2, h3⟩ := B
  by_cases e : a = g.b
  · subst e
    rcases h with (h | ⟨o, h⟩) | h
    · rw [h1] at h
      cases h
    · rw [h1] at h
      cases h
    · exact .inr h
  · exact k.seqT e h
theorem Bg.keepRow {K : PySem.W.Frag} {g : Bid} {H H' : Hp} {ps : List AR} (B : Bg H g) (k : Keep g.b H H') (h : RowAt K H ps) : RowAt K H' ps := fun p hp => B.keepT k (h p hp)
theorem Bg.neRfs {g : Bid} {H : Hp} {a : Addr} {ps : List AR} (B : Bg H g) (h : H a = some (.lst (rfs ps))) : a ≠ g.b := fun e => by
  subst e
  obtain ⟨i, r, z, c, h1, h2, h3⟩ := B
  rw [h1] at h
  unfold bagV at h
  have h' : [V.ref g.l, V.int i, V.int r, V.int z, V.int c] = rfs ps := HO.lst.inj (Option.some.inj h)
  have : V.int i ∈ rfs ps := by rw [← h']; simp
  obtain ⟨p, _, e⟩ := List.mem_map.mp this
  cases e
theorem Bg.neInts {g : Bid} {H : Hp} {a : Addr} {ns : List Int} (B : Bg H g) (h : H a = some (.lst (ns.map V.int))) : a ≠ g.b := fun e => by
  subst e
  obtain ⟨i, r, z, c, h1, h2, h3⟩ := B
  rw [h1] at h
  unfold bagV at h
  match ns, h with
  | [], h => cases h
  | _ :: _, h => cases h
theorem Bg.neTup {g : Bid} {H : Hp} {a : Addr} {xs : List V} (B : Bg H g) (h : H a = some (.tup xs)) : a ≠ g.b := fun e => by
  subst e
  obtain ⟨i, r, z, c, h1, h2, h3⟩ := B
  rw [h1] at h
  cases h
theorem DrawnAt.keep {K : PySem.W.Frag} {H H' : Hp} {t : Addr} {M : AM} {g : Bid} (h : DrawnAt K H t M) (B : Bg H g) (k : Keep g.b H H') : DrawnAt K H' t M := by
  obtain ⟨la, lf, lg, ps, h1, h2, h3, h4, h5, h6⟩ := h
  exact ⟨la, lf, lg, ps, k _ _ (B.neTup h1) h1, k _ _ (B.neRfs h2) h2, B.keepRow k h3, h4, k _ _ (B.neInts h5) h5, k _ _ (B.neInts h6) h6⟩
theorem room65 {k : Nat} {A : Around} (r : Room k A) : A.units + 65 < cLine := by have := r.un; omega
theorem eqv_nil (ds : List PyData) : PyData.eqv (.list ds) (.list []) = decide (ds = []) := by
  cases ds <;> simp [PyData.eqv, PyData.eqvAll]
section
variable {P : Program} {w : World} {K : PySem.W.Frag} {mg : Str → Option Value} {base : Heap}
/-! ### _law_rooms_some -/
theorem letB_pos {ls : List Nat} (h : letB ls = true) : 1 ≤ ls.length ∧ ls.length ≤ 3 := by
  unfold letB at h
  simp only [Bool.and_eq_true, decide_eq_true_eq] at h
  omega
end
end Onp
set_option maxHeartbeats 8000000
set_option autoImplicit false
namespace Onp
open PySem PySem.Spec PyProof.Rows L2
abbrev sMade : Stmt := topS 50
section
variable {P : Program} {w : World} {K : PySem.W.Frag} {mg : Str → Option Value} {base : Heap}
/-! ### Machine(a, b, c, firsts=.., lasts=..) -/
theorem kb_made {f : Addr} {fd : FuncData} {dvs : List V} {kws : List (Str × V)} (F : FunD K "__init__" "Machine.__init__" (defArgs sMInit) (defBody sMInit) (defScope sMInit) dvs kws f fd) (hd : dvs ≠ []) (h1 : dvs.length = 1) :
    ∃ g : List Value → List Value → List Value, KBn K fd psMI 4 ["firsts", "lasts"] g (fun vs zs => vs ++ zs) := by
  obtain ⟨its, h⟩ := F.kbindsD (ps := psMI) 4 ["firsts", "lasts"] (fun us _ ws => us ++ ws) hd (fun r1 _ r3 => r1.append r3) (fun T kV doc pm an cdv ct us its ws l1 l2 l3 => by
    rw [h1] at l2
    match us, l1, ws, l3, its, l2 with
    | [a, b, c, d], _, [e, f], _, [z], _ => exact ⟨_, rfl, rfl⟩)
  exact ⟨_, h⟩
theorem kb_made2 {f : Addr} {fd : FuncData} {dvs : List V} {kws : List (Str × V)} (F : FunD K "__init__" "Machine.__init__" (defArgs sMInit) (defBody sMInit) (defScope sMInit) dvs kws f fd) (hd : dvs ≠ []) (h1 : dvs.length = 1) :
    ∃ g : List Value → List Value → List Value, KBn K fd psMI 4 ["lasts", "firsts"] g (fun vs zs => vs ++ zs.reverse) := by
  obtain ⟨its, h⟩ := F.kbindsD (ps := psMI) 4 ["lasts", "firsts"] (fun us _ ws => us ++ ws.reverse) hd (fun r1 _ r3 => r1.append r3.reverse) (fun T kV doc pm an cdv ct us its ws l1 l2 l3 => by
    rw [h1] at l2
    match us, l1, ws, l3, its, l2 with
    | [a, b, c, d], _, [e, f], _, [z], _ => exact ⟨_, rfl, rfl⟩)
  exact ⟨_, h⟩
/-- the class and what its making needs -/
structure MkM (K : PySem.W.Frag) (mg : Str → Option Value) (C : Addr) (fdI : FuncData) (fI : Addr) (dvs : List V) (kws : List (Str × V)) : Prop where
  F : FunD K "__init__" "Machine.__init__" (defArgs sMInit) (defBody sMInit) (defScope sMInit) dvs kws fI fdI
  mak : Mk K C fI
  g : mg "Machine" = some (.ref C)
  cl : ClsM K C
  nd : dvs ≠ []
  one : dvs.length = 1
/-! ### _law_made -/
theorem scMade : FnScope ["_law_m"] ["_law_m"] (defScope sMade) := ⟨rfl, rfl, rfl, by decide +kernel, rfl, by decide +kernel, by decide +kernel⟩
def spMade (K : PySem.W.Frag) (C : Addr) : Sp := fun vs H Q _ => ∃ (t : Addr) (M : AM), vs = [.ref t] ∧ DrawnAt K H t M ∧ M.ok ∧ ∀ (m : Addr) H', H m = none → Same H H' → MachAt K C H' m M.srt → Q (.ref m) H'
theorem ok_made {f fI C : Addr} {fd fdI : FuncData} {k : Nat} {dvs : List V} {kws : List (Str × V)} (F : Fun K "_law_made" "_law_made" sMade f fd) (T : MkM K mg C fdI fI dvs kws) (GI : FnOk P w K mg base CX0 k fI fdI psMI (spMInit K C)) (ml : mg "list" = none) : FnOk P w K mg base CX0 (k + 2) f fd ["_law_m"] (spMade K C) := by
  obtain ⟨gg, KB⟩ := kb_made T.F T.nd T.one
  refine F.ok scMade (fun vs H Q E h => ?_) (fun cdv A outer s H vs Q E hr h => ?_)
  · obtain ⟨t, M, rfl, _⟩ := h
    rfl
  · obtain ⟨t, M, rfl, D, ok, q⟩ := h
    refine ⟨_, pss_one (ps_ret (pe_makeN (n := 3) (ks := ["firsts", "lasts"]) T.mak GI hr (by rfl) T.g KB pass0
      (pa_cons (pe_ix ix_tup (pv 0) pe_int (fun _ _ => rfl)) (pa_cons (pe_ix ix_tup (pv 0) pe_int (fun _ _ => rfl)) (pa_cons (pe_callTy call_list_of (by rfl) ml (by decide +kernel) (pa_cons (pe_ix ix_tup (pv 0) pe_int (fun _ _ => rfl)) pa_nil)) pa_nil)))
      (pk_cons (pe_callTy call_list_of (by rfl) ml (by decide +kernel) (pa_cons (pe_ix ix_tup (pv 0) pe_int (fun _ _ => rfl)) pa_nil)) (pk_cons (pe_callTy call_list_of (by rfl) ml (by decide +kernel) (pa_cons (pe_ix ix_tup (pv 0) pe_int (fun _ _ => rfl)) pa_nil)) pk_nil)))), ?_⟩
    obtain ⟨la, lf, lg, ps, h1, h2, h3, h4, h5, h6⟩ := D
    refine ⟨_, rfl, t, _, 0, _, rfl, rfl, SqT.of h1, rfl, ?_⟩
    refine ⟨_, rfl, t, _, 1, _, rfl, rfl, SqT.of h1, rfl, ?_⟩
    refine ⟨_, rfl, t, _, 2, _, rfl, rfl, SqT.of h1, rfl, la, rfs ps, rfl, .inl (SqL.of h2), fun p1 n1 => ?_⟩
    have s1 := same_upd (o := .lst (rfs ps)) n1
    refine ⟨_, rfl, t, _, 3, _, rfl, rfl, SqT.of (s1 _ _ h1), rfl, lf, M.fs.map V.int, rfl, .inl (SqL.of (s1 _ _ h5)), fun p2 n2 => ?_⟩
    have s2 := same_upd (o := .lst (M.fs.map V.int)) n2
    refine ⟨_, rfl, t, _, 4, _, rfl, rfl, SqT.of (s2 _ _ (s1 _ _ h1)), rfl, lg, M.gs.map V.int, rfl, .inl (SqL.of (s2 _ _ (s1 _ _ h6))), fun p3 n3 => ?_⟩
    have s3 := same_upd (o := .lst (M.gs.map V.int)) n3
    refine ⟨rfl, rfl, fun x dx nx ndx ne => ?_⟩
    have e1 := s3 _ _ (s2 _ _ (upd_same (H := H) (a := p1) (o := .lst (rfs ps))))
    have e2 := s3 _ _ (upd_same (H := upd H p1 (.lst (rfs ps))) (a := p2) (o := .lst (M.fs.map V.int)))
    have e3 : upd (upd (upd H p1 (.lst (rfs ps))) p2 (.lst (M.fs.map V.int))) p3 (.lst (M.gs.map V.int)) p3 = some (.lst (M.gs.map V.int)) := upd_same
    have s13 := (s1.trans s2).trans s3
    generalize upd (upd (upd H p1 (.lst (rfs ps))) p2 (.lst (M.fs.map V.int))) p3 (.lst (M.gs.map V.int)) = H3 at nx ndx e1 e2 e3 s13
    have sx : Same H3 (upd (upd H3 dx (.own x)) x (.ins C dx [])) := fun b o hb => by
      rw [upd_ne (ne_of_none hb nx), upd_ne (ne_of_none hb ndx)]
      exact hb
    refine ⟨x, dx, p1, p2, p3, ps, M, rfl, upd_same, .inl (SqL.of (sx _ _ e1)), (h3.same s13).same sx, h4, .inl (SqL.of (sx _ _ e2)), .inl (SqL.of (sx _ _ e3)), ok, fun H' k' mm => ⟨rfl, q x H' (s13.free nx) (fun b o hb => ?_) mm⟩⟩
    have hb3 := s13 _ _ hb
    exact k' _ _ (ne_of_none hb3 nx) (sx _ _ hb3)
end
end Onp
set_option autoImplicit false
/-! boards: triples of which none undercuts another -/
namespace Onp
open PySem PySem.Spec PyProof.Rows L2
abbrev Tri : Type := Int × Int × Int
def tI (t : Tri) : List Int := [t.1, t.2.1, t.2.2]
def bigB : Int := 10000000000000000000000000000000000000000
def okT (t : Tri) : Prop := (0 ≤ t.1 ∧ t.1 < bigB) ∧ (0 ≤ t.2.1 ∧ t.2.1 < bigB) ∧ (0 ≤ t.2.2 ∧ t.2.2 < bigB)
/-- the place in the order of tuples -/
def cd (t : Tri) : Int := TS.code bigB (tI t)
theorem cd_eq (t : Tri) : cd t = t.1 * (bigB * bigB) + t.2.1 * bigB + t.2.2 := by
  unfold cd tI
  simp only [TS.code, List.length_cons, List.length_nil]
  rw [show bigB ^ (0 + 1 + 1) = bigB * bigB from by rw [Int.pow_succ, Int.pow_succ, Int.pow_zero, Int.one_mul], show bigB ^ (0 + 1) = bigB from by rw [Int.pow_succ, Int.pow_zero, Int.one_mul], show bigB ^ 0 = 1 from Int.pow_zero _]
  omega
theorem bd_of {t : Tri} (h : okT t) : TS.Bd bigB (tI t) := fun m hm => by
  unfold tI at hm
  simp only [List.mem_cons, List.not_mem_nil, or_false] at hm
  rcases hm with rfl | rfl | rfl
  · exact h.1
  · exact h.2.1
  · exact h.2.2
theorem cd_lex {x y : Tri} (hx : okT x) (hy : okT y) (h : cd x ≤ cd y) : x.1 < y.1 ∨ (x.1 = y.1 ∧ (x.2.1 < y.2.1 ∨ (x.2.1 = y.2.1 ∧ x.2.2 ≤ y.2.2))) := by
  obtain ⟨⟨a0, a1⟩, ⟨b0, b1⟩, ⟨c0, c1⟩⟩ := hx
  obtain ⟨⟨d0, d1⟩, ⟨e0, e1⟩, ⟨f0, f1⟩⟩ := hy
  rw [cd_eq, cd_eq] at h
  unfold bigB at *
  omega
theorem cd_inj {x y : Tri} (hx : okT x) (hy : okT y) (h : cd x = cd y) : x = y := by
  obtain ⟨⟨a0, a1⟩, ⟨b0, b1⟩, ⟨c0, c1⟩⟩ := hx
  obtain ⟨⟨d0, d1⟩, ⟨e0, e1⟩, ⟨f0, f1⟩⟩ := hy
  rw [cd_eq, cd_eq] at h
  unfold bigB at *
  obtain ⟨x1, x2, x3⟩ := x
  obtain ⟨y1, y2, y3⟩ := y
  simp only at *
  have h1 : x1 = y1 := by omega
  have h2 : x2 = y2 := by omega
  have h3 : x3 = y3 := by omega
  rw [h1, h2, h3]
def dom (x y : Tri) : Prop := x.1 = y.1 ∧ x.2.1 ≤ y.2.1 ∧ x.2.2 ≤ y.2.2
instance (x y : Tri) : Decidable (dom x y) := by unfold dom; exact inferInstance
def Mini (S : List Tri) (x : Tri) : Prop := x ∈ S ∧ ∀ y ∈ S, dom y x → y = x
/-- the board of S -/
def IsLeast (S L : List Tri) : Prop := L.Pairwise (fun a b => cd a < cd b) ∧ ∀ x, x ∈ L ↔ Mini S x
theorem sorted_eq : ∀ {L M : List Tri}, L.Pairwise (fun a b => cd a < cd b) → M.Pairwise (fun a b => cd a < cd b) → (∀ x, x ∈ L ↔ x ∈ M) → L = M
  | [], [], _, _, _ => rfl
  | [], y :: ys, _, _, h => absurd ((h y).mpr List.mem_cons_self) (fun z => nomatch z)
  | x :: xs, [], _, _, h => absurd ((h x).mp List.mem_cons_self) (fun z => nomatch z)
  | x :: xs, y :: ys, p, q, h => by
    have p' := List.pairwise_cons.mp p
    have q' := List.pairwise_cons.mp q
    have e : x = y := by
      rcases List.mem_cons.mp ((h x).mp List.mem_cons_self) with e | hx
      · exact e
      rcases List.mem_cons.mp ((h y).mpr List.mem_cons_self) with e | hy
      · exact e.symm
      have a := p'.1 y hy
      have b := q'.1 x hx
      omega
    subst e
    have ih := sorted_eq p'.2 q'.2 fun z => by
      constructor
      · intro hz
        rcases List.mem_cons.mp ((h z).mp (List.mem_cons_of_mem _ hz)) with e | hz'
        · have := p'.1 z hz
          rw [e] at this
          omega
        · exact hz'
      · intro hz
        rcases List.mem_cons.mp ((h z).mpr (List.mem_cons_of_mem _ hz)) with e | hz'
        · have := q'.1 z hz
          rw [e] at this
          omega
        · exact hz'
    rw [ih]
theorem IsLeast.uniq {S L M : List Tri} (h : IsLeast S L) (h' : IsLeast S M) : L = M := sorted_eq h.1 h'.1 fun x => (h.2 x).trans (h'.2 x).symm
theorem IsLeast.perm {S S' L : List Tri} (h : IsLeast S L) (e : ∀ x, x ∈ S ↔ x ∈ S') : IsLeast S' L := ⟨h.1, fun x => (h.2 x).trans ⟨fun m => ⟨(e x).mp m.1, fun y hy d => m.2 y ((e y).mpr hy) d⟩, fun m => ⟨(e x).mpr m.1, fun y hy d => m.2 y ((e y).mp hy) d⟩⟩⟩
/-! ### going along a rising row -/
def puts (K : List Tri) (t : Tri) : Bool := match K.getLast? with
  | none => true
  | some b => decide (b.1 ≠ t.1) || decide (t.2.2 < b.2.2)
def stepK (K : List Tri) (t : Tri) : List Tri := if puts K t = true then K ++ [t] else K
structure Run (P K : List Tri) : Prop where
  mini : ∀ k ∈ K, Mini P k
  all : ∀ p ∈ P, ∃ k ∈ K, dom k p
  srt : K.Pairwise (fun a b => cd a < cd b)
  last : ∀ b, K.getLast? = some b → b ∈ P ∧ ∀ p ∈ P, p.1 ≤ b.1 ∧ (p.1 = b.1 → b.2.2 ≤ p.2.2)
theorem run_nil : Run [] [] := ⟨(fun _ h => nomatch h), (fun _ h => nomatch h), .nil, (fun _ h => nomatch h)⟩
theorem run_step {P K : List Tri} {t : Tri} (R : Run P K) (hP : ∀ p ∈ P, okT p ∧ cd p ≤ cd t) (ht : okT t) : Run (P ++ [t]) (stepK K t) := by
  have lex : ∀ p ∈ P, p.1 < t.1 ∨ (p.1 = t.1 ∧ (p.2.1 < t.2.1 ∨ (p.2.1 = t.2.1 ∧ p.2.2 ≤ t.2.2))) := fun p hp => cd_lex (hP p hp).1 ht (hP p hp).2
  -- what was least stays
  have stay : ∀ k ∈ K, Mini (P ++ [t]) k := fun k hk => by
    obtain ⟨h1, h2⟩ := R.mini k hk
    refine ⟨List.mem_append_left _ h1, fun y hy d => ?_⟩
    rcases List.mem_append.mp hy with hy | hy
    · exact h2 y hy d
    · rw [List.mem_singleton.mp hy] at d ⊢
      obtain ⟨d1, d2, d3⟩ := d
      have l := lex k h1
      obtain ⟨k1, k2, k3⟩ := k
      obtain ⟨t1, t2, t3⟩ := t
      simp only at *
      have e1 : t1 = k1 := d1
      have e2 : t2 = k2 := by omega
      have e3 : t3 = k3 := by omega
      rw [e1, e2, e3]
  unfold stepK puts
  cases hl : K.getLast? with
  | none =>
    have eK : K = [] := List.getLast?_eq_none_iff.mp hl
    subst eK
    have eP : P = [] := by
      cases P with
      | nil => rfl
      | cons p r =>
        obtain ⟨k, hk, _⟩ := R.all p List.mem_cons_self
        cases hk
    subst eP
    refine ⟨fun k hk => ?_, fun p hp => ⟨t, by simp, ?_⟩, by simp, fun b hb => ?_⟩
    · have e : k = t := by simpa using hk
      subst e
      exact ⟨by simp, fun y hy _ => by simpa using hy⟩
    · have e : p = t := by simpa using hp
      rw [e]
      exact ⟨rfl, Int.le_refl _, Int.le_refl _⟩
    · have e : t = b := by simpa using hb
      subst e
      refine ⟨by simp, fun p hp => ?_⟩
      have e : p = t := by simpa using hp
      rw [e]
      exact ⟨Int.le_refl _, fun _ => Int.le_refl _⟩
  | some b =>
    obtain ⟨hbP, hb⟩ := R.last b hl
    have hbK : b ∈ K := List.mem_of_getLast? hl
    dsimp only
    by_cases hc : b.1 ≠ t.1 ∨ t.2.2 < b.2.2
    · have hc' : (decide (b.1 ≠ t.1) || decide (t.2.2 < b.2.2)) = true := by
        rw [Bool.or_eq_true, decide_eq_true_eq, decide_eq_true_eq]
        exact hc
      rw [if_pos hc']
      have lb := lex b hbP
      have tmin : ∀ y ∈ P, ¬ dom y t := fun y hy d => by
        have a := hb y hy
        obtain ⟨d1, d2, d3⟩ := d
        rcases hc with h | h
        · omega
        · by_cases e : b.1 = t.1
          · have := a.2 (by omega)
            omega
          · omega
      refine ⟨fun k hk => ?_, fun p hp => ?_, ?_, fun b' hb' => ?_⟩
      · rcases List.mem_append.mp hk with hk | hk
        · exact stay k hk
        · rw [List.mem_singleton.mp hk]
          refine ⟨List.mem_append_right _ (List.mem_singleton.mpr rfl), fun y hy d => ?_⟩
          rcases List.mem_append.mp hy with hy | hy
          · exact absurd d (tmin y hy)
          · exact List.mem_singleton.mp hy
      · rcases List.mem_append.mp hp with hp | hp
        · obtain ⟨k, hk, d⟩ := R.all p hp
          exact ⟨k, List.mem_append_left _ hk, d⟩
        · rw [List.mem_singleton.mp hp]
          exact ⟨t, List.mem_append_right _ (List.mem_singleton.mpr rfl), rfl, Int.le_refl _, Int.le_refl _⟩
      · rw [List.pairwise_append]
        refine ⟨R.srt, List.pairwise_singleton _ _, fun k hk x hx => ?_⟩
        rw [List.mem_singleton.mp hx]
        have hkP := (R.mini k hk).1
        have le := (hP k hkP).2
        rcases Int.lt_or_eq_of_le le with q | q
        · exact q
        · have e := cd_inj (hP k hkP).1 ht q
          exact absurd ⟨by rw [e], by rw [e]; exact Int.le_refl _, by rw [e]; exact Int.le_refl _⟩ (tmin k hkP)
      · rw [List.getLast?_concat] at hb'
        obtain rfl := Option.some.inj hb'
        refine ⟨List.mem_append_right _ (List.mem_singleton.mpr rfl), fun p hp => ?_⟩
        rcases List.mem_append.mp hp with hp | hp
        · have l := lex p hp
          have a := hb p hp
          refine ⟨by omega, fun e => ?_⟩
          rcases hc with h | h
          · omega
          · by_cases e2 : b.1 = t.1
            · have := a.2 (by omega)
              omega
            · omega
        · rw [List.mem_singleton.mp hp]
          exact ⟨Int.le_refl _, fun _ => Int.le_refl _⟩
    · have hc' : ¬ (decide (b.1 ≠ t.1) || decide (t.2.2 < b.2.2)) = true := by
        rw [Bool.or_eq_true, decide_eq_true_eq, decide_eq_true_eq]
        exact hc
      rw [if_neg hc']
      have e1 : b.1 = t.1 := Classical.byContradiction fun z => hc (.inl z)
      have e2 : b.2.2 ≤ t.2.2 := Int.not_lt.mp fun z => hc (.inr z)
      have lb := lex b hbP
      refine ⟨stay, fun p hp => ?_, R.srt, fun b' hb' => ?_⟩
      · rcases List.mem_append.mp hp with hp | hp
        · exact R.all p hp
        · rw [List.mem_singleton.mp hp]
          exact ⟨b, hbK, e1, by omega, e2⟩
      · rw [hl] at hb'
        obtain rfl := Option.some.inj hb'
        refine ⟨List.mem_append_left _ hbP, fun p hp => ?_⟩
        rcases List.mem_append.mp hp with hp | hp
        · exact hb p hp
        · rw [List.mem_singleton.mp hp]
          exact ⟨by omega, fun _ => e2⟩
theorem Run.least {P K : List Tri} (R : Run P K) : IsLeast P K := by
  refine ⟨R.srt, fun x => ⟨R.mini x, fun m => ?_⟩⟩
  obtain ⟨k, hk, d⟩ := R.all x m.1
  rw [← m.2 k (R.mini k hk).1 d]
  exact hk
end Onp
set_option maxHeartbeats 4000000
set_option autoImplicit false
/-! tables of sets with up to 2048 slots -/
namespace Onp
open PySem PySem.Spec PyProof.Rows L2
/-! ### every slot is come to from every other one -/
theorem lcgI_shift (m x : Nat) : ∀ b, lcgI m ((x * 5 + 1) % (m + 1)) b = lcgI m x (b + 1)
  | 0 => rfl
  | b + 1 => by
    show (lcgI m ((x * 5 + 1) % (m + 1)) b * 5 + 1) % (m + 1) = (lcgI m x (b + 1) * 5 + 1) % (m + 1)
    rw [lcgI_shift m x b]
/-- the slots of a round, as bits -/
def orb (m : Nat) : Nat → Nat → Nat → Nat
  | 0, _, acc => acc
  | k + 1, x, acc => orb m k ((x * 5 + 1) % (m + 1)) (acc ||| 2 ^ x)
theorem orb_bit (m j : Nat) : ∀ (k x acc : Nat), (orb m k x acc).testBit j = true → acc.testBit j = true ∨ ∃ b, b < k ∧ lcgI m x b = j
  | 0, _, _, h => .inl h
  | k + 1, x, acc, h => by
    rcases orb_bit m j k _ _ h with h | ⟨b, hb, e⟩
    · rw [Nat.testBit_or, Bool.or_eq_true] at h
      rcases h with h | h
      · exact .inl h
      · rw [Nat.testBit_two_pow, decide_eq_true_eq] at h
        exact .inr ⟨0, Nat.succ_pos _, h⟩
    · exact .inr ⟨b + 1, Nat.succ_lt_succ hb, by rw [← lcgI_shift]; exact e⟩
def MaskW (m : Nat) : Prop := m = 7 ∨ m = 31 ∨ m = 127 ∨ m = 511 ∨ m = 2047
theorem orb_7 : orb 7 8 0 0 = 2 ^ 8 - 1 := by decide +kernel
theorem orb_31 : orb 31 32 0 0 = 2 ^ 32 - 1 := by decide +kernel
theorem orb_127 : orb 127 128 0 0 = 2 ^ 128 - 1 := by decide +kernel
theorem orb_511 : orb 511 512 0 0 = 2 ^ 512 - 1 := by decide +kernel
theorem orb_2047 : orb 2047 2048 0 0 = 2 ^ 2048 - 1 := by decide +kernel
theorem orb_full {m : Nat} (hm : MaskW m) : orb m (m + 1) 0 0 = 2 ^ (m + 1) - 1 := by
  rcases hm with rfl | rfl | rfl | rfl | rfl
  · exact orb_7
  · exact orb_31
  · exact orb_127
  · exact orb_511
  · exact orb_2047
theorem from0 {m : Nat} (hm : MaskW m) {j : Nat} (hj : j ≤ m) : ∃ b, b ≤ m ∧ lcgI m 0 b = j := by
  rcases orb_bit m j (m + 1) 0 0 (by rw [orb_full hm, Nat.testBit_two_pow_sub_one, decide_eq_true_eq]; omega) with h | ⟨b, hb, e⟩
  · rw [Nat.zero_testBit] at h
    cases h
  · exact ⟨b, by omega, e⟩
theorem lcgI_le (m x : Nat) (hx : x ≤ m) : ∀ b, lcgI m x b ≤ m
  | 0 => hx
  | b + 1 => Nat.le_of_lt_succ (Nat.mod_lt _ (Nat.succ_pos _))
theorem lcgI_two (m x a : Nat) : ∀ b, lcgI m (lcgI m x a) b = lcgI m x (a + b)
  | 0 => rfl
  | b + 1 => by
    show (lcgI m (lcgI m x a) b * 5 + 1) % (m + 1) = (lcgI m x (a + b) * 5 + 1) % (m + 1)
    rw [lcgI_two m x a b]
/-- a round comes back -/
theorem round0 {m : Nat} (hm : MaskW m) : lcgI m 0 (m + 1) = 0 := by
  rcases hm with rfl | rfl | rfl | rfl | rfl <;> decide +kernel
theorem from_any {m : Nat} (hm : MaskW m) {i j : Nat} (hi : i ≤ m) (hj : j ≤ m) : ∃ k, k ≤ m ∧ lcgI m i k = j := by
  obtain ⟨a, ha, ea⟩ := from0 hm hi
  obtain ⟨b, hb, eb⟩ := from0 hm hj
  by_cases c : a ≤ b
  · exact ⟨b - a, by omega, by rw [← ea, lcgI_two, show a + (b - a) = b by omega]; exact eb⟩
  · refine ⟨m + 1 - a + b, by omega, ?_⟩
    rw [← ea, lcgI_two, show a + (m + 1 - a + b) = m + 1 + b by omega, ← lcgI_two, round0 hm]
    exact eb
/-- each slot begins a run soon -/
def Meets (m : Nat) : Prop := ∀ (h : Int) (j : Nat), j ≤ m → ∃ n, n ≤ m + 12 ∧ runI m (SetTable.bits h) n = j
theorem meets {m : Nat} (hm : MaskW m) : Meets m := fun h j hj => by
  obtain ⟨k, hk, e⟩ := from_any hm (runI_le m (SetTable.bits h) 12) hj
  exact ⟨12 + k, by omega, (runI_tail (bits_lt h) k).trans e⟩
theorem on_way {m : Nat} (M : Meets m) (h : Int) {j : Nat} (hj : j ≤ m) : ∃ k, k < 10 * SetTable.turns m ∧ way m h k = j := by
  obtain ⟨n, hn, e⟩ := M h j hj
  obtain ⟨k, hk, e2⟩ := run_nth m (SetTable.bits h) n
  refine ⟨k, ?_, ?_⟩
  · unfold SetTable.turns
    omega
  · show (nth m (runAt m (SetTable.bits h % (m + 1)) (SetTable.bits h)) k).j = j
    rw [e2]
    exact e
theorem way_in {m : Nat} (h : Int) (k : Nat) : way m h k ≤ m := by
  have hb : SetTable.bits h % (m + 1) ≤ m := Nat.le_of_lt_succ (Nat.mod_lt _ (Nat.succ_pos _))
  have e := runEnd_bd hb
  have := nth_in (m := m) k (runAt m (SetTable.bits h % (m + 1)) (SetTable.bits h)) (show SetTable.bits h % (m + 1) + (SetTable.runEnd m (SetTable.bits h % (m + 1)) - SetTable.bits h % (m + 1)) ≤ m by omega)
  exact Nat.le_trans (Nat.le_add_right _ _) this
/-! ### a table whose slots all are found again -/
structure TabW (t : SetTable) (hs : List Int) : Prop where
  ris : Ris t.place.toList
  dm : t.dummies = #[]
  sz : t.place.size = hs.length
  mok : MaskW t.mask
  bd : ∀ x ∈ t.place.toList, x ≤ t.mask
  reach : ∀ (i : Nat) (h : Int) (j : Nat), hs[i]? = some h → t.place.toList[i]? = some j → ∃ k, way t.mask h k = j ∧ ∀ k', k' < k → way t.mask h k' ∈ t.place.toList
variable {t : SetTable} {hs : List Int}
theorem TabW.first (T : TabW t hs) (hl : hs.length ≤ t.mask) (h : Int) : ∃ K, K < 10 * SetTable.turns t.mask ∧ way t.mask h K ∉ t.place.toList ∧ ∀ k, k < K → way t.mask h k ∈ t.place.toList := by
  obtain ⟨j, hj, free⟩ := st_missing t.place.toList (t.mask + 1) (by rw [Array.length_toList, T.sz]; omega)
  obtain ⟨k, hk, e⟩ := on_way (meets T.mok) h (Nat.le_of_lt_succ hj)
  obtain ⟨K, kK, atK, least⟩ := st_least (p := fun k => way t.mask h k ∉ t.place.toList) k (fun z => free (e ▸ z))
  exact ⟨K, Nat.lt_of_le_of_lt kK hk, atK, fun k' lt => Classical.not_not.mp (least k' lt)⟩
theorem TabW.before (T : TabW t hs) {h : Int} {K i j : Nat} (hK : way t.mask h K ∉ t.place.toList) (hi : hs[i]? = some h) (hj : t.place.toList[i]? = some j) : ∃ k, k < K ∧ way t.mask h k = j := by
  obtain ⟨k, e, hb⟩ := T.reach i h j hi hj
  refine ⟨k, Nat.lt_of_not_le fun le => ?_, e⟩
  rcases Nat.eq_or_lt_of_le le with z | z
  · rw [z, e] at hK
    exact hK (List.mem_of_getElem? hj)
  · exact hK (hb K z)
/-- one more put in at the first free slot of its way -/
theorem TabW.put (T : TabW t hs) {h : Int} {K : Nat} (hK : way t.mask h K ∉ t.place.toList) (hb : ∀ k, k < K → way t.mask h k ∈ t.place.toList) :
    (t.put (way t.mask h K)).2 = SetTable.below t.place (way t.mask h K) ∧ SetTable.below t.place (way t.mask h K) ≤ hs.length ∧
    TabW (t.put (way t.mask h K)).1 (hs.take (SetTable.below t.place (way t.mask h K)) ++ h :: hs.drop (SetTable.below t.place (way t.mask h K))) ∧
    (t.put (way t.mask h K)).1.mask = t.mask ∧ (t.put (way t.mask h K)).1.led = t.led ∧ (t.put (way t.mask h K)).1.plain = t.plain ∧ (t.put (way t.mask h K)).1.moves = t.moves ∧ (t.put (way t.mask h K)).1.finger = t.finger ∧
    (t.put (way t.mask h K)).1.fill = hs.length + 1 := by
  have jm : way t.mask h K ≤ t.mask := way_in h K
  generalize ej : way t.mask h K = j at hK jm
  obtain ⟨cut, _, _⟩ := below_cut T.ris j
  have len : t.place.toList.length = hs.length := by rw [Array.length_toList, T.sz]
  have cutP : SetTable.below t.place j ≤ t.place.toList.length := by rw [Array.length_toList]; exact cut
  have cutH : SetTable.below t.place j ≤ hs.length := by rw [← len]; exact cutP
  have other : t.place[SetTable.below t.place j]? ≠ some j := fun e => hK (List.mem_of_getElem? (by rw [Array.getElem?_toList]; exact e))
  have laid := put_place t j
  have size : (t.put j).1.place.size = hs.length + 1 := by rw [← Array.length_toList, laid, len_ins _ cutP, len]
  have more : ∀ x ∈ t.place.toList, x ∈ (t.put j).1.place.toList := fun x hx => by rw [laid]; exact mem_ins.2 (.inr hx)
  refine ⟨rfl, cutH, ⟨ris_insert T.ris other, put_dm T.dm j, by rw [len_ins _ cutH]; exact size, T.mok, fun x hx => ?_, fun i h' j' hi hj => ?_⟩, rfl, rfl, rfl, rfl, rfl, ?_⟩
  · rw [laid] at hx
    rcases mem_ins.1 hx with rfl | hx
    · exact jm
    · exact T.bd x hx
  · rw [tins_get hs cutH] at hi
    rw [laid, tins_get _ cutP] at hj
    show ∃ k, way t.mask h' k = j' ∧ ∀ k', k' < k → way t.mask h' k' ∈ (t.put j).1.place.toList
    have old : ∀ i', hs[i']? = some h' → t.place.toList[i']? = some j' → ∃ k, way t.mask h' k = j' ∧ ∀ k', k' < k → way t.mask h' k' ∈ (t.put j).1.place.toList := fun i' a b => by
      obtain ⟨k, e, z⟩ := T.reach i' h' j' a b
      exact ⟨k, e, fun k' lt => more _ (z k' lt)⟩
    by_cases c : i < SetTable.below t.place j
    · rw [if_pos c] at hi hj
      exact old i hi hj
    · rw [if_neg c] at hi hj
      by_cases d : i = SetTable.below t.place j
      · rw [if_pos d] at hi hj
        cases hi
        cases hj
        exact ⟨K, ej, fun k' lt => more _ (hb k' lt)⟩
      · rw [if_neg d] at hi hj
        exact old (i - 1) hi hj
  · show (t.put j).1.place.size + (t.put j).1.dummies.size = hs.length + 1
    rw [size, put_dm T.dm j]
    rfl
/-! ### all laid anew -/
theorem free_first {m : Nat} (M : Meets m) (owner : Array (Option Nat)) (h : Int) {j : Nat} (hj : j ≤ m) (hf : oAt owner j = none) :
    ∃ K, SetTable.layClean.free m owner (SetTable.turns m) (SetTable.bits h % (m + 1)) (SetTable.bits h) = some (way m h K) ∧ oAt owner (way m h K) = none ∧ ∀ k, k < K → oAt owner (way m h k) ≠ none := by
  obtain ⟨n, hn, e⟩ := M h j hj
  have at_ : way m h (off m (SetTable.bits h % (m + 1)) (SetTable.bits h) n) = j := by
    show (nth m (runAt m (SetTable.bits h % (m + 1)) (SetTable.bits h)) (off m (SetTable.bits h % (m + 1)) (SetTable.bits h) n)).j = j
    rw [nth_off, itL_run]
    exact e
  obtain ⟨K, kK, free, least⟩ := st_least (p := fun k => oAt owner (way m h k) = none) _ (show oAt owner (way m h (off m (SetTable.bits h % (m + 1)) (SetTable.bits h) n)) = none by rw [at_]; exact hf)
  refine ⟨K, free_spec m owner (SetTable.turns m) n _ _ K (by unfold SetTable.turns; omega) kK (fun k lt => ?_) ?_, free, least⟩
  · have := least k lt
    cases z : oAt owner (nth m (runAt m (SetTable.bits h % (m + 1)) (SetTable.bits h)) k).j with
    | none => exact absurd z this
    | some _ => rfl
  · rw [show oAt owner (nth m (runAt m (SetTable.bits h % (m + 1)) (SetTable.bits h)) K).j = none from free]
    rfl
theorem own_more {m : Nat} (M : Meets m) {done : List Int} {owner : Array (Option Nat)} (W : Own m done owner) (hl : done.length ≤ m) (h : Int) :
    ∃ j, SetTable.layClean.free m owner (SetTable.turns m) (SetTable.bits h % (m + 1)) (SetTable.bits h) = some j ∧ Own m (done ++ [h]) (owner.setIfInBounds j (some done.length)) := by
  obtain ⟨ps, lps, all⟩ := W.ps
  obtain ⟨j0, lt0, out⟩ := st_missing ps (m + 1) (by omega)
  have free0 : oAt owner j0 = none := by
    cases z : oAt owner j0 with
    | none => rfl
    | some k => exact absurd (all j0 (Nat.le_of_lt_succ lt0) (by rw [z]; exact fun e => nomatch e)) out
  obtain ⟨K, found, freeK, used⟩ := free_first M owner h (Nat.le_of_lt_succ lt0) free0
  have inK : way m h K ≤ m := way_in h K
  have self := oAt_set_self (owner := owner) (some done.length) (show way m h K < owner.size by rw [W.sz]; exact Nat.lt_succ_of_le inK)
  have stay : ∀ i, oAt owner i ≠ none → oAt (owner.setIfInBounds (way m h K) (some done.length)) i ≠ none := fun i hi => by
    rw [oAt_set_ne _ (show i ≠ way m h K from fun z => hi (by rw [z]; exact freeK))]
    exact hi
  refine ⟨way m h K, found, ?_, fun j k hj e => ?_, fun k hk => ?_, way m h K :: ps, ?_, fun j hj e => ?_⟩
  · rw [Array.size_setIfInBounds]
    exact W.sz
  · by_cases c : j = way m h K
    · rw [c, self] at e
      cases e
      exact ⟨h, K, by rw [List.getElem?_append_right (Nat.le_refl _), Nat.sub_self]; rfl, c.symm, fun k' lt => stay _ (used k' lt)⟩
    · rw [oAt_set_ne _ c] at e
      obtain ⟨h', K', a1, a2, a3⟩ := W.at_ j k hj e
      exact ⟨h', K', by rw [List.getElem?_append_left (List.getElem?_eq_some_iff.mp a1).1]; exact a1, a2, fun k' lt => stay _ (a3 k' lt)⟩
  · rw [List.length_append] at hk
    rcases Nat.lt_or_ge k done.length with c | c
    · obtain ⟨j, hj, e⟩ := W.all k c
      exact ⟨j, hj, by rw [oAt_set_ne _ (fun z => by rw [z, freeK] at e; cases e)]; exact e⟩
    · have : k = done.length := by
        have : k < done.length + 1 := hk
        omega
      exact ⟨way m h K, inK, by rw [this]; exact self⟩
  · rw [List.length_cons, List.length_append, lps]
    rfl
  · by_cases c : j = way m h K
    · rw [c]
      exact List.mem_cons_self
    · rw [oAt_set_ne _ c] at e
      exact List.mem_cons_of_mem _ (all j hj e)
theorem own_all {m : Nat} (M : Meets m) : ∀ (rest done : List Int) (owner : Array (Option Nat)), Own m done owner → done.length + rest.length ≤ m →
    ∃ owner', rest.foldl (stepF m) (some (owner, done.length)) = some (owner', (done ++ rest).length) ∧ Own m (done ++ rest) owner'
  | [], done, owner, W, _ => ⟨owner, by rw [List.append_nil]; rfl, by rw [List.append_nil]; exact W⟩
  | h :: rest, done, owner, W, hl => by
    have hl' : done.length + (rest.length + 1) ≤ m := hl
    obtain ⟨j, e, W1⟩ := own_more M W (by omega) h
    have l1 : (done ++ [h]).length = done.length + 1 := by rw [List.length_append]; rfl
    obtain ⟨owner', f, W2⟩ := own_all M rest (done ++ [h]) _ W1 (by rw [l1]; omega)
    have as : done ++ [h] ++ rest = done ++ h :: rest := by rw [List.append_assoc]; rfl
    rw [as] at f W2
    rw [l1] at f
    exact ⟨owner', by rw [List.foldl_cons, stepF_some e]; exact f, W2⟩
theorem lay_all {m : Nat} (M : Meets m) {hs : Array Int} (hn : hs.size ≤ m) : ∃ owner, SetTable.layClean m hs = some owner ∧ Own m hs.toList owner := by
  obtain ⟨owner, f, W⟩ := own_all M hs.toList [] _ (Own.init m) (by rw [Array.length_toList]; show 0 + hs.size ≤ m; omega)
  refine ⟨owner, ?_, W⟩
  rw [layClean_eq, show hs.toList.foldl (stepF m) (some (Array.replicate (m + 1) none, 0)) = some (owner, ([] ++ hs.toList).length) from f]
  rfl
theorem relaid_w (t : SetTable) {hs : Array Int} {wanted M : Nat} (hw : SetTable.sizeAbove wanted - 1 = M) (hM : MaskW M) (hn : hs.size ≤ M) :
    ∃ t' order, t.relaid hs wanted = some (t', order) ∧ order.toList.Perm (List.range hs.size) ∧ TabW t' (order.toList.map fun i => hs.getD i 0) ∧ t'.mask = M ∧ t'.led = t.led ∧ t'.plain = t.plain ∧ t'.dummies = #[] := by
  obtain ⟨owner, e, W⟩ := lay_all (meets hM) hn
  have new : t.relaid hs wanted = some (tabOf t M owner, ((liveOf M owner).map (·.2)).toArray) := by
    rw [relaid_eq, hw, e]
    rfl
  obtain ⟨rise, below⟩ := ris_live (fun j => owner.getD j none) (List.range (M + 1)) (by
    unfold Ris
    first | exact List.pairwise_lt_range | exact List.pairwise_lt_range _)
  have rise : Ris ((liveOf M owner).map (·.1)) := rise
  have below : ∀ x ∈ (liveOf M owner).map (·.1), x ∈ List.range (M + 1) := below
  have nd : ((liveOf M owner).map (·.1)).Nodup := List.Pairwise.imp (fun h => Nat.ne_of_lt h) rise
  have many : (liveOf M owner).length = hs.size := by
    obtain ⟨ps, lps, all⟩ := W.ps
    have up := nat_nodup_len _ ps nd fun x hx => by
      obtain ⟨⟨y, k⟩, hq, rfl⟩ := List.mem_map.mp hx
      obtain ⟨b1, b2⟩ := (mem_live W.sz).1 hq
      exact all y b1 (by rw [b2]; exact fun z => nomatch z)
    have down := nat_nodup_len (List.range hs.size) ((liveOf M owner).map (·.2)) List.nodup_range fun k hk => by
      obtain ⟨j, b1, b2⟩ := W.all k (by rw [Array.length_toList]; exact List.mem_range.mp hk)
      exact List.mem_map.mpr ⟨(j, k), (mem_live W.sz).2 ⟨b1, b2⟩, rfl⟩
    rw [List.length_map, lps] at up
    rw [List.length_map, List.length_range] at down
    have hz : hs.toList.length = hs.size := rfl
    omega
  refine ⟨_, _, new, perm_range hs.size _ ?_ (fun k hk => ?_), ⟨rise, rfl, ?_, hM, fun x hx => Nat.le_of_lt_succ (List.mem_range.mp (below x hx)), fun i h j hi hj => ?_⟩, rfl, rfl, rfl, rfl⟩
  · show ((liveOf M owner).map (·.2)).length = hs.size
    rw [List.length_map, many]
  · obtain ⟨j, b1, b2⟩ := W.all k (by rw [Array.length_toList]; exact hk)
    exact List.mem_map.mpr ⟨(j, k), (mem_live W.sz).2 ⟨b1, b2⟩, rfl⟩
  · show ((liveOf M owner).map (·.1)).toArray.size = (((liveOf M owner).map (·.2)).map fun i => hs.getD i 0).length
    rw [List.size_toArray, List.length_map, List.length_map, List.length_map]
  · have hi : (((liveOf M owner).map (·.2)).map fun i => hs.getD i 0)[i]? = some h := hi
    have hj : ((liveOf M owner).map (·.1))[i]? = some j := hj
    rw [List.getElem?_map, List.getElem?_map] at hi
    rw [List.getElem?_map] at hj
    cases hq : (liveOf M owner)[i]? with
    | none => rw [hq] at hj; cases hj
    | some q =>
      obtain ⟨y, k⟩ := q
      rw [hq] at hi hj
      cases hj
      have hk : hs.getD k 0 = h := Option.some.inj hi
      obtain ⟨b1, b2⟩ := (mem_live W.sz).1 (List.mem_of_getElem? hq)
      obtain ⟨h0, K, a1, a2, a3⟩ := W.at_ y k b1 b2
      have h00 : h0 = h := by
        rw [← hk, Array.getD_eq_getD_getElem?, ← Array.getElem?_toList, a1]
        rfl
      subst h00
      refine ⟨K, a2, fun k' lt => ?_⟩
      show way M h0 k' ∈ (liveOf M owner).map (·.1)
      cases z : oAt owner (way M h0 k') with
      | none => exact absurd z (a3 k' lt)
      | some k2 => exact List.mem_map.mpr ⟨(way M h0 k', k2), (mem_live W.sz).2 ⟨way_in _ _, z⟩, rfl⟩
theorem grow_5 : SetTable.sizeAbove (SetTable.grown 5) = 32 := by decide +kernel
theorem grow_19 : SetTable.sizeAbove (SetTable.grown 19) = 128 := by decide +kernel
theorem grow_77 : SetTable.sizeAbove (SetTable.grown 77) = 512 := by decide +kernel
theorem grow_307 : SetTable.sizeAbove (SetTable.grown 307) = 2048 := by decide +kernel
end Onp
set_option maxHeartbeats 4000000
set_option autoImplicit false
/-! sets of tuples of ints and texts, fewer than 1200 -/
namespace Onp
open PySem PySem.Spec PyProof.Rows L2
theorem mask_oddW {m : Nat} (h : MaskW m) : m % 2 = 1 := by
  rcases h with e | e | e | e | e <;> subst e <;> rfl
section
variable {P : Program} {w : World} {A : Around} {E : Value → Shared → Prop} {s : Shared}
/-! ### the set -/
structure SetW (P : Program) (w : World) (h : Heap) (a : Addr) (L : List AK) (es : Array (Int × Value)) (ep : Nat) (t : SetTable) : Prop where
  ob : ∃ o, h.get? a = some o ∧ o.ExactSet ∧ o.data = .set es ep t
  rows : es.toList = rowsM P w L
  tab : TabW t (L.map fun p => hM P w p.2)
  nd : (L.map (·.2)).Nodup
  tup : ∀ p ∈ L, IsM P w h p.2 p.1
  led : w.params.followText "set-order" = true ∨ t.led = true
  room : L.length * 5 < t.mask * 3
  few : L.length < 1200
variable {a : Addr} {L : List AK} {es : Array (Int × Value)} {ep : Nat} {t : SetTable}
theorem SetW.fits (R : SetW P w s.heap a L es ep t) : t.fits es.size = true := by
  have z1 := R.tab.sz
  rw [List.length_map] at z1
  have z2 := rowsM_len R.rows
  have z3 := R.room
  exact fitsM R.tab.dm (by omega) (by omega)
theorem SetW.entry (R : SetW P w s.heap a L es ep t) {i : Nat} {p : AK} (h : L[i]? = some p) : es[i]? = some (hM P w p.2, Value.ref p.1) := by
  rw [← Array.getElem?_toList, R.rows]
  unfold rowsM
  rw [List.getElem?_map, h]
  rfl
theorem SetW.gw (R : SetW P w s.heap a L es ep t) : ¬ t.gaveWay = true := by
  unfold SetTable.gaveWay
  rw [mask_oddW R.tab.mok]
  decide
theorem searchW (R : SetW P w s.heap a L es ep t) {x : Addr} {k : List Key} (hx : IsM P w s.heap k x) (hu : A.units < cLine) {K : Nat} (kf : K < 10 * SetTable.turns t.mask)
    (k1 : way t.mask (hM P w k) K ∉ t.place.toList) (k2 : ∀ c, c < K → way t.mask (hM P w k) c ∈ t.place.toList) {Q : SetFound → Shared → Prop}
    (yes : k ∈ L.map (·.2) → Q (.there none) s) (no : k ∉ L.map (·.2) → Q (.free (way t.mask (hM P w k) K) false) s) :
    ∀ (f c : Nat) (stand : Option SetTable.Probe), stand.getD (t.probeStart (hM P w k)) = nth t.mask (str0 t (hM P w k)) c → c ≤ K → K - c < f →
      (∀ (i : Nat) p, L[i]? = some p → p.2 = k → ∃ c', c ≤ c' ∧ c' < K ∧ t.place.toList[i]? = some (way t.mask (hM P w k) c')) →
      wpAny (model P w) A (setSearchFrom a (.ref x) (hM P w k) true f stand) Q E s
  | 0, c, stand, _, _, bad, _ => absurd bad (Nat.not_lt_zero _)
  | f + 1, c, stand, es0, hcK, hf, hre => by
    obtain ⟨ob, g1, gx, g2⟩ := R.ob
    rw [setSearchFrom_succ]
    refine wpAny_bind (wpAny_setState_of g1 g2 R.fits ?_)
    dsimp only
    refine wp_if_neg R.gw ?_
    try refine wpAny_bind (wpAny_pure ?_)
    have nd0 := nth_dummy t.mask c (str0 t (hM P w k)) rfl
    have sh : ∀ q, nth t.mask (nth t.mask (str0 t (hM P w k)) c) q = nth t.mask (str0 t (hM P w k)) (c + q) := fun q => (nth_add t.mask c _ q).symm
    have e1 : ∀ q, (nth t.mask (nth t.mask (str0 t (hM P w k)) c) q).j = way t.mask (hM P w k) (c + q) := fun q => congrArg SetTable.Probe.j (sh q)
    have hat : ∀ (i : Nat) p, L[i]? = some p → (fun i => (es[i]?.map (·.1)).getD 0) i = hM P w p.2 := fun i p hp => by
      show (es[i]?.map (·.1)).getD 0 = _
      rw [R.entry hp]
      rfl
    rcases go_spec t R.tab.ris R.tab.dm (fun i => (es[i]?.map (·.1)).getD 0) (hM P w k) (10 * SetTable.turns t.mask) (K - c) _ nd0 (by omega)
      (fun q hq => by rw [e1]; exact k2 (c + q) (by omega)) (by rw [e1, show c + (K - c) = K by omega]; exact k1) with ⟨q, i, hq, hi, hh, hno, hpr⟩ | ⟨hno, hpr⟩
    · have hpr' : t.probe (fun i => (es[i]?.map (·.1)).getD 0) (hM P w k) (stand.getD (t.probeStart (hM P w k))) = some (.candidate (way t.mask (hM P w k) (c + q)) i (nth t.mask (str0 t (hM P w k)) (c + (q + 1)))) := by
        rw [es0, ← e1, ← sh]
        exact hpr
      rw [hpr']
      dsimp only
      rw [e1] at hi
      have hil : i < L.length := by
        have z1 : i < t.place.toList.length := (List.getElem?_eq_some_iff.mp hi).1
        have z2 := R.tab.sz
        rw [List.length_map] at z2
        rw [Array.length_toList] at z1
        omega
      obtain ⟨p, hp⟩ : ∃ p, L[i]? = some p := ⟨_, List.getElem?_eq_getElem hil⟩
      have pm : p ∈ L := List.mem_of_getElem? hp
      have pt := R.tup p pm
      have rest : wpAny (model P w) A (searchRest a (.ref x) (hM P w k) true f es t (way t.mask (hM P w k) (c + q)) i (nth t.mask (str0 t (hM P w k)) (c + (q + 1)))) Q E s := by
        unfold searchRest
        rw [R.entry hp]
        dsimp only
        refine wpAny_bind (wpAny_holding (wpAny_eqBool_tuple hu pt hx ?_))
        refine wpAny_bind (wpAny_setState_of g1 g2 R.fits ?_)
        dsimp only
        by_cases kk : p.2 = k
        · refine wp_if_pos (by simp [kk]) ?_
          exact wpAny_pure (yes (List.mem_map.mpr ⟨p, pm, kk⟩))
        · refine wp_if_neg (by simp [kk]) ?_
          try refine wpAny_bind (wpAny_pure ?_)
          rw [sameMem]
          dsimp only
          have sl : t.slot (way t.mask (hM P w k) (c + q)) = .live i := slot_live R.tab.ris hi
          simp only [if_true, sl, R.entry hp]
          refine wpAny_bind (wpAny_isSame_ref_self (wpAny_bind (wpAny_pure ?_)))
          simp only [if_true]
          refine wp_if_neg (by simp [kk]) ?_
          refine searchW R hx hu kf k1 k2 yes no f (c + (q + 1)) _ rfl (by omega) (by omega) fun i0 p0 z0 hk0 => ?_
          obtain ⟨c', a1, a2, a3⟩ := hre i0 p0 z0 hk0
          refine ⟨c', ?_, a2, a3⟩
          by_cases y1 : c' < c + q
          · exfalso
            refine hno (c' - c) i0 (by omega) (by rw [e1, show c + (c' - c) = c' by omega]; exact a3) ?_
            exact (hat i0 p0 z0).trans (congrArg (hM P w) hk0)
          · by_cases y2 : c + q < c'
            · omega
            · exfalso
              have ec : c' = c + q := by omega
              rw [ec] at a3
              have s0 := slot_live R.tab.ris a3
              rw [sl] at s0
              injection s0 with s0
              rw [← s0, hp] at z0
              rw [← Option.some.inj z0] at hk0
              exact kk hk0
      by_cases hl : t.led = true
      · refine wp_if_neg (by simp [hl]) ?_
        try refine wpAny_bind (wpAny_pure ?_)
        exact rest
      · refine wp_if_pos (by simp [hl]) (wpAny_bind (seenM hx (fun y hy => ?_) ?_))
        · obtain ⟨e, he, ee⟩ := List.mem_map.mp hy
          have he1 : e ∈ es ∧ e.1 = hM P w k := by simpa using he
          have he2 : e ∈ es.toList := by simpa using he1.1
          rw [R.rows] at he2
          obtain ⟨p2, m2, q2⟩ := List.mem_map.mp he2
          exact ⟨p2.2, p2.1, by rw [← ee, ← q2], R.tup p2 m2⟩
        · refine wp_if_neg (by decide) ?_
          try refine wpAny_bind (wpAny_pure ?_)
          exact rest
    · have hpr' : t.probe (fun i => (es[i]?.map (·.1)).getD 0) (hM P w k) (stand.getD (t.probeStart (hM P w k))) = some (.empty (way t.mask (hM P w k) K) none) := by
        have e2 : way t.mask (hM P w k) K = (nth t.mask (nth t.mask (str0 t (hM P w k)) c) (K - c)).j := by
          rw [e1, show c + (K - c) = K by omega]
        rw [es0, e2]
        exact hpr
      rw [hpr']
      dsimp only
      refine wpAny_pure (no fun hm => ?_)
      obtain ⟨p0, z0, hk0⟩ := List.mem_map.mp hm
      obtain ⟨i0, hi0⟩ := List.mem_iff_getElem?.mp z0
      obtain ⟨c', a1, a2, a3⟩ := hre i0 p0 hi0 hk0
      refine hno (c' - c) i0 (by omega) (by rw [e1, show c + (c' - c) = c' by omega]; exact a3) ?_
      exact (hat i0 p0 hi0).trans (congrArg (hM P w) hk0)
theorem searchW0 (R : SetW P w s.heap a L es ep t) {x : Addr} {k : List Key} (hx : IsM P w s.heap k x) (hu : A.units < cLine) {Q : SetFound → Shared → Prop}
    (yes : k ∈ L.map (·.2) → Q (.there none) s)
    (no : ∀ K, k ∉ L.map (·.2) → way t.mask (hM P w k) K ∉ t.place.toList → (∀ c, c < K → way t.mask (hM P w k) c ∈ t.place.toList) → Q (.free (way t.mask (hM P w k) K) false) s) :
    wpAny (model P w) A (setSearch a (.ref x) (hM P w k) true) Q E s := by
  have z3 := R.room
  obtain ⟨K, kf, k1, k2⟩ := R.tab.first (by rw [List.length_map]; omega) (hM P w k)
  have big : K < 100000 := by
    have : 10 * SetTable.turns t.mask ≤ 20620 := by
      unfold SetTable.turns
      rcases R.tab.mok with e | e | e | e | e <;> omega
    omega
  unfold setSearch
  refine searchW R hx hu kf k1 k2 yes (fun z => no K z k1 k2) 100000 0 none rfl (Nat.zero_le _) (by omega) fun i p hp hk => ?_
  have hi : (L.map fun p => hM P w p.2)[i]? = some (hM P w k) := by
    rw [List.getElem?_map, hp, ← hk]
    rfl
  have hil : i < t.place.toList.length := by
    have z1 : i < L.length := (List.getElem?_eq_some_iff.mp hp).1
    have z2 := R.tab.sz
    rw [List.length_map] at z2
    rw [Array.length_toList]
    omega
  obtain ⟨c, hc, e⟩ := R.tab.before k1 hi (List.getElem?_eq_getElem hil)
  exact ⟨c, Nat.zero_le _, hc, by rw [List.getElem?_eq_getElem hil, e]⟩
theorem relayW {o : Obj} (g1 : s.heap.get? a = some o) (gx : o.ExactSet) (g2 : o.data = .set es ep t) (hr : es.toList = rowsM P w L) (z1 : t.place.size = es.size) (z2 : t.dummies = #[]) (z3 : es.size ≤ t.mask)
    (nd : (L.map (·.2)).Nodup) (tup : ∀ p ∈ L, IsM P w s.heap p.2 p.1) (ld : w.params.followText "set-order" = true ∨ t.led = true) (few : L.length < 1200) {wanted M : Nat}
    (w1 : SetTable.sizeAbove wanted - 1 = M) (w2 : MaskW M) (w3 : SetTable.sizeAbove wanted ≤ 2048) (w4 : L.length * 5 < M * 3) {Q : Unit → Shared → Prop}
    (q : ∀ h' L' es' ep' t', Heap.SameBut a s.heap h' → SetW P w h' a L' es' ep' t' → L'.Perm L → Q () { s with heap := h' }) : wpAny (model P w) A (setRelay a wanted) Q E s := by
  have sz := rowsM_len hr
  obtain ⟨t', order, e, hp, T, em, el, ep2, ed⟩ := relaid_w t (hs := es.map (·.1)) (wanted := wanted) w1 w2 (by rw [Array.size_map, sz]; omega)
  rw [Array.size_map, sz] at hp
  obtain ⟨L2, r1, r2, r3⟩ := orderM L es order hr hp
  rw [← r3] at T
  have sz2 : (order.filterMap (es[·]?)).size = es.size := by
    rw [rowsM_len r1, r2.length_eq, sz]
  rw [setRelay_eq]
  refine wpAny_bind (wpAny_setState_of g1 g2 (fitsM z2 z1 z3) ?_)
  dsimp only
  refine wp_if_neg (by rw [sizeLine_eq]; omega) ?_
  try refine wpAny_bind (wpAny_pure ?_)
  rw [e]
  dsimp only
  refine wpAny_bind (wp_if_neg (by rw [sz2]; simp) ?_)
  try refine wpAny_bind (wpAny_pure ?_)
  refine wpAny_pure ?_
  dsimp only
  refine wpAny_storeSet_of g1 g2 ?_ (by rw [sz2, sz, sizeLine_eq]; omega)
  have sb : Heap.SameBut a s.heap (s.heap.update a (Obj.putSet (order.filterMap (es[·]?)) t')) := Heap.SameBut.update ..
  refine q _ L2 (order.filterMap (es[·]?)) (ep + 1) t' sb ⟨⟨_, store_at g1 g2, ⟨gx.1, gx.2.1, gx.2.2⟩, rfl⟩, r1, T, (r2.map (·.2)).nodup_iff.mpr nd, fun p z => isM_but (tup p (r2.mem_iff.mp z)) g1 g2 sb, by rw [el]; exact ld, ?_, by rw [r2.length_eq]; exact few⟩ r2
  rw [r2.length_eq, em]
  exact w4
theorem addW (R : SetW P w s.heap a L es ep t) {x : Addr} {k : List Key} (hx : IsM P w s.heap k x) (hu : A.units < cLine) (few : L.length + 1 < 1200) {Q : Bool → Shared → Prop}
    (q : ∀ b h' L' es' ep' t', Heap.SameBut a s.heap h' → SetW P w h' a L' es' ep' t' → (k ∈ L.map (·.2) → L' = L) → (k ∉ L.map (·.2) → L'.Perm ((x, k) :: L)) → Q b { s with heap := h' }) :
    wpAny (model P w) A (setAddHashed a (.ref x) (hM P w k)) Q E s := by
  obtain ⟨ob, g1, gx, g2⟩ := R.ob
  have sz := rowsM_len R.rows
  have z3 := R.room
  unfold setAddHashed
  refine wpAny_holding ?_
  rw [show (100000 : Nat) = 99999 + 1 from rfl, setAddHashedIn_succ]
  refine wpAny_bind (wpAny_setState_of g1 g2 R.fits ?_)
  dsimp only
  refine wp_if_neg (by simp [byScan, Value.scannable]) ?_
  try refine wpAny_bind (wpAny_pure ?_)
  refine wpAny_bind (searchW0 R hx hu (fun hm => ?_) fun K hm k1 k2 => ?_)
  · dsimp only
    exact wpAny_pure (q false s.heap L es ep t (Heap.SameBut.refl a s.heap) R (fun _ => rfl) fun z => absurd hm z)
  · dsimp only
    refine wpAny_bind (wpAny_setState_of g1 g2 R.fits ?_)
    dsimp only
    obtain ⟨q1, q2, q3, q4, q5, q6, q7, q8, q9⟩ := R.tab.put k1 k2
    generalize t.put (way t.mask (hM P w k) K) = pt at q1 q3 q4 q5 q6 q7 q8 q9 ⊢
    obtain ⟨t1, p⟩ := pt
    dsimp only at q1 q3 q4 q5 q6 q7 q8 q9 ⊢
    subst q1
    have put : ∀ t2 : SetTable, TabW t2 ((L.map fun p => hM P w p.2).take (SetTable.below t.place (way t.mask (hM P w k) K)) ++ hM P w k :: (L.map fun p => hM P w p.2).drop (SetTable.below t.place (way t.mask (hM P w k) K))) → t2.mask = t.mask → t2.led = t.led → t2.fill = (L.map fun p => hM P w p.2).length + 1 →
        wpAny (model P w) A (do
          storeSet a (SetTable.insertAt es (SetTable.below t.place (way t.mask (hM P w k) K)) (hM P w k, Value.ref x)) t2
          if (!false && t2.tooFull) = true then do
            setRelay a (SetTable.grown (es.size + 1))
            pure true
          else pure true) Q E s := fun t1 q3 q4 q5 q9 => by
      generalize epp : SetTable.below t.place (way t.mask (hM P w k) K) = p at q2 q3 ⊢
      have pm := put_perm L p (x, k)
      have hin : (SetTable.insertAt es p (hM P w k, Value.ref x)).toList = rowsM P w (L.take p ++ (x, k) :: L.drop p) := by
        rw [SetTable.toList_insertAt, R.rows]
        unfold rowsM
        rw [List.map_append, List.map_cons, List.map_take, List.map_drop]
      have hhs : (L.take p ++ (x, k) :: L.drop p).map (fun p => hM P w p.2) = (L.map fun p => hM P w p.2).take p ++ hM P w k :: (L.map fun p => hM P w p.2).drop p := by
        rw [List.map_append, List.map_cons, List.map_take, List.map_drop]
      rw [← hhs] at q3
      have sz1 := rowsM_len hin
      generalize SetTable.insertAt es p (hM P w k, Value.ref x) = es1 at hin sz1 ⊢
      generalize L.take p ++ (x, k) :: L.drop p = L1 at pm q3 hin sz1
      have len1 : L1.length = L.length + 1 := pm.length_eq
      have nd1 : (L1.map (·.2)).Nodup := by
        refine (pm.map (·.2)).nodup_iff.mpr ?_
        rw [List.map_cons]
        exact List.nodup_cons.mpr ⟨hm, R.nd⟩
      refine wpAny_bind (wpAny_storeSet_of g1 g2 ?_ (by rw [sz1, len1, sizeLine_eq]; omega))
      have sb : Heap.SameBut a s.heap (s.heap.update a (Obj.putSet es1 t1)) := Heap.SameBut.update ..
      have o1 := store_at (es' := es1) (t' := t1) g1 g2
      generalize s.heap.update a (Obj.putSet es1 t1) = h1 at sb o1 ⊢
      have tup1 : ∀ p ∈ L1, IsM P w h1 p.2 p.1 := fun p hp => by
        rcases List.mem_cons.mp (pm.mem_iff.mp hp) with e | hp
        · rw [e]
          exact isM_but hx g1 g2 sb
        · exact isM_but (R.tup p hp) g1 g2 sb
      have ld1 : w.params.followText "set-order" = true ∨ t1.led = true := by rw [q5]; exact R.led
      have hfull : t1.tooFull = decide ((L.length + 1) * 5 ≥ t1.mask * 3) := by
        unfold SetTable.tooFull
        rw [q9, List.length_map]
      by_cases hf : (L.length + 1) * 5 ≥ t1.mask * 3
      · have hf' : t1.tooFull = true := by rw [hfull, decide_eq_true hf]
        first
          | (refine wpAny_bind ?_; refine wp_if_pos (by simp [hf']) ?_)
          | (refine wp_if_pos (by simp [hf']) ?_; refine wpAny_bind ?_)
        rw [sz]
        have y1 : t1.place.size = es1.size := by
          have z := q3.sz
          rw [List.length_map] at z
          rw [z, sz1]
        have two : (t.mask = 7 ∧ L.length = 4) ∨ (t.mask = 31 ∧ L.length = 18) ∨ (t.mask = 127 ∧ L.length = 76) ∨ (t.mask = 511 ∧ L.length = 306) := by
          rw [q4] at hf
          rcases R.tab.mok with e | e | e | e | e <;> rw [e] at hf z3
          · exact .inl ⟨e, by omega⟩
          · exact .inr (.inl ⟨e, by omega⟩)
          · exact .inr (.inr (.inl ⟨e, by omega⟩))
          · exact .inr (.inr (.inr ⟨e, by omega⟩))
          · omega
        have go : ∀ M, SetTable.sizeAbove (SetTable.grown (L.length + 1)) - 1 = M → MaskW M → SetTable.sizeAbove (SetTable.grown (L.length + 1)) ≤ 2048 → (L.length + 1) * 5 < M * 3 →
            wpAny (model P w) A (setRelay a (SetTable.grown (L.length + 1))) (fun _ s' => wpAny (model P w) A (pure true) Q E s') E { s with heap := h1 } := fun M m1 m2 m3 m4 => by
          refine relayW (s := { s with heap := h1 }) o1 ⟨gx.1, gx.2.1, gx.2.2⟩ rfl hin y1 q3.dm (by rw [sz1, len1, q4]; rcases two with ⟨e, e2⟩ | ⟨e, e2⟩ | ⟨e, e2⟩ | ⟨e, e2⟩ <;> omega) nd1 tup1 ld1 (by rw [len1]; exact few) m1 m2 m3 (by rw [len1]; exact m4) ?_
          exact fun h2 L2 es2 ep2 t2 sb2 R2 pm2 => wpAny_pure (q true h2 L2 es2 ep2 t2 (sb.trans sb2) R2 (fun z => absurd z hm) fun _ => pm2.trans pm)
        rcases two with ⟨_, e2⟩ | ⟨_, e2⟩ | ⟨_, e2⟩ | ⟨_, e2⟩
        · exact go 31 (by rw [e2, grow_5]) (.inr (.inl rfl)) (by rw [e2, grow_5]; decide) (by omega)
        · exact go 127 (by rw [e2, grow_19]) (.inr (.inr (.inl rfl))) (by rw [e2, grow_19]; decide) (by omega)
        · exact go 511 (by rw [e2, grow_77]) (.inr (.inr (.inr (.inl rfl)))) (by rw [e2, grow_77]; decide) (by omega)
        · exact go 2047 (by rw [e2, grow_307]) (.inr (.inr (.inr (.inr rfl)))) (by rw [e2, grow_307]; decide) (by omega)
      · have hf' : ¬ t1.tooFull = true := by
          rw [hfull, decide_eq_false hf]
          decide
        first
          | refine wp_if_neg (by simp [hf']) ?_
          | (refine wpAny_bind ?_; refine wp_if_neg (by simp [hf']) ?_; refine wpAny_pure ?_)
        exact wpAny_pure (q true h1 L1 es1 (ep + 1) t1 sb ⟨⟨_, o1, ⟨gx.1, gx.2.1, gx.2.2⟩, rfl⟩, hin, q3, nd1, tup1, ld1, by rw [len1]; omega, by rw [len1]; exact few⟩ (fun z => absurd z hm) fun _ => pm)
    have any := fun y : Bool => put (if y = true then t1 else { t1 with plain := false })
      (by cases y; exact ⟨q3.ris, q3.dm, q3.sz, q3.mok, q3.bd, q3.reach⟩; exact q3) (by cases y <;> exact q4) (by cases y <;> exact q5) (by cases y <;> exact q9)
    first
      | (refine wpAny_bind ?_; by_cases pl : t1.plain = true; exact wp_if_pos pl (hashM hx any); exact wp_if_neg pl (wpAny_pure (any true)))
      | (by_cases pl : t1.plain = true; exact wp_if_pos pl (wpAny_bind (hashM hx any)); exact wp_if_neg pl (wpAny_bind (wpAny_pure (any true))))
end
end Onp
set_option maxHeartbeats 4000000
set_option autoImplicit false
/-! set(..), len(set(..)) of fewer than 1200 tuples -/
namespace Onp
open PySem PySem.Spec PyProof.Rows L2
section
variable {P : Program} {w : World} {A : Around} {E : Value → Shared → Prop} {s : Shared}
def GW (P : Program) (w : World) (S : Addr) (ks : List AK) (i : Nat) (h : Heap) : Prop := ∃ L es ep t, SetW P w h S L es ep t ∧ GotM ks i L
theorem keepsW {S : Addr} {h0 : Heap} {ks : List AK} (hk : ∀ p ∈ ks, IsM P w h0 p.2 p.1) : KeepsSet S h0 (GW P w S ks) := fun i h h' ⟨L, es, ep, t, R, g⟩ z1 z2 => by
  obtain ⟨o, ho, r⟩ := R.ob
  refine ⟨L, es, ep, t, ⟨⟨o, z1 o ho, r⟩, R.rows, R.tab, R.nd, fun p hp => ?_, R.led, R.room, R.few⟩, g⟩
  obtain ⟨o2, its, n, y1, y2⟩ := hk p (List.mem_of_mem_take (g.sub p hp))
  exact ⟨o2, its, n, z2 _ _ y1, y2⟩
theorem addsW {S : Addr} {h0 : Heap} {ks : List AK} {its : Array Value} (hu : A.units < cLine) (hit : its.toList = ks.map fun p => Value.ref p.1) (hk : ∀ p ∈ ks, IsM P w h0 p.2 p.1) (few : ks.length < 1200) : AddsTo P w A S h0 (fun i v => its[i]? = some v) (GW P w S ks) := by
  intro i v s E pv ⟨L, es, ep, t, R, g⟩ z
  obtain ⟨p, hp, rfl⟩ : ∃ p, ks[i]? = some p ∧ v = .ref p.1 := by
    have e : its.toList[i]? = some v := by rw [Array.getElem?_toList]; exact pv
    rw [hit, List.getElem?_map] at e
    cases y : ks[i]? with
    | none => rw [y] at e; cases e
    | some p => rw [y] at e; exact ⟨p, rfl, (Option.some.inj e).symm⟩
  have hlt : i < ks.length := (List.getElem?_eq_some_iff.mp hp).1
  have hx : IsM P w s.heap p.2 p.1 := by
    obtain ⟨o2, its, n, y1, y2⟩ := hk p (List.mem_of_getElem? hp)
    exact ⟨o2, its, n, z _ _ y1, y2⟩
  unfold setAdd
  refine wpAny_holding (wpAny_bind (wpAny_pyHash_tuple hu hx ?_))
  refine addW (s := { s with toks := s.toks + (p.2.length + 1) }) R hx hu (by have := g.len; omega) fun b h' L' es' ep' t' sb R' c1 c2 => ?_
  refine ⟨h', s.toks + (p.2.length + 1), rfl, Nat.le_add_right _ _, sb, L', es', ep', t', R', ?_⟩
  by_cases c : p.2 ∈ L.map (·.2)
  · rw [c1 c]
    exact g.same hp c
  · exact g.more hp (c2 c)
theorem freshW {h : Heap} {S : Addr} {ks : List AK} (e : h.get? S = some (set0 w)) : GW P w S ks 0 h := by
  refine ⟨[], #[], 0, .fresh 0 0 (!w.params.followText "set-order"), ⟨⟨_, e, ⟨rfl, rfl, rfl⟩, rfl⟩, rfl, ⟨List.Pairwise.nil, rfl, rfl, .inl rfl, fun x hx => (by cases hx), fun i h j hi => (by simp at hi)⟩, List.nodup_nil, fun p hp => (by cases hp), ?_, by show 0 * 5 < 7 * 3; decide, by show 0 < 1200; decide⟩, ⟨fun p hp => (by cases hp), fun p hp => (by simp at hp), Nat.le_refl _⟩⟩
  show _ ∨ (!w.params.followText "set-order") = true
  cases w.params.followText "set-order"
  · exact .inr rfl
  · exact .inl rfl
end
section
variable {X : Cx}
def tLenSetW (K : PySem.W.Frag) (ta : TE) : TE := fun σ H Q => ta σ H fun x H1 => ∃ (l : Addr) (ks : List AK), x = .ref l ∧ (SqL K H1 l (ks.map fun p => V.ref p.1) ∨ SqT K H1 l (ks.map fun p => V.ref p.1)) ∧ (∀ p ∈ ks, SqT K H1 p.1 (p.2.map kV)) ∧ ks.length < 1200 ∧
  ∀ n : Nat, n ≤ ks.length → (n < ks.length ↔ ¬ (ks.map (·.2)).Nodup) → Q (.int n) H1
theorem pe_lenSetW {a : Expr} {ta : TE} {p p2 q pos : Pos} (hc : X.calm = true) (hu : X.A.units + 64 < cLine) (hg : Gl X "len") (hm : X.mg "len" = none) (hg2 : Gl X "set") (hm2 : X.mg "set" = none) (ha : PE X a ta)
    (na : starEach [a] X.env = (false, eval a X.env) :: starEach [] X.env := by rfl) : PE X (.Call (.Name "len" p) [.Call (.Name "set" p2) [a] [] q] [] pos) (tLenSetW X.K ta) := by
  refine ⟨fun pins s σ H Q I h => ?_⟩
  refine Call_ (ld_blt I hg hm PySem.boot_len (PyProof.Rows.callWith_builtin1 (PyProof.Rows.args_cons ?_ rfl) rfl rfl))
  refine Call_ (ld_blt I hg2 hm2 PyProof.Rows.boot_set (PyProof.Rows.callWith_type1 (PyProof.Rows.args_cons (thn (ha.run pins s σ H _ I h) fun v s1 ⟨x, H1, I1, r1, q1⟩ => PyProof.Rows.args_nil ?_) na) na rfl))
  obtain ⟨l, ks, rfl, hq, hk, few, q1⟩ := q1
  cases r1
  have tu : ∀ p ∈ ks, IsM X.prog X.w s1.heap p.2 p.1 := fun p hp => inv_isM I1 (hk p hp)
  have fin : ∀ (its : Array Value), its.size = ks.length → ∀ (h' : Heap) (tk : Nat), GW X.prog X.w s1.heap.objs.size ks its.size h' → (∀ b o, s1.heap.get? b = some o → h'.get? b = some o) →
      wpAny (model X.prog X.w) X.A (spliced (backTo pos (starEach [] X.env))) (fun vs s₂ => wpAny (model X.prog X.w) X.A (call (.builtin "len") (Value.ref s1.heap.objs.size :: vs)) (EP X pins σ Q) X.xe s₂) X.xe { s1 with heap := h', toks := tk } := fun its sz h' tk g kp => by
    refine PyProof.Rows.args_nil ?_
    obtain ⟨L, es, ep, t, R, g⟩ := g
    rw [sz, ] at g
    have I2 : Inv X pins σ H1 { s1 with heap := h', toks := tk } := I1.kept fun b o e => kp b o e
    obtain ⟨o, ho, hex, hd⟩ := R.ob
    have ez := rowsM_len R.rows
    have cn := count_nd (l := L.map (·.2)) (D := ks.map (·.2)) R.nd (fun x hx => by
      obtain ⟨p, hp, rfl⟩ := List.mem_map.mp hx
      exact List.mem_map_of_mem (List.mem_of_mem_take (g.sub p hp))) (fun x hx => by
      obtain ⟨p, hp, rfl⟩ := List.mem_map.mp hx
      exact g.all p (by rw [List.take_length]; exact hp))
    simp only [List.length_map] at cn
    refine call_len_set ho hex hd (R.fits (s := { s1 with heap := h', toks := tk })) (by rw [ez]; omega) ⟨.int L.length, H1, I2.tok _, ⟨_, by rw [ez]⟩, q1 L.length cn.1 cn.2⟩
  rcases hq with hq | hq
  · obtain ⟨its, r, pl, hz⟩ := I1.list hq
    have sz : its.toArray.size = ks.length := by rw [List.size_toArray, ← r.length, List.length_map]
    exact callSet_list (I1.ok.hd hc) pl.isList (GW X.prog X.w s1.heap.objs.size ks) (addsW (by show X.A.in1.in1.in1.units < cLine; simp; omega) (by simpa using refsM r) tu few) (keepsW tu) (fun h e => freshW e) fun h' tk g kp => fin its.toArray sz h' tk g kp
  · obtain ⟨its, r, pl, hz⟩ := I1.tuple hq
    have sz : its.toArray.size = ks.length := by rw [List.size_toArray, ← r.length, List.length_map]
    exact callSet_tuple (I1.ok.hd hc) pl (GW X.prog X.w s1.heap.objs.size ks) (addsW (by show X.A.in1.in1.in1.units < cLine; simp; omega) (by simpa using refsM r) tu few) (keepsW tu) (fun h e => freshW e) fun h' tk g kp => fin its.toArray sz h' tk g kp
end
end Onp
set_option maxHeartbeats 4000000
set_option autoImplicit false
/-! sorted(set(xs)), xs fewer than 1200 tuples of ints and texts -/
namespace Onp
open PySem PySem.Spec PyProof.Rows L2 PySem.W
/-- a row that is arranged anew is a row of the same -/
theorem perm_of_map {α β : Type} (f : α → β) : ∀ (L : List α) (vs : List β), vs.Perm (L.map f) → ∃ bs : List α, bs.Perm L ∧ vs = bs.map f
  | [], vs, h => ⟨[], .nil, h.eq_nil⟩
  | p :: L, vs, h => by
    have hp : f p ∈ vs := h.mem_iff.mpr List.mem_cons_self
    obtain ⟨a, b, rfl⟩ := List.append_of_mem hp
    have h2 : (a ++ b).Perm (L.map f) := by
      have := (List.perm_middle (a := f p) (l₁ := a) (l₂ := b)).symm.trans h
      exact List.Perm.cons_inv this
    obtain ⟨bs, hb, e⟩ := perm_of_map f L _ h2
    obtain ⟨x, y, rfl, ex, ey⟩ := List.map_eq_append_iff.mp e.symm
    refine ⟨x ++ p :: y, List.perm_middle.trans (hb.cons p), ?_⟩
    rw [List.map_append, List.map_cons, ex, ey]
def kD (k : List L2.Key) : PyData := .tuple (k.map fun
  | .inl i => .int i
  | .inr x => .str x)
theorem dp_keys {K : PySem.W.Frag} {H : Hp} : ∀ k : List L2.Key, DpAll K H (k.map kV) (k.map fun
  | .inl i => .int i
  | .inr x => .str x)
  | [] => .nil
  | .inl i :: k => .cons (.int i) (dp_keys k)
  | .inr x :: k => .cons (.str x) (dp_keys k)
theorem kD_depth (k : List L2.Key) : (kD k).depth ≤ 2 := by
  have h : ∀ k : List L2.Key, PyData.depthAll (k.map fun
    | .inl i => .int i
    | .inr x => .str x) ≤ 1 := fun k => by
    induction k with
    | nil => simp [PyData.depthAll]
    | cons a k ih =>
      rcases a with i | x <;> simp only [List.map_cons, PyData.depthAll, PyData.depth] <;> omega
  unfold kD
  simp only [PyData.depth]
  have := h k
  omega
def srtS (L : List AK) : List AK := L.mergeSort (dataLe false fun p : AK => kD p.2)
theorem sorted_setW {P : Program} {w : World} {A : Around} {E : Value → Shared → Prop} {s : Shared} {a : Addr} {L : List AK} {es : Array (Int × Value)} {ep : Nat} {t : SetTable} {Q : Value → Shared → Prop} (R : SetW P w s.heap a L es ep t) (hh : A.handled = none)
    (hr : ∀ p ∈ L, ∃ as, Reads s.heap (.ref p.1) (kD p.2) as) (al : AllAlike (L.map fun p => kD p.2)) (so : Sortable (L.map fun p => kD p.2)) (hu : A.units + 8 < cLine)
    (h : ∀ (s' : Shared) (p : Addr) (out : List Value) (c : Nat) (bs : List AK), (∀ b o, s.heap.get? b = some o → s'.heap.get? b = some o) → s'.gens = s.gens → s'.os = s.os → s.heap.objs.size ≤ p → bs.Perm L → out = (srtS bs).map (fun q => Value.ref q.1) → s'.heap.get? p = some (seqObj "list" out.toArray c) → Q (.ref p) s') :
    wpAny (model P w) A (call (.builtin "sorted") [.ref a]) Q E s := by
  obtain ⟨o, ho, hex, hd⟩ := R.ob
  have hfew := R.few
  have esz := rowsM_len R.rows
  refine call_function_entry_kw kind_sorted plain_sorted entry_sorted (args_sorted1 _) ?_
  unfold Builtin.«sorted»
  refine wpAny_bind (m := checkCount "sorted" 1 1 _) (wpAny_pure ?_)
  refine wpAny_bind (collect_set (A := A.in1) hh ⟨o, ho, hex.1, hd⟩ R.fits (by unfold scanBound; omega) R.tab.ris R.led fun s1 vs k1 hz g1 o1 pm => ?_)
  have hes : es.toList.map (·.2) = L.map fun q => Value.ref q.1 := by
    rw [R.rows]
    unfold rowsM
    rw [List.map_map]
    rfl
  rw [hes] at pm
  obtain ⟨bs, pb, rfl⟩ := perm_of_map (fun q : AK => Value.ref q.1) L vs pm
  have lb : bs.length = L.length := pb.length_eq
  have hv : (bs.map fun q : AK => Value.ref q.1).length ≤ sizeLine := by
    rw [List.length_map, sizeLine_eq]
    omega
  refine wpAny_bind (wpAny_newList ?_ hv)
  generalize evs : (bs.map fun q : AK => Value.ref q.1) = vs at hv pm
  have at_ : (s1.heap.push (seqObj "list" vs.toArray 0)).get? s1.heap.objs.size = some (seqObj "list" vs.toArray 0) := Heap.get?_push_size _ rfl
  have kp : ∀ b o, s.heap.get? b = some o → (sortingHeap (s1.heap.push (seqObj "list" vs.toArray 0)) s1.heap.objs.size vs).get? b = some o := fun b o e => by
    have e1 := k1 b o e
    exact sortingHeap_old (Nat.ne_of_lt (Heap.lt_size e1)) (Heap.get?_push_of_some _ e1)
  have each : ∀ l : List AK, (∀ p ∈ l, p ∈ L) → EachIs (fun v (b : AK) => v = Value.ref b.1) (l.map fun q : AK => Value.ref q.1) l ∧ EachIs (fun v (b : AK) => ∃ as, Reads (sortingHeap (s1.heap.push (seqObj "list" vs.toArray 0)) s1.heap.objs.size vs) v (kD b.2) as) (l.map fun q : AK => Value.ref q.1) l := fun l => by
    induction l with
    | nil => exact fun _ => ⟨.nil, .nil⟩
    | cons p l ih =>
      intro hs
      obtain ⟨i1, i2⟩ := ih fun q hq => hs q (List.mem_cons_of_mem _ hq)
      obtain ⟨as, r⟩ := hr p (hs p List.mem_cons_self)
      exact ⟨.cons rfl i1, .cons ⟨as, PyProof.Rows.Reads.keeps (fun b o e => kp b o e) r⟩ i2⟩
  obtain ⟨e1, e2⟩ := each bs fun p hp => pb.mem_iff.mp hp
  rw [evs] at e1 e2
  have al' : AllAlike (bs.map fun p : AK => kD p.2) := fun d hd d' hd' => al d ((pb.map _).mem_iff.mp hd) d' ((pb.map _).mem_iff.mp hd')
  have so' : Sortable (bs.map fun p : AK => kD p.2) := so.imp (fun f d hd => f d ((pb.map _).mem_iff.mp hd)) (fun f d hd => f d ((pb.map _).mem_iff.mp hd))
  refine wpAny_bind (wpAny_holding (wpAny_call_entry_kw slot_list_sort ⟨_, at_, rfl⟩ entry_list_sort ?body (args_list_sort _)))
  case body =>
    show wpAny (model P w) A.in1.in1 (Builtin.«list.sort» ⟨[.ref s1.heap.objs.size], []⟩) _ _ _
    refine list_sort_vals (s := { s1 with heap := s1.heap.push (seqObj "list" vs.toArray 0) }) (κ := dataKind (sortingHeap (s1.heap.push (seqObj "list" vs.toArray 0)) s1.heap.objs.size vs) (bs.map fun p : AK => kD p.2)) at_
      (SortsAt.data (s := { s1 with heap := sortingHeap (s1.heap.push (seqObj "list" vs.toArray 0)) s1.heap.objs.size vs }) (each_map (R := fun v d => ∃ as, Reads (sortingHeap (s1.heap.push (seqObj "list" vs.toArray 0)) s1.heap.objs.size vs) v d as) (fun p : AK => kD p.2) e2) al' so' (bound_map fun b hb => by have := kD_depth b.2; show A.units + 1 + 1 + (kD b.2).depth < cLine; omega)) hv ?_
    have eo := sortVals_data (enc := fun p : AK => kD p.2) false e1 e2 al'
    generalize eov : sortVals (dataKind (sortingHeap (s1.heap.push (seqObj "list" vs.toArray 0)) s1.heap.objs.size vs) (bs.map fun p : AK => kD p.2)) false vs vs = out at eo
    obtain ⟨c, hc⟩ := sortedHeap_at (vs := vs) (out := out.toArray) at_
    have oe : ∀ (l : List Value) (m : List AK), EachIs (fun v (b : AK) => v = Value.ref b.1) l m → l = m.map fun q : AK => Value.ref q.1 := fun l m h => by
      induction h with
      | nil => rfl
      | cons h1 _ ih => rw [h1, ih]; rfl
    refine ⟨_, rfl, wpAny_pure ⟨_, rfl, h _ s1.heap.objs.size out c bs (fun b u e => ?_) g1 o1 hz pb (oe _ _ eo) hc⟩⟩
    have q := k1 b u e
    have hlt := Heap.lt_size q
    show (sortedHeap (s1.heap.push (seqObj "list" vs.toArray 0)) s1.heap.objs.size vs out.toArray).get? b = some u
    rw [sortedHeap_old (Nat.ne_of_lt hlt) (by rw [size_push']; exact Nat.lt_succ_of_lt hlt)]
    exact Heap.get?_push_of_some _ q
/-! ### over the layer -/
def tSortSet (K : PySem.W.Frag) (ta : TE) : TE := fun σ H Q => ta σ H fun x H1 => ∃ (l : Addr) (ks : List AK), x = .ref l ∧ (SqL K H1 l (ks.map fun p => V.ref p.1) ∨ SqT K H1 l (ks.map fun p => V.ref p.1)) ∧ (∀ p ∈ ks, SqT K H1 p.1 (p.2.map kV)) ∧ ks.length < 1200 ∧
  AllAlike (ks.map fun p => kD p.2) ∧ Sortable (ks.map fun p => kD p.2) ∧ ∀ (q : Addr) (bs : List AK), H1 q = none → (∀ p ∈ bs, p ∈ ks) → (∀ p ∈ ks, p.2 ∈ bs.map (·.2)) → (bs.map (·.2)).Nodup → Q (.ref q) (upd H1 q (.lst ((srtS bs).map fun p => V.ref p.1)))
theorem vals_refs (L : List AK) : Vals (L.map fun p => V.ref p.1) (L.map fun p => Value.ref p.1) := by
  induction L with
  | nil => exact .nil
  | cons p L ih => exact .cons rfl ih
section
variable {X : Cx}
theorem pe_sortSet {a : Expr} {ta : TE} {p p2 q pos : Pos} (hc : X.calm = true) (hu : X.A.units + 64 < cLine) (hg : Gl X "sorted") (hm : X.mg "sorted" = none) (hg2 : Gl X "set") (hm2 : X.mg "set" = none) (ha : PE X a ta)
    (na : starEach [a] X.env = (false, eval a X.env) :: starEach [] X.env := by rfl) : PE X (.Call (.Name "sorted" p) [.Call (.Name "set" p2) [a] [] q] [] pos) (tSortSet X.K ta) := by
  refine ⟨fun pins s σ H Q I h => ?_⟩
  refine Call_ (ld_blt I hg hm (show bootBuiltins "sorted" = some (.builtin "sorted") by decide +kernel) (PyProof.Rows.callWith_builtin1 (PyProof.Rows.args_cons ?_ rfl) rfl rfl))
  refine Call_ (ld_blt I hg2 hm2 PyProof.Rows.boot_set (PyProof.Rows.callWith_type1 (PyProof.Rows.args_cons (thn (ha.run pins s σ H _ I h) fun v s1 ⟨x, H1, I1, r1, q1⟩ => PyProof.Rows.args_nil ?_) na) na rfl))
  obtain ⟨l, ks, rfl, hq, hk, few, al, so, q1⟩ := q1
  cases r1
  have tu : ∀ p ∈ ks, IsM X.prog X.w s1.heap p.2 p.1 := fun p hp => inv_isM I1 (hk p hp)
  have fin : ∀ (its : Array Value), its.size = ks.length → ∀ (h' : Heap) (tk : Nat), GW X.prog X.w s1.heap.objs.size ks its.size h' → (∀ b o, s1.heap.get? b = some o → h'.get? b = some o) →
      wpAny (model X.prog X.w) X.A (spliced (backTo pos (starEach [] X.env))) (fun vs s₂ => wpAny (model X.prog X.w) X.A (call (.builtin "sorted") (Value.ref s1.heap.objs.size :: vs)) (EP X pins σ Q) X.xe s₂) X.xe { s1 with heap := h', toks := tk } := fun its sz h' tk g kp => by
    refine PyProof.Rows.args_nil ?_
    obtain ⟨L, es, ep, t, R, g⟩ := g
    rw [sz] at g
    have I2 : Inv X pins σ H1 { s1 with heap := h', toks := tk } := I1.kept fun b o e => kp b o e
    have inks : ∀ p ∈ L, p ∈ ks := fun p hp => List.mem_of_mem_take (g.sub p hp)
    refine sorted_setW (s := { s1 with heap := h', toks := tk }) R (I1.ok.hd hc) (fun p hp => Dp.reads I2 (kD p.2) (.ref p.1) _ (.tup (hk p (inks p hp)) (dp_keys p.2)) rfl) (fun d hd d' hd' => ?_) ?_ (by omega) fun s' b out c bs k gg oo hb pb eo gb => ?_
    · obtain ⟨p, hp, rfl⟩ := List.mem_map.mp hd
      obtain ⟨p', hp', rfl⟩ := List.mem_map.mp hd'
      exact al _ (List.mem_map_of_mem (f := fun p : AK => kD p.2) (inks p hp)) _ (List.mem_map_of_mem (f := fun p : AK => kD p.2) (inks p' hp'))
    · have sub : ∀ d ∈ L.map (fun p : AK => kD p.2), d ∈ ks.map (fun p : AK => kD p.2) := fun d hd => by
        obtain ⟨p, hp, rfl⟩ := List.mem_map.mp hd
        exact List.mem_map_of_mem (f := fun p : AK => kD p.2) (inks p hp)
      exact so.imp (fun f d hd => f d (sub d hd)) (fun f d hd => f d (sub d hd))
    · have hn : H1 b = none := I2.hok.fresh hb
      have lb : (srtS bs).length = L.length := by
        unfold srtS
        rw [List.length_mergeSort, pb.length_eq]
      have hlen : ((srtS bs).map fun p : AK => V.ref p.1).length ≤ sizeLine := by
        have := R.few
        rw [List.length_map, lb, sizeLine_eq]
        omega
      have J : Inv X pins σ (upd H1 b (.lst ((srtS bs).map fun p : AK => V.ref p.1))) { ({ s1 with heap := h', toks := tk } : Shared) with heap := s'.heap, gens := s'.gens, drawn := s'.drawn, toks := s'.toks } :=
        Inv.call (s := { s1 with heap := h', toks := tk }) I2 (ch := []) (Un.laid k hb hn) (I2.hok.laid k hb ⟨hlen, out, c, by rw [eo]; exact vals_refs _, gb⟩) (by rw [gg]; exact I2.bare) (fun _ z => nomatch z)
      have e : s' = { ({ s1 with heap := h', toks := tk } : Shared) with heap := s'.heap, gens := s'.gens, drawn := s'.drawn, toks := s'.toks } := by
        cases s'
        cases s1
        cases oo
        rfl
      rw [e]
      refine ⟨.ref b, _, J, rfl, q1 b bs hn (fun p hp => inks p (pb.mem_iff.mp hp)) (fun p hp => ?_) ((pb.map _).nodup_iff.mpr R.nd)⟩
      rw [(pb.map _).mem_iff]
      exact g.all p (by rw [List.take_length]; exact hp)
  rcases hq with hq | hq
  · obtain ⟨its, r, pl, hz⟩ := I1.list hq
    have sz : its.toArray.size = ks.length := by rw [List.size_toArray, ← r.length, List.length_map]
    exact callSet_list (I1.ok.hd hc) pl.isList (GW X.prog X.w s1.heap.objs.size ks) (addsW (by show X.A.in1.in1.in1.units < cLine; simp; omega) (by simpa using refsM r) tu few) (keepsW tu) (fun h e => freshW e) fun h' tk g kp => fin its.toArray sz h' tk g kp
  · obtain ⟨its, r, pl, hz⟩ := I1.tuple hq
    have sz : its.toArray.size = ks.length := by rw [List.size_toArray, ← r.length, List.length_map]
    exact callSet_tuple (I1.ok.hd hc) pl (GW X.prog X.w s1.heap.objs.size ks) (addsW (by show X.A.in1.in1.in1.units < cLine; simp; omega) (by simpa using refsM r) tu few) (keepsW tu) (fun h e => freshW e) fun h' tk g kp => fin its.toArray sz h' tk g kp
end
end Onp
set_option maxHeartbeats 4000000
set_option autoImplicit false
/-! rows of triples, of any length, sorted; and sorted(set(..)) of fewer than 1200 -/
namespace Onp
open PySem PySem.Spec PyProof.Rows L2 PySem.W
abbrev TP : Type := Addr × Tri
def trs (ps : List TP) : List V := ps.map fun p => V.ref p.1
def tV (t : Tri) : List V := (tI t).map V.int
def TrAt (H : Hp) (ps : List TP) : Prop := ∀ p ∈ ps, H p.1 = some (.tup (tV p.2))
theorem TrAt.same {H H' : Hp} {ps : List TP} (x : TrAt H ps) (s : Same H H') : TrAt H' ps := fun p hp => s _ _ (x p hp)
theorem TrAt.put {H : Hp} {ps : List TP} {D : Addr} {xs ys : List V} (x : TrAt H ps) (h : H D = some (.lst xs)) : TrAt (upd H D (.lst ys)) ps := fun p hp => by
  have e := x p hp
  rw [upd_ne (fun z => by rw [z, h] at e; cases e)]
  exact e
theorem trs_len (ps : List TP) : (trs ps).length = ps.length := by unfold trs; rw [List.length_map]
theorem trs_at {ps : List TP} {i : Nat} {x : V} (h : (trs ps)[i]? = some x) : ∃ p, ps[i]? = some p ∧ x = .ref p.1 := by
  unfold trs at h
  rw [List.getElem?_map] at h
  cases e : ps[i]? with
  | none => rw [e] at h; cases h
  | some p => rw [e] at h; exact ⟨p, rfl, (Option.some.inj h).symm⟩
/-- refs of some triples, in another order -/
theorem refs_back {ps : List TP} : ∀ {ys : List V}, (∀ y ∈ ys, y ∈ trs ps) → ∃ qs : List TP, ys = trs qs ∧ ∀ p ∈ qs, p ∈ ps
  | [], _ => ⟨[], rfl, fun _ h => nomatch h⟩
  | y :: r, h => by
    obtain ⟨qs, e, hq⟩ := refs_back fun z hz => h z (List.mem_cons_of_mem _ hz)
    obtain ⟨p, hp, ep⟩ := List.mem_map.mp (h y List.mem_cons_self)
    refine ⟨p :: qs, by rw [e, ← ep]; rfl, fun p' hp' => ?_⟩
    rcases List.mem_cons.mp hp' with rfl | hp'
    · exact hp
    · exact hq p' hp'
theorem tV_inj {x y : Tri} (h : tV x = tV y) : x = y := by
  obtain ⟨a, b, c⟩ := x
  obtain ⟨d, e, f⟩ := y
  unfold tV tI at h
  simp only [List.map_cons, List.cons.injEq, V.int.injEq, List.map_nil, and_true] at h
  obtain ⟨h1, h2, h3⟩ := h
  rw [h1, h2, h3]
theorem tup_at {K : PySem.W.Frag} {H : Hp} {p : TP} {i : Nat} {z : Int} (h : H p.1 = some (.tup (tV p.2))) (e : (tI p.2)[i]? = some z) : SqT K H p.1 (tV p.2) ∧ atI (tV p.2) (i : Nat) = some (.int z) := ⟨SqT.of h, atI_nat (by unfold tV; rw [List.getElem?_map, e]; rfl)⟩
def tdat (t : Tri) : PyData := .tuple [.int t.1, .int t.2.1, .int t.2.2]
theorem lt_tri (x y : Tri) : dataLt (tdat x) (tdat y) = decide (x.1 < y.1 ∨ (x.1 = y.1 ∧ (x.2.1 < y.2.1 ∨ (x.2.1 = y.2.1 ∧ x.2.2 < y.2.2)))) := by
  unfold tdat
  have e : PyProof.Rows.lexLt itemOrd (keyToksAll []) (keyToksAll []) = false := lex_irrefl _
  rw [dataLt_tuple, dataLt_cons (by simp [alike]), dataLt_cons (by simp [alike]), dataLt_cons (by simp [alike]), dataLt_int, dataLt_int, dataLt_int, e]
  simp only [PyData.eqv, beq_iff_eq]
  by_cases h1 : x.1 = y.1 <;> by_cases h2 : x.2.1 = y.2.1 <;> by_cases h3 : x.2.2 = y.2.2 <;> simp [h1, h2, h3]
theorem le_tri {x y : Tri} (hx : okT x) (hy : okT y) (h : dataLe false tdat x y = true) : cd x ≤ cd y := by
  have h2 : (!dataLt (tdat y) (tdat x)) = true := h
  rw [lt_tri, Bool.not_eq_true', decide_eq_false_iff_not] at h2
  obtain ⟨⟨a0, a1⟩, ⟨b0, b1⟩, ⟨c0, c1⟩⟩ := hx
  obtain ⟨⟨d0, d1⟩, ⟨e0, e1⟩, ⟨f0, f1⟩⟩ := hy
  rw [cd_eq, cd_eq]
  unfold bigB at *
  omega
theorem srt_pw {α : Type} (f : α → PyData) (xs : List α) : (xs.mergeSort (dataLe false f)).Pairwise fun a b => dataLe false f a b = true := by
  have tt := PySem.W.sortLe_total (listOrd itemOrd) false (fun a : α => PySem.W.keyToks (f a))
  refine List.pairwise_mergeSort (fun a b c => tt.trans a b c) (fun a b => ?_) xs
  rcases tt.total a b with h | h
  · rw [h, Bool.true_or]
  · rw [h, Bool.or_true]
def vdT (p : TP) : VD := (.ref p.1, tdat p.2)
def srtT (ps : List TP) : List TP := ps.mergeSort (dataLe false fun p => tdat p.2)
theorem srtD_T (ps : List TP) : srtD (ps.map vdT) = (srtT ps).map vdT := (PySem.W.sort_maps vdT (fun _ _ _ _ => rfl)).symm
theorem al_T (ps : List TP) : AllAlike (ps.map fun p => tdat p.2) := fun d hd d' hd' => by
  obtain ⟨r, _, rfl⟩ := List.mem_map.mp hd
  obtain ⟨r', _, rfl⟩ := List.mem_map.mp hd'
  rfl
theorem so_T (ps : List TP) : Sortable (ps.map fun p => tdat p.2) := .inl fun d hd => by
  obtain ⟨r, _, rfl⟩ := List.mem_map.mp hd
  exact ⟨_, _, rfl⟩
theorem dp_tdat {K : PySem.W.Frag} {H : Hp} {p : TP} (h : H p.1 = some (.tup (tV p.2))) : Dp K H (.ref p.1) (tdat p.2) := .tup (SqT.of h) (.cons (.int _) (.cons (.int _) (.cons (.int _) .nil)))
def rSortTri (K : PySem.W.Frag) : List V → Hp → VK → Prop := fun vs H Q => ∃ (a : Addr) (ps : List TP), vs = [.ref a] ∧ (SqL K H a (trs ps) ∨ SqT K H a (trs ps)) ∧ TrAt H ps ∧ (∀ p ∈ ps, okT p.2) ∧
  ∀ (qs : List TP) (p : Addr), qs.Perm ps → (qs.Pairwise fun x y => cd x.2 ≤ cd y.2) → H p = none → Q (.ref p) (upd H p (.lst (trs qs)))
theorem cr_sortTri {X : Cx} (hu : X.A.units + 64 < cLine) : CallR X (.builtin "sorted") (rSortTri X.K) := by
  intro pins s σ H vs us Q I r h
  obtain ⟨a, ps, rfl, hs, hT, ok, q⟩ := h
  have e1 : (ps.map vdT).map (·.1) = trs ps := by
    rw [List.map_map]
    rfl
  have e2 : (ps.map vdT).map (·.2) = ps.map fun p => tdat p.2 := by rw [List.map_map]; rfl
  refine cr_sortD hu pins s σ H _ us Q I r ⟨a, ps.map vdT, rfl, by rw [e1]; exact hs, fun p hp => ?_, by rw [e2]; exact al_T ps, by rw [e2]; exact so_T ps, fun p hp => ?_, fun p np => ?_⟩
  · obtain ⟨t, ht, rfl⟩ := List.mem_map.mp hp
    exact dp_tdat (hT t ht)
  · obtain ⟨t, ht, rfl⟩ := List.mem_map.mp hp
    show (tdat t.2).depth ≤ 8
    unfold tdat
    simp [PyData.depth, PyData.depthAll]
  · rw [srtD_T, List.map_map, show (srtT ps).map ((·.1) ∘ vdT) = trs (srtT ps) from rfl]
    have pm : (srtT ps).Perm ps := List.mergeSort_perm ..
    exact q (srtT ps) p pm (List.Pairwise.imp_of_mem (fun {x y} hx hy h => le_tri (ok x (pm.mem_iff.mp hx)) (ok y (pm.mem_iff.mp hy)) h) (srt_pw _ ps)) np
/-! ### sorted(set(xs)) -/
def tK (t : Tri) : List L2.Key := [.inl t.1, .inl t.2.1, .inl t.2.2]
theorem tK_inj {x y : Tri} (h : tK x = tK y) : x = y := by
  obtain ⟨a, b, c⟩ := x
  obtain ⟨d, e, f⟩ := y
  unfold tK at h
  simp only [List.cons.injEq, Sum.inl.injEq, and_true] at h
  obtain ⟨h1, h2, h3⟩ := h
  rw [h1, h2, h3]
theorem tK_V (t : Tri) : (tK t).map kV = tV t := rfl
theorem tK_D (t : Tri) : kD (tK t) = tdat t := rfl
theorem akw_back {ps : List TP} : ∀ {L : List AK}, (∀ p ∈ L, p ∈ ps.map fun p : TP => (p.1, tK p.2)) → ∃ us : List TP, L = us.map (fun p : TP => (p.1, tK p.2)) ∧ ∀ p ∈ us, p ∈ ps
  | [], _ => ⟨[], rfl, fun _ h => nomatch h⟩
  | x :: r, h => by
    obtain ⟨us, e, hu⟩ := akw_back fun z hz => h z (List.mem_cons_of_mem _ hz)
    obtain ⟨p, hp, ep⟩ := List.mem_map.mp (h x List.mem_cons_self)
    refine ⟨p :: us, by rw [e, ← ep]; rfl, fun p' hp' => ?_⟩
    rcases List.mem_cons.mp hp' with rfl | hp'
    · exact hp
    · exact hu p' hp'
def tSortTri (K : PySem.W.Frag) (ta : TE) : TE := fun σ H Q => ta σ H fun x H1 => ∃ (l : Addr) (ps : List TP), x = .ref l ∧ (SqL K H1 l (trs ps) ∨ SqT K H1 l (trs ps)) ∧ TrAt H1 ps ∧ (∀ p ∈ ps, okT p.2) ∧ ps.length < 1200 ∧
  ∀ (q : Addr) (us : List TP), H1 q = none → (∀ p ∈ us, p ∈ ps) → (∀ x, x ∈ us.map (·.2) ↔ x ∈ ps.map (·.2)) → ((us.map (·.2)).Pairwise fun x y => cd x < cd y) → us.length ≤ ps.length → Q (.ref q) (upd H1 q (.lst (trs us)))
section
variable {X : Cx}
theorem pe_sortTri {a : Expr} {ta : TE} {p p2 q pos : Pos} (hc : X.calm = true) (hu : X.A.units + 64 < cLine) (hg : Gl X "sorted") (hm : X.mg "sorted" = none) (hg2 : Gl X "set") (hm2 : X.mg "set" = none) (ha : PE X a ta)
    (na : starEach [a] X.env = (false, eval a X.env) :: starEach [] X.env := by rfl) : PE X (.Call (.Name "sorted" p) [.Call (.Name "set" p2) [a] [] q] [] pos) (tSortTri X.K ta) := by
  have ha2 : PE X a (fun σ H R => ∃ G : V → Hp → Prop, ta σ H G ∧ ∀ x H1, G x H1 → R x H1) := ⟨fun pins s σ H Q I h => thn (ha.run pins s σ H h.choose I h.choose_spec.1) fun v s1 ⟨x, H1, I1, r1, q1⟩ => ⟨x, H1, I1, r1, h.choose_spec.2 x H1 q1⟩⟩
  have base := pe_sortSet (p := p) (p2 := p2) (q := q) (pos := pos) hc hu hg hm hg2 hm2 ha2 na
  refine ⟨fun pins s σ H Q I h => base.run pins s σ H Q I ?_⟩
  refine ⟨_, h, fun x H1 ⟨l, ps, e1, e2, e3, e4, e5, q1⟩ => ?_⟩
  have ekm : (ps.map fun p : TP => ((p.1, tK p.2) : AK)).map (fun p => V.ref p.1) = trs ps := by rw [List.map_map]; rfl
  have ekd : (ps.map fun p : TP => ((p.1, tK p.2) : AK)).map (fun p => kD p.2) = ps.map fun p => tdat p.2 := by rw [List.map_map]; rfl
  refine ⟨l, ps.map fun p => (p.1, tK p.2), e1, by rw [ekm]; exact e2, fun p hp => ?_, by rw [List.length_map]; exact e5, by rw [ekd]; exact al_T ps, by rw [ekd]; exact so_T ps, fun q bs nq hin hall hnd => ?_⟩
  · obtain ⟨r, hr, rfl⟩ := List.mem_map.mp hp
    exact SqT.of (e3 r hr)
  · have pm : (srtS bs).Perm bs := List.mergeSort_perm ..
    obtain ⟨us, eu, hu⟩ := akw_back (ps := ps) (L := srtS bs) fun p hp => hin p (pm.mem_iff.mp hp)
    have hpw : (srtS bs).Pairwise fun a b => dataLe false (fun p : AK => kD p.2) a b = true := srt_pw _ bs
    have hnd2 : ((srtS bs).map (·.2)).Nodup := (pm.map _).nodup_iff.mpr hnd
    have hmem : ∀ x, x ∈ us.map (·.2) ↔ x ∈ ps.map (·.2) := fun x => by
      constructor
      · intro h
        obtain ⟨p, hp, rfl⟩ := List.mem_map.mp h
        exact List.mem_map_of_mem (hu p hp)
      · intro h
        obtain ⟨p, hp, rfl⟩ := List.mem_map.mp h
        obtain ⟨y, hy, ey⟩ := List.mem_map.mp (hall _ (List.mem_map.mpr ⟨p, hp, rfl⟩))
        have hy2 := pm.mem_iff.mpr hy
        rw [eu] at hy2
        obtain ⟨r, hr, rfl⟩ := List.mem_map.mp hy2
        have e : r.2 = p.2 := tK_inj ey
        rw [← e]
        exact List.mem_map_of_mem hr
    rw [eu] at hpw hnd2
    have hw : (us.map (·.2)).Pairwise fun x y => cd x < cd y := by
      have p1 : us.Pairwise fun p r => dataLe false tdat p.2 r.2 = true := by
        rw [List.pairwise_map] at hpw
        exact hpw
      have p2 : us.Pairwise fun p r => tK p.2 ≠ tK r.2 := by
        have z := hnd2
        rw [List.map_map] at z
        exact List.pairwise_map.mp z
      rw [List.pairwise_map]
      refine List.Pairwise.imp_of_mem (fun {p r} hp hr h => ?_) (p1.and p2)
      rcases Int.lt_or_eq_of_le (le_tri (e4 p (hu p hp)) (e4 r (hu r hr)) h.1) with z | z
      · exact z
      · exact absurd (by rw [cd_inj (e4 p (hu p hp)) (e4 r (hu r hr)) z]) h.2
    have hlen : us.length ≤ ps.length := by
      have n1 : (us.map (·.2)).Nodup := hw.imp fun h e => by rw [e] at h; exact Int.lt_irrefl _ h
      have := nd_le (us.map (·.2)) (ps.map (·.2)) n1 fun x hx => (hmem x).mp hx
      rw [List.length_map, List.length_map] at this
      exact this
    rw [eu, List.map_map]
    exact q1 q us nq hu hmem hw hlen
end
end Onp
set_option autoImplicit false
/-! small things that several layers want -/
namespace Onp
open PySem PySem.Spec PyProof.Rows L2
theorem yes2 {σ : L2.St} {H : Hp} {a b : Hp → Prop} (h : a H) : tYes σ H fun c H3 => if c = true then a H3 else b H3 := by
  show if true = true then a H else b H
  rw [if_pos rfl]
  exact h
theorem take_next {α : Type} {xs : List α} {i : Nat} {x : α} (h : xs[i]? = some x) : xs.take (i + 1) = xs.take i ++ [x] := by
  rw [List.take_succ, h]
  rfl
end Onp
set_option maxHeartbeats 2000000
set_option autoImplicit false
/-! zip of any number of lists -/
namespace ZN
open PySem PySem.Spec PyProof.Rows L2
open PySem.W (kdx_alive)
/-- a list (true) or a tuple (false) -/
abbrev Kd := Bool × Addr
def IsIt (h : Heap) (it : Addr) (l : Kd) (i : Nat) : Prop := match l.1 with | true => h.IsListIter it l.2 i | false => h.IsTupleIter it l.2 i
def IsSq (h : Heap) (l : Kd) (items : Array Value) : Prop := match l.1 with | true => h.IsList l.2 items | false => h.IsTuple l.2 items
theorem IsIt.at {h h' : Heap} {a : Addr} {l : Kd} {i : Nat} (x : IsIt h a l i) (e : ∀ o, h.get? a = some o → h'.get? a = some o) : IsIt h' a l i := by
  obtain ⟨kd, l⟩ := l
  cases kd
  · exact Heap.IsTupleIter.at x e
  · exact Heap.IsListIter.at x e
theorem IsIt.extBut {h h' : Heap} {a b : Addr} {l : Kd} {i : Nat} (x : IsIt h a l i) (hs : Heap.ExtBut b h h') (hab : a ≠ b) : IsIt h' a l i := x.at fun o e => hs a o hab e
theorem IsIt.obj {h : Heap} {a : Addr} {l : Kd} {i : Nat} (x : IsIt h a l i) : ∃ o, h.get? a = some o ∧ ∀ v, o.data ≠ .cell v := by
  obtain ⟨kd, l⟩ := l
  cases kd
  · obtain ⟨o, e, _, d⟩ := (x : h.IsTupleIter a l i)
    exact ⟨o, e, fun v q => by rw [d] at q; cases q⟩
  · obtain ⟨o, e, _, d⟩ := (x : h.IsListIter a l i)
    exact ⟨o, e, fun v q => by rw [d] at q; cases q⟩
theorem IsSq.at {h h' : Heap} {l : Kd} {items : Array Value} (x : IsSq h l items) (e : ∀ o, h.get? l.2 = some o → h'.get? l.2 = some o) : IsSq h' l items := by
  obtain ⟨kd, l⟩ := l
  cases kd
  · exact Heap.IsTuple.at x e
  · exact Heap.IsList.at x e
theorem IsSq.lt {h : Heap} {l : Kd} {items : Array Value} (x : IsSq h l items) : l.2 < h.objs.size := by
  obtain ⟨kd, l⟩ := l
  cases kd
  · obtain ⟨o, e, _⟩ := (x : h.IsTuple l items)
    exact Heap.lt_size e
  · obtain ⟨o, e, _⟩ := (x : h.IsList l items)
    exact Heap.lt_size e
theorem IsSq.extBut {h h' : Heap} {b : Addr} {l : Kd} {items : Array Value} (x : IsSq h l items) (hs : Heap.ExtBut b h h') (hab : l.2 ≠ b) : IsSq h' l items := x.at fun o e => hs _ o hab e
section
variable {prog : Program} {w : World} {A : Around} {E : Value → Shared → Prop} {s : Shared}
theorem nextOf_item {it : Addr} {l : Kd} {i : Nat} {items : Array Value} {x : Value} {Q : Value → Shared → Prop} (hit : IsIt s.heap it l i) (hl : IsSq s.heap l items) (hx : items[i]? = some x)
    (hQ : ∀ h', IsIt h' it l (i + 1) → Heap.SameBut it s.heap h' → Q x { s with heap := h' }) : wpAny (model prog w) A (Builtin.SmallTypes.nextOf (.ref it)) Q E s := by
  obtain ⟨kd, l⟩ := l
  cases kd
  · exact RZ.nextOf_tuple_item (show s.heap.IsTupleIter it l i from hit) (show s.heap.IsTuple l items from hl) hx hQ
  · exact wpAny_nextOf_list_item (show s.heap.IsListIter it l i from hit) (show s.heap.IsList l items from hl) hx hQ
theorem nextOf_end {it : Addr} {l : Kd} {i : Nat} {items : Array Value} {Q : Value → Shared → Prop} (hh : A.handled = none) (hit : IsIt s.heap it l i) (hl : IsSq s.heap l items) (hx : items[i]? = none)
    (hE : ∀ h' e, Heap.ExtBut it s.heap h' → (∃ o, h'.get? e = some o ∧ o.cls = .type "StopIteration") → E (.ref e) { s with heap := h' }) : wpAny (model prog w) A (Builtin.SmallTypes.nextOf (.ref it)) Q E s := by
  obtain ⟨kd, l⟩ := l
  cases kd
  · exact RZ.nextOf_tuple_end hh (show s.heap.IsTupleIter it l i from hit) (show s.heap.IsTuple l items from hl) hx hE
  · exact wpAny_nextOf_list_end hh (show s.heap.IsListIter it l i from hit) (show s.heap.IsList l items from hl) hx hE
def itObj (l : Kd) : Obj := { cls := .type (if l.1 then "list_iterator" else "tuple_iterator"), data := .fields #[.ref l.2, .int 0 0] }
theorem it_new {h : Heap} {a : Addr} {l : Kd} (e : h.get? a = some (itObj l)) : IsIt h a l 0 := by
  obtain ⟨kd, l⟩ := l
  cases kd
  · exact ⟨_, e, rfl, rfl⟩
  · exact ⟨_, e, rfl, rfl⟩
theorem pyIter_sq {l : Kd} {items : Array Value} {Q : Value → Shared → Prop} (hl : IsSq s.heap l items) (hQ : Q (.ref s.heap.objs.size) { s with heap := s.heap.push (itObj l) }) : wpAny (model prog w) A (pyIter (.ref l.2)) Q E s := by
  obtain ⟨kd, l⟩ := l
  cases kd
  · exact wpAny_pyIter_tuple (show s.heap.IsTuple l items from hl) hQ
  · exact wpAny_pyIter_list (show s.heap.IsList l items from hl) hQ
end
section
variable {prog : Program} {w : World} {M : Model} {A : Around} {E : Value → Shared → Prop} {s : Shared}
theorem forIn_ix {α β : Type} (f : α → β → Sem (ForInStep β)) (l : List α) (P : Nat → β → Shared → Prop) (Q : β → Shared → Prop) {b : β} (h : P 0 b s)
    (turn : ∀ k x b s, l[k]? = some x → P k b s → wpAny M A (f x b) (fun r s' => ∃ b', r = .yield b' ∧ P (k + 1) b' s') E s) (fin : ∀ b s, P l.length b s → Q b s) : wpAny M A (forIn l b f) Q E s := by
  refine wpAny_forIn_list f (fun rest b s => ∃ k, k ≤ l.length ∧ rest = l.drop k ∧ P k b s) Q (fun x rest b s ⟨k, hk, e, p⟩ => ?_) (fun b s ⟨k, hk, e, p⟩ => ?_) l b ⟨0, Nat.zero_le _, rfl, h⟩
  · have hlt : k < l.length := by
      rcases Nat.lt_or_ge k l.length with q | q
      · exact q
      · rw [List.drop_eq_nil_of_le q] at e
        cases e
    rw [List.drop_eq_getElem_cons hlt] at e
    obtain ⟨rfl, rfl⟩ := List.cons.inj e
    refine wpAny_mono (turn k _ b s (List.getElem?_eq_getElem hlt) p) (fun r s' ⟨b', er, p'⟩ => ?_) fun _ _ z => z
    subst er
    exact ⟨k + 1, hlt, rfl, p'⟩
  · have : k = l.length := by
      rcases Nat.lt_or_ge k l.length with q | q
      · have := congrArg List.length e
        rw [List.length_drop, List.length_nil] at this
        omega
      · omega
    rw [this] at p
    exact fin b s p
/-- a zip -/
abbrev IsZ (h : Heap) (z TI TO : Addr) (f0 : Value) (f : Bool) : Prop :=
  h.get? z = some { cls := .type "zip", dict := none, data := .fields #[f0, .bool f, .bool false, .ref TI, .ref TO], slots := #[] }
abbrev IsTp (h : Heap) (T : Addr) (vs : List Value) : Prop := h.get? T = some { cls := .type "tuple", data := .seq vs.toArray }
def itv (b n : Nat) : List Value := (List.range n).map fun k => Value.ref (b + k)
theorem itv_at {b n k : Nat} (h : k < n) : (itv b n)[k]? = some (.ref (b + k)) := by
  unfold itv
  rw [List.getElem?_map, List.getElem?_range h]
  rfl
theorem itv_len (b n : Nat) : (itv b n).length = n := by simp [itv]
/-- the iterators at b, b + 1, ..: the first m are one further on -/
def Its (h : Heap) (b : Nat) (ls : List Kd) (i m : Nat) : Prop := ∀ k l, ls[k]? = some l → IsIt h (b + k) l (if k < m then i + 1 else i)
theorem Its.all {h : Heap} {b : Nat} {ls : List Kd} {i : Nat} (x : Its h b ls i ls.length) : Its h b ls (i + 1) 0 := fun k l e => by
  have hk : k < ls.length := (List.getElem?_eq_some_iff.mp e).1
  have := x k l e
  rw [if_pos hk] at this
  rw [if_neg (Nat.not_lt_zero k)]
  exact this
/-- but what the zip itself has, all stands -/
def Kp (z TO b n : Nat) (h h' : Heap) : Prop := h'.objs.size = h.objs.size ∧ ∀ c o, c ≠ z → c ≠ TO → (∀ k, k < n → c ≠ b + k) → h.get? c = some o → h'.get? c = some o
theorem Kp.refl (z TO b n : Nat) (h : Heap) : Kp z TO b n h h := ⟨rfl, fun _ _ _ _ _ e => e⟩
structure Apart (z TI TO b n : Nat) (ls : List Kd) : Prop where
  zT : z ≠ TO
  zI : z ≠ TI
  TT : TI ≠ TO
  zb : ∀ k, k < n → z ≠ b + k
  Ib : ∀ k, k < n → TI ≠ b + k
  Tb : ∀ k, k < n → TO ≠ b + k
  lz : ∀ l : Kd, l ∈ ls → l.2 ≠ z
  lT : ∀ l : Kd, l ∈ ls → l.2 ≠ TO
  lb : ∀ l : Kd, l ∈ ls → ∀ k, k < n → l.2 ≠ b + k
theorem its_next {z TI TO b i m : Nat} {ls : List Kd} {h h' : Heap} (x : Its h b ls i m) {l : Kd} (hm : ls[m]? = some l) (hs : Heap.SameBut (b + m) h h') (h1 : IsIt h' (b + m) l (i + 1)) : Its h' b ls i (m + 1) := fun (k : Nat) l' e => by
  by_cases q : k = m
  · subst q
    rw [hm] at e
    obtain rfl := Option.some.inj e
    rw [if_pos (Nat.lt_succ_self k)]
    exact h1
  · have e1 := x k l' e
    have e2 : (if k < m + 1 then i + 1 else i) = (if k < m then i + 1 else i) := by
      by_cases r : k < m
      · rw [if_pos r, if_pos (by omega)]
      · rw [if_neg r, if_neg (by omega)]
    rw [e2]
    exact e1.extBut hs.extBut (fun z => q (by have : b + k = b + m := z; omega))
theorem its_over {b i m : Nat} {ls : List Kd} {h h' : Heap} {c : Addr} (x : Its h b ls i m) (hs : Heap.SameBut c h h') (hc : ∀ k, k < ls.length → b + k ≠ c) : Its h' b ls i m := fun (k : Nat) l e =>
  (x k l e).extBut hs.extBut (hc k (List.getElem?_eq_some_iff.mp e).1)
theorem alive_no {a : Addr} {Q : Option Obj → Shared → Prop} (ho : s.heap.get? a = none) (h : Q none s) : wpAny (model prog w) A (loadIfAlive a) Q E s := by
  have h' : Q (s.heap.get? a) s := by rw [ho]; exact h
  exact fun _ _ _ => h'
/-- what the lists have at i -/
def Col (h : Heap) (ls : List Kd) (i : Nat) (xs : List Value) : Prop := xs.length = ls.length ∧ ∀ (k : Nat) l, ls[k]? = some l → ∃ items x, IsSq h l items ∧ items[i]? = some x ∧ xs[k]? = some x
theorem set_take {vs xs : List Value} {m : Nat} {x : Value} (hl : vs.length = xs.length) (ht : vs.take m = xs.take m) (hx : xs[m]? = some x) : (vs.set m x).take (m + 1) = xs.take (m + 1) := by
  have hm : m < xs.length := (List.getElem?_eq_some_iff.mp hx).1
  rw [List.take_succ, List.take_succ, List.take_set, List.set_eq_of_length_le (by rw [List.length_take]; omega), ht, List.getElem?_set_self (by omega), hx]
theorem free_next {z TI TO b i : Nat} {f : Bool} {f0 : Value} {ls : List Kd} {xs vs : List Value} {Q : Value → Shared → Prop} (D : Apart z TI TO b ls.length ls) (hn : 0 < ls.length) (hz : IsZ s.heap z TI TO f0 f) (hf : f0 = .none ∨ ∃ T : Nat, f0 = rawInt T ∧ s.heap.get? T = none)
    (hTI : IsTp s.heap TI (itv b ls.length)) (hTO : IsTp s.heap TO vs) (hv : vs.length = ls.length) (hi : Its s.heap b ls i 0) (hc : Col s.heap ls i xs) (hsz : ls.length ≤ 1000)
    (hQ : ∀ h', IsZ h' z TI TO (rawInt s.heap.objs.size) false → IsTp h' TO xs → Its h' b ls (i + 1) 0 → IsTp h' s.heap.objs.size xs → h'.objs.size = s.heap.objs.size + 1 →
      (∀ c o, c ≠ z → c ≠ TO → (∀ k, k < ls.length → c ≠ b + k) → s.heap.get? c = some o → h'.get? c = some o) → Q (.ref s.heap.objs.size) { s with heap := h' }) :
    wpAny (model prog w) A (Builtin.«zip.__next__» ⟨[.ref z], []⟩) (fun fin s' => ∃ v, fin = .done (.ret v) ∧ Q v s') E s := by
  show wpAny _ _ (field (.ref z) 2 >>= _) _ _ _
  refine wpAny_bind (wpAny_field hz rfl (x := .bool false) rfl ?_)
  show wpAny _ _ (field (.ref z) 3 >>= _) _ _ _
  refine wpAny_bind (wpAny_field hz rfl (x := .ref TI) rfl ?_)
  refine wpAny_bind (wpAny_seqItems hTI rfl ?_)
  have hne : (itv b ls.length).toArray.isEmpty = false := by
    rw [Array.isEmpty_eq_false_iff]
    intro e
    have := congrArg Array.size e
    rw [List.size_toArray, itv_len] at this
    exact absurd (show ls.length = 0 from this) (by omega)
  simp only [hne, Bool.false_eq_true, if_false]
  have hfree : ∀ {Q' : Bool → Shared → Prop}, Q' true s → wpAny (model prog w) A (Builtin.SmallTypes.ownedTupleIsFree (.ref z)) Q' E s := fun {Q'} hq => by
    unfold Builtin.SmallTypes.ownedTupleIsFree
    refine wpAny_bind (wpAny_field hz rfl (x := f0) rfl ?_)
    rcases hf with rfl | ⟨T, rfl, hT⟩
    · exact wpAny_pure hq
    · show wpAny _ _ (loadIfAlive ((T : Int).toNat) >>= _) _ _ _
      rw [Int.toNat_natCast]
      refine wpAny_bind (alive_no hT ?_)
      simp only [Option.isNone_none, if_true]
      exact wpAny_pure hq
  refine wpAny_bind (hfree ?_)
  simp only [if_true]
  refine wpAny_bind (wpAny_rule ?_)
  refine wpAny_bind (wpAny_field hz rfl (x := .ref TO) rfl ?_)
  refine wpAny_bind (wpAny_setField_rec hz (by simp) fun h₁ hz₁ hs₁ => ?_)
  replace hz₁ : IsZ h₁ z TI TO .ellipsis f := hz₁
  have hs₁ : Heap.SameBut z s.heap h₁ := hs₁
  refine wpAny_bind (forIn_ix _ _ (fun m b' s' => b' = ⟨none, ()⟩ ∧ ∃ h' vs', s' = { s with heap := h' } ∧ IsZ h' z TI TO .ellipsis f ∧ IsTp h' TO vs' ∧ vs'.length = ls.length ∧ vs'.take m = xs.take m ∧ Its h' b ls i m ∧ Kp z TO b ls.length s.heap h') _ ?_ ?_ ?_)
  · refine ⟨rfl, h₁, vs, rfl, hz₁, hs₁.extBut _ _ (Ne.symm D.zT) hTO, hv, rfl, its_over hi hs₁ fun k hk => (D.zb k hk).symm, hs₁.1, fun c o c1 _ _ e => hs₁.extBut _ _ c1 e⟩
  · rintro m ⟨it, k⟩ b' s' hx ⟨rfl, h', vs', rfl, gz, gT, gl, gt, gi, gk⟩
    have hx' : it = .ref (b + m) ∧ k = m ∧ m < ls.length := by
      rw [List.getElem?_zipIdx] at hx
      by_cases hm : m < ls.length
      · rw [itv_at hm] at hx
        have e := Option.some.inj hx
        refine ⟨(congrArg Prod.fst e).symm, ?_, hm⟩
        have e2 := congrArg Prod.snd e
        simpa using e2.symm
      · rw [List.getElem?_eq_none (by rw [itv_len]; omega)] at hx
        cases hx
    obtain ⟨rfl, rfl, hm⟩ := hx'
    obtain ⟨items, x, hL, hxi, hxk⟩ := hc.2 k _ (List.getElem?_eq_getElem hm)
    have gi0 := gi k _ (List.getElem?_eq_getElem hm)
    rw [if_neg (Nat.lt_irrefl k)] at gi0
    have hmem := List.getElem_mem hm
    have hL' : IsSq h' ls[k] items := hL.at fun o e => gk.2 _ o (D.lz _ hmem) (D.lT _ hmem) (fun j hj => D.lb _ hmem j hj) e
    refine wpAny_bind (wpAny_onRaise ?_)
    show wpAny _ _ (Builtin.SmallTypes.nextOf (.ref (b + k)) >>= _) _ _ _
    refine wpAny_bind (nextOf_item (s := { s with heap := h' }) gi0 hL' hxi fun h₂ h1₂ hs₂ => wpAny_pure ?_)
    have hs₂ : Heap.SameBut (b + k) h' h₂ := hs₂
    have hTO₂ : IsTp h₂ TO vs' := hs₂.extBut _ _ (D.Tb k hm) gT
    refine wpAny_bind (wpAny_seqItems (s := { s with heap := h₂ }) hTO₂ rfl ?_)
    refine wpAny_bind (wpAny_updateSeq (s := { s with heap := h₂ }) hTO₂ rfl ?_ ?_ ?_)
    · refine wpAny_bind (wpAny_letGo (wpAny_pure ⟨_, rfl, rfl, _, vs'.set k x, rfl, ?_, ?_, by rw [List.length_set]; exact gl, set_take (by rw [gl, hc.1]) gt hxk, ?_, ?_⟩))
      · have e := (Heap.SameBut.update h₂ TO (Obj.mapSeq (·.setIfInBounds k x))).extBut _ _ D.zT (hs₂.extBut _ _ (D.zb k hm) gz)
        exact e
      · show (h₂.update TO (Obj.mapSeq (·.setIfInBounds k x))).get? TO = _
        rw [Heap.get?_update_self _ hTO₂ rfl]
        simp [Obj.mapSeq]
      · have e := its_next (TI := TI) (TO := TO) (z := z) gi (List.getElem?_eq_getElem hm) hs₂ h1₂
        exact its_over e (Heap.SameBut.update h₂ TO (Obj.mapSeq (·.setIfInBounds k x))) fun j hj => (D.Tb j hj).symm
      · have e := Heap.SameBut.update h₂ TO (Obj.mapSeq (·.setIfInBounds k x))
        refine ⟨?_, fun c o c1 c2 c3 q => e.extBut _ _ c2 (hs₂.extBut _ _ (c3 k hm) (gk.2 c o c1 c2 c3 q))⟩
        have e2 := e.1
        rw [hs₂.1, gk.1] at e2
        exact e2
    · rw [List.size_toArray, gl]
      exact Nat.le_trans hsz (by decide)
    · rw [Array.size_setIfInBounds, List.size_toArray, gl]
      exact Nat.le_trans hsz (by decide)
  · rintro b' s' ⟨rfl, h₅, vs', rfl, gz, gT, gl, gt, gi, gk⟩
    have el : ((itv b ls.length).zipIdx).length = ls.length := by rw [List.length_zipIdx, itv_len]
    rw [show (List.toArray (itv b ls.length)).toList.zipIdx.length = ls.length from el] at gt gi
    have ev : vs' = xs := by
      rw [List.take_of_length_le (by omega), List.take_of_length_le (by rw [hc.1]; exact Nat.le_refl _)] at gt
      exact gt
    subst ev
    refine wpAny_bind (wpAny_seqItems (s := { s with heap := h₅ }) gT rfl ?_)
    refine wpAny_bind (wpAny_newTuple (s := { s with heap := h₅ }) ?_ ?_)
    · have hzlt : z < h₅.objs.size := Heap.lt_size gz
      show wpAny _ _ (Builtin.SmallTypes.ownedTupleHandOut (.ref z) (.ref h₅.objs.size) >>= _) _ _ _
      refine wpAny_bind ?_
      unfold Builtin.SmallTypes.ownedTupleHandOut
      have hz₆ : IsZ (h₅.push { cls := .type "tuple", data := .seq vs'.toArray }) z TI TO .ellipsis f := Heap.get?_push_of_some _ gz
      refine wpAny_bind (wpAny_setField_rec hz₆ (by simp) fun h₇ hz₇ hs₇ => ?_)
      replace hz₇ : IsZ h₇ z TI TO (rawInt h₅.objs.size) f := hz₇
      refine wpAny_setField_rec hz₇ (by simp) fun h₈ hz₈ hs₈ => ?_
      replace hz₈ : IsZ h₈ z TI TO (rawInt h₅.objs.size) false := hz₈
      have hs₇ : Heap.SameBut z (h₅.push { cls := .type "tuple", data := .seq vs'.toArray }) h₇ := hs₇
      have hs₈ : Heap.SameBut z h₇ h₈ := hs₈
      have up : ∀ c o, c ≠ z → h₅.get? c = some o → h₈.get? c = some o := fun c o c1 e => hs₈.extBut _ _ c1 (hs₇.extBut _ _ c1 (Heap.get?_push_of_some _ e))
      have hT₈ : IsTp h₈ h₅.objs.size vs' := hs₈.extBut _ _ (Nat.ne_of_gt hzlt) (hs₇.extBut _ _ (Nat.ne_of_gt hzlt) (Heap.get?_push_size _ rfl))
      have hz8 : h₈.objs.size = h₅.objs.size + 1 := by rw [hs₈.1, hs₇.1, Heap.size_push]
      have hsz5 : h₅.objs.size = s.heap.objs.size := gk.1
      rw [hsz5] at hz₈ hT₈ hz8
      refine wpAny_pure ⟨_, rfl, ?_⟩
      show Q (.ref h₅.objs.size) _
      rw [hsz5]
      exact hQ h₈ hz₈ (up _ _ (Ne.symm D.zT) gT) (fun (k : Nat) l e => (gi.all k l e).at fun o q => up _ o (D.zb k (List.getElem?_eq_some_iff.mp e).1).symm q) hT₈ hz8 fun c o c1 c2 c3 e => up c o c1 (gk.2 c o c1 c2 c3 e)
    · show vs'.length ≤ sizeLine
      rw [gl]
      exact Nat.le_trans hsz (by decide)
theorem forIn_first {α β : Type} (f : α → β → Sem (ForInStep β)) {l : List α} {x : α} {b : β} {Q : β → Shared → Prop} (hx : l[0]? = some x) (h : wpAny M A (f x b) (fun _ _ => False) E s) : wpAny M A (forIn l b f) Q E s := by
  cases l with
  | nil => cases hx
  | cons y r =>
    obtain rfl := Option.some.inj hx
    rw [List.forIn_cons]
    exact wpAny_bind (wpAny_mono h (fun _ _ z => z.elim) fun _ _ z => z)
theorem held_next {z TI TO b i T : Nat} {f : Bool} {oT : Obj} {ls : List Kd} {xs : List Value} {Q : Value → Shared → Prop} (D : Apart z TI TO b ls.length ls) (hn : 0 < ls.length) (hz : IsZ s.heap z TI TO (rawInt T) f) (hT : s.heap.get? T = some oT)
    (hTI : IsTp s.heap TI (itv b ls.length)) (hi : Its s.heap b ls i 0) (hc : Col s.heap ls i xs) (hsz : ls.length ≤ 1000)
    (hQ : ∀ h', IsZ h' z TI TO (rawInt T) true → Its h' b ls (i + 1) 0 → IsTp h' s.heap.objs.size xs → h'.objs.size = s.heap.objs.size + 1 →
      (∀ c o, c ≠ z → (∀ k, k < ls.length → c ≠ b + k) → s.heap.get? c = some o → h'.get? c = some o) → Q (.ref s.heap.objs.size) { s with heap := h' }) :
    wpAny (model prog w) A (Builtin.«zip.__next__» ⟨[.ref z], []⟩) (fun fin s' => ∃ v, fin = .done (.ret v) ∧ Q v s') E s := by
  show wpAny _ _ (field (.ref z) 2 >>= _) _ _ _
  refine wpAny_bind (wpAny_field hz rfl (x := .bool false) rfl ?_)
  show wpAny _ _ (field (.ref z) 3 >>= _) _ _ _
  refine wpAny_bind (wpAny_field hz rfl (x := .ref TI) rfl ?_)
  refine wpAny_bind (wpAny_seqItems hTI rfl ?_)
  have hne : (itv b ls.length).toArray.isEmpty = false := by
    rw [Array.isEmpty_eq_false_iff]
    intro e
    have := congrArg Array.size e
    rw [List.size_toArray, itv_len] at this
    exact absurd (show ls.length = 0 from this) (by omega)
  simp only [hne, Bool.false_eq_true, if_false]
  refine wpAny_bind (wpAny_tupleHeld_zip (TI := TI) (TO := TO) (T := T) (f := f) hz hT fun h₁ hz₁ hs₁ => ?_)
  have hz₁ : IsZ h₁ z TI TO (rawInt T) true := hz₁
  have hs₁ : Heap.SameBut z s.heap h₁ := hs₁
  simp only [Bool.false_eq_true, if_false]
  refine wpAny_bind ?_
  rw [← Array.forIn_toList]
  refine forIn_ix _ _ (fun m b' s' => ∃ acc : Array Value, b' = ⟨none, acc⟩ ∧ acc.toList = xs.take m ∧ ∃ h', s' = { s with heap := h' } ∧ IsZ h' z TI TO (rawInt T) true ∧ Its h' b ls i m ∧ h'.objs.size = s.heap.objs.size ∧ ∀ c o, c ≠ z → (∀ k, k < ls.length → c ≠ b + k) → s.heap.get? c = some o → h'.get? c = some o) _ ?_ ?_ ?_
  · exact ⟨#[], rfl, rfl, h₁, rfl, hz₁, its_over hi hs₁ fun k hk => (D.zb k hk).symm, hs₁.1, fun c o c1 _ e => hs₁.extBut _ _ c1 e⟩
  · rintro m it b' s' hx ⟨acc, rfl, ha, h', rfl, gz, gi, gs, gk⟩
    have hx' : it = .ref (b + m) ∧ m < ls.length := by
      by_cases hm : m < ls.length
      · have e : (itv b ls.length)[m]? = some it := hx
        rw [itv_at hm] at e
        exact ⟨(Option.some.inj e).symm, hm⟩
      · have e : (itv b ls.length)[m]? = some it := hx
        rw [List.getElem?_eq_none (by rw [itv_len]; omega)] at e
        cases e
    obtain ⟨rfl, hm⟩ := hx'
    obtain ⟨items, x, hL, hxi, hxk⟩ := hc.2 m _ (List.getElem?_eq_getElem hm)
    have gi0 := gi m _ (List.getElem?_eq_getElem hm)
    rw [if_neg (Nat.lt_irrefl m)] at gi0
    have hmem := List.getElem_mem hm
    have hL' : IsSq h' ls[m] items := hL.at fun o e => gk _ o (D.lz _ hmem) (fun j hj => D.lb _ hmem j hj) e
    refine wpAny_bind (wpAny_holding ?_)
    show wpAny _ _ (Builtin.SmallTypes.nextOf (.ref (b + m)) >>= _) _ _ _
    refine wpAny_bind (nextOf_item (s := { s with heap := h' }) gi0 hL' hxi fun h₂ h1₂ hs₂ => wpAny_pure (wpAny_pure ?_))
    have hs₂ : Heap.SameBut (b + m) h' h₂ := hs₂
    refine ⟨_, rfl, acc.push x, rfl, ?_, h₂, rfl, hs₂.extBut _ _ (D.zb m hm) gz, its_next (TI := TI) (TO := TO) (z := z) gi (List.getElem?_eq_getElem hm) hs₂ h1₂, hs₂.1.trans gs, fun c o c1 c3 q => hs₂.extBut _ _ (c3 m hm) (gk c o c1 c3 q)⟩
    rw [Array.toList_push, ha, List.take_succ, hxk]
    rfl
  · rintro b' s' ⟨acc, rfl, ha, h₅, rfl, gz, gi, gs, gk⟩
    have el : (itv b ls.length).length = ls.length := itv_len _ _
    rw [show (List.toArray (itv b ls.length)).toList.length = ls.length from el] at ha gi
    rw [List.take_of_length_le (by rw [hc.1]; exact Nat.le_refl _)] at ha
    show wpAny _ _ (newTuple acc.toList >>= _) _ _ _
    rw [ha]
    refine wpAny_bind (wpAny_newTuple (s := { s with heap := h₅ }) ?_ ?_)
    · refine wpAny_pure ⟨_, rfl, ?_⟩
      show Q (.ref h₅.objs.size) _
      have hp : IsTp (h₅.push { cls := .type "tuple", data := .seq xs.toArray }) h₅.objs.size xs := Heap.get?_push_size _ rfl
      have hz4 : (h₅.push { cls := .type "tuple", data := .seq xs.toArray }).objs.size = h₅.objs.size + 1 := Heap.size_push ..
      rw [gs] at hp hz4 ⊢
      exact hQ _ (Heap.get?_push_of_some _ gz) (fun (k : Nat) l e => (gi.all k l e).at fun o q => Heap.get?_push_of_some _ q) hp hz4 fun c o c1 c3 e => Heap.get?_push_of_some _ (gk c o c1 c3 e)
    · rw [hc.1]
      exact Nat.le_trans hsz (by decide)
theorem any_end {z TI TO b i : Nat} {f : Bool} {f0 : Value} {ls : List Kd} {vs : List Value} {l : Kd} {items : Array Value} {Q : Fin → Shared → Prop} (hh : A.handled = none) (D : Apart z TI TO b ls.length ls) (hz : IsZ s.heap z TI TO f0 f) (hf : f0 = .none ∨ ∃ T : Nat, f0 = rawInt T)
    (hTI : IsTp s.heap TI (itv b ls.length)) (hTO : IsTp s.heap TO vs) (hi : Its s.heap b ls i 0) (hl : ls[0]? = some l) (hL : IsSq s.heap l items) (hx : items[i]? = none)
    (hE : ∀ h' e, (∀ c o, c ≠ z → (∀ k, k < ls.length → c ≠ b + k) → s.heap.get? c = some o → h'.get? c = some o) → (∃ o, h'.get? e = some o ∧ o.cls = .type "StopIteration") → E (.ref e) { s with heap := h' }) :
    wpAny (model prog w) A (Builtin.«zip.__next__» ⟨[.ref z], []⟩) Q E s := by
  have hn : 0 < ls.length := (List.getElem?_eq_some_iff.mp hl).1
  have hmem := List.mem_of_getElem? hl
  have hi0 := hi 0 l hl
  rw [if_neg (Nat.lt_irrefl 0)] at hi0
  show wpAny _ _ (field (.ref z) 2 >>= _) _ _ _
  refine wpAny_bind (wpAny_field hz rfl (x := .bool false) rfl ?_)
  show wpAny _ _ (field (.ref z) 3 >>= _) _ _ _
  refine wpAny_bind (wpAny_field hz rfl (x := .ref TI) rfl ?_)
  refine wpAny_bind (wpAny_seqItems hTI rfl ?_)
  have hne : (itv b ls.length).toArray.isEmpty = false := by
    rw [Array.isEmpty_eq_false_iff]
    intro e
    have := congrArg Array.size e
    rw [List.size_toArray, itv_len] at this
    exact absurd (show ls.length = 0 from this) (by omega)
  simp only [hne, Bool.false_eq_true, if_false]
  by_cases hfr : f0 = .none ∨ ∃ T : Nat, f0 = rawInt T ∧ s.heap.get? T = none
  · have hfree : ∀ {Q' : Bool → Shared → Prop}, Q' true s → wpAny (model prog w) A (Builtin.SmallTypes.ownedTupleIsFree (.ref z)) Q' E s := fun {Q'} hq => by
      unfold Builtin.SmallTypes.ownedTupleIsFree
      refine wpAny_bind (wpAny_field hz rfl (x := f0) rfl ?_)
      rcases hfr with rfl | ⟨T, rfl, hT⟩
      · exact wpAny_pure hq
      · show wpAny _ _ (loadIfAlive ((T : Int).toNat) >>= _) _ _ _
        rw [Int.toNat_natCast]
        refine wpAny_bind (alive_no hT ?_)
        simp only [Option.isNone_none, if_true]
        exact wpAny_pure hq
    refine wpAny_bind (hfree ?_)
    simp only [if_true]
    refine wpAny_bind (wpAny_rule ?_)
    refine wpAny_bind (wpAny_field hz rfl (x := .ref TO) rfl ?_)
    refine wpAny_bind (wpAny_setField_rec hz (by simp) fun h₁ hz₁ hs₁ => ?_)
    replace hz₁ : IsZ h₁ z TI TO .ellipsis f := hz₁
    have hs₁ : Heap.SameBut z s.heap h₁ := hs₁
    refine wpAny_bind (forIn_first _ (x := (.ref (b + 0), 0)) ?_ ?_)
    · show (itv b ls.length).zipIdx[0]? = _
      rw [List.getElem?_zipIdx, itv_at hn]
      rfl
    · refine wpAny_bind (wpAny_onRaise ?_)
      show wpAny _ _ (Builtin.SmallTypes.nextOf (.ref (b + 0)) >>= _) _ _ _
      refine wpAny_bind (nextOf_end (s := { s with heap := h₁ }) hh (hi0.extBut hs₁.extBut (D.zb 0 hn).symm) (hL.extBut hs₁.extBut (D.lz _ hmem)) hx fun h₂ e hs₂ he => ?_)
      obtain ⟨oe, hoe, hce⟩ := he
      have hs₂ : Heap.ExtBut (b + 0) h₁ h₂ := hs₂
      have hz₂ : IsZ h₂ z TI TO .ellipsis f := hs₂ _ _ (D.zb 0 hn) hz₁
      have hez : e ≠ z := fun x => by subst x; rw [hz₂] at hoe; cases hoe; simp at hce
      refine wpAny_setField_rec (s := { s with heap := h₂ }) hz₂ (by simp) fun h₃ _ hs₃ => hE h₃ e (fun c o c1 c3 x => hs₃.extBut _ _ c1 (hs₂ _ _ (c3 0 hn) (hs₁.extBut _ _ c1 x))) ⟨oe, hs₃.extBut _ _ hez hoe, hce⟩
  · obtain ⟨T, rfl⟩ : ∃ T : Nat, f0 = rawInt T := by
      rcases hf with e | e
      · exact absurd (.inl e) hfr
      · exact e
    obtain ⟨oT, hT⟩ : ∃ oT, s.heap.get? T = some oT := by
      cases q : s.heap.get? T with
      | none => exact absurd (.inr ⟨T, rfl, q⟩) hfr
      | some o => exact ⟨o, rfl⟩
    refine wpAny_bind (wpAny_tupleHeld_zip (TI := TI) (TO := TO) (T := T) (f := f) hz hT fun h₁ hz₁ hs₁ => ?_)
    have hs₁ : Heap.SameBut z s.heap h₁ := hs₁
    simp only [Bool.false_eq_true, if_false]
    refine wpAny_bind ?_
    rw [← Array.forIn_toList]
    refine forIn_first _ (x := .ref (b + 0)) (itv_at hn) ?_
    refine wpAny_bind (wpAny_holding ?_)
    show wpAny _ _ (Builtin.SmallTypes.nextOf (.ref (b + 0)) >>= _) _ _ _
    refine wpAny_bind (nextOf_end (s := { s with heap := h₁ }) hh (hi0.extBut hs₁.extBut (D.zb 0 hn).symm) (hL.extBut hs₁.extBut (D.lz _ hmem)) hx fun h₂ e hs₂ he => ?_)
    exact hE h₂ e (fun c o c1 c3 x => hs₂ _ _ (c3 0 hn) (hs₁.extBut _ _ c1 x)) he
end
end ZN
set_option maxHeartbeats 2000000
set_option autoImplicit false
namespace ZN
open PySem PySem.Spec PyProof.Rows L2
/-- a new zip of these lists -/
def New (h : Heap) (ls : List Kd) (h' : Heap) : Prop :=
  IsZ h' (h.objs.size + ls.length + 2) (h.objs.size + ls.length) (h.objs.size + ls.length + 1) .none false ∧ IsTp h' (h.objs.size + ls.length) (itv h.objs.size ls.length) ∧ (∃ vs : List Value, vs.length = ls.length ∧ IsTp h' (h.objs.size + ls.length + 1) vs) ∧
    Its h' h.objs.size ls 0 0 ∧ h'.objs.size = h.objs.size + ls.length + 3 ∧ ∀ c o, h.get? c = some o → h'.get? c = some o
theorem meets_new (ls : List Kd) :
    Meets (Builtin.«zip.__new__» ⟨.type "zip" :: (ls.map fun l => Value.ref l.2), []⟩) (fun _ R s => (∀ l ∈ ls, ∃ items, IsSq s.heap l items) ∧ ls.length ≤ 1000 ∧ ∀ h', New s.heap ls h' → R (.ok (.ret (.ref (s.heap.objs.size + ls.length + 2)))) { s with heap := h' }) :=
  .of_wp fun prog w A R s h => by
    obtain ⟨hp, g, d, tk, os⟩ := s
    obtain ⟨hl, hsz, h⟩ := h
    have hsub := sub_zip
    unfold Builtin.«zip.__new__»
    refine wpAny_bind ?_
    unfold Builtin.SmallTypes.newClass
    refine wpAny_bind (wpAny_pure ?_)
    simp only [Bool.not_true, Bool.false_eq_true, if_false]
    rw [hsub]
    refine wpAny_bind (wpAny_pure ?_)
    simp only [Bool.not_true, Bool.false_eq_true, if_false]
    refine wpAny_pure ?_
    simp only [List.length_nil, Nat.not_lt_zero, gt_iff_lt, if_false]
    refine wpAny_bind ?_
    unfold Builtin.SmallTypes.iterAll
    refine wpAny_bind (forIn_ix _ _ (fun m (acc : Array Value) s' => acc.toList = itv hp.objs.size m ∧ m ≤ ls.length ∧ ∃ h', s' = ⟨h', g, d, tk, os⟩ ∧ h'.objs.size = hp.objs.size + m ∧ (∀ (k : Nat) l, k < m → ls[k]? = some l → h'.get? (hp.objs.size + k) = some (itObj l)) ∧ ∀ c o, hp.get? c = some o → h'.get? c = some o) _ ?_ ?_ ?_)
    · exact ⟨rfl, Nat.zero_le _, hp, rfl, rfl, fun k l hk => absurd hk (Nat.not_lt_zero _), fun _ _ e => e⟩
    · rintro m x acc s' hx ⟨ha, hm, h', rfl, hs, hi, hk⟩
      rw [List.getElem?_map] at hx
      have hlt : m < ls.length := by
        rcases Nat.lt_or_ge m ls.length with q | q
        · exact q
        · rw [List.getElem?_eq_none q] at hx
          cases hx
      rw [List.getElem?_eq_getElem hlt] at hx
      obtain rfl := Option.some.inj hx
      obtain ⟨items, hL⟩ := hl _ (List.getElem_mem hlt)
      have hL' : IsSq h' ls[m] items := hL.at fun o e => hk _ o e
      refine wpAny_bind (wpAny_holding (pyIter_sq (s := ⟨h', g, d, tk, os⟩) hL' (wpAny_pure ⟨_, rfl, ?_, hlt, _, rfl, ?_, ?_, ?_⟩)))
      · show (acc.push (.ref h'.objs.size)).toList = _
        rw [Array.toList_push, ha, hs]
        unfold itv
        rw [List.range_succ, List.map_append]
        rfl
      · rw [Heap.size_push]
        show h'.objs.size + 1 = _
        omega
      · intro k l hkm e
        rcases Nat.lt_or_ge k m with q | q
        · exact Heap.get?_push_of_some _ (hi k l q e)
        · obtain rfl : k = m := by omega
          rw [List.getElem?_eq_getElem hlt] at e
          obtain rfl := Option.some.inj e
          have z : (h'.push (itObj ls[k])).get? h'.objs.size = some (itObj ls[k]) := Heap.get?_push_size _ rfl
          rw [hs] at z
          exact z
      · exact fun c o e => Heap.get?_push_of_some _ (hk c o e)
    · rintro acc s' ⟨ha, hm, h', rfl, hs, hi, hk⟩
      rw [List.length_map] at ha hs hi
      refine wpAny_pure ?_
      rw [ha]
      refine wpAny_bind (wpAny_newTuple ?_ ?_)
      · refine wpAny_bind (wpAny_newTuple ?_ ?_)
        · refine wpAny_bind ?_
          unfold Builtin.SmallTypes.newRecord
          refine wpAny_newObj_type (wpAny_pure ⟨_, rfl, ?_⟩) (by show (5 : Nat) ≤ sizeLine + 2; decide)
          have z1 : (h'.push { cls := .type "tuple", data := .seq (itv hp.objs.size ls.length).toArray }).objs.size = hp.objs.size + ls.length + 1 := by rw [Heap.size_push, hs]
          have z2 : ((h'.push { cls := .type "tuple", data := .seq (itv hp.objs.size ls.length).toArray }).push { cls := .type "tuple", data := .seq ((itv hp.objs.size ls.length).map fun _ => Value.none).toArray }).objs.size = hp.objs.size + ls.length + 2 := by rw [Heap.size_push, z1]
          have g3 := Heap.get?_push_size ((h'.push { cls := .type "tuple", data := .seq (itv hp.objs.size ls.length).toArray }).push { cls := .type "tuple", data := .seq ((itv hp.objs.size ls.length).map fun _ => Value.none).toArray }) (o := { cls := .type "zip", data := .fields #[.none, .bool false, .bool false, .ref h'.objs.size, .ref (h'.push { cls := .type "tuple", data := .seq (itv hp.objs.size ls.length).toArray }).objs.size] }) rfl
          have g2 := Heap.get?_push_size (h'.push { cls := .type "tuple", data := .seq (itv hp.objs.size ls.length).toArray }) (o := { cls := .type "tuple", data := .seq ((itv hp.objs.size ls.length).map fun _ => Value.none).toArray }) rfl
          have g1 := Heap.get?_push_size h' (o := { cls := .type "tuple", data := .seq (itv hp.objs.size ls.length).toArray }) rfl
          rw [z2] at g3
          rw [z1] at g2 g3
          rw [hs] at g1 g3
          have q := h _ (show New hp ls _ from ⟨g3, Heap.get?_push_of_some _ (Heap.get?_push_of_some _ g1), ⟨_, by rw [List.length_map, itv_len], Heap.get?_push_of_some _ g2⟩, fun (k : Nat) l e => by rw [if_neg (Nat.not_lt_zero k)]; exact it_new (Heap.get?_push_of_some _ (Heap.get?_push_of_some _ (Heap.get?_push_of_some _ (hi k l (List.getElem?_eq_some_iff.mp e).1 e)))), by rw [Heap.size_push, z2], fun c o e => Heap.get?_push_of_some _ (Heap.get?_push_of_some _ (Heap.get?_push_of_some _ (hk c o e)))⟩)
          show R (.ok (.ret (.ref ((h'.push { cls := .type "tuple", data := .seq (itv hp.objs.size ls.length).toArray }).push { cls := .type "tuple", data := .seq ((itv hp.objs.size ls.length).map fun _ => Value.none).toArray }).objs.size))) ⟨((h'.push { cls := .type "tuple", data := .seq (itv hp.objs.size ls.length).toArray }).push { cls := .type "tuple", data := .seq ((itv hp.objs.size ls.length).map fun _ => Value.none).toArray }).push { cls := .type "zip", data := .fields #[.none, .bool false, .bool false, .ref h'.objs.size, .ref (h'.push { cls := .type "tuple", data := .seq (itv hp.objs.size ls.length).toArray }).objs.size] }, g, d, tk, os⟩
          rw [z2, z1, hs]
          exact q
        · rw [List.length_map, itv_len]
          exact Nat.le_trans hsz (by decide)
      · rw [itv_len]
        exact Nat.le_trans hsz (by decide)
theorem typeCall : ∀ vs : List Value, 0 < vs.length ∧ vs.length ≤ 8 → checkTypeCall "zip" ⟨vs, []⟩ = pure ()
  | [], h => absurd h.1 (Nat.lt_irrefl 0)
  | [a0], _ => by kernel_rfl
  | [a0, a1], _ => by kernel_rfl
  | [a0, a1, a2], _ => by kernel_rfl
  | [a0, a1, a2, a3], _ => by kernel_rfl
  | [a0, a1, a2, a3, a4], _ => by kernel_rfl
  | [a0, a1, a2, a3, a4, a5], _ => by kernel_rfl
  | [a0, a1, a2, a3, a4, a5, a6], _ => by kernel_rfl
  | [a0, a1, a2, a3, a4, a5, a6, a7], _ => by kernel_rfl
  | _ :: _ :: _ :: _ :: _ :: _ :: _ :: _ :: _ :: r, h => absurd h.2 (by simp only [List.length_cons]; omega)
theorem newCall : ∀ vs : List Value, 0 < vs.length ∧ vs.length ≤ 8 → checkBuiltinCall "zip.__new__" ⟨.type "zip" :: vs, []⟩ = pure ()
  | [], h => absurd h.1 (Nat.lt_irrefl 0)
  | [a0], _ => by kernel_rfl
  | [a0, a1], _ => by kernel_rfl
  | [a0, a1, a2], _ => by kernel_rfl
  | [a0, a1, a2, a3], _ => by kernel_rfl
  | [a0, a1, a2, a3, a4], _ => by kernel_rfl
  | [a0, a1, a2, a3, a4, a5], _ => by kernel_rfl
  | [a0, a1, a2, a3, a4, a5, a6], _ => by kernel_rfl
  | [a0, a1, a2, a3, a4, a5, a6, a7], _ => by kernel_rfl
  | _ :: _ :: _ :: _ :: _ :: _ :: _ :: _ :: _ :: r, h => absurd h.2 (by simp only [List.length_cons]; omega)
theorem initArgs : ∀ vs : List Value, 0 < vs.length ∧ vs.length ≤ 8 → ∀ obj, argsOk "object.__init__" ⟨obj :: vs, []⟩
  | [], h => absurd h.1 (Nat.lt_irrefl 0)
  | [a0], _ => fun obj => by
      unfold argsOk; rw [signature?_of (id := "object.__init__") (n := ['_', '_', 't', 'i', 'n', 'i', '_', '_']) (o := ['t', 'c', 'e', 'j', 'b', 'o']) (by kernel_rfl) F.owner_object]; kernel_rfl
  | [a0, a1], _ => fun obj => by
      unfold argsOk; rw [signature?_of (id := "object.__init__") (n := ['_', '_', 't', 'i', 'n', 'i', '_', '_']) (o := ['t', 'c', 'e', 'j', 'b', 'o']) (by kernel_rfl) F.owner_object]; kernel_rfl
  | [a0, a1, a2], _ => fun obj => by
      unfold argsOk; rw [signature?_of (id := "object.__init__") (n := ['_', '_', 't', 'i', 'n', 'i', '_', '_']) (o := ['t', 'c', 'e', 'j', 'b', 'o']) (by kernel_rfl) F.owner_object]; kernel_rfl
  | [a0, a1, a2, a3], _ => fun obj => by
      unfold argsOk; rw [signature?_of (id := "object.__init__") (n := ['_', '_', 't', 'i', 'n', 'i', '_', '_']) (o := ['t', 'c', 'e', 'j', 'b', 'o']) (by kernel_rfl) F.owner_object]; kernel_rfl
  | [a0, a1, a2, a3, a4], _ => fun obj => by
      unfold argsOk; rw [signature?_of (id := "object.__init__") (n := ['_', '_', 't', 'i', 'n', 'i', '_', '_']) (o := ['t', 'c', 'e', 'j', 'b', 'o']) (by kernel_rfl) F.owner_object]; kernel_rfl
  | [a0, a1, a2, a3, a4, a5], _ => fun obj => by
      unfold argsOk; rw [signature?_of (id := "object.__init__") (n := ['_', '_', 't', 'i', 'n', 'i', '_', '_']) (o := ['t', 'c', 'e', 'j', 'b', 'o']) (by kernel_rfl) F.owner_object]; kernel_rfl
  | [a0, a1, a2, a3, a4, a5, a6], _ => fun obj => by
      unfold argsOk; rw [signature?_of (id := "object.__init__") (n := ['_', '_', 't', 'i', 'n', 'i', '_', '_']) (o := ['t', 'c', 'e', 'j', 'b', 'o']) (by kernel_rfl) F.owner_object]; kernel_rfl
  | [a0, a1, a2, a3, a4, a5, a6, a7], _ => fun obj => by
      unfold argsOk; rw [signature?_of (id := "object.__init__") (n := ['_', '_', 't', 'i', 'n', 'i', '_', '_']) (o := ['t', 'c', 'e', 'j', 'b', 'o']) (by kernel_rfl) F.owner_object]; kernel_rfl
  | _ :: _ :: _ :: _ :: _ :: _ :: _ :: _ :: _ :: r, h => absurd h.2 (by simp only [List.length_cons]; omega)

section
variable {prog : Program} {w : World} {A : Around} {E : Value → Shared → Prop} {s : Shared}
theorem call_zipN {ls : List Kd} {Q : Value → Shared → Prop} (hl : ∀ l ∈ ls, ∃ items, IsSq s.heap l items) (hn : 0 < ls.length ∧ ls.length ≤ 8) (h : ∀ h', New s.heap ls h' → Q (.ref (s.heap.objs.size + ls.length + 2)) { s with heap := h' }) :
    wpAny (model prog w) A (call (.type "zip") (ls.map fun l => Value.ref l.2)) Q E s := by
  have hn' : 0 < (ls.map fun l => Value.ref l.2).length ∧ (ls.map fun l => Value.ref l.2).length ≤ 8 := by rw [List.length_map]; exact hn
  refine callType_new F.called_zip (by decide) (typeCall _ hn') (newCall _ hn') (initArgs _ hn') F.entry_zip_new (meets_new ls) ⟨hl, by omega, fun h' x => ⟨⟨_, x.1, rfl⟩, h h' x⟩⟩
end
end ZN
set_option maxHeartbeats 2000000
set_option autoImplicit false
namespace ZN
open PySem PySem.Spec PyProof.Rows L2
def Tn (z TI TO b : Nat) (ls : List Kd) (i : Nat) (h : Heap) : Prop :=
  ∃ (f0 : Value) (f : Bool) (vs : List Value), IsZ h z TI TO f0 f ∧ (f0 = .none ∨ ∃ T : Nat, f0 = rawInt T) ∧ IsTp h TI (itv b ls.length) ∧ vs.length = ls.length ∧ IsTp h TO vs ∧ Its h b ls i 0
def fpN (z TI TO b n : Nat) : List Addr := z :: TI :: TO :: (List.range n).map fun k => b + k
theorem mem_fp {z TI TO b n c : Nat} (h : c ∈ fpN z TI TO b n) : c = z ∨ c = TI ∨ c = TO ∨ ∃ k, k < n ∧ c = b + k := by
  unfold fpN at h
  rcases List.mem_cons.mp h with e | h
  · exact .inl e
  rcases List.mem_cons.mp h with e | h
  · exact .inr (.inl e)
  rcases List.mem_cons.mp h with e | h
  · exact .inr (.inr (.inl e))
  obtain ⟨k, hk, e⟩ := List.mem_map.mp h
  exact .inr (.inr (.inr ⟨k, List.mem_range.mp hk, e.symm⟩))
theorem fp_z {z TI TO b n : Nat} : z ∈ fpN z TI TO b n := List.mem_cons_self
theorem fp_I {z TI TO b n : Nat} : TI ∈ fpN z TI TO b n := List.mem_cons_of_mem _ List.mem_cons_self
theorem fp_T {z TI TO b n : Nat} : TO ∈ fpN z TI TO b n := List.mem_cons_of_mem _ (List.mem_cons_of_mem _ List.mem_cons_self)
theorem fp_b {z TI TO b n k : Nat} (h : k < n) : b + k ∈ fpN z TI TO b n := List.mem_cons_of_mem _ (List.mem_cons_of_mem _ (List.mem_cons_of_mem _ (List.mem_map.mpr ⟨k, List.mem_range.mpr h, rfl⟩)))
section
variable {prog : Program} {w : World} {A : Around} {E : Value → Shared → Prop} {s : Shared}
theorem next_item {z TI TO b i : Nat} {ls : List Kd} {xs : List Value} {Q : Option Value → Shared → Prop} (D : Apart z TI TO b ls.length ls) (hn : 0 < ls.length) (st : Tn z TI TO b ls i s.heap) (hc : Col s.heap ls i xs) (hsz : ls.length ≤ 1000)
    (hQ : ∀ h', Tn z TI TO b ls (i + 1) h' → IsTp h' s.heap.objs.size xs → h'.objs.size = s.heap.objs.size + 1 → (∀ c o, c ∉ fpN z TI TO b ls.length → s.heap.get? c = some o → h'.get? c = some o) → Q (some (.ref s.heap.objs.size)) { s with heap := h' }) :
    wpAny (model prog w) A (pyNext (.ref z)) Q E s := by
  obtain ⟨f0, f, vs, hz, hf, hTI, hv, hTO, hi⟩ := st
  have hT : s.TypeIs (.ref z) "zip" := ⟨_, hz, rfl⟩
  have out : ∀ {c}, c ∉ fpN z TI TO b ls.length → c ≠ z ∧ c ≠ TO ∧ ∀ k, k < ls.length → c ≠ b + k := fun {c} h => ⟨fun e => h (e ▸ fp_z), fun e => h (e ▸ fp_T), fun k hk e => h (e ▸ fp_b hk)⟩
  unfold pyNext
  by_cases hfr : f0 = .none ∨ ∃ T : Nat, f0 = rawInt T ∧ s.heap.get? T = none
  · refine wpAny_bind (wpAny_attempt (wpAny_callSpecial?_slot (name := Str.ofString "__next__") hT F.slot_zip_next
      (wpAny_call_entry F.slot_zip_next hT F.entry_zip_next (free_next D hn hz hfr hTI hTO hv hi hc hsz fun h' a1 a2 a3 a4 a5 a6 => wpAny_pure (hQ h' ⟨_, false, xs, a1, .inr ⟨_, rfl⟩, ?_, hc.1, a2, a3⟩ a4 a5 fun c o h e => a6 c o (out h).1 (out h).2.1 (out h).2.2 e)) (F.args_zip_next_1 _))))
    exact a6 _ _ (Ne.symm D.zI) D.TT (fun k hk => D.Ib k hk) hTI
  · obtain ⟨T, rfl⟩ : ∃ T : Nat, f0 = rawInt T := by
      rcases hf with e | e
      · exact absurd (.inl e) hfr
      · exact e
    obtain ⟨oT, hoT⟩ : ∃ oT, s.heap.get? T = some oT := by
      cases q : s.heap.get? T with
      | none => exact absurd (.inr ⟨T, rfl, q⟩) hfr
      | some o => exact ⟨o, rfl⟩
    refine wpAny_bind (wpAny_attempt (wpAny_callSpecial?_slot (name := Str.ofString "__next__") hT F.slot_zip_next
      (wpAny_call_entry F.slot_zip_next hT F.entry_zip_next (held_next D hn hz hoT hTI hi hc hsz fun h' a1 a3 a4 a5 a6 => wpAny_pure (hQ h' ⟨_, true, vs, a1, .inr ⟨_, rfl⟩, ?_, hv, ?_, a3⟩ a4 a5 fun c o h e => a6 c o (out h).1 (out h).2.2 e)) (F.args_zip_next_1 _))))
    · exact a6 _ _ (Ne.symm D.zI) (fun k hk => D.Ib k hk) hTI
    · exact a6 _ _ (Ne.symm D.zT) (fun k hk => D.Tb k hk) hTO
theorem next_end {z TI TO b i : Nat} {ls : List Kd} {l : Kd} {items : Array Value} {Q : Option Value → Shared → Prop} (hh : A.handled = none) (D : Apart z TI TO b ls.length ls) (st : Tn z TI TO b ls i s.heap) (hl : ls[0]? = some l) (hL : IsSq s.heap l items) (hx : items[i]? = none)
    (hQ : ∀ h', (∀ c o, c ∉ fpN z TI TO b ls.length → s.heap.get? c = some o → h'.get? c = some o) → Q none { s with heap := h' }) : wpAny (model prog w) A (pyNext (.ref z)) Q E s := by
  obtain ⟨f0, f, vs, hz, hf, hTI, hv, hTO, hi⟩ := st
  have hT : s.TypeIs (.ref z) "zip" := ⟨_, hz, rfl⟩
  unfold pyNext
  refine wpAny_bind (wpAny_attempt (wpAny_callSpecial?_slot (name := Str.ofString "__next__") hT F.slot_zip_next
    (wpAny_call_entry F.slot_zip_next hT F.entry_zip_next (any_end hh D hz hf hTI hTO hi hl hL hx fun h' e hk he => ?_) (F.args_zip_next_1 _))))
  obtain ⟨o, ho, hc⟩ := he
  refine wpAny_bind (wpAny_isInstance (T := "StopIteration") (b := true) ⟨o, ho, hc⟩ isSubtype_stop ?_)
  exact wpAny_pure (hQ _ fun c o h e => hk c o (fun q => h (q ▸ fp_z)) (fun k hk q => h (q ▸ fp_b hk)) e)
end

def SqK (K : PySem.W.Frag) (H : Hp) (l : Kd) (xs : List V) : Prop := match l.1 with | true => SqL K H l.2 xs | false => SqT K H l.2 xs
/-- what they have there, as it stands at each turn, in a new tuple -/
def ItzN (K : PySem.W.Frag) (ls : List Kd) : It :=
  ⟨fun i H => ∀ l ∈ ls, ∃ xs x, SqK K H l xs ∧ xs[i]? = some x,
    fun i H v H' => ∃ (T : Addr) (ys : List V), v = .ref T ∧ H T = none ∧ H' = upd H T (.tup ys) ∧ ys.length = ls.length ∧ ∀ (k : Nat) l xs, ls[k]? = some l → SqK K H l xs → xs[i]? = ys[k]?,
    fun i H => ∃ l xs, ls[0]? = some l ∧ SqK K H l xs ∧ xs.length ≤ i⟩
section
variable {X : Cx} {pins : List (Addr × Obj)} {σ : L2.St} {H : Hp} {s : Shared}
theorem sqk_is (I : Inv X pins σ H s) {l : Kd} {xs : List V} (h : SqK X.K H l xs) : ∃ its : List Value, Vals xs its ∧ IsSq s.heap l its.toArray := by
  obtain ⟨kd, l⟩ := l
  cases kd
  · obtain ⟨its, rv, p, _⟩ := I.tuple (show SqT X.K H l xs from h)
    exact ⟨its, rv, p⟩
  · obtain ⟨its, rv, p, _⟩ := I.list (show SqL X.K H l xs from h)
    exact ⟨its, rv, p.isList⟩
theorem sqk_inj (I : Inv X pins σ H s) {l : Kd} {xs ys : List V} (h : SqK X.K H l xs) (h' : SqK X.K H l ys) : xs = ys := by
  obtain ⟨kd, l⟩ := l
  cases kd
  · exact I.tuple_inj (show SqT X.K H l xs from h) h'
  · exact I.list_inj (show SqL X.K H l xs from h) h'
theorem cols {i : Nat} (I : Inv X pins σ H s) : ∀ ls : List Kd, (∀ l ∈ ls, ∃ xs x, SqK X.K H l xs ∧ xs[i]? = some x) →
    ∃ (ys : List V) (us : List Value), Vals ys us ∧ ys.length = ls.length ∧ Col s.heap ls i us ∧ ∀ (k : Nat) l xs, ls[k]? = some l → SqK X.K H l xs → xs[i]? = ys[k]?
  | [], _ => ⟨[], [], .nil, rfl, ⟨rfl, fun k l e => by simp at e⟩, fun k l xs e => by simp at e⟩
  | l :: r, h => by
    obtain ⟨ys, us, rv, hl, hc, hy⟩ := cols I r fun l' h' => h l' (List.mem_cons_of_mem _ h')
    obtain ⟨xs, x, hq, hx⟩ := h l List.mem_cons_self
    obtain ⟨its, rv2, p⟩ := sqk_is I hq
    obtain ⟨u, hu, ru⟩ := rv2.get hx
    refine ⟨x :: ys, u :: us, .cons ru rv, by rw [List.length_cons, List.length_cons, hl], ⟨by rw [List.length_cons, List.length_cons, hc.1], fun k l' e => ?_⟩, fun k l' xs' e q => ?_⟩
    · cases k with
      | zero =>
        obtain rfl := Option.some.inj e
        exact ⟨its.toArray, u, p, by simpa using hu, rfl⟩
      | succ k => exact hc.2 k l' e
    · cases k with
      | zero =>
        obtain rfl := Option.some.inj e
        rw [sqk_inj I q hq]
        exact hx
      | succ k => exact hy k l' xs' e q
end
/-- a name, or several -/
def IsTg : Expr → Prop
  | .Name .. => True
  | .Tuple .. => True
  | _ => False
theorem go_tg {prog : Program} {w : World} {A : Around} {E : Value → Shared → Prop} {s : Shared} {tg : Expr} {z TI TO T : Addr} {f0 : Value} {f : Bool} {Q : Unit → Shared → Prop} (ht : IsTg tg) (hz : IsZ s.heap z TI TO f0 f) (h1 : Q () s)
    (h2 : ∀ h', IsZ h' z TI TO .none f → Heap.SameBut z s.heap h' → Q () { s with heap := h' }) : wpAny (model prog w) A (letOwnedTupleGo tg (.ref z) (.ref T)) Q E s := by
  cases tg <;> first
    | exact wpAny_pure h1
    | exact ht.elim
    | skip
  unfold letOwnedTupleGo
  refine wpAny_bind (wpAny_load hz ?_)
  show wpAny _ _ (if (["enumerate", "zip", "dict_itemiterator", "dict_reverseitemiterator", "odict_iterator", "itertools.zip_longest", "itertools.pairwise"].contains "zip" &&
      (#[f0, .bool f, .bool false, .ref TI, .ref TO] : Array Value)[0]? == some (rawInt T)) = true then _ else _) Q E s
  split
  · refine wpAny_bind (wpAny_rule ?_)
    show wpAny _ _ (setField (.ref z) 0 .none) Q E s
    exact wpAny_setField_rec hz (by simp) fun h' hz' hs' => h2 h' hz' hs'
  · exact wpAny_pure h1
theorem turn_zipN {P : Program} {w : World} {K : PySem.W.Frag} {tg : Expr} {z TI TO b : Nat} {ls : List Kd} (ht : IsTg tg) (D : Apart z TI TO b ls.length ls) (hn : 0 < ls.length) (h8 : ls.length ≤ 8) :
    Turn P w K tg (ItzN K ls) (fpN z TI TO b ls.length) z (Tn z TI TO b ls) where
  mem := fp_z
  obj := fun i h st c hc => by
    obtain ⟨f0, f, vs, hz, hf, hTI, hv, hTO, hi⟩ := st
    rcases mem_fp hc with rfl | rfl | rfl | ⟨k, hk, rfl⟩
    · exact ⟨_, hz, fun v q => nomatch q⟩
    · exact ⟨_, hTI, fun v q => nomatch q⟩
    · exact ⟨_, hTO, fun v q => nomatch q⟩
    · exact (hi k _ (List.getElem?_eq_getElem hk)).obj
  keep := fun i h h' st k => by
    obtain ⟨f0, f, vs, hz, hf, hTI, hv, hTO, hi⟩ := st
    exact ⟨f0, f, vs, k _ fp_z _ hz, hf, k _ fp_I _ hTI, hv, k _ fp_T _ hTO, fun (j : Nat) l e => (hi j l e).at fun o q => k _ (fp_b (List.getElem?_eq_some_iff.mp e).1) o q⟩
  item := by
    intro X hP hw hK hc i pins s σ H E I hf st hg
    subst hP hw hK
    obtain ⟨ys, us, rv, hl, hcol, hy⟩ := cols I ls hg
    have hlt : ∀ c ∈ fpN z TI TO b ls.length, c < s.heap.objs.size := fun c hcm => by
      obtain ⟨f0, f, vs, hz, hf, hTI, hv, hTO, hi⟩ := st
      rcases mem_fp hcm with rfl | rfl | rfl | ⟨k, hk, rfl⟩
      · exact Heap.lt_size hz
      · exact Heap.lt_size hTI
      · exact Heap.lt_size hTO
      · obtain ⟨o, e, _⟩ := (hi k _ (List.getElem?_eq_getElem hk)).obj
        exact Heap.lt_size e
    have fin : ∀ h', Tn z TI TO b ls (i + 1) h' → IsTp h' s.heap.objs.size us → (∀ c o, c ∉ fpN z TI TO b ls.length → s.heap.get? c = some o → h'.get? c = some o) →
        ∃ x H', Inv X pins σ H' { s with heap := h' } ∧ RelV x (.ref s.heap.objs.size) ∧ (ItzN X.K ls).yld i H x H' ∧ Tn z TI TO b ls (i + 1) h' ∧ ∀ b_1 ∈ fpN z TI TO b ls.length, H' b_1 = none := fun h' st' hT hk => by
      have new : ObjOk X.prog X.w (upd H s.heap.objs.size (.tup ys)) h' s.heap.objs.size (.tup ys) :=
        ⟨by show ys.length ≤ sizeLine; rw [hl]; exact Nat.le_trans h8 (by decide), us, rv, ⟨_, hT, rfl, _, rfl⟩⟩
      have I1 : Inv X pins σ (upd H s.heap.objs.size (.tup ys)) { s with heap := h' } := I.turnedNew (t' := s.toks) (ch := fpN z TI TO b ls.length) hk hf (Nat.le_refl _) new
      refine ⟨.ref s.heap.objs.size, _, I1, rfl, ⟨_, ys, rfl, I.hok.fresh (Nat.le_refl _), rfl, hl, hy⟩, st', fun c hcm => ?_⟩
      rw [upd_ne (Nat.ne_of_lt (hlt c hcm))]
      exact (hf c hcm).1
    refine next_item D hn st hcol (by omega) fun h' st' hT hsz hk => ⟨_, rfl, ?_⟩
    obtain ⟨f0, f, vs, hz, hf0, hTI, hv, hTO, hi⟩ := id st'
    refine go_tg (s := { s with heap := h' }) ht hz (fin h' st' hT hk) fun h'' hz'' sb => ?_
    have sb : Heap.SameBut z h' h'' := sb
    refine fin h'' ⟨.none, f, vs, hz'', .inl rfl, sb.extBut _ _ (Ne.symm D.zI) hTI, hv, sb.extBut _ _ (Ne.symm D.zT) hTO, fun (k : Nat) l e => (hi k l e).extBut sb.extBut (D.zb k (List.getElem?_eq_some_iff.mp e).1).symm⟩ (sb.extBut _ _ (Nat.ne_of_gt (hlt z fp_z)) hT) fun c o h e => sb.extBut _ _ (fun q => h (q ▸ fp_z)) (hk c o h e)
  done := by
    intro X hP hw hK hc i pins s σ H E I hf st hg
    subst hP hw hK
    obtain ⟨l, xs, hl, hq, hle⟩ := hg
    obtain ⟨its, rv, p⟩ := sqk_is I hq
    have l1 := rv.length
    refine next_end (I.ok.hd hc) D st hl p (by simp; omega) fun h' hk => ⟨rfl, I.turnedL (t' := s.toks) (ch := fpN z TI TO b ls.length) hk hf⟩
  self := fun A i s Q E st h => by
    obtain ⟨f0, f, vs, hz, _⟩ := st
    have hT : s.TypeIs (.ref z) "zip" := ⟨_, hz, rfl⟩
    refine wpAny_pyIter_slot hT F.slot_zip_iter (wpAny_call_entry F.slot_zip_iter hT F.entry_zip_iter ?_ (F.args_zip_iter_1 _))
    show wpAny _ _ (ret (.ref z)) _ _ s
    exact wpAny_pure ⟨_, rfl, "zip", _, hT, F.slot_zip_next.lookup, h⟩
theorem zip_made {X : Cx} {pins : List (Addr × Obj)} {σ : L2.St} {H1 : Hp} {s2 : Shared} {tg : Expr} {ls : List Kd} {R : It → Hp → Prop} (ht : IsTg tg) (I2 : Inv X pins σ H1 s2) (hn : 0 < ls.length ∧ ls.length ≤ 8) (hl : ∀ l ∈ ls, ∃ xs, SqK X.K H1 l xs) (q : R (ItzN X.K ls) H1) :
    wpAny (model X.prog X.w) X.A (call (.type "zip") (ls.map fun l => Value.ref l.2)) (fun v s1 => wpAny (model X.prog X.w) X.A (pyIter v) (PIE X pins σ tg R) X.xe s1) X.xe s2 := by
  have hl2 : ∀ l ∈ ls, ∃ items, IsSq s2.heap l items := fun l h => by
    obtain ⟨xs, hq⟩ := hl l h
    obtain ⟨its, _, p⟩ := sqk_is I2 hq
    exact ⟨_, p⟩
  refine call_zipN hl2 hn fun h' N => ?_
  obtain ⟨hz, hTI, ⟨vs, hv, hTO⟩, hi, hsz, hk⟩ := N
  have lt : ∀ l ∈ ls, l.2 < s2.heap.objs.size := fun l h => by
    obtain ⟨_, p⟩ := hl2 l h
    exact p.lt
  have D : Apart (s2.heap.objs.size + ls.length + 2) (s2.heap.objs.size + ls.length) (s2.heap.objs.size + ls.length + 1) s2.heap.objs.size ls.length ls := by
    generalize s2.heap.objs.size = B at lt
    exact ⟨by omega, by omega, by omega, fun k h => by omega, fun k h => by omega, fun k h => by omega, fun l h => Nat.ne_of_lt (Nat.lt_of_lt_of_le (lt l h) (by omega)), fun l h => Nat.ne_of_lt (Nat.lt_of_lt_of_le (lt l h) (by omega)), fun l h k hk => Nat.ne_of_lt (Nat.lt_of_lt_of_le (lt l h) (by omega))⟩
  have st : Tn (s2.heap.objs.size + ls.length + 2) (s2.heap.objs.size + ls.length) (s2.heap.objs.size + ls.length + 1) s2.heap.objs.size ls 0 h' := ⟨.none, false, vs, hz, .inl rfl, hTI, hv, hTO, hi⟩
  refine (turn_zipN (P := X.prog) (w := X.w) (K := X.K) ht D hn.1 hn.2).self _ 0 { s2 with heap := h' } _ _ st ?_
  have I3 : Inv X pins σ H1 { s2 with heap := h' } := I2.kept (t' := s2.toks) hk
  refine ⟨_, _, _, _, H1, rfl, I3, turn_zipN ht D hn.1 hn.2, st, fun c hcm => ?_, q⟩
  have hle : s2.heap.objs.size ≤ c := by
    rcases mem_fp hcm with rfl | rfl | rfl | ⟨k, _, rfl⟩
    · exact Nat.le_trans (Nat.le_add_right _ _) (Nat.le_add_right _ _)
    · exact Nat.le_add_right _ _
    · exact Nat.le_trans (Nat.le_add_right _ _) (Nat.le_add_right _ _)
    · exact Nat.le_add_right _ _
  exact I2.fpOk hle (I2.hok.fresh hle)
/-! ### zip( *xs): a list of lists -/
def iZipN (K : PySem.W.Frag) (te : TE) : TI := fun σ H R => te σ H fun v H1 => ∃ (a : Addr) (ls : List Addr), v = .ref a ∧ SqL K H1 a (ls.map V.ref) ∧ (0 < ls.length ∧ ls.length ≤ 8) ∧ (∀ l ∈ ls, ∃ xs, SqL K H1 l xs) ∧ R (ItzN K (ls.map fun l => (true, l))) H1
theorem vals_refs : ∀ {ls : List Addr} {us : List Value}, Vals (ls.map V.ref) us → us = ls.map Value.ref
  | [], _, .nil => rfl
  | l :: r, _, .cons a q => by
    have e : _ = Value.ref l := a
    rw [vals_refs q, e]
    rfl
theorem pi_zipN {X : Cx} {e : Expr} {te : TE} {p sp pos tpos : Pos} {x : Str} (hg : Gl X "zip") (hm : X.mg "zip" = none) (he : PE X e te) (hst : starEach [.Starred e sp] X.env = [(true, eval e X.env)] := by rfl) :
    PI X (.Name x tpos) (.Call (.Name "zip" p) [.Starred e sp] [] pos) (iZipN X.K te) := by
  refine ⟨fun pins s σ H R I h => ?_⟩
  refine wpAny_Call_Name_kw (ld_blt I hg hm PyProof.Rows.boot_zip ?_)
  rw [hst]
  refine PySem.W.ks_call (P := fun _ => True) rfl (fun h _ => ⟨.machine, .inr (.inl rfl), PySem.W.Looks.of_pure rfl⟩) (PySem.W.ks_lone (thn (he.run pins s σ H _ I h) fun v s1 ⟨y, H1, I1, ry, a, ls, ey, hls, hn, hl, q⟩ => ?_))
  subst ey
  obtain rfl : v = Value.ref a := ry
  refine StX.star_lst I1 hls fun us s2 I2 rv => ⟨True.intro, ?_⟩
  obtain rfl := vals_refs rv
  have e : ls.map Value.ref = (ls.map fun l => ((true, l) : Kd)).map fun l => Value.ref l.2 := by rw [List.map_map]; rfl
  show wpAny _ _ (call (.type "zip") (ls.map Value.ref)) _ _ _
  rw [e]
  refine zip_made True.intro I2 (by rw [List.length_map]; exact hn) (fun l h => ?_) q
  obtain ⟨l', h', rfl⟩ := List.mem_map.mp h
  exact hl l' h'
/-! ### zip(x, y): each a list or a tuple -/
def iZip2 (K : PySem.W.Frag) (ta : TA) : TI := fun σ H R => ta σ H fun vs H1 => ∃ l1 l2 : Kd, vs = [.ref l1.2, .ref l2.2] ∧ (∃ xs, SqK K H1 l1 xs) ∧ (∃ ys, SqK K H1 l2 ys) ∧ R (ItzN K [l1, l2]) H1
theorem pi_zip2 {X : Cx} {e e2 : Expr} {ta : TA} {p pos tpos : Pos} {elts : List Expr} {kk : Nat} (hg : Gl X "zip") (hm : X.mg "zip" = none) (ha : PA X [e, e2] ta)
    (hs : starEach [e, e2] X.env = (false, eval e X.env) :: starEach [e2] X.env := by rfl) (hpl : (backTo pos (starEach [e2] X.env)).any (·.1) = false := by rfl) :
    PI X (.Tuple elts kk tpos) (.Call (.Name "zip" p) [e, e2] [] pos) (iZip2 X.K ta) := by
  refine ⟨fun pins s σ H R I h => ?_⟩
  refine Call_ (ld_blt I hg hm PyProof.Rows.boot_zip (PyProof.Rows.callWith_type1 (thn (ha.run pos pins s σ H _ I h) fun us s1 ⟨vs, H1, I1, r1, q1⟩ => ?_) hs hpl))
  obtain ⟨l1, l2, ex, h1, h2, q⟩ := q1
  subst ex
  cases r1 with
  | cons r rr =>
    cases rr with
    | cons r' rr =>
      cases rr
      cases r
      cases r'
      refine zip_made (ls := [l1, l2]) True.intro I1 ⟨Nat.succ_pos _, (by decide : 2 ≤ 8)⟩ (fun l h => ?_) q
      rcases List.mem_cons.mp h with rfl | h
      · exact h1
      rcases List.mem_cons.mp h with rfl | h
      · exact h2
      · cases h
/-- a comprehension over it, of lists of one length m -/
theorem lc_zipK {K : PySem.W.Frag} {ls : List Kd} {xss : List (List V)} {m : Nat} {g : TG} {tt : TT} {te : TE} {vs : List Nat} {σ : L2.St} {H1 : Hp} {D : Addr} {Qd : Hp → Prop} (hn : 0 < ls.length) (hlen : xss.length = ls.length) (hm : ∀ xs ∈ xss, xs.length = m) (Pv : Nat → Hp → Prop) (h0 : Pv 0 (upd H1 D (.lst [])))
    (hq : ∀ i H, Pv i H → ∀ (k : Nat) l xs, ls[k]? = some l → xss[k]? = some xs → SqK K H l xs)
    (hs : ∀ i (ys : List V) (T : Addr) H, i < m → (∀ (k : Nat) xs, xss[k]? = some xs → xs[i]? = ys[k]?) → ys.length = ls.length → Pv i H → H T = none → g (.ref T) (wipe σ vs) (upd H T (.tup ys)) fun σ2 H2 => wipe σ2 vs = wipe σ vs ∧ tt σ2 H2 fun b H3 =>
      if b = true then te σ2 H3 fun y H4 => ∃ acc, H4 D = some (.lst acc) ∧ acc.length < sizeLine ∧ Pv (i + 1) (upd H4 D (.lst (acc ++ [y]))) else Pv (i + 1) H3) (hd : ∀ H, Pv m H → Qd H) :
    ∃ W : Nat → Nat → Hp → Prop, (∃ m, W 0 m (upd H1 D (.lst []))) ∧ ∀ i m H, W i m H →
      ((ItzN K ls).stop i H ∧ Qd H) ∨ ((ItzN K ls).go i H ∧ ∃ Nx : Hp → Prop, (∀ H', Nx H' → ∃ m', m' < m ∧ W (i + 1) m' H') ∧ ∀ x H', (ItzN K ls).yld i H x H' → g x (wipe σ vs) H' fun σ2 H2 => wipe σ2 vs = wipe σ vs ∧ tt σ2 H2 fun b H3 =>
        if b = true then te σ2 H3 fun y H4 => ∃ acc, H4 D = some (.lst acc) ∧ acc.length < sizeLine ∧ Nx (upd H4 D (.lst (acc ++ [y]))) else Nx H3) := by
  refine ⟨fun i n H => n = m - i ∧ i ≤ m ∧ Pv i H, ⟨m, by simp, Nat.zero_le _, h0⟩, ?_⟩
  rintro i n H ⟨rfl, hi, p⟩
  have q := hq i H p
  by_cases hlt : i < m
  · refine .inr ⟨fun l h => ?_, Pv (i + 1), fun H' p' => ⟨m - (i + 1), by omega, rfl, hlt, p'⟩, fun x H' y => ?_⟩
    · obtain ⟨k, hk, e⟩ := List.getElem_of_mem h
      have hk2 : k < xss.length := by omega
      refine ⟨xss[k], xss[k][i]'(by rw [hm _ (List.getElem_mem hk2)]; exact hlt), q k l _ (by rw [List.getElem?_eq_getElem hk, e]) (List.getElem?_eq_getElem hk2), ?_⟩
      rw [List.getElem?_eq_getElem]
    · obtain ⟨T, ys, rfl, nT, rfl, hyl, hy⟩ := y
      refine hs i ys T H hlt (fun k xs e => ?_) hyl p nT
      have hk : k < ls.length := by rw [← hlen]; exact (List.getElem?_eq_some_iff.mp e).1
      exact hy k _ xs (List.getElem?_eq_getElem hk) (q k _ xs (List.getElem?_eq_getElem hk) e)
  · have e : i = m := by omega
    subst e
    have hk2 : 0 < xss.length := by omega
    exact .inl ⟨⟨_, _, List.getElem?_eq_getElem hn, q 0 _ _ (List.getElem?_eq_getElem hn) (List.getElem?_eq_getElem hk2), by rw [hm _ (List.getElem_mem hk2)]; exact Nat.le_refl _⟩, hd H p⟩
theorem lc_zip2 {K : PySem.W.Frag} {l1 l2 : Kd} {xs ys : List V} {g : TG} {tt : TT} {te : TE} {vs : List Nat} {σ : L2.St} {H1 : Hp} {D : Addr} {Qd : Hp → Prop} (hl : xs.length = ys.length) (Pv : Nat → Hp → Prop) (h0 : Pv 0 (upd H1 D (.lst []))) (hq : ∀ i H, Pv i H → SqK K H l1 xs ∧ SqK K H l2 ys)
    (hs : ∀ i x y T H, xs[i]? = some x → ys[i]? = some y → Pv i H → H T = none → g (.ref T) (wipe σ vs) (upd H T (.tup [x, y])) fun σ2 H2 => wipe σ2 vs = wipe σ vs ∧ tt σ2 H2 fun b H3 =>
      if b = true then te σ2 H3 fun y H4 => ∃ acc, H4 D = some (.lst acc) ∧ acc.length < sizeLine ∧ Pv (i + 1) (upd H4 D (.lst (acc ++ [y]))) else Pv (i + 1) H3) (hd : ∀ H, Pv xs.length H → Qd H) :
    ∃ W : Nat → Nat → Hp → Prop, (∃ m, W 0 m (upd H1 D (.lst []))) ∧ ∀ i m H, W i m H →
      ((ItzN K [l1, l2]).stop i H ∧ Qd H) ∨ ((ItzN K [l1, l2]).go i H ∧ ∃ Nx : Hp → Prop, (∀ H', Nx H' → ∃ m', m' < m ∧ W (i + 1) m' H') ∧ ∀ x H', (ItzN K [l1, l2]).yld i H x H' → g x (wipe σ vs) H' fun σ2 H2 => wipe σ2 vs = wipe σ vs ∧ tt σ2 H2 fun b H3 =>
        if b = true then te σ2 H3 fun y H4 => ∃ acc, H4 D = some (.lst acc) ∧ acc.length < sizeLine ∧ Nx (upd H4 D (.lst (acc ++ [y]))) else Nx H3) := by
  refine lc_zipK (xss := [xs, ys]) (m := xs.length) (Nat.succ_pos _) rfl (fun z h => ?_) Pv h0 (fun i H p k l z e e2 => ?_) (fun i zs T H hi hz hzl p nT => ?_) hd
  · rcases List.mem_cons.mp h with rfl | h
    · rfl
    rcases List.mem_cons.mp h with rfl | h
    · exact hl.symm
    · cases h
  · match k, e, e2 with
    | 0, e, e2 =>
      obtain rfl := Option.some.inj e
      obtain rfl := Option.some.inj e2
      exact (hq i H p).1
    | 1, e, e2 =>
      obtain rfl := Option.some.inj e
      obtain rfl := Option.some.inj e2
      exact (hq i H p).2
    | n + 2, e, e2 => simp at e
  · have hi2 : i < ys.length := by omega
    have e0 := hz 0 xs rfl
    have e1 := hz 1 ys rfl
    match zs, hzl, e0, e1 with
    | [x, y], _, e0, e1 => exact hs i x y T H e0 e1 p nT
end ZN
set_option maxHeartbeats 8000000
set_option autoImplicit false
namespace Onp
open PySem PySem.Spec PyProof.Rows L2
abbrev sLeast : Stmt := topS 29
section
variable {P : Program} {w : World} {K : PySem.W.Frag} {mg : Str → Option Value} {base : Heap}
def spLeast (K : PySem.W.Frag) : Sp := fun vs H Q _ => ∃ (l : ZN.Kd) (ps : List TP), vs = [.ref l.2] ∧ ZN.SqK K H l (trs ps) ∧ TrAt H ps ∧ (∀ p ∈ ps, okT p.2) ∧ ps.length < 1001 ∧ ∀ (t : Addr) (qs : List TP) H', Same H H' → H' t = some (.tup (trs qs)) → TrAt H' qs → (∀ p ∈ qs, okT p.2) → qs.length < 1001 → IsLeast (ps.map (·.2)) (qs.map (·.2)) → Q (.ref t) H'
def NLea : List Str := ["triples", "kept", "triple"]
theorem scLeast : FnScope NLea ["triples"] (defScope sLeast) := ⟨rfl, rfl, rfl, by decide +kernel, rfl, by decide +kernel, by decide +kernel⟩
def rTupO (K : PySem.W.Frag) : List V → Hp → VK → Prop := fun xs H Q => ∃ p ys, xs = [.ref p] ∧ ((SqL K H p ys ∧ ∀ l, H l = none → Q (.ref l) (upd H l (.tup ys))) ∨ (SqT K H p ys ∧ Q (.ref p) H))
theorem ok_least {f : Addr} {fd : FuncData} {k : Nat} (F : Fun K "least_ones" "least_ones" sLeast f fd) (ms : mg "sorted" = none) (mt : mg "tuple" = none) : FnOk P w K mg base CX0 (k + 1) f fd ["triples"] (spLeast K) := by
  refine F.ok scLeast (fun vs H Q E h => ?_) (fun cdv A outer s H vs Q E hr h => ?_)
  · obtain ⟨l, ps, rfl, _⟩ := h
    rfl
  · obtain ⟨l, ps, rfl, hl, hT, hok, hlen, q⟩ := h
    obtain ⟨kd, l⟩ := l
    cases kd
    · have hl : SqT K H l (trs ps) := hl
      have hu : (cxOf CX0 P w K mg base NLea "least_ones" (defScope sLeast) f cdv A outer s H E).nox.A.units + 64 < cLine := hr.units
      refine ⟨_, pss_cons (ps_set (i := 1) scLeast.nd rfl (.inl rfl) (pe_lst pa_nil))
        (pss_cons (ps_for PassesOwn.never rfl (pi_list (pe_callB (cr_sortTri hu) (by rfl) ms (by decide +kernel) (pa_cons
            (pe_lc (own := [("triple", 2)]) (g := gName 2) (tt := tYes) (te := tCB (rTupO K) (tCons (tVar 2) tNil)) rfl scLeast.nd (pi_tup (pv 0)) (blkOk_by (own := [("triple", 2)]) (N := NLea) (sc := defScope sLeast) (by decide +kernel))
              (fun _ _ _ _ _ => pg_name (i := 2) scLeast.nd rfl (.inl rfl)) (fun _ _ _ _ _ => pts_nil) (fun _ _ _ _ _ => pe_callTy call_tuple_of (by rfl) mt (by decide +kernel) (pa_cons (pv 2) pa_nil))) pa_nil))) (pg_name (i := 2) scLeast.nd rfl (.inl rfl))
          (pss_one (ps_if (PW.pt (pw_or (pt_not (pt_truth (pv 1) (fun _ => rfl))) (pw_or (pt_cmpR op_ne (pe_ix ix_tup (pe_ix ix_list (pv 1) (pe_un un_neg pe_int) (fun _ _ => rfl)) pe_int (fun _ _ => rfl)) (pe_ix ix_tup (pv 2) pe_int (fun _ _ => rfl)) (nomark _)) (pw_or1 (pt_cmpR op_lt (pe_ix ix_tup (pv 2) pe_int (fun _ _ => rfl)) (pe_ix ix_tup (pe_ix ix_list (pv 1) (pe_un un_neg pe_int) (fun _ _ => rfl)) pe_int (fun _ _ => rfl)) (nomark _))))))
            (pss_one (ps_expr (pe_bm PySem.F.plainAttrs_list PySem.F.slot_list_append PySem.F.type_list_append mt_append (pv 1) (pa_cons (pv 2) pa_nil)))) pss_nil)))
        (pss_one (ps_ret (pe_callTy call_tuple_of (by rfl) mt (by decide +kernel) (pa_cons (pv 1) pa_nil))))), ?_⟩
      refine ⟨(by decide : 0 ≤ sizeLine), fun kp nkp => ?_⟩
      have s1 := same_upd (o := .lst []) nkp
      have hk1 : (upd H kp (.lst [])) kp = some (.lst []) := upd_same
      generalize upd H kp (.lst []) = H1 at s1 hk1
      refine ⟨_, rfl, l, rfl, ⟨_, same_seqT s1 hl⟩, fun D nD => ?_⟩
      refine lc_tup (K := K) (a := l) (xs := trs ps) (fun i H' => Same H1 H' ∧ H' D = some (.lst (trs (ps.take i)))) ⟨same_upd nD, upd_same⟩ (fun i H' _ ⟨sm, _⟩ => same_seqT (s1.trans sm) hl) (fun i x H' hx ⟨sm, hD⟩ => ?_) (fun H2 ⟨s2, hD⟩ => ?_)
      · obtain ⟨p, hp, rfl⟩ := trs_at hx
        have hpi := hT p (List.mem_of_getElem? hp)
        refine ⟨rfl, ?_⟩
        refine yes2 ?_
        refine ⟨_, rfl, p.1, _, rfl, .inr ⟨SqT.of (sm _ _ (s1 _ _ hpi)), ?_⟩⟩
        have hil : i < ps.length := (List.getElem?_eq_some_iff.mp hp).1
        refine ⟨_, hD, by rw [trs_len, List.length_take]; exact Nat.lt_of_le_of_lt (Nat.min_le_right _ _) (Nat.lt_of_lt_of_le hlen (by decide)), ?_, ?_⟩
        · intro b o e
          rw [upd_ne (ne_of_none e nD)]
          exact sm b o e
        · rw [upd_same, take_next hp]
          unfold trs
          rw [List.map_append]
          rfl
      · rw [trs_len, List.take_length] at hD
        have hT2 := (hT.same s1).same s2
        have hk2 := s2 _ _ hk1
        refine ⟨D, ps, rfl, .inl (SqL.of hD), hT2, hok, fun qs lp hperm hqp nlp => ?_⟩
        have hqs : ∀ p ∈ qs, p ∈ ps := fun p hp => hperm.mem_iff.mp hp
        have hqT : TrAt H2 qs := fun p hp => hT2 p (hqs p hp)
        have hqok : ∀ p ∈ qs, okT p.2 := fun p hp => hok p (hqs p hp)
        have hqm : ∀ x, x ∈ qs.map (·.2) ↔ x ∈ ps.map (·.2) := fun x => (hperm.map _).mem_iff
        have hql : qs.length = ps.length := by
          exact hperm.length_eq
        have s3 := same_upd (o := .lst (trs qs)) nlp
        have hlp : (upd H2 lp (.lst (trs qs))) lp = some (.lst (trs qs)) := upd_same
        have hk3 := s3 _ _ hk2
        have hqT3 := hqT.same s3
        have nkl : kp ≠ lp := ne_of_none hk2 nlp
        have s03 : Same H (upd H2 lp (.lst (trs qs))) := s1.trans (s2.trans s3)
        generalize upd H2 lp (.lst (trs qs)) = H3 at s3 hlp hk3 hqT3 s03
        refine ⟨lp, rfl, ⟨_, SqL.of hlp⟩, for_list (K := K) (a := lp) (xs := trs qs)
          (fun i σ H' => ∃ (ks : List TP) (y : Option V), σ = [some (.ref l), some (.ref kp), y] ∧ H' kp = some (.lst (trs ks)) ∧ H' lp = some (.lst (trs qs)) ∧ TrAt H' qs ∧ (∀ p ∈ ks, p ∈ qs) ∧ ks.length ≤ i ∧ Run ((qs.take i).map (·.2)) (ks.map (·.2)) ∧ ∀ b o, b ≠ kp → H3 b = some o → H' b = some o)
          ⟨[], _, rfl, hk3, hlp, hqT3, (fun _ h => nomatch h), Nat.le_refl _, run_nil, fun _ _ _ e => e⟩ (fun i σ H' _ ⟨_, _, _, _, h, _⟩ => SqL.of h) ?_ ?_⟩
        · rintro i x σ H4 hx ⟨ks, y, rfl, hkp, hlp4, hqT4, hkq, hkl, R, kk⟩
          obtain ⟨p, hp, rfl⟩ := trs_at hx
          have hpm := List.mem_of_getElem? hp
          have hil : i < qs.length := (List.getElem?_eq_some_iff.mp hp).1
          have hpi := hqT4 p hpm
          have rstep : Run ((qs.take (i + 1)).map (·.2)) (stepK (ks.map (·.2)) p.2) := by
            rw [take_next hp, List.map_append]
            refine run_step R (fun t ht => ?_) (hqok p hpm)
            obtain ⟨r, hr, rfl⟩ := List.mem_map.mp ht
            refine ⟨hqok r (List.mem_of_mem_take hr), ?_⟩
            obtain ⟨j, hj, e⟩ := List.getElem_of_mem hr
            rw [List.length_take] at hj
            rw [List.getElem_take] at e
            have z := List.pairwise_iff_getElem.mp hqp j i (by omega) hil (by omega)
            rw [e] at z
            have e3 : qs[i] = p := by
              have := List.getElem?_eq_getElem hil
              rw [this] at hp
              exact Option.some.inj hp
            rw [e3] at z
            exact z
          have app : puts (ks.map (·.2)) p.2 = true → ∃ (xs : List V) (y : V), True ∧ H4 kp = some (.lst (trs ks)) := fun _ => ⟨[], .non, True.intro, hkp⟩
          have done : puts (ks.map (·.2)) p.2 = true → ∃ (ks' : List TP) (y : Option V), ([some (.ref l), some (.ref kp), some (.ref p.1)] : L2.St) = [some (.ref l), some (.ref kp), y] ∧ (upd H4 kp (.lst (trs ks ++ [.ref p.1]))) kp = some (.lst (trs ks')) ∧ (upd H4 kp (.lst (trs ks ++ [.ref p.1]))) lp = some (.lst (trs qs)) ∧ TrAt (upd H4 kp (.lst (trs ks ++ [.ref p.1]))) qs ∧ (∀ p ∈ ks', p ∈ qs) ∧ ks'.length ≤ i + 1 ∧ Run ((qs.take (i + 1)).map (·.2)) (ks'.map (·.2)) ∧ ∀ b o, b ≠ kp → H3 b = some o → (upd H4 kp (.lst (trs ks ++ [.ref p.1]))) b = some o := fun hp1 => by
            refine ⟨ks ++ [p], _, rfl, ?_, by rw [upd_ne nkl.symm]; exact hlp4, hqT4.put hkp, fun r hr' => ?_, by rw [List.length_append]; show ks.length + 1 ≤ i + 1; omega, ?_, fun b o nb e => by rw [upd_ne nb]; exact kk b o nb e⟩
            · rw [upd_same]
              unfold trs
              rw [List.map_append]
              rfl
            · rcases List.mem_append.mp hr' with h | h
              · exact hkq r h
              · rw [List.mem_singleton.mp h]
                exact hpm
            · unfold stepK at rstep
              rw [if_pos hp1] at rstep
              rw [List.map_append]
              exact rstep
          have small : (trs ks).length < sizeLine := by
            rw [trs_len]
            exact Nat.lt_of_le_of_lt hkl (Nat.lt_of_lt_of_le (show i < 1001 by omega) (by decide))
          refine ⟨_, rfl, !(trs ks).isEmpty, .inl ⟨_, SqL.of hkp, rfl⟩, ?_⟩
          rcases List.eq_nil_or_concat ks with e | ⟨ks0, b, e⟩
          · subst e
            have hp1 : puts (([] : List TP).map (·.2)) p.2 = true := rfl
            show if (!(!true)) = true then _ else _
            refine iteT ?_
            exact ⟨_, rfl, .inl ⟨rfl, _, SqL.of hkp⟩, _, rfl, kp, _, _, rfl, rfl, hkp, small, done hp1⟩
          · subst e
            rw [List.concat_eq_append] at *
            have hbm : b ∈ qs := hkq b (by simp)
            have hb4 := hqT4 b hbm
            have hne : (trs (ks0 ++ [b])).isEmpty = false := by
              unfold trs
              rw [List.map_append]
              cases ks0 <;> rfl
            have hlast : atI (trs (ks0 ++ [b])) (-1) = some (.ref b.1) := by
              have e1 : trs (ks0 ++ [b]) = trs ks0 ++ [.ref b.1] := by unfold trs; rw [List.map_append]; rfl
              rw [e1]
              unfold atI
              rw [show ixN (trs ks0 ++ [V.ref b.1]).length (-1) = some (trs ks0).length from ?_]
              · show (trs ks0 ++ [V.ref b.1])[(trs ks0).length]? = _
                rw [List.getElem?_append_right (Nat.le_refl _)]
                simp
              · unfold ixN
                rw [List.length_append, if_neg (by decide), if_pos (by simp only [List.length_cons, List.length_nil]; omega)]
                congr 1
                simp only [List.length_cons, List.length_nil]
                omega
            have hput : puts ((ks0 ++ [b]).map (·.2)) p.2 = (decide (b.2.1 ≠ p.2.1) || decide (p.2.2.2 < b.2.2.2)) := by
              unfold puts
              rw [List.map_append]
              simp
            rw [hne]
            show if (!(!false)) = true then _ else _
            refine iteF ?_
            have tb0 := tup_at (K := K) (i := 0) hb4 rfl
            have tb2 := tup_at (K := K) (i := 2) hb4 rfl
            have tp0 := tup_at (K := K) (i := 0) hpi rfl
            have tp2 := tup_at (K := K) (i := 2) hpi rfl
            refine ⟨_, rfl, 1, rfl, kp, _, -1, _, rfl, rfl, SqL.of hkp, hlast, b.1, _, 0, _, rfl, rfl, tb0.1, tb0.2, ?_⟩
            refine ⟨_, rfl, p.1, _, 0, _, rfl, rfl, tp0.1, tp0.2, rfl, _, rfl, ?_⟩
            by_cases c1 : b.2.1 = p.2.1
            · refine iteNS (by rw [c1]) ?_
              refine ⟨_, rfl, p.1, _, 2, _, rfl, rfl, tp2.1, tp2.2, ?_⟩
              refine ⟨_, rfl, 1, rfl, kp, _, -1, _, rfl, rfl, SqL.of hkp, hlast, b.1, _, 2, _, rfl, rfl, tb2.1, tb2.2, ?_⟩
              refine ⟨_, _, rfl, rfl, _, rfl, ?_⟩
              by_cases c2 : p.2.2.2 < b.2.2.2
              · refine itT c2 ?_
                have hp1 : puts ((ks0 ++ [b]).map (·.2)) p.2 = true := by rw [hput, decide_eq_true c2, Bool.or_true]
                exact ⟨_, rfl, .inl ⟨rfl, _, SqL.of hkp⟩, _, rfl, kp, _, _, rfl, rfl, hkp, small, done hp1⟩
              · refine itF c2 ?_
                have hp1 : ¬ puts ((ks0 ++ [b]).map (·.2)) p.2 = true := by
                  rw [hput, decide_eq_false c2, Bool.or_false, decide_eq_true_eq]
                  exact fun z => z c1
                unfold stepK at rstep
                rw [if_neg hp1] at rstep
                exact ⟨ks0 ++ [b], _, rfl, hkp, hlp4, hqT4, hkq, by omega, rstep, kk⟩
            · have hne2 : ¬ (V.int b.2.1 = V.int p.2.1) := fun z => c1 (V.int.inj z)
              rw [decide_eq_false hne2]
              refine iteT ?_
              have hp1 : puts ((ks0 ++ [b]).map (·.2)) p.2 = true := by rw [hput, decide_eq_true c1, Bool.true_or]
              exact ⟨_, rfl, .inl ⟨rfl, _, SqL.of hkp⟩, _, rfl, kp, _, _, rfl, rfl, hkp, small, done hp1⟩
        · rintro σ H4 ⟨ks, y, rfl, hkp, hlp4, hqT4, hkq, hkl, R, kk⟩
          rw [trs_len, List.take_length] at R
          rw [trs_len] at hkl
          refine ⟨_, rfl, kp, _, rfl, .inl ⟨SqL.of hkp, fun t nt => ?_⟩⟩
          have st := same_upd (o := .tup (trs ks)) nt
          have sH : Same H (upd H4 t (.tup (trs ks))) := fun b o e => st _ _ (kk b o (fun z => by rw [z, nkp] at e; cases e) (s03 _ _ e))
          exact q t ks _ sH upd_same (fun p hp => st _ _ (hqT4 p (hkq p hp))) (fun p hp => hqok p (hkq p hp)) (by omega) (R.least.perm hqm)
    · have hl : SqL K H l (trs ps) := hl
      have hu : (cxOf CX0 P w K mg base NLea "least_ones" (defScope sLeast) f cdv A outer s H E).nox.A.units + 64 < cLine := hr.units
      refine ⟨_, pss_cons (ps_set (i := 1) scLeast.nd rfl (.inl rfl) (pe_lst pa_nil))
        (pss_cons (ps_for PassesOwn.never rfl (pi_list (pe_callB (cr_sortTri hu) (by rfl) ms (by decide +kernel) (pa_cons
            (pe_lc (own := [("triple", 2)]) (g := gName 2) (tt := tYes) (te := tCB (rTupO K) (tCons (tVar 2) tNil)) rfl scLeast.nd (pi_list (pv 0)) (blkOk_by (own := [("triple", 2)]) (N := NLea) (sc := defScope sLeast) (by decide +kernel))
              (fun _ _ _ _ _ => pg_name (i := 2) scLeast.nd rfl (.inl rfl)) (fun _ _ _ _ _ => pts_nil) (fun _ _ _ _ _ => pe_callTy call_tuple_of (by rfl) mt (by decide +kernel) (pa_cons (pv 2) pa_nil))) pa_nil))) (pg_name (i := 2) scLeast.nd rfl (.inl rfl))
          (pss_one (ps_if (PW.pt (pw_or (pt_not (pt_truth (pv 1) (fun _ => rfl))) (pw_or (pt_cmpR op_ne (pe_ix ix_tup (pe_ix ix_list (pv 1) (pe_un un_neg pe_int) (fun _ _ => rfl)) pe_int (fun _ _ => rfl)) (pe_ix ix_tup (pv 2) pe_int (fun _ _ => rfl)) (nomark _)) (pw_or1 (pt_cmpR op_lt (pe_ix ix_tup (pv 2) pe_int (fun _ _ => rfl)) (pe_ix ix_tup (pe_ix ix_list (pv 1) (pe_un un_neg pe_int) (fun _ _ => rfl)) pe_int (fun _ _ => rfl)) (nomark _))))))
            (pss_one (ps_expr (pe_bm PySem.F.plainAttrs_list PySem.F.slot_list_append PySem.F.type_list_append mt_append (pv 1) (pa_cons (pv 2) pa_nil)))) pss_nil)))
        (pss_one (ps_ret (pe_callTy call_tuple_of (by rfl) mt (by decide +kernel) (pa_cons (pv 1) pa_nil))))), ?_⟩
      refine ⟨(by decide : 0 ≤ sizeLine), fun kp nkp => ?_⟩
      have s1 := same_upd (o := .lst []) nkp
      have hk1 : (upd H kp (.lst [])) kp = some (.lst []) := upd_same
      generalize upd H kp (.lst []) = H1 at s1 hk1
      refine ⟨_, rfl, l, rfl, ⟨_, s1.seq hl⟩, fun D nD => ?_⟩
      refine lc_list (K := K) (a := l) (xs := trs ps) (fun i H' => Same H1 H' ∧ H' D = some (.lst (trs (ps.take i)))) ⟨same_upd nD, upd_same⟩ (fun i H' _ ⟨sm, _⟩ => (s1.trans sm).seq hl) (fun i x H' hx ⟨sm, hD⟩ => ?_) (fun H2 ⟨s2, hD⟩ => ?_)
      · obtain ⟨p, hp, rfl⟩ := trs_at hx
        have hpi := hT p (List.mem_of_getElem? hp)
        refine ⟨rfl, ?_⟩
        refine yes2 ?_
        refine ⟨_, rfl, p.1, _, rfl, .inr ⟨SqT.of (sm _ _ (s1 _ _ hpi)), ?_⟩⟩
        have hil : i < ps.length := (List.getElem?_eq_some_iff.mp hp).1
        refine ⟨_, hD, by rw [trs_len, List.length_take]; exact Nat.lt_of_le_of_lt (Nat.min_le_right _ _) (Nat.lt_of_lt_of_le hlen (by decide)), ?_, ?_⟩
        · intro b o e
          rw [upd_ne (ne_of_none e nD)]
          exact sm b o e
        · rw [upd_same, take_next hp]
          unfold trs
          rw [List.map_append]
          rfl
      · rw [trs_len, List.take_length] at hD
        have hT2 := (hT.same s1).same s2
        have hk2 := s2 _ _ hk1
        refine ⟨D, ps, rfl, .inl (SqL.of hD), hT2, hok, fun qs lp hperm hqp nlp => ?_⟩
        have hqs : ∀ p ∈ qs, p ∈ ps := fun p hp => hperm.mem_iff.mp hp
        have hqT : TrAt H2 qs := fun p hp => hT2 p (hqs p hp)
        have hqok : ∀ p ∈ qs, okT p.2 := fun p hp => hok p (hqs p hp)
        have hqm : ∀ x, x ∈ qs.map (·.2) ↔ x ∈ ps.map (·.2) := fun x => (hperm.map _).mem_iff
        have hql : qs.length = ps.length := by
          exact hperm.length_eq
        have s3 := same_upd (o := .lst (trs qs)) nlp
        have hlp : (upd H2 lp (.lst (trs qs))) lp = some (.lst (trs qs)) := upd_same
        have hk3 := s3 _ _ hk2
        have hqT3 := hqT.same s3
        have nkl : kp ≠ lp := ne_of_none hk2 nlp
        have s03 : Same H (upd H2 lp (.lst (trs qs))) := s1.trans (s2.trans s3)
        generalize upd H2 lp (.lst (trs qs)) = H3 at s3 hlp hk3 hqT3 s03
        refine ⟨lp, rfl, ⟨_, SqL.of hlp⟩, for_list (K := K) (a := lp) (xs := trs qs)
          (fun i σ H' => ∃ (ks : List TP) (y : Option V), σ = [some (.ref l), some (.ref kp), y] ∧ H' kp = some (.lst (trs ks)) ∧ H' lp = some (.lst (trs qs)) ∧ TrAt H' qs ∧ (∀ p ∈ ks, p ∈ qs) ∧ ks.length ≤ i ∧ Run ((qs.take i).map (·.2)) (ks.map (·.2)) ∧ ∀ b o, b ≠ kp → H3 b = some o → H' b = some o)
          ⟨[], _, rfl, hk3, hlp, hqT3, (fun _ h => nomatch h), Nat.le_refl _, run_nil, fun _ _ _ e => e⟩ (fun i σ H' _ ⟨_, _, _, _, h, _⟩ => SqL.of h) ?_ ?_⟩
        · rintro i x σ H4 hx ⟨ks, y, rfl, hkp, hlp4, hqT4, hkq, hkl, R, kk⟩
          obtain ⟨p, hp, rfl⟩ := trs_at hx
          have hpm := List.mem_of_getElem? hp
          have hil : i < qs.length := (List.getElem?_eq_some_iff.mp hp).1
          have hpi := hqT4 p hpm
          have rstep : Run ((qs.take (i + 1)).map (·.2)) (stepK (ks.map (·.2)) p.2) := by
            rw [take_next hp, List.map_append]
            refine run_step R (fun t ht => ?_) (hqok p hpm)
            obtain ⟨r, hr, rfl⟩ := List.mem_map.mp ht
            refine ⟨hqok r (List.mem_of_mem_take hr), ?_⟩
            obtain ⟨j, hj, e⟩ := List.getElem_of_mem hr
            rw [List.length_take] at hj
            rw [List.getElem_take] at e
            have z := List.pairwise_iff_getElem.mp hqp j i (by omega) hil (by omega)
            rw [e] at z
            have e3 : qs[i] = p := by
              have := List.getElem?_eq_getElem hil
              rw [this] at hp
              exact Option.some.inj hp
            rw [e3] at z
            exact z
          have app : puts (ks.map (·.2)) p.2 = true → ∃ (xs : List V) (y : V), True ∧ H4 kp = some (.lst (trs ks)) := fun _ => ⟨[], .non, True.intro, hkp⟩
          have done : puts (ks.map (·.2)) p.2 = true → ∃ (ks' : List TP) (y : Option V), ([some (.ref l), some (.ref kp), some (.ref p.1)] : L2.St) = [some (.ref l), some (.ref kp), y] ∧ (upd H4 kp (.lst (trs ks ++ [.ref p.1]))) kp = some (.lst (trs ks')) ∧ (upd H4 kp (.lst (trs ks ++ [.ref p.1]))) lp = some (.lst (trs qs)) ∧ TrAt (upd H4 kp (.lst (trs ks ++ [.ref p.1]))) qs ∧ (∀ p ∈ ks', p ∈ qs) ∧ ks'.length ≤ i + 1 ∧ Run ((qs.take (i + 1)).map (·.2)) (ks'.map (·.2)) ∧ ∀ b o, b ≠ kp → H3 b = some o → (upd H4 kp (.lst (trs ks ++ [.ref p.1]))) b = some o := fun hp1 => by
            refine ⟨ks ++ [p], _, rfl, ?_, by rw [upd_ne nkl.symm]; exact hlp4, hqT4.put hkp, fun r hr' => ?_, by rw [List.length_append]; show ks.length + 1 ≤ i + 1; omega, ?_, fun b o nb e => by rw [upd_ne nb]; exact kk b o nb e⟩
            · rw [upd_same]
              unfold trs
              rw [List.map_append]
              rfl
            · rcases List.mem_append.mp hr' with h | h
              · exact hkq r h
              · rw [List.mem_singleton.mp h]
                exact hpm
            · unfold stepK at rstep
              rw [if_pos hp1] at rstep
              rw [List.map_append]
              exact rstep
          have small : (trs ks).length < sizeLine := by
            rw [trs_len]
            exact Nat.lt_of_le_of_lt hkl (Nat.lt_of_lt_of_le (show i < 1001 by omega) (by decide))
          refine ⟨_, rfl, !(trs ks).isEmpty, .inl ⟨_, SqL.of hkp, rfl⟩, ?_⟩
          rcases List.eq_nil_or_concat ks with e | ⟨ks0, b, e⟩
          · subst e
            have hp1 : puts (([] : List TP).map (·.2)) p.2 = true := rfl
            show if (!(!true)) = true then _ else _
            refine iteT ?_
            exact ⟨_, rfl, .inl ⟨rfl, _, SqL.of hkp⟩, _, rfl, kp, _, _, rfl, rfl, hkp, small, done hp1⟩
          · subst e
            rw [List.concat_eq_append] at *
            have hbm : b ∈ qs := hkq b (by simp)
            have hb4 := hqT4 b hbm
            have hne : (trs (ks0 ++ [b])).isEmpty = false := by
              unfold trs
              rw [List.map_append]
              cases ks0 <;> rfl
            have hlast : atI (trs (ks0 ++ [b])) (-1) = some (.ref b.1) := by
              have e1 : trs (ks0 ++ [b]) = trs ks0 ++ [.ref b.1] := by unfold trs; rw [List.map_append]; rfl
              rw [e1]
              unfold atI
              rw [show ixN (trs ks0 ++ [V.ref b.1]).length (-1) = some (trs ks0).length from ?_]
              · show (trs ks0 ++ [V.ref b.1])[(trs ks0).length]? = _
                rw [List.getElem?_append_right (Nat.le_refl _)]
                simp
              · unfold ixN
                rw [List.length_append, if_neg (by decide), if_pos (by simp only [List.length_cons, List.length_nil]; omega)]
                congr 1
                simp only [List.length_cons, List.length_nil]
                omega
            have hput : puts ((ks0 ++ [b]).map (·.2)) p.2 = (decide (b.2.1 ≠ p.2.1) || decide (p.2.2.2 < b.2.2.2)) := by
              unfold puts
              rw [List.map_append]
              simp
            rw [hne]
            show if (!(!false)) = true then _ else _
            refine iteF ?_
            have tb0 := tup_at (K := K) (i := 0) hb4 rfl
            have tb2 := tup_at (K := K) (i := 2) hb4 rfl
            have tp0 := tup_at (K := K) (i := 0) hpi rfl
            have tp2 := tup_at (K := K) (i := 2) hpi rfl
            refine ⟨_, rfl, 1, rfl, kp, _, -1, _, rfl, rfl, SqL.of hkp, hlast, b.1, _, 0, _, rfl, rfl, tb0.1, tb0.2, ?_⟩
            refine ⟨_, rfl, p.1, _, 0, _, rfl, rfl, tp0.1, tp0.2, rfl, _, rfl, ?_⟩
            by_cases c1 : b.2.1 = p.2.1
            · refine iteNS (by rw [c1]) ?_
              refine ⟨_, rfl, p.1, _, 2, _, rfl, rfl, tp2.1, tp2.2, ?_⟩
              refine ⟨_, rfl, 1, rfl, kp, _, -1, _, rfl, rfl, SqL.of hkp, hlast, b.1, _, 2, _, rfl, rfl, tb2.1, tb2.2, ?_⟩
              refine ⟨_, _, rfl, rfl, _, rfl, ?_⟩
              by_cases c2 : p.2.2.2 < b.2.2.2
              · refine itT c2 ?_
                have hp1 : puts ((ks0 ++ [b]).map (·.2)) p.2 = true := by rw [hput, decide_eq_true c2, Bool.or_true]
                exact ⟨_, rfl, .inl ⟨rfl, _, SqL.of hkp⟩, _, rfl, kp, _, _, rfl, rfl, hkp, small, done hp1⟩
              · refine itF c2 ?_
                have hp1 : ¬ puts ((ks0 ++ [b]).map (·.2)) p.2 = true := by
                  rw [hput, decide_eq_false c2, Bool.or_false, decide_eq_true_eq]
                  exact fun z => z c1
                unfold stepK at rstep
                rw [if_neg hp1] at rstep
                exact ⟨ks0 ++ [b], _, rfl, hkp, hlp4, hqT4, hkq, by omega, rstep, kk⟩
            · have hne2 : ¬ (V.int b.2.1 = V.int p.2.1) := fun z => c1 (V.int.inj z)
              rw [decide_eq_false hne2]
              refine iteT ?_
              have hp1 : puts ((ks0 ++ [b]).map (·.2)) p.2 = true := by rw [hput, decide_eq_true c1, Bool.true_or]
              exact ⟨_, rfl, .inl ⟨rfl, _, SqL.of hkp⟩, _, rfl, kp, _, _, rfl, rfl, hkp, small, done hp1⟩
        · rintro σ H4 ⟨ks, y, rfl, hkp, hlp4, hqT4, hkq, hkl, R, kk⟩
          rw [trs_len, List.take_length] at R
          rw [trs_len] at hkl
          refine ⟨_, rfl, kp, _, rfl, .inl ⟨SqL.of hkp, fun t nt => ?_⟩⟩
          have st := same_upd (o := .tup (trs ks)) nt
          have sH : Same H (upd H4 t (.tup (trs ks))) := fun b o e => st _ _ (kk b o (fun z => by rw [z, nkp] at e; cases e) (s03 _ _ e))
          exact q t ks _ sH upd_same (fun p hp => st _ _ (hqT4 p (hkq p hp))) (fun p hp => hqok p (hkq p hp)) (by omega) (R.least.perm hqm)
end
end Onp
set_option maxHeartbeats 8000000
set_option autoImplicit false
namespace Onp
open PySem PySem.Spec PyProof.Rows L2
abbrev sMRooms : Stmt := inClass sMach 1
abbrev sMLets : Stmt := inClass sMach 2
abbrev sMArrs : Stmt := inClass sMach 3
abbrev sMFsts : Stmt := inClass sMach 4
abbrev sMLsts : Stmt := inClass sMach 5
section
variable {P : Program} {w : World} {K : PySem.W.Frag} {mg : Str → Option Value} {base : Heap}
/-! ### what a machine tells of itself -/
theorem scMRooms : FnScope ["self"] ["self"] (defScope sMRooms) := ⟨rfl, rfl, rfl, by decide +kernel, rfl, by decide +kernel, by decide +kernel⟩
theorem scMLets : FnScope ["self"] ["self"] (defScope sMLets) := ⟨rfl, rfl, rfl, by decide +kernel, rfl, by decide +kernel, by decide +kernel⟩
theorem scMArrs : FnScope ["self"] ["self"] (defScope sMArrs) := ⟨rfl, rfl, rfl, by decide +kernel, rfl, by decide +kernel, by decide +kernel⟩
theorem scMFsts : FnScope ["self"] ["self"] (defScope sMFsts) := ⟨rfl, rfl, rfl, by decide +kernel, rfl, by decide +kernel, by decide +kernel⟩
theorem scMLsts : FnScope ["self"] ["self"] (defScope sMLsts) := ⟨rfl, rfl, rfl, by decide +kernel, rfl, by decide +kernel, by decide +kernel⟩
def spMRooms (K : PySem.W.Frag) (C : Addr) : Sp := fun vs H Q _ => ∃ (a : Addr) (M : AM), vs = [.ref a] ∧ MachAt K C H a M ∧ Q (.int M.n) H
def spMLets (K : PySem.W.Frag) (C : Addr) : Sp := fun vs H Q _ => ∃ (a : Addr) (M : AM), vs = [.ref a] ∧ MachAt K C H a M ∧ Q (.str (Sx M.ls)) H
def spMArrs (K : PySem.W.Frag) (C : Addr) : Sp := fun vs H Q _ => ∃ (a : Addr) (M : AM), vs = [.ref a] ∧ MachAt K C H a M ∧ ∀ (l : Addr) (ps : List AR), H l = none → RowAt K H ps → ps.map (·.2) = M.as → Q (.ref l) (upd H l (.lst (rfs ps)))
def spMFsts (K : PySem.W.Frag) (C : Addr) : Sp := fun vs H Q _ => ∃ (a : Addr) (M : AM), vs = [.ref a] ∧ MachAt K C H a M ∧ ∀ l, H l = none → Q (.ref l) (upd H l (.lst (M.fs.map V.int)))
def spMLsts (K : PySem.W.Frag) (C : Addr) : Sp := fun vs H Q _ => ∃ (a : Addr) (M : AM), vs = [.ref a] ∧ MachAt K C H a M ∧ ∀ l, H l = none → Q (.ref l) (upd H l (.lst (M.gs.map V.int)))
theorem ok_mrooms {f C : Addr} {fd : FuncData} {k : Nat} (F : Fun K "rooms" "Machine.rooms" sMRooms f fd) (T : ClsM K C) : FnOk P w K mg base CX0 (k + 1) f fd ["self"] (spMRooms K C) := by
  refine F.ok scMRooms (fun vs H Q E h => ?_) (fun cdv A outer s H vs Q E hr h => ?_)
  · obtain ⟨a, M, rfl, _⟩ := h
    rfl
  · obtain ⟨a, M, rfl, ⟨dx, ta, tf, tg, D, ps, h1, _⟩, q⟩ := h
    exact ⟨_, pss_one (ps_ret (pe_fld (pv 0) rfl)), _, rfl, a, C, dx, _, _, rfl, h1, T.cl, T.n1, mfl_rooms, q⟩
theorem ok_mlets {f C : Addr} {fd : FuncData} {k : Nat} (F : Fun K "letters" "Machine.letters" sMLets f fd) (T : ClsM K C) : FnOk P w K mg base CX0 (k + 1) f fd ["self"] (spMLets K C) := by
  refine F.ok scMLets (fun vs H Q E h => ?_) (fun cdv A outer s H vs Q E hr h => ?_)
  · obtain ⟨a, M, rfl, _⟩ := h
    rfl
  · obtain ⟨a, M, rfl, ⟨dx, ta, tf, tg, D, ps, h1, _⟩, q⟩ := h
    exact ⟨_, pss_one (ps_ret (pe_fld (pv 0) rfl)), _, rfl, a, C, dx, _, _, rfl, h1, T.cl, T.n2, mfl_letters, q⟩
theorem ok_marrs {f C : Addr} {fd : FuncData} {k : Nat} (F : Fun K "arrows" "Machine.arrows" sMArrs f fd) (T : ClsM K C) (ml : mg "list" = none) : FnOk P w K mg base CX0 (k + 1) f fd ["self"] (spMArrs K C) := by
  refine F.ok scMArrs (fun vs H Q E h => ?_) (fun cdv A outer s H vs Q E hr h => ?_)
  · obtain ⟨a, M, rfl, _⟩ := h
    rfl
  · obtain ⟨a, M, rfl, ⟨dx, ta, tf, tg, D, ps, h1, h2, h3, h4, _⟩, q⟩ := h
    exact ⟨_, pss_one (ps_ret (pe_callTy call_list_of (by rfl) ml (by decide +kernel) (pa_cons (pe_fld (pv 0) rfl) pa_nil))), _, rfl, a, C, dx, _, _, rfl, h1, T.cl, T.n3, mfl_arrows, ta, rfs ps, rfl, .inr (SqT.of h2), fun l nl => q l ps nl h3 h4⟩
theorem ok_mfsts {f C : Addr} {fd : FuncData} {k : Nat} (F : Fun K "firsts" "Machine.firsts" sMFsts f fd) (T : ClsM K C) (ml : mg "list" = none) : FnOk P w K mg base CX0 (k + 1) f fd ["self"] (spMFsts K C) := by
  refine F.ok scMFsts (fun vs H Q E h => ?_) (fun cdv A outer s H vs Q E hr h => ?_)
  · obtain ⟨a, M, rfl, _⟩ := h
    rfl
  · obtain ⟨a, M, rfl, ⟨dx, ta, tf, tg, D, ps, h1, h2, h3, h4, h5, h6, _⟩, q⟩ := h
    exact ⟨_, pss_one (ps_ret (pe_callTy call_list_of (by rfl) ml (by decide +kernel) (pa_cons (pe_fld (pv 0) rfl) pa_nil))), _, rfl, a, C, dx, _, _, rfl, h1, T.cl, T.n4, mfl_firsts, tf, _, rfl, .inr (SqT.of h5), q⟩
theorem ok_mlsts {f C : Addr} {fd : FuncData} {k : Nat} (F : Fun K "lasts" "Machine.lasts" sMLsts f fd) (T : ClsM K C) (ml : mg "list" = none) : FnOk P w K mg base CX0 (k + 1) f fd ["self"] (spMLsts K C) := by
  refine F.ok scMLsts (fun vs H Q E h => ?_) (fun cdv A outer s H vs Q E hr h => ?_)
  · obtain ⟨a, M, rfl, _⟩ := h
    rfl
  · obtain ⟨a, M, rfl, ⟨dx, ta, tf, tg, D, ps, h1, h2, h3, h4, h5, h6, _⟩, q⟩ := h
    exact ⟨_, pss_one (ps_ret (pe_callTy call_list_of (by rfl) ml (by decide +kernel) (pa_cons (pe_fld (pv 0) rfl) pa_nil))), _, rfl, a, C, dx, _, _, rfl, h1, T.cl, T.n5, mfl_lasts, tg, _, rfl, .inr (SqT.of h6), q⟩
end
end Onp
set_option maxHeartbeats 8000000
set_option autoImplicit false
namespace Onp
open PySem PySem.Spec PyProof.Rows L2
abbrev sLLeast : Stmt := topS 53
/-! ### triples as data -/
def triD (t : Tri) : PyData := .tuple [.int t.1, .int t.2.1, .int t.2.2]
theorem eqv_tri (x y : Tri) : PyData.eqv (triD x) (triD y) = decide (x = y) := by
  obtain ⟨a, b, c⟩ := x
  obtain ⟨d, e, f⟩ := y
  simp only [triD, PyData.eqv, PyData.eqvAll]
  rw [Bool.eq_iff_iff, decide_eq_true_eq]
  simp only [Bool.and_eq_true, beq_iff_eq, Prod.mk.injEq, and_true]
theorem dp_tri {K : PySem.W.Frag} {H : Hp} {p : TP} (h : H p.1 = some (.tup (tV p.2))) : Dp K H (.ref p.1) (triD p.2) := .tup (SqT.of h) (.cons (.int _) (.cons (.int _) (.cons (.int _) .nil)))
theorem sh_tri (t : Tri) : SeqAt.shaped (triD t) = true := rfl
theorem dp_tris {K : PySem.W.Frag} {H : Hp} : ∀ {ps : List TP}, TrAt H ps → DpAll K H (trs ps) ((ps.map (·.2)).map triD)
  | [], _ => .nil
  | p :: r, h => .cons (dp_tri (h p List.mem_cons_self)) (dp_tris fun q hq => h q (List.mem_cons_of_mem _ hq))
theorem lay_tris : ∀ ts : List Tri, PyData.canLayAll0 (ts.map triD) = true
  | [] => rfl
  | t :: r => by
    show (PyData.canLay0 (triD t) && PyData.canLayAll0 (r.map triD)) = true
    rw [lay_tris r]
    rfl
theorem dep_tris : ∀ ts : List Tri, PyData.depthAll (ts.map triD) ≤ 8
  | [] => by simp [PyData.depthAll]
  | t :: r => by
    show PyData.depthAll (triD t :: r.map triD) ≤ 8
    have h2 := dep_tris r
    have h1 : (triD t).depth ≤ 8 := by
      unfold triD
      simp [PyData.depth, PyData.depthAll]
    rw [PyData.depthAll]
    exact Nat.max_le.mpr ⟨h1, h2⟩
theorem sh_tris (ts : List Tri) : SeqAt.shaped (.list (ts.map triD)) = true := by
  unfold SeqAt.shaped
  have h1 : (PyData.list (ts.map triD)).canLay0 = true := by rw [PyData.canLay0]; exact lay_tris ts
  have h2 : (PyData.list (ts.map triD)).depth ≤ 64 := by
    rw [PyData.depth]
    have := dep_tris ts
    omega
  rw [h1, decide_eq_true h2]
  rfl
/-! ### the law's own look at each two -/
def lessB (o y : Tri) : Bool := decide (y ≠ o) && (decide (y.1 = o.1) && (decide (y.2.1 ≤ o.2.1) && decide (y.2.2 ≤ o.2.2)))
def miniB (S : List Tri) (o : Tri) : Bool := decide (S.filter (lessB o) = [])
theorem miniB_iff {S : List Tri} {o : Tri} (h : o ∈ S) : miniB S o = true ↔ Mini S o := by
  unfold miniB Mini
  rw [decide_eq_true_eq, List.filter_eq_nil_iff]
  constructor
  · intro z
    refine ⟨h, fun y hy d => Classical.byContradiction fun ne => z y hy ?_⟩
    unfold lessB
    rw [decide_eq_true ne, decide_eq_true d.1, decide_eq_true d.2.1, decide_eq_true d.2.2]
    rfl
  · intro z y hy e
    unfold lessB at e
    simp only [Bool.and_eq_true, decide_eq_true_eq] at e
    exact e.1 (z.2 y hy ⟨e.2.1, e.2.2.1, e.2.2.2⟩)
section
variable {P : Program} {w : World} {K : PySem.W.Frag} {mg : Str → Option Value} {base : Heap}
def spLLeast (K : PySem.W.Frag) : Sp := fun vs H Q _ => ∃ (l : Addr) (ps : List TP), vs = [.ref l] ∧ SqL K H l (trs ps) ∧ TrAt H ps ∧ (∀ p ∈ ps, okT p.2) ∧ ps.length < 1001 ∧ ∀ (t : Addr) (qs : List TP) H', Same H H' → H' t = some (.tup (trs qs)) → TrAt H' qs → (∀ p ∈ qs, okT p.2) → qs.length < 1001 → IsLeast (ps.map (·.2)) (qs.map (·.2)) → Q (.ref t) H'
def NLl : List Str := ["_law_triples", "_law_found", "_law_one", "_law_less", "_law_two"]
theorem scLLeast : FnScope NLl ["_law_triples"] (defScope sLLeast) := ⟨rfl, rfl, rfl, by decide +kernel, rfl, by decide +kernel, by decide +kernel⟩
def tIx0 (K : PySem.W.Frag) (i : Nat) (j : Int) : TE := tOp (rIxT K) (tVar i) (tC (.int j))
theorem ok_lleast {f : Addr} {fd : FuncData} {k : Nat} (F : Fun K "_law_least" "_law_least" sLLeast f fd) (ms : mg "sorted" = none) (mse : mg "set" = none) (mt : mg "tuple" = none) (mi : mg "int" = none) : FnOk P w K mg base CX0 (k + 1) f fd ["_law_triples"] (spLLeast K) := by
  refine F.ok scLLeast (fun vs H Q E h => ?_) (fun cdv A outer s H vs Q E hr h => ?_)
  · obtain ⟨l, ps, rfl, _⟩ := h
    rfl
  · obtain ⟨l, ps, rfl, hl, hT, hok, hlen, q⟩ := h
    have hu : (cxOf CX0 P w K mg base NLl "_law_least" (defScope sLLeast) f cdv A outer s H E).nox.A.units + 64 < cLine := hr.units
    refine ⟨_, pss_cons (ps_set (i := 1) scLLeast.nd rfl (.inl rfl) (pe_lst pa_nil))
      (pss_cons (ps_for PassesOwn.never rfl (pi_list (pe_sortTri rfl hu (by rfl) ms (by rfl) mse (pv 0))) (pg_name (i := 2) scLLeast.nd rfl (.inr rfl))
        (pss_cons (ps_setLc (i := 3) (own := [("_law_two", 4)]) (g := gName 4) (tt := tAnd (tTest (tOp (rNeD K) (tVar 4) (tVar 2))) (tAnd (tTest (tOp rEq (tIx0 K 4 0) (tIx0 K 2 0))) (tAnd (tTest (tOp (rI0 fun i j => .bl (decide (i ≤ j))) (tIx0 K 4 1) (tIx0 K 2 1))) (tTest (tOp (rI0 fun i j => .bl (decide (i ≤ j))) (tIx0 K 4 2) (tIx0 K 2 2)))))) (te := tVar 4) rfl scLLeast.nd rfl rfl (sw_true rfl rfl rfl (by decide +kernel))
            (pi_list (pv 0)) (blkOk_by (own := [("_law_two", 4)]) (N := NLl) (sc := defScope sLLeast) (by decide +kernel))
            (fun _ _ _ _ _ => pg_name (i := 4) scLLeast.nd rfl (.inl rfl)) (fun _ _ _ _ _ => pts_one (PW.pt (pw_and (pt_cmpR (op_neD hr.units) (pv 4) (pv 2) (nomark _)) (pw_and (pt_cmpR op_eq (pe_ix ix_tup (pv 4) pe_int (fun _ _ => rfl)) (pe_ix ix_tup (pv 2) pe_int (fun _ _ => rfl)) (nomark _)) (pw_and (pt_cmpR op_le (pe_ix ix_tup (pv 4) pe_int (fun _ _ => rfl)) (pe_ix ix_tup (pv 2) pe_int (fun _ _ => rfl)) (nomark _)) (pw_and1 (pt_cmpR op_le (pe_ix ix_tup (pv 4) pe_int (fun _ _ => rfl)) (pe_ix ix_tup (pv 2) pe_int (fun _ _ => rfl)) (nomark _)))))))) (fun _ _ _ _ _ => pv 4))
        (pss_one (ps_set (i := 1) scLLeast.nd rfl (.inl rfl) (pe_op op_cat (pv 1) (pe_op op_rep (pe_lst (pa_cons (pv 2) pa_nil)) (pe_callTy call_int1 (by rfl) mi (by decide +kernel) (pa_cons (pe_cmpR (op_eqD hr.units) (pv 3) (pe_lst pa_nil) (nomark _)) pa_nil))))))))
      (pss_one (ps_ret (pe_callTy call_tuple_of (by rfl) mt (by decide +kernel) (pa_cons (pv 1) pa_nil))))), ?_⟩
    refine ⟨(by decide : 0 ≤ sizeLine), fun fo nfo => ?_⟩
    have s1 := same_upd (o := .lst []) nfo
    have hf1 : (upd H fo (.lst [])) fo = some (.lst (trs [])) := upd_same
    generalize upd H fo (.lst []) = H1 at s1 hf1
    have hT1 := hT.same s1
    refine ⟨_, rfl, l, ps, rfl, .inl (s1.seq hl), hT1, hok, (by omega), fun lp us nlp hus hum hus2 hul0 => ?_⟩
    have hul : us.length < 1001 := by omega
    have s3 := same_upd (o := .lst (trs us)) nlp
    have hlp : (upd H1 lp (.lst (trs us))) lp = some (.lst (trs us)) := upd_same
    have s03 := s1.trans s3
    have hf3 := s3 _ _ hf1
    have hbig : 5000 ≤ sizeLine := by decide
    refine ⟨lp, rfl, ⟨_, SqL.of hlp⟩, for_list (K := K) (a := lp) (xs := trs us)
      (fun i σ H' => ∃ (fo : Addr) (fs : List TP) (y2 y3 : Option V), σ = [some (.ref l), some (.ref fo), y2, y3, none] ∧ Same (upd H1 lp (.lst (trs us))) H' ∧ H' fo = some (.lst (trs fs)) ∧ (∀ p ∈ fs, p ∈ us) ∧ fs.map (·.2) = ((us.take i).map (·.2)).filter (miniB (ps.map (·.2))) ∧ fs.length ≤ i)
      ⟨fo, [], _, _, rfl, fun _ _ h => h, hf3, (fun _ h => nomatch h), rfl, Nat.le_refl _⟩ (fun i σ H' _ ⟨_, _, _, _, _, sm, _⟩ => SqL.of (sm _ _ hlp)) ?_ ?_⟩
    · rintro i x σ H4 hx ⟨fo, fs, y2, y3, rfl, s4, hfo, hfu, hfe, hfl⟩
      obtain ⟨u, hu', rfl⟩ := trs_at hx
      have hum' := List.mem_of_getElem? hu'
      have s04 := s03.trans s4
      have hT4 := hT.same s04
      have hu4 := hT4 u (hus u hum')
      refine ⟨_, rfl, l, rfl, ⟨_, s04.seq hl⟩, fun D nD => ?_⟩
      refine lc_list (K := K) (a := l) (xs := trs ps) (fun j H' => Same H4 H' ∧ H' D = some (.lst (trs ((ps.take j).filter fun p => lessB u.2 p.2)))) ⟨same_upd nD, upd_same⟩ (fun j H' _ ⟨sm, _⟩ => (s04.trans sm).seq hl) (fun j x H' hx ⟨sm, hD⟩ => ?_) (fun H5 ⟨s5, hD⟩ => ?_)
      · obtain ⟨p, hp, rfl⟩ := trs_at hx
        have hjl : j < ps.length := (List.getElem?_eq_some_iff.mp hp).1
        have hp' := sm _ _ (hT4 p (List.mem_of_getElem? hp))
        have hu' := sm _ _ hu4
        have no : lessB u.2 p.2 = false → Same H4 H' ∧ H' D = some (.lst (trs ((ps.take (j + 1)).filter fun p => lessB u.2 p.2))) := fun e => by
          refine ⟨sm, ?_⟩
          rw [take_next hp, List.filter_append, hD]
          simp [e]
        have p0 := tup_at (K := K) (i := 0) hp' rfl
        have p1 := tup_at (K := K) (i := 1) hp' rfl
        have p2 := tup_at (K := K) (i := 2) hp' rfl
        have u0 := tup_at (K := K) (i := 0) hu' rfl
        have u1 := tup_at (K := K) (i := 1) hu' rfl
        have u2 := tup_at (K := K) (i := 2) hu' rfl
        refine ⟨rfl, ?_⟩
        refine ⟨_, rfl, _, rfl, triD p.2, triD u.2, dp_tri hp', dp_tri hu', sh_tri _, sh_tri _, _, rfl, ?_⟩
        rw [eqv_tri]
        by_cases c0 : p.2 = u.2
        · rw [decide_eq_true c0]
          refine iteF ?_
          refine iteF ?_
          exact no (by unfold lessB; rw [decide_eq_false (fun z => z c0)]; rfl)
        rw [decide_eq_false c0]
        refine iteT ?_
        refine ⟨_, rfl, p.1, _, 0, _, rfl, rfl, p0.1, p0.2, _, rfl, u.1, _, 0, _, rfl, rfl, u0.1, u0.2, rfl, _, rfl, ?_⟩
        by_cases c1 : p.2.1 = u.2.1
        · refine itT (by rw [c1]) ?_
          refine ⟨_, rfl, p.1, _, 1, _, rfl, rfl, p1.1, p1.2, _, rfl, u.1, _, 1, _, rfl, rfl, u1.1, u1.2, _, _, rfl, rfl, _, rfl, ?_⟩
          by_cases c2 : p.2.2.1 ≤ u.2.2.1
          · refine itT c2 ?_
            refine ⟨_, rfl, p.1, _, 2, _, rfl, rfl, p2.1, p2.2, _, rfl, u.1, _, 2, _, rfl, rfl, u2.1, u2.2, _, _, rfl, rfl, _, rfl, ?_⟩
            by_cases c3 : p.2.2.2 ≤ u.2.2.2
            · refine itT c3 ?_
              have yes : lessB u.2 p.2 = true := by
                unfold lessB
                rw [decide_eq_true c0, decide_eq_true c1, decide_eq_true c2, decide_eq_true c3]
                rfl
              refine ⟨_, rfl, _, hD, ?_, ?_, ?_⟩
              · rw [trs_len]
                have := List.length_filter_le (fun p : TP => lessB u.2 p.2) (ps.take j)
                rw [List.length_take] at this
                omega
              · intro b o e
                rw [upd_ne (ne_of_none e nD)]
                exact sm b o e
              · rw [upd_same, take_next hp, List.filter_append]
                unfold trs
                rw [List.map_append]
                simp [yes]
            · refine itF c3 ?_
              exact no (by unfold lessB; rw [decide_eq_false c3, Bool.and_false, Bool.and_false, Bool.and_false])
          · refine itF c2 ?_
            refine iteF ?_
            exact no (by unfold lessB; rw [decide_eq_false c2, Bool.false_and, Bool.and_false, Bool.and_false])
        · refine itF (fun z => c1 (V.int.inj z)) ?_
          refine iteF ?_
          exact no (by unfold lessB; rw [decide_eq_false c1, Bool.false_and, Bool.and_false])
      · rw [trs_len, List.take_length] at hD
        have hT5 := hT4.same s5
        have hfT : TrAt H5 (ps.filter fun p => lessB u.2 p.2) := fun p hp => hT5 p (List.mem_filter.mp hp).1
        refine ⟨.ref fo, rfl, _, rfl, (by decide : 1 ≤ sizeLine), fun p7 np7 => ?_⟩
        have s7 := same_upd (o := .lst [V.ref u.1]) np7
        refine ⟨_, rfl, (by decide : 0 ≤ sizeLine), fun pe npe => ?_⟩
        have s8 := same_upd (o := .lst []) npe
        have s78 := s7.trans s8
        have hp7 := s8 _ _ (show (upd H5 p7 (.lst [V.ref u.1])) p7 = some (.lst [V.ref u.1]) from upd_same)
        have hfo8 := s78 _ _ (s5 _ _ hfo)
        have hD8 := s78 _ _ hD
        have hfT8 := hfT.same s78
        have hpe : (upd (upd H5 p7 (.lst [V.ref u.1])) pe (.lst [])) pe = some (.lst []) := upd_same
        generalize upd (upd H5 p7 (.lst [V.ref u.1])) pe (.lst []) = H8 at s78 hp7 hfo8 hD8 hfT8 hpe
        have s48 := s5.trans s78
        refine ⟨.list (((ps.filter fun p => lessB u.2 p.2).map (·.2)).map triD), .list [], .lst (SqL.of hD8) (dp_tris hfT8), .lst (SqL.of hpe) .nil, sh_tris _, by decide +kernel, .inr ⟨_, rfl, ?_⟩⟩
        rw [eqv_nil]
        have emin : miniB (ps.map (·.2)) u.2 = decide ((((ps.filter fun p => lessB u.2 p.2).map (·.2)).map triD) = []) := by
          unfold miniB
          rw [List.filter_map, Bool.eq_iff_iff, decide_eq_true_eq, decide_eq_true_eq, List.map_eq_nil_iff, List.map_eq_nil_iff, List.map_eq_nil_iff]
          rfl
        rw [← emin]
        have etk : ((us.take (i + 1)).map (·.2)).filter (miniB (ps.map (·.2))) = fs.map (·.2) ++ [u.2].filter (miniB (ps.map (·.2))) := by
          rw [take_next hu', List.map_append, List.filter_append, hfe]
          rfl
        by_cases hm : miniB (ps.map (·.2)) u.2 = true
        · rw [hm]
          refine ⟨p7, 1, [.ref u.1], rfl, rfl, hp7, by decide, by decide, (by decide : 1 ≤ sizeLine), fun p8 np8 => ?_⟩
          have s9 := same_upd (o := .lst (List.replicate (Int.toNat 1) [V.ref u.1]).flatten) np8
          refine ⟨fo, p8, trs fs, [.ref u.1], rfl, rfl, s9 _ _ hfo8, upd_same, ?_, fun p9 np9 => ?_⟩
          · rw [trs_len]
            show fs.length + 1 ≤ sizeLine
            have : i < us.length := (List.getElem?_eq_some_iff.mp hu').1
            omega
          · have s10 := s9.trans (same_upd (o := .lst (trs fs ++ [.ref u.1])) np9)
            refine ⟨p9, fs ++ [u], _, _, rfl, s4.trans (s48.trans s10), ?_, fun p hp => ?_, ?_, by rw [List.length_append]; show fs.length + 1 ≤ i + 1; omega⟩
            · rw [upd_same]
              unfold trs
              rw [List.map_append]
              rfl
            · rcases List.mem_append.mp hp with h | h
              · exact hfu p h
              · rw [List.mem_singleton.mp h]
                exact hum'
            · rw [etk, List.map_append]
              simp [hm]
        · have hm' : miniB (ps.map (·.2)) u.2 = false := by
            cases z : miniB (ps.map (·.2)) u.2 with
            | true => exact absurd z hm
            | false => rfl
          rw [hm']
          refine ⟨p7, 0, [.ref u.1], rfl, rfl, hp7, by decide, by decide, (show 1 * 0 ≤ sizeLine by decide), fun p8 np8 => ?_⟩
          have s9 := same_upd (o := .lst (List.replicate (Int.toNat 0) [V.ref u.1]).flatten) np8
          refine ⟨fo, p8, trs fs, [], rfl, rfl, s9 _ _ hfo8, upd_same, ?_, fun p9 np9 => ?_⟩
          · rw [trs_len]
            show fs.length + 0 ≤ sizeLine
            have : i < us.length := (List.getElem?_eq_some_iff.mp hu').1
            omega
          · have s10 := s9.trans (same_upd (o := .lst (trs fs ++ [])) np9)
            refine ⟨p9, fs, _, _, rfl, s4.trans (s48.trans s10), by rw [upd_same, List.append_nil], hfu, ?_, by omega⟩
            rw [etk]
            simp [hm']
    · rintro σ H4 ⟨fo, fs, y2, y3, rfl, s4, hfo, hfu, hfe, hfl⟩
      rw [trs_len, List.take_length] at hfe
      rw [trs_len] at hfl
      have s04 := s03.trans s4
      refine ⟨_, rfl, fo, _, rfl, .inl ⟨SqL.of hfo, fun t nt => ?_⟩⟩
      have st := same_upd (o := .tup (trs fs)) nt
      refine q t fs _ (s04.trans st) upd_same (fun p hp => (s04.trans st) _ _ (hT p (hus p (hfu p hp)))) (fun p hp => hok p (hus p (hfu p hp))) (by omega) ⟨?_, fun x => ?_⟩
      · rw [hfe]
        exact hus2.filter _
      · rw [hfe, List.mem_filter]
        constructor
        · intro h
          exact (miniB_iff ((hum x).mp h.1)).mp h.2
        · intro h
          exact ⟨(hum x).mpr h.1, (miniB_iff h.1).mpr h⟩
end
end Onp
set_option autoImplicit false
namespace Onp
open PySem PySem.Spec PyProof.Rows L2
theorem inV_ints (z : Int) : ∀ ns : List Int, inV (.int z) (ns.map V.int) = decide (z ∈ ns)
  | [] => by rfl
  | y :: r => by
    have ih := inV_ints z r
    unfold inV at ih ⊢
    rw [List.map_cons, List.any_cons, ih]
    have e1 : eqV (.int y) (.int z) = decide (y = z) := by
      show (y == z) = _
      rw [Bool.eq_iff_iff, beq_iff_eq, decide_eq_true_eq]
    first
      | rw [e1]
      | skip
    by_cases e : y = z
    · subst e
      rw [decide_eq_true rfl, decide_eq_true List.mem_cons_self]
      rfl
    · rw [decide_eq_false e]
      by_cases h : z ∈ r
      · rw [decide_eq_true h, decide_eq_true (List.mem_cons_of_mem _ h)]
        rfl
      · rw [decide_eq_false h, decide_eq_false (fun q => (List.mem_cons.mp q).elim (fun z => e z.symm) h)]
        rfl
theorem flatInts (ns : List Int) : (ns.map V.int).all flatV = true := by
  rw [List.all_map]
  exact List.all_eq_true.mpr fun _ _ => rfl
end Onp
set_option maxHeartbeats 8000000
set_option autoImplicit false
namespace Onp
open PySem PySem.Spec PyProof.Rows L2
abbrev sFirstB : Stmt := topS 30
def zr (r : Int) : Tri := (r, 0, 0)
/-- triples that are made one by one -/
theorem grow_tri {H2 H' : Hp} {D t : Addr} {ps : List TP} {x : Tri} (nD : H2 D = none) (sm : Same H2 H') (hD : H' D = some (.lst (trs ps))) (hT : TrAt H' ps) (hl : ps.length ≤ 1000) (nt : H' t = none) :
    ∃ acc, (upd H' t (.tup (tV x))) D = some (.lst acc) ∧ acc.length < sizeLine ∧ Same H2 (upd (upd H' t (.tup (tV x))) D (.lst (acc ++ [.ref t]))) ∧ (upd (upd H' t (.tup (tV x))) D (.lst (acc ++ [.ref t]))) D = some (.lst (trs (ps ++ [(t, x)]))) ∧ TrAt (upd (upd H' t (.tup (tV x))) D (.lst (acc ++ [.ref t]))) (ps ++ [(t, x)]) := by
  have st := same_upd (o := .tup (tV x)) nt
  refine ⟨_, st _ _ hD, by rw [trs_len]; exact Nat.lt_of_le_of_lt hl (by decide), fun b o e => ?_, ?_, ?_⟩
  · rw [upd_ne (ne_of_none e nD)]
    exact st _ _ (sm b o e)
  · rw [upd_same]
    unfold trs
    rw [List.map_append]
    rfl
  · refine TrAt.put (xs := trs ps) (fun p hp => ?_) (st _ _ hD)
    rcases List.mem_append.mp hp with h | h
    · exact st _ _ (hT p h)
    · rw [List.mem_singleton.mp h]
      exact upd_same
section
variable {P : Program} {w : World} {K : PySem.W.Frag} {mg : Str → Option Value} {base : Heap}
/-! ### first_board, _law_begin -/
def spFirstB (K : PySem.W.Frag) (C : Addr) : Sp := fun vs H Q _ => ∃ (a : Addr) (M : AM), vs = [.ref a] ∧ MachAt K C H a M ∧ M.fs.length ≤ 100 ∧ ∀ (t : Addr) (ps : List TP) H', Same H H' → H' t = some (.tup (trs ps)) → TrAt H' ps → ps.map (·.2) = M.fs.map zr → Q (.ref t) H'
theorem scFirstB : FnScope ["machine", "room"] ["machine"] (defScope sFirstB) := ⟨rfl, rfl, rfl, by decide +kernel, rfl, by decide +kernel, by decide +kernel⟩
theorem ok_firstB {f fF C : Addr} {fd fdF : FuncData} {k : Nat} (F : Fun K "first_board" "first_board" sFirstB f fd) (FF : Fun K "firsts" "Machine.firsts" sMFsts fF fdF) (bF : Binds K fdF ["self"] []) (mF : Meth K C "firsts" fF) (T : ClsM K C) (ml : mg "list" = none) (mt : mg "tuple" = none) : FnOk P w K mg base CX0 (k + 2) f fd ["machine"] (spFirstB K C) := by
  have GF : FnOk P w K mg base CX0 (k + 1) fF fdF ["self"] (spMFsts K C) := ok_mfsts FF T ml
  refine F.ok scFirstB (fun vs H Q E h => ?_) (fun cdv A outer s H vs Q E hr h => ?_)
  · obtain ⟨a, M, rfl, _⟩ := h
    rfl
  · obtain ⟨a, M, rfl, mA, hlen, q⟩ := h
    obtain ⟨dx, ta, tf, tg, D0, ps0, h1, hrest⟩ := id mA
    refine ⟨_, pss_one (ps_ret (pe_callTy call_tuple_of (by rfl) mt (by decide +kernel) (pa_cons
        (pe_lc (own := [("room", 1)]) (g := gName 1) (tt := tYes) (te := tTup (tCons (tVar 1) (tCons (tC (.int 0)) (tCons (tC (.int 0)) tNil)))) rfl scFirstB.nd (pi_list (pe_meth0 (pv 0) T.cl mF GF hr bF .nil pass0)) (blkOk_by (own := [("room", 1)]) (N := ["machine", "room"]) (sc := defScope sFirstB) (by decide +kernel))
          (fun _ _ _ _ _ => pg_name (i := 1) scFirstB.nd rfl (.inl rfl)) (fun _ _ _ _ _ => pts_nil) (fun _ _ _ _ _ => pe_tup (pa_cons (pv 1) (pa_cons pe_int (pa_cons pe_int pa_nil))))) pa_nil))), ?_⟩
    refine ⟨_, rfl, a, dx, _, rfl, h1, mfl_none (by decide +kernel), a, M, rfl, mA, fun lf nlf => ?_⟩
    have s1 := same_upd (o := .lst (M.fs.map V.int)) nlf
    have hlf : (upd H lf (.lst (M.fs.map V.int))) lf = some (.lst (M.fs.map V.int)) := upd_same
    generalize upd H lf (.lst (M.fs.map V.int)) = H1 at s1 hlf
    refine ⟨lf, rfl, ⟨_, SqL.of hlf⟩, fun D nD => ?_⟩
    refine lc_list (K := K) (a := lf) (xs := M.fs.map V.int) (fun i H' => Same H1 H' ∧ ∃ ps : List TP, H' D = some (.lst (trs ps)) ∧ TrAt H' ps ∧ ps.map (·.2) = (M.fs.take i).map zr) ⟨same_upd nD, [], upd_same, (fun _ h => nomatch h), rfl⟩ (fun i H' _ ⟨sm, _⟩ => SqL.of (sm _ _ hlf)) (fun i x H' hx ⟨sm, ps, hD, hT, he⟩ => ?_) (fun H2 ⟨s2, ps, hD, hT, he⟩ => ?_)
    · rw [List.getElem?_map] at hx
      obtain ⟨r, hr', rfl⟩ : ∃ r, M.fs[i]? = some r ∧ x = .int r := by
        cases z : M.fs[i]? with
        | none => rw [z] at hx; cases hx
        | some r => rw [z] at hx; exact ⟨r, rfl, (Option.some.inj hx).symm⟩
      have hpl : ps.length ≤ 1000 := by
        have := congrArg List.length he
        rw [List.length_map, List.length_map, List.length_take] at this
        omega
      refine ⟨rfl, ?_⟩
      refine yes2 ?_
      refine ⟨_, rfl, (by decide : 3 ≤ sizeLine), fun t nt => ?_⟩
      obtain ⟨acc, a1, a2, a3, a4, a5⟩ := grow_tri (x := zr r) nD sm hD hT hpl nt
      exact ⟨acc, a1, a2, a3, _, a4, a5, by rw [List.map_append, he, take_next hr', List.map_append]; rfl⟩
    · rw [List.length_map, List.take_length] at he
      refine ⟨D, _, rfl, .inl ⟨SqL.of hD, fun t nt => ?_⟩⟩
      have st := same_upd (o := .tup (trs ps)) nt
      exact q t ps _ (s1.trans (s2.trans st)) upd_same (hT.same st) he
end
end Onp
set_option maxHeartbeats 8000000
set_option autoImplicit false
namespace Onp
open PySem PySem.Spec PyProof.Rows L2
abbrev sEnds : Stmt := topS 33
section
variable {P : Program} {w : World} {K : PySem.W.Frag} {mg : Str → Option Value} {base : Heap}
/-! ### ends_well -/
def wellB (gs : List Int) (ts : List Tri) : Bool := ts.any fun t => decide (t.1 ∈ gs)
def spEnds (K : PySem.W.Frag) (C : Addr) : Sp := fun vs H Q _ => ∃ (a b : Addr) (M : AM) (ps : List TP), vs = [.ref a, .ref b] ∧ MachAt K C H a M ∧ SqT K H b (trs ps) ∧ TrAt H ps ∧ ps.length ≤ 1000 ∧ ∀ H', Same H H' → Q (.bl (wellB M.gs (ps.map (·.2)))) H'
def NEw : List Str := ["machine", "board", "lasts", "triple"]
theorem scEnds : FnScope NEw ["machine", "board"] (defScope sEnds) := ⟨rfl, rfl, rfl, by decide +kernel, rfl, by decide +kernel, by decide +kernel⟩
theorem well_list {gs : List Int} {ps : List TP} : (((ps.map (·.2)).map fun t : Tri => decide (t.1 ∈ gs))).any id = wellB gs (ps.map (·.2)) := by
  unfold wellB
  rw [List.any_map]
  rfl
theorem grow_bl {H2 H' : Hp} {D : Addr} {ts : List Tri} {f : Tri → Bool} {i : Nat} {t : Tri} (nD : H2 D = none) (sm : Same H2 H') (ht : ts[i]? = some t) (hl : ts.length ≤ 1000) (hD : H' D = some (.lst (((ts.take i).map f).map V.bl))) :
    ∃ acc, H' D = some (.lst acc) ∧ acc.length < sizeLine ∧ Same H2 (upd H' D (.lst (acc ++ [.bl (f t)]))) ∧ (upd H' D (.lst (acc ++ [.bl (f t)]))) D = some (.lst (((ts.take (i + 1)).map f).map V.bl)) := by
  refine ⟨_, hD, ?_, fun b o e => ?_, ?_⟩
  · rw [List.length_map, List.length_map, List.length_take]
    exact Nat.lt_of_le_of_lt (Nat.le_trans (Nat.min_le_right _ _) hl) (by decide)
  · rw [upd_ne (ne_of_none e nD)]
    exact sm b o e
  · rw [upd_same, take_next ht, List.map_append, List.map_append]
    rfl
theorem ok_ends {f fF C : Addr} {fd fdF : FuncData} {k : Nat} (F : Fun K "ends_well" "ends_well" sEnds f fd) (FF : Fun K "lasts" "Machine.lasts" sMLsts fF fdF) (bF : Binds K fdF ["self"] []) (mF : Meth K C "lasts" fF) (T : ClsM K C) (ml : mg "list" = none) (ma : mg "any" = none) : FnOk P w K mg base CX0 (k + 2) f fd ["machine", "board"] (spEnds K C) := by
  have GF : FnOk P w K mg base CX0 (k + 1) fF fdF ["self"] (spMLsts K C) := ok_mlsts FF T ml
  refine F.ok scEnds (fun vs H Q E h => ?_) (fun cdv A outer s H vs Q E hr h => ?_)
  · obtain ⟨a, b, M, ps, rfl, _⟩ := h
    rfl
  · obtain ⟨a, b, M, ps, rfl, mA, hb, hT, hlen, q⟩ := h
    obtain ⟨dx, ta, tf, tg, D0, ps0, h1, hrest⟩ := id mA
    refine ⟨_, pss_cons (ps_set (i := 2) scEnds.nd rfl (.inr rfl) (pe_meth0 (pv 0) T.cl mF GF hr bF .nil pass0))
      (pss_one (ps_ret (pe_callB (cr_any rfl) (by rfl) ma (by decide +kernel) (pa_cons
        (pe_lc (own := [("triple", 3)]) (g := gName 3) (tt := tYes) (te := tOp (rIn K false) (tIx0 K 3 0) (tVar 2)) rfl scEnds.nd (pi_tup (pv 1)) (blkOk_by (own := [("triple", 3)]) (N := NEw) (sc := defScope sEnds) (by decide +kernel))
          (fun _ _ _ _ _ => pg_name (i := 3) scEnds.nd rfl (.inl rfl)) (fun _ _ _ _ _ => pts_nil) (fun _ _ _ _ _ => pe_cmpR op_in_seq (pe_ix ix_tup (pv 3) pe_int (fun _ _ => rfl)) (pv 2) (by rfl))) pa_nil)))), ?_⟩
    refine ⟨_, rfl, a, dx, _, rfl, h1, mfl_none (by decide +kernel), a, M, rfl, mA, fun lg nlg => ?_⟩
    have s1 := same_upd (o := .lst (M.gs.map V.int)) nlg
    have hlg : (upd H lg (.lst (M.gs.map V.int))) lg = some (.lst (M.gs.map V.int)) := upd_same
    generalize upd H lg (.lst (M.gs.map V.int)) = H1 at s1 hlg
    refine ⟨_, rfl, b, rfl, ⟨_, same_seqT s1 hb⟩, fun D nD => ?_⟩
    refine lc_tup (K := K) (a := b) (xs := trs ps) (fun i H' => Same H1 H' ∧ H' D = some (.lst ((((ps.map (·.2)).take i).map fun t : Tri => decide (t.1 ∈ M.gs)).map V.bl))) ⟨same_upd nD, upd_same⟩ (fun i H' _ ⟨sm, _⟩ => same_seqT (s1.trans sm) hb) (fun i x H' hx ⟨sm, hD⟩ => ?_) (fun H2 ⟨s2, hD⟩ => ?_)
    · obtain ⟨p, hp, rfl⟩ := trs_at hx
      have hp' := sm _ _ (s1 _ _ (hT p (List.mem_of_getElem? hp)))
      have p0 := tup_at (K := K) (i := 0) hp' rfl
      refine ⟨rfl, ?_⟩
      refine yes2 ?_
      refine ⟨_, rfl, p.1, _, 0, _, rfl, rfl, p0.1, p0.2, _, rfl, lg, M.gs.map V.int, rfl, .inl (SqL.of (sm _ _ hlg)), rfl, flatInts _, ?_⟩
      rw [if_neg Bool.false_ne_true, inV_ints]
      exact grow_bl (ts := ps.map (·.2)) (f := fun t : Tri => decide (t.1 ∈ M.gs)) (t := p.2) nD sm (by rw [List.getElem?_map, hp]; rfl) (by rw [List.length_map]; exact hlen) hD
    · rw [trs_len, show ps.length = (ps.map (·.2)).length by rw [List.length_map], List.take_length] at hD
      refine ⟨D, _, rfl, SqL.of hD, ?_⟩
      rw [well_list]
      exact q H2 (s1.trans s2)
theorem well_sort (M : AM) (ts : List Tri) : wellB M.srt.gs ts = wellB M.gs ts := by
  unfold wellB
  congr 1
  funext t
  rw [Bool.eq_iff_iff, decide_eq_true_eq, decide_eq_true_eq]
  exact List.mem_mergeSort
end
end Onp
set_option maxHeartbeats 8000000
set_option autoImplicit false
namespace Onp
open PySem PySem.Spec PyProof.Rows L2
abbrev sLBegin : Stmt := topS 56
section
variable {P : Program} {w : World} {K : PySem.W.Frag} {mg : Str → Option Value} {base : Heap}
def spLBegin (K : PySem.W.Frag) : Sp := fun vs H Q _ => ∃ (a : Addr) (M : AM), vs = [.ref a] ∧ DrawnAt K H a M ∧ M.fs.length ≤ 100 ∧ ∀ (t : Addr) (ps : List TP) H', Same H H' → H' t = some (.tup (trs ps)) → TrAt H' ps → ps.map (·.2) = (sortI M.fs).map zr → Q (.ref t) H'
theorem scLBegin : FnScope ["_law_m", "_law_room"] ["_law_m"] (defScope sLBegin) := ⟨rfl, rfl, rfl, by decide +kernel, rfl, by decide +kernel, by decide +kernel⟩
theorem ok_lbegin {f : Addr} {fd : FuncData} {k : Nat} (F : Fun K "_law_begin" "_law_begin" sLBegin f fd) (ms : mg "sorted" = none) (mt : mg "tuple" = none) : FnOk P w K mg base CX0 (k + 1) f fd ["_law_m"] (spLBegin K) := by
  refine F.ok scLBegin (fun vs H Q E h => ?_) (fun cdv A outer s H vs Q E hr h => ?_)
  · obtain ⟨a, M, rfl, _⟩ := h
    rfl
  · obtain ⟨a, M, rfl, dA, hlen, q⟩ := h
    have hu : (cxOf CX0 P w K mg base ["_law_m", "_law_room"] "_law_begin" (defScope sLBegin) f cdv A outer s H E).nox.A.units + 64 < cLine := hr.units
    obtain ⟨la, lf, lg, ps0, h1, h2, h3, h4, h5, h6⟩ := dA
    refine ⟨_, pss_one (ps_ret (pe_callTy call_tuple_of (by rfl) mt (by decide +kernel) (pa_cons
        (pe_lc (own := [("_law_room", 1)]) (g := gName 1) (tt := tYes) (te := tTup (tCons (tVar 1) (tCons (tC (.int 0)) (tCons (tC (.int 0)) tNil)))) rfl scLBegin.nd (pi_list (pe_callB (cr_sortD hu) (by rfl) ms (by decide +kernel) (pa_cons (pe_ix ix_tup (pv 0) pe_int (fun _ _ => rfl)) pa_nil))) (blkOk_by (own := [("_law_room", 1)]) (N := ["_law_m", "_law_room"]) (sc := defScope sLBegin) (by decide +kernel))
          (fun _ _ _ _ _ => pg_name (i := 1) scLBegin.nd rfl (.inl rfl)) (fun _ _ _ _ _ => pts_nil) (fun _ _ _ _ _ => pe_tup (pa_cons (pv 1) (pa_cons pe_int (pa_cons pe_int pa_nil))))) pa_nil))), ?_⟩
    refine ⟨_, rfl, a, _, 3, _, rfl, rfl, SqT.of h1, rfl, lf, M.fs.map vdI, rfl, by rw [vdI_fst]; exact .inl (SqL.of h5), fun p hp => ?_, al_I _, so_I _, dep_I _, fun ls nls => ?_⟩
    · obtain ⟨r, hr', rfl⟩ := List.mem_map.mp hp
      exact .int r
    rw [srtD_I, vdI_fst]
    have s1 := same_upd (o := .lst ((sortI M.fs).map V.int)) nls
    have hls : (upd H ls (.lst ((sortI M.fs).map V.int))) ls = some (.lst ((sortI M.fs).map V.int)) := upd_same
    generalize upd H ls (.lst ((sortI M.fs).map V.int)) = H1 at s1 hls
    have hsl : (sortI M.fs).length = M.fs.length := List.length_mergeSort ..
    refine ⟨ls, rfl, ⟨_, SqL.of hls⟩, fun D nD => ?_⟩
    refine lc_list (K := K) (a := ls) (xs := (sortI M.fs).map V.int) (fun i H' => Same H1 H' ∧ ∃ ps : List TP, H' D = some (.lst (trs ps)) ∧ TrAt H' ps ∧ ps.map (·.2) = ((sortI M.fs).take i).map zr) ⟨same_upd nD, [], upd_same, (fun _ h => nomatch h), rfl⟩ (fun i H' _ ⟨sm, _⟩ => SqL.of (sm _ _ hls)) (fun i x H' hx ⟨sm, ps, hD, hT, he⟩ => ?_) (fun H2 ⟨s2, ps, hD, hT, he⟩ => ?_)
    · rw [List.getElem?_map] at hx
      obtain ⟨r, hr', rfl⟩ : ∃ r, (sortI M.fs)[i]? = some r ∧ x = .int r := by
        cases z : (sortI M.fs)[i]? with
        | none => rw [z] at hx; cases hx
        | some r => rw [z] at hx; exact ⟨r, rfl, (Option.some.inj hx).symm⟩
      have hpl : ps.length ≤ 1000 := by
        have := congrArg List.length he
        rw [List.length_map, List.length_map, List.length_take] at this
        omega
      refine ⟨rfl, ?_⟩
      refine yes2 ?_
      refine ⟨_, rfl, (by decide : 3 ≤ sizeLine), fun t nt => ?_⟩
      obtain ⟨acc, a1, a2, a3, a4, a5⟩ := grow_tri (x := zr r) nD sm hD hT hpl nt
      exact ⟨acc, a1, a2, a3, _, a4, a5, by rw [List.map_append, he, take_next hr', List.map_append]; rfl⟩
    · rw [List.length_map, List.take_length] at he
      refine ⟨D, _, rfl, .inl ⟨SqL.of hD, fun t nt => ?_⟩⟩
      have st := same_upd (o := .tup (trs ps)) nt
      exact q t ps _ (s1.trans (s2.trans st)) upd_same (hT.same st) he
end
end Onp
set_option maxHeartbeats 8000000
set_option autoImplicit false
namespace Onp
open PySem PySem.Spec PyProof.Rows L2
abbrev sMSteps : Stmt := inClass sMach 6
/-- steps that lie on the heap -/
def StAt (H : Hp) (xs : List ST) : Prop := ∀ x ∈ xs, H x.1 = some (.tup [.str x.2.1, .int x.2.2])
def sts (xs : List ST) : List V := xs.map fun x => V.ref x.1
theorem StAt.same {H H' : Hp} {xs : List ST} (x : StAt H xs) (s : Same H H') : StAt H' xs := fun p hp => s _ _ (x p hp)
theorem any_mem {ls : List Nat} {c : Nat} (h : c ∈ ls) : (ls.any fun d => decide (Sx [c] = Sx [d])) = true := List.any_eq_true.mpr ⟨c, h, decide_eq_true rfl⟩
section
variable {P : Program} {w : World} {K : PySem.W.Frag} {mg : Str → Option Value} {base : Heap}
def spMSteps (K : PySem.W.Frag) (C : Addr) : Sp := fun vs H Q _ => ∃ (a : Addr) (M : AM) (r : Int) (c : Nat), vs = [.ref a, .int r, .str (Sx [c])] ∧ MachAt K C H a M ∧ rooB M.n r = true ∧ c ∈ M.ls ∧
  ∀ (p : Addr) (xs : List ST) H', Same H H' → H p = none → H' p = some (.lst (sts xs)) → StAt H' xs → xs.map (·.2) = stepsOf M.as r (Sx [c]) → Q (.ref p) H'
def NSt : List Str := ["self", "room", "letter"]
theorem scMSteps : FnScope NSt NSt (defScope sMSteps) := ⟨rfl, rfl, rfl, by decide +kernel, rfl, by decide +kernel, by decide +kernel⟩
theorem ok_msteps {f C fNr fIl : Addr} {fd fdNr fdIl : FuncData} {k : Nat} (F : Fun K "steps" "Machine.steps" sMSteps f fd) (T : ClsM K C) (Nr : FnM K mg fNr fdNr "need_rooms" sNeedR ["some", "rooms"]) (Il : FnM K mg fIl fdIl "is_letter" sIsL ["text", "letters"]) (B : Bl1 mg) (ml : mg "list" = none) : FnOk P w K mg base CX0 (k + 2) f fd NSt (spMSteps K C) := by
  have GNr : FnOk P w K mg base CX0 (k + 1) fNr fdNr ["some", "rooms"] (spNeedR K) := ok_needR Nr.F B
  have GIl : FnOk P w K mg base CX0 (k + 1) fIl fdIl ["text", "letters"] spIsL := ok_isL Il.F B
  refine F.ok scMSteps (fun vs H Q E h => ?_) (fun cdv A outer s H vs Q E hr h => ?_)
  · obtain ⟨a, M, r, c, rfl, _⟩ := h
    rfl
  · obtain ⟨a, M, r, c, rfl, mA, hr', hc, q⟩ := h
    have hu : (cxOf CX0 P w K mg base NSt "Machine.steps" (defScope sMSteps) f cdv A outer s H E).nox.A.units + 64 < cLine := hr.units
    refine ⟨_, pss_cons (ps_expr (pe_call GNr hr (by rfl) Nr.g Nr.F.kp Nr.b .nil pass0 (pa_cons (pe_lst (pa_cons (pv 1) pa_nil)) (pa_cons (pe_fld (pv 0) rfl) pa_nil))))
      (pss_cons (ps_if (pt_not (pt_val (pe_call GIl hr (by rfl) Il.g Il.F.kp Il.b .nil pass0 (pa_cons (pv 2) (pa_cons (pe_fld (pv 0) rfl) pa_nil))))) pss_never pss_nil)
      (pss_one (ps_ret (pe_callTy call_list_of (by rfl) ml (by decide +kernel) (pa_cons (pe_dget2 (Nat.lt_of_le_of_lt (by omega) hu) (pe_fld (pv 0) rfl) (pe_tup (pa_cons (pv 1) (pa_cons (pv 2) pa_nil))) (pe_tup pa_nil) ⟨rfl, rfl, rfl, rfl⟩) pa_nil))))), ?_⟩
    obtain ⟨dx, ta, tf, tg, D, ps, h1, _⟩ := id mA
    refine ⟨_, rfl, (by decide : 1 ≤ sizeLine), fun l nl => ?_⟩
    have s1 := same_upd (o := .lst [V.int r]) nl
    have hl : (upd H l (.lst [V.int r])) l = some (.lst [V.int r]) := upd_same
    generalize upd H l (.lst [V.int r]) = H1 at s1 hl
    refine ⟨_, rfl, a, C, dx, _, _, rfl, s1 _ _ h1, T.cl, T.n1, mfl_rooms, l, [r], M.n, rfl, .inl (SqL.of hl), (fun x hx => by rw [List.mem_singleton.mp hx]; exact hr'), List.nodup_cons.mpr ⟨(fun h => nomatch h), .nil⟩, (by decide : 1 ≤ 100), fun H2 s2 => ?_⟩
    have s12 := s1.trans s2
    refine ⟨_, rfl, _, rfl, a, C, dx, _, _, rfl, s12 _ _ h1, T.cl, T.n2, mfl_letters, Sx [c], M.ls, rfl, ?_, ?_⟩
    · rw [sx_len]
      exact (by decide : 1 ≤ sizeLine)
    rw [any_mem hc]
    refine ⟨_, rfl, iteF ?_⟩
    obtain ⟨dx', ta', tf', tg', D', ps', e1, e2, e3, e4, e5, e6, kvs, g1, g2, g3⟩ := mA.same s12
    refine ⟨_, rfl, a, C, dx', _, _, rfl, e1, T.cl, T.n6, mfl_steps, D', rfl, .inr ⟨kvs, .inl g1⟩, _, rfl, _, rfl, (by decide : 2 ≤ sizeLine), fun t nt => ?_⟩
    have s3 := same_upd (o := .tup [.int r, .str (Sx [c])]) nt
    have ht : (upd H2 t (.tup [.int r, .str (Sx [c])])) t = some (.tup ((skey r (Sx [c])).map kV)) := upd_same
    generalize upd H2 t (.tup [.int r, .str (Sx [c])]) = H3 at s3 ht
    refine ⟨(by decide : 0 ≤ sizeLine), fun u nu => ?_⟩
    have s4 := same_upd (o := .tup []) nu
    have hu' : (upd H3 u (.tup [])) u = some (.tup []) := upd_same
    generalize upd H3 u (.tup []) = H4 at s4 hu'
    have s24 := s3.trans s4
    refine ⟨_, DGet.t (s24 _ _ g1) (s4 _ _ ht), ?_⟩
    have sA := s12.trans s24
    have fr : ∀ {p : Addr}, H4 p = none → H p = none := fun {p} np => by
      cases e : H p with
      | none => rfl
      | some o => rw [sA _ _ e] at np; cases np
    by_cases hs : stepsOf M.as r (Sx [c]) = []
    · rw [g2 r _ hs]
      refine ⟨u, [], rfl, .inr (SqT.of hu'), fun p np => ?_⟩
      have s5 := same_upd (o := .lst []) np
      exact q p [] _ (sA.trans s5) (fr np) upd_same (fun _ h => nomatch h) hs.symm
    · obtain ⟨b, xs, v1, v2, v3, v4⟩ := g3 r _ hs
      rw [v1]
      refine ⟨b, sts xs, rfl, .inl (SqL.of (s24 _ _ v2)), fun p np => ?_⟩
      have s5 := same_upd (o := .lst (sts xs)) np
      exact q p xs _ (sA.trans s5) (fr np) upd_same (fun x hx => (s24.trans s5) _ _ (v3 x hx)) v4
end
end Onp
set_option maxHeartbeats 8000000
set_option autoImplicit false
namespace Onp
open PySem PySem.Spec PyProof.Rows L2
abbrev sLSteps : Stmt := topS 51
def kdat (r : Int) (z : Str) : PyData := .tuple [.int r, .str z]
theorem eqv_kdat (r r' : Int) (z z' : Str) : PyData.eqv (kdat r z) (kdat r' z') = (decide (r = r') && decide (z = z')) := by
  unfold kdat
  simp only [PyData.eqv, PyData.eqvAll, Bool.and_true]
  rw [Bool.eq_iff_iff]
  simp only [Bool.and_eq_true, beq_iff_eq, decide_eq_true_eq]
theorem sh_kdat {r : Int} {z : Str} (h : PyData.strOk z = true) : SeqAt.shaped (kdat r z) = true := by
  unfold SeqAt.shaped kdat
  simp only [PyData.canLay0, PyData.canLayAll0, h, PyData.depth, PyData.depthAll]
  rfl
theorem stepsOf_take {as : List Arw} {i : Nat} {a : Arw} (h : as[i]? = some a) (r : Int) (z : Str) : stepsOf (as.take (i + 1)) r z = stepsOf (as.take i) r z ++ (if (decide (a.1 = r) && decide (a.2.1 = z)) = true then [(a.2.2.1, a.2.2.2)] else []) := by
  rw [take_next h, stepsOf_snoc]
theorem sts_len (xs : List ST) : (sts xs).length = xs.length := List.length_map ..
theorem stepsOf_len (as : List Arw) (r : Int) (z : Str) : (stepsOf as r z).length ≤ as.length := by
  unfold stepsOf
  rw [List.length_map]
  exact List.length_filter_le ..
section
variable {P : Program} {w : World} {K : PySem.W.Frag} {mg : Str → Option Value} {base : Heap}
def spLSteps (K : PySem.W.Frag) : Sp := fun vs H Q _ => ∃ (t : Addr) (M : AM) (r : Int) (z : Str), vs = [.ref t, .int r, .str z] ∧ DrawnAt K H t M ∧ (∀ a ∈ M.as, okS a) ∧ M.as.length ≤ 40 ∧ PyData.strOk z = true ∧
  ∀ (p : Addr) (xs : List ST) H', Same H H' → H p = none → H' p = some (.lst (sts xs)) → StAt H' xs → xs.map (·.2) = stepsOf (sortA M.as) r z → Q (.ref p) H'
def NLs : List Str := ["_law_m", "_law_room", "_law_letter", "_law_start", "_law_sign", "_law_deed", "_law_to"]
theorem scLSteps : FnScope NLs ["_law_m", "_law_room", "_law_letter"] (defScope sLSteps) := ⟨rfl, rfl, rfl, by decide +kernel, rfl, by decide +kernel, by decide +kernel⟩
def ownS : List (Str × Nat) := [("_law_start", 3), ("_law_sign", 4), ("_law_deed", 5), ("_law_to", 6)]
theorem ok_lsteps {f : Addr} {fd : FuncData} {k : Nat} (F : Fun K "_law_steps" "_law_steps" sLSteps f fd) (ms : mg "sorted" = none) : FnOk P w K mg base CX0 (k + 1) f fd ["_law_m", "_law_room", "_law_letter"] (spLSteps K) := by
  refine F.ok scLSteps (fun vs H Q E h => ?_) (fun cdv A outer s H vs Q E hr h => ?_)
  · obtain ⟨a, M, r, z, rfl, _⟩ := h
    rfl
  · obtain ⟨t, M, r, z, rfl, dA, okS', hl40, hz, q⟩ := h
    have hu : (cxOf CX0 P w K mg base NLs "_law_steps" (defScope sLSteps) f cdv A outer s H E).nox.A.units + 64 < cLine := hr.units
    obtain ⟨la, lf, lg, ps, h1, h2, h3, h4, h5, h6⟩ := dA
    refine ⟨_, pss_one (ps_ret (pe_lc (own := [("_law_start", 3), ("_law_sign", 4), ("_law_deed", 5), ("_law_to", 6)]) (g := gTup K 4 (gCons (gName 3) (gCons (gName 4) (gCons (gName 5) (gCons (gName 6) gNil))))) (tt := tTest (tOp (rEqD K) (tTup (tCons (tVar 3) (tCons (tVar 4) tNil))) (tTup (tCons (tVar 1) (tCons (tVar 2) tNil))))) (te := tTup (tCons (tVar 5) (tCons (tVar 6) tNil))) rfl scLSteps.nd
          (pi_list (pe_callB (cr_sortD hu) (by rfl) ms (by decide +kernel) (pa_cons (pe_ix ix_tup (pv 0) pe_int (fun _ _ => rfl)) pa_nil)))
          (blkOk_by (own := [("_law_start", 3), ("_law_sign", 4), ("_law_deed", 5), ("_law_to", 6)]) (N := NLs) (sc := defScope sLSteps) (by decide +kernel))
          (fun _ _ _ _ _ => pg_tup rfl (pgs_cons (pg_name (i := 3) scLSteps.nd rfl (.inl rfl)) (pgs_cons (pg_name (i := 4) scLSteps.nd rfl (.inl rfl)) (pgs_cons (pg_name (i := 5) scLSteps.nd rfl (.inl rfl)) (pgs_cons (pg_name (i := 6) scLSteps.nd rfl (.inl rfl)) pgs_nil)))))
          (fun _ _ _ _ _ => pts_one (pt_cmpR (op_eqD hr.units) (pe_tup (pa_cons (pv 3) (pa_cons (pv 4) pa_nil))) (pe_tup (pa_cons (pv 1) (pa_cons (pv 2) pa_nil))) (nomark _))) (fun _ _ _ _ _ => pe_tup (pa_cons (pv 5) (pa_cons (pv 6) pa_nil))))), ?_⟩
    refine ⟨_, rfl, t, _, 2, _, rfl, rfl, SqT.of h1, rfl, la, ps.map vdA, rfl, ?_, ?_, al_A ps, so_A ps, dep_A ps, fun p1 n1 => ?_⟩
    · rw [vdA_fst]
      exact .inl (SqL.of h2)
    · intro p hp
      obtain ⟨a, ha, rfl⟩ := List.mem_map.mp hp
      exact dp_arw (h3 a ha)
    rw [srtD_A, vdA_fst]
    have s1 := same_upd (o := .lst (rfs (srtR ps))) n1
    have hp1 : (upd H p1 (.lst (rfs (srtR ps)))) p1 = some (.lst (rfs (srtR ps))) := upd_same
    generalize upd H p1 (.lst (rfs (srtR ps))) = H1 at s1 hp1
    have hR : RowAt K H1 (srtR ps) := fun p hp => sameT s1 (h3 p (srtR_mem.mp hp))
    have has : (srtR ps).map (·.2) = sortA M.as := by rw [srtR_as, h4]
    have hlr : (srtR ps).length ≤ 40 := by
      rw [srtR_len]
      have := congrArg List.length h4
      rw [List.length_map] at this
      omega
    have hokR : ∀ p ∈ srtR ps, okS p.2 := fun p hp => okS' p.2 (by rw [← h4]; exact List.mem_map_of_mem (srtR_mem.mp hp))
    generalize srtR ps = qs at hR has hlr hokR hp1
    refine ⟨p1, rfl, ⟨_, SqL.of hp1⟩, fun D nD => ?_⟩
    refine lc_list (K := K) (a := p1) (xs := rfs qs) (fun i H' => Same H1 H' ∧ ∃ xs : List ST, H' D = some (.lst (sts xs)) ∧ StAt H' xs ∧ xs.map (·.2) = stepsOf ((qs.map (·.2)).take i) r z) ⟨same_upd nD, [], upd_same, (fun _ h => nomatch h), rfl⟩ (fun i H' _ ⟨sm, _⟩ => SqL.of (sm _ _ hp1)) (fun i x H' hx ⟨sm, xs, hD, hS, he⟩ => ?_) (fun H2 ⟨s2, xs, hD, hS, he⟩ => ?_)
    · obtain ⟨p, hp, rfl⟩ : ∃ p : AR, qs[i]? = some p ∧ x = .ref p.1 := by
        unfold rfs at hx
        rw [List.getElem?_map] at hx
        cases e : qs[i]? with
        | none => rw [e] at hx; cases hx
        | some p => rw [e] at hx; exact ⟨p, rfl, (Option.some.inj hx).symm⟩
      have hpm := List.mem_of_getElem? hp
      have ok := hokR p hpm
      have hpT := sameT sm (hR p hpm)
      obtain ⟨pa, a1, a2, a3, a4⟩ := p
      have hn := stepsOf_take (as := qs.map (·.2)) (i := i) (a := (a1, a2, a3, a4)) (by rw [List.getElem?_map, hp]; rfl) r z
      have hxl : xs.length ≤ 40 := by
        have e1 := congrArg List.length he
        rw [List.length_map] at e1
        have := stepsOf_len ((qs.map (·.2)).take i) r z
        rw [List.length_take, List.length_map] at this
        omega
      refine ⟨pa, _, rfl, hpT, rfl, _, _, rfl, _, _, rfl, _, _, rfl, _, _, rfl, rfl, ?_⟩
      refine ⟨rfl, ?_⟩
      refine ⟨_, rfl, _, rfl, (by decide : 2 ≤ sizeLine), fun t1 nt1 => ?_⟩
      have u1 := same_upd (o := .tup [.int a1, .str a2]) nt1
      have e1 : (upd H' t1 (.tup [.int a1, .str a2])) t1 = some (.tup [.int a1, .str a2]) := upd_same
      generalize upd H' t1 (.tup [.int a1, .str a2]) = H3 at u1 e1
      refine ⟨_, rfl, _, rfl, (by decide : 2 ≤ sizeLine), fun t2 nt2 => ?_⟩
      have u2 := same_upd (o := .tup [.int r, .str z]) nt2
      have e2 : (upd H3 t2 (.tup [.int r, .str z])) t2 = some (.tup [.int r, .str z]) := upd_same
      generalize upd H3 t2 (.tup [.int r, .str z]) = H4 at u2 e2
      refine ⟨kdat a1 a2, kdat r z, .tup (SqT.of (u2 _ _ e1)) (.cons (.int _) (.cons (.str _) .nil)), .tup (SqT.of e2) (.cons (.int _) (.cons (.str _) .nil)), sh_kdat ok.1, sh_kdat hz, _, rfl, ?_⟩
      rw [eqv_kdat]
      have u := u1.trans u2
      have hD4 := u _ _ hD
      have hS4 := hS.same u
      have hn' : stepsOf ((qs.map (·.2)).take (i + 1)) r z = xs.map (·.2) ++ if (decide (a1 = r) && decide (a2 = z)) = true then [(a3, a4)] else [] := by rw [hn, he]
      rw [hn']
      dsimp only
      by_cases c : (decide (a1 = r) && decide (a2 = z)) = true
      · rw [if_pos c, if_pos c]
        refine ⟨_, rfl, _, rfl, (by decide : 2 ≤ sizeLine), fun t3 nt3 => ?_⟩
        have u3 := same_upd (o := .tup [.str a3, .int a4]) nt3
        have hD5 := u3 _ _ hD4
        refine ⟨_, hD5, by rw [sts_len]; exact Nat.lt_of_le_of_lt hxl (by decide), fun b o e => ?_, xs ++ [(t3, a3, a4)], ?_, fun x hx => ?_, by rw [List.map_append]; rfl⟩
        · rw [upd_ne (ne_of_none e nD)]
          exact u3 _ _ (u _ _ (sm b o e))
        · rw [upd_same]
          unfold sts
          rw [List.map_append]
          rfl
        · have ht : (upd H4 t3 (.tup [.str a3, .int a4])) x.1 = some (.tup [.str x.2.1, .int x.2.2]) := by
            rcases List.mem_append.mp hx with h | h
            · exact u3 _ _ (hS4 x h)
            · rw [List.mem_singleton.mp h]
              exact upd_same
          rw [upd_ne (ne_of ht hD5 (fun z => nomatch z))]
          exact ht
      · rw [if_neg c, if_neg c, List.append_nil]
        exact ⟨sm.trans u, xs, hD4, hS4, rfl⟩
    · rw [show (rfs qs).length = (qs.map (·.2)).length by rw [List.length_map]; exact List.length_map .., List.take_length, has] at he
      refine q D xs H2 (s1.trans s2) ?_ hD hS he
      cases e : H D with
      | none => rfl
      | some o => rw [s1 _ _ e] at nD; cases nD
end
end Onp
set_option maxHeartbeats 8000000
set_option autoImplicit false
namespace Onp
open PySem PySem.Spec PyProof.Rows L2
abbrev sNeedD : Stmt := topS 13
abbrev sSpend : Stmt := topS 14
abbrev sSpent : Stmt := topS 48
section
variable {P : Program} {w : World} {K : PySem.W.Frag} {mg : Str → Option Value} {base : Heap}
/-! ### need_deed, spend, of deeds that there are -/
def spNeedD : Sp := fun vs H Q _ => ∃ z : Str, vs = [.str z] ∧ z ∈ deedsL ∧ Q .non H
theorem scNeedD : FnScope ["deed"] ["deed"] (defScope sNeedD) := ⟨rfl, rfl, rfl, by decide +kernel, rfl, by decide +kernel, by decide +kernel⟩
theorem ok_needD {f tD : Addr} {fd : FuncData} {k : Nat} (F : Fun K "need_deed" "need_deed" sNeedD f fd) (C : CsM K mg tD) : FnOk P w K mg base CX0 (k + 1) f fd ["deed"] spNeedD := by
  refine F.ok scNeedD (fun vs H Q E h => ?_) (fun cdv A outer s H vs Q E hr h => ?_)
  · obtain ⟨z, rfl, _⟩ := h
    rfl
  · obtain ⟨z, rfl, hz, q⟩ := h
    refine ⟨_, pss_one (ps_if (pt_cmpR op_notIn_seq (pv 0) (pe_glob (v := .ref tD) rfl C.deeds rfl) (by rfl)) pss_never pss_nil), ?_⟩
    refine ⟨_, rfl, tD, _, rfl, .inr (C.deedsT _), rfl, flatStrs _, _, rfl, ?_⟩
    show if (!inV (.str z) (deedsL.map V.str)) = true then _ else _
    rw [inV_strs, decide_eq_true hz]
    exact iteF q
def spSpend (K : PySem.W.Frag) : Sp := fun vs H Q _ => ∃ (t : Addr) (x y : Int) (d : Dd), vs = [.ref t, .str d.nm] ∧ SqT K H t [.int x, .int y] ∧
  ∀ p H', Same H H' → H' p = some (.tup [.int (stp (x, y) d).1, .int (stp (x, y) d).2]) → Q (.ref p) H'
theorem scSpend : FnScope ["purses", "deed", "lesser", "greater"] ["purses", "deed"] (defScope sSpend) := ⟨rfl, rfl, rfl, by decide +kernel, rfl, by decide +kernel, by decide +kernel⟩
theorem ok_spend {f fN tD : Addr} {fd fdN : FuncData} {k : Nat} (F : Fun K "spend" "spend" sSpend f fd) (N : FnM K mg fN fdN "need_deed" sNeedD ["deed"]) (C : CsM K mg tD) : FnOk P w K mg base CX0 (k + 2) f fd ["purses", "deed"] (spSpend K) := by
  have GN : FnOk P w K mg base CX0 (k + 1) fN fdN ["deed"] spNeedD := ok_needD N.F C
  refine F.ok scSpend (fun vs H Q E h => ?_) (fun cdv A outer s H vs Q E hr h => ?_)
  · obtain ⟨t, x, y, d, rfl, _⟩ := h
    rfl
  · obtain ⟨t, x, y, d, rfl, ht, q⟩ := h
    refine ⟨_, pss_cons (ps_expr (pe_call GN hr (by rfl) N.g N.F.kp N.b .nil pass0 (pa_cons (pv 1) pa_nil)))
      (pss_cons (ps_asg (pv 0) (pg_tup rfl (pgs_cons (pg_name (i := 2) scSpend.nd rfl (.inl rfl)) (pgs_cons (pg_name (i := 3) scSpend.nd rfl (.inl rfl)) pgs_nil))))
      (pss_cons (ps_if (pt_cmpR op_eq (pv 1) pe_str (nomark _)) (pss_one (ps_ret (pe_tup (pa_cons (pe_op op_add (pv 2) pe_int) (pa_cons (pv 3) pa_nil))))) pss_nil)
      (pss_cons (ps_if (pt_cmpR op_eq (pv 1) pe_str (nomark _)) (pss_one (ps_ret (pe_tup (pa_cons pe_int (pa_cons (pv 3) pa_nil))))) pss_nil)
      (pss_cons (ps_if (pt_cmpR op_eq (pv 1) pe_str (nomark _)) (pss_one (ps_ret (pe_tup (pa_cons pe_int (pa_cons (pe_op op_add (pv 3) pe_int) pa_nil))))) pss_nil)
      (pss_cons (ps_if (pt_cmpR op_eq (pv 1) pe_str (nomark _)) (pss_one (ps_ret (pe_tup (pa_cons pe_int (pa_cons pe_int pa_nil))))) pss_nil)
      (pss_one (ps_ret (pe_tup (pa_cons (pv 2) (pa_cons (pv 3) pa_nil)))))))))), ?_⟩
    refine ⟨_, rfl, _, rfl, nm_in d, ?_⟩
    have q : ∀ p H', H p = none → H' = upd H p (.tup [.int (stp (x, y) d).1, .int (stp (x, y) d).2]) → Q (.ref p) H' := fun p H' np e => q p H' (by rw [e]; exact same_upd np) (by rw [e]; exact upd_same)
    refine ⟨_, rfl, t, _, rfl, ht, rfl, _, _, rfl, _, _, rfl, rfl, ?_⟩
    have z2 : (2 : Nat) ≤ sizeLine := by decide
    refine ⟨_, rfl, rfl, _, rfl, ?_⟩
    cases d with
    | cent => exact itT (by decide +kernel) ⟨_, rfl, _, _, rfl, rfl, _, rfl, z2, fun p np => q p _ np rfl⟩
    | fill =>
      refine itF (by decide +kernel) ⟨_, rfl, rfl, _, rfl, ?_⟩
      exact itT (by decide +kernel) ⟨_, rfl, z2, fun p np => q p _ np rfl⟩
    | coin =>
      refine itF (by decide +kernel) ⟨_, rfl, rfl, _, rfl, ?_⟩
      refine itF (by decide +kernel) ⟨_, rfl, rfl, _, rfl, ?_⟩
      exact itT (by decide +kernel) ⟨_, rfl, _, _, rfl, rfl, z2, fun p np => q p _ np rfl⟩
    | brim =>
      refine itF (by decide +kernel) ⟨_, rfl, rfl, _, rfl, ?_⟩
      refine itF (by decide +kernel) ⟨_, rfl, rfl, _, rfl, ?_⟩
      refine itF (by decide +kernel) ⟨_, rfl, rfl, _, rfl, ?_⟩
      exact itT (by decide +kernel) ⟨z2, fun p np => q p _ np rfl⟩
    | keep =>
      refine itF (by decide +kernel) ⟨_, rfl, rfl, _, rfl, ?_⟩
      refine itF (by decide +kernel) ⟨_, rfl, rfl, _, rfl, ?_⟩
      refine itF (by decide +kernel) ⟨_, rfl, rfl, _, rfl, ?_⟩
      exact itF (by decide +kernel) ⟨_, rfl, _, rfl, z2, fun p np => q p _ np rfl⟩
/-! ### _law_spent -/
def spSpent (K : PySem.W.Frag) : Sp := fun vs H Q _ => ∃ (t : Addr) (x y : Int) (d : Dd), vs = [.ref t, dv d] ∧ SqT K H t [.int x, .int y] ∧
  ∀ p H', Same H H' → H' p = some (.tup [.int (stp (x, y) d).1, .int (stp (x, y) d).2]) → Q (.ref p) H'
theorem scSpent : FnScope ["_law_purses", "_law_deed", "_law_lesser", "_law_greater"] ["_law_purses", "_law_deed"] (defScope sSpent) := ⟨rfl, rfl, rfl, by decide +kernel, rfl, by decide +kernel, by decide +kernel⟩
theorem ok_spent {f : Addr} {fd : FuncData} {k : Nat} (F : Fun K "_law_spent" "_law_spent" sSpent f fd) : FnOk P w K mg base CX0 (k + 1) f fd ["_law_purses", "_law_deed"] (spSpent K) := by
  refine F.ok scSpent (fun vs H Q E h => ?_) (fun cdv A outer s H vs Q E hr h => ?_)
  · obtain ⟨t, x, y, d, rfl, _⟩ := h
    rfl
  · obtain ⟨t, x, y, d, rfl, ht, q⟩ := h
    refine ⟨_, pss_cons (ps_asg (pv 0) (pg_tup rfl (pgs_cons (pg_name (i := 2) scSpent.nd rfl (.inl rfl)) (pgs_cons (pg_name (i := 3) scSpent.nd rfl (.inl rfl)) pgs_nil))))
      (pss_cons (ps_if (pt_cmpR op_eq (pv 1) pe_str (nomark _)) (pss_one (ps_set (i := 2) scSpent.nd rfl (.inl rfl) (pe_op op_add (pv 2) pe_int))) pss_nil)
      (pss_cons (ps_if (pt_cmpR op_in_seq (pv 1) (pe_tup (pa_cons pe_str (pa_cons pe_str (pa_cons pe_str pa_nil)))) (by rfl)) (pss_one (ps_set (i := 2) scSpent.nd rfl (.inl rfl) pe_int)) pss_nil)
      (pss_cons (ps_if (pt_cmpR op_eq (pv 1) pe_str (nomark _)) (pss_one (ps_set (i := 3) scSpent.nd rfl (.inl rfl) (pe_op op_add (pv 3) pe_int))) pss_nil)
      (pss_cons (ps_if (pt_cmpR op_eq (pv 1) pe_str (nomark _)) (pss_one (ps_set (i := 3) scSpent.nd rfl (.inl rfl) pe_int)) pss_nil)
      (pss_one (ps_ret (pe_tup (pa_cons (pv 2) (pa_cons (pv 3) pa_nil)))))))))
, ?_⟩
    refine ⟨_, rfl, t, _, rfl, ht, rfl, _, _, rfl, _, _, rfl, rfl, ?_⟩
    have z2 : (2 : Nat) ≤ sizeLine := by decide
    have fin : ∀ tp : Addr, H tp = none → ∀ p : Addr, (upd H tp (.tup [.str "fill", .str "coin", .str "brim"])) p = none → Q (.ref p) (upd (upd H tp (.tup [.str "fill", .str "coin", .str "brim"])) p (.tup [.int (stp (x, y) d).1, .int (stp (x, y) d).2])) := fun tp ntp p np =>
      q p _ ((same_upd ntp).trans (same_upd np)) upd_same
    refine ⟨_, rfl, rfl, _, rfl, ?_⟩
    cases d with
    | cent =>
      refine itT (by decide +kernel) ⟨_, rfl, _, _, rfl, rfl, ?_⟩
      refine ⟨_, rfl, (by decide : 3 ≤ sizeLine), fun tp ntp => ⟨tp, _, rfl, .inr (SqT.of upd_same), rfl, rfl, _, rfl, ?_⟩⟩
      refine ite2 (fun h => absurd h (by decide +kernel)) (fun _ => ?_)
      refine ⟨_, rfl, rfl, _, rfl, itF (by decide +kernel) ⟨_, rfl, rfl, _, rfl, itF (by decide +kernel) ?_⟩⟩
      exact ⟨_, rfl, _, rfl, z2, fin tp ntp⟩
    | fill =>
      refine itF (by decide +kernel) ?_
      refine ⟨_, rfl, (by decide : 3 ≤ sizeLine), fun tp ntp => ⟨tp, _, rfl, .inr (SqT.of upd_same), rfl, rfl, _, rfl, ?_⟩⟩
      refine ite2 (fun _ => ?_) (fun h => absurd (by decide +kernel) h)
      refine ⟨_, rfl, rfl, _, rfl, itF (by decide +kernel) ⟨_, rfl, rfl, _, rfl, itF (by decide +kernel) ?_⟩⟩
      exact ⟨_, rfl, _, rfl, z2, fin tp ntp⟩
    | coin =>
      refine itF (by decide +kernel) ?_
      refine ⟨_, rfl, (by decide : 3 ≤ sizeLine), fun tp ntp => ⟨tp, _, rfl, .inr (SqT.of upd_same), rfl, rfl, _, rfl, ?_⟩⟩
      refine ite2 (fun _ => ?_) (fun h => absurd (by decide +kernel) h)
      refine ⟨_, rfl, rfl, _, rfl, itT (by decide +kernel) ⟨_, rfl, _, _, rfl, rfl, ⟨_, rfl, rfl, _, rfl, itF (by decide +kernel) ?_⟩⟩⟩
      exact ⟨_, rfl, _, rfl, z2, fin tp ntp⟩
    | brim =>
      refine itF (by decide +kernel) ?_
      refine ⟨_, rfl, (by decide : 3 ≤ sizeLine), fun tp ntp => ⟨tp, _, rfl, .inr (SqT.of upd_same), rfl, rfl, _, rfl, ?_⟩⟩
      refine ite2 (fun _ => ?_) (fun h => absurd (by decide +kernel) h)
      refine ⟨_, rfl, rfl, _, rfl, itF (by decide +kernel) ⟨_, rfl, rfl, _, rfl, itT (by decide +kernel) ?_⟩⟩
      exact ⟨_, rfl, _, rfl, z2, fin tp ntp⟩
    | keep =>
      refine itF (by decide +kernel) ?_
      refine ⟨_, rfl, (by decide : 3 ≤ sizeLine), fun tp ntp => ⟨tp, _, rfl, .inr (SqT.of upd_same), rfl, rfl, _, rfl, ?_⟩⟩
      refine ite2 (fun h => absurd h (by decide +kernel)) (fun _ => ?_)
      refine ⟨_, rfl, rfl, _, rfl, itF (by decide +kernel) ⟨_, rfl, rfl, _, rfl, itF (by decide +kernel) ?_⟩⟩
      exact ⟨_, rfl, _, rfl, z2, fin tp ntp⟩
end
end Onp
set_option autoImplicit false
namespace Onp
open PySem PySem.Spec PyProof.Rows L2
/-- turns of a comprehension, whatever is done in one -/
theorem lcG {J : It} {n : Nat} {G : Hp → Prop} {Y : Nat → Hp → V → Hp → Prop} (w : Walk J n G Y) {Bd : (Hp → Prop) → V → Hp → Prop} {H0 : Hp} {Qd : Hp → Prop} (Pv : Nat → Hp → Prop) (h0 : Pv 0 H0) (hG : ∀ i H, i ≤ n → Pv i H → G H)
    (hs : ∀ i x H H', i < n → Pv i H → Y i H x H' → Bd (Pv (i + 1)) x H') (hd : ∀ H, Pv n H → Qd H) :
    ∃ W : Nat → Nat → Hp → Prop, (∃ m, W 0 m H0) ∧ ∀ i m H, W i m H → (J.stop i H ∧ Qd H) ∨ (J.go i H ∧ ∃ Nx : Hp → Prop, (∀ H', Nx H' → ∃ m', m' < m ∧ W (i + 1) m' H') ∧ ∀ x H', J.yld i H x H' → Bd Nx x H') := by
  refine ⟨fun i m H => m = n - i ∧ i ≤ n ∧ Pv i H, ⟨n, by simp, Nat.zero_le _, h0⟩, ?_⟩
  rintro i m H ⟨rfl, hi, p⟩
  have q := hG i H hi p
  by_cases hlt : i < n
  · exact .inr ⟨w.goes i H hlt q, Pv (i + 1), fun H' p' => ⟨n - (i + 1), by omega, rfl, hlt, p'⟩, fun x H' y => hs i x H H' hlt p (w.yields i H x H' hlt q y)⟩
  · have e : i = n := by omega
    subst e
    exact .inl ⟨w.stops H q, hd H p⟩
end Onp
set_option maxHeartbeats 8000000
set_option autoImplicit false
namespace Onp
open PySem PySem.Spec PyProof.Rows L2
abbrev sLeads : Stmt := topS 31
def ddOf (z : Str) : Dd := if z = "cent" then .cent else if z = "fill" then .fill else if z = "coin" then .coin else if z = "brim" then .brim else .keep
theorem ddOf_nm (d : Dd) : ddOf d.nm = d := by cases d <;> decide +kernel
/-- the triple behind a step -/
def goT (t : Tri) (s : Str × Int) : Tri := (s.2, stp (t.2.1, t.2.2) (ddOf s.1))
def leadsT (as : List Arw) (z : Str) (ts : List Tri) : List Tri := ts.flatMap fun t => (stepsOf as t.1 z).map (goT t)
theorem leadsT_snoc (as : List Arw) (z : Str) (ts : List Tri) (t : Tri) : leadsT as z (ts ++ [t]) = leadsT as z ts ++ (stepsOf as t.1 z).map (goT t) := by
  unfold leadsT
  rw [List.flatMap_append, List.flatMap_cons, List.flatMap_nil, List.append_nil]
theorem leadsT_len (as : List Arw) (z : Str) : ∀ ts : List Tri, (leadsT as z ts).length ≤ ts.length * as.length
  | [] => Nat.zero_le _
  | t :: r => by
    have h := leadsT_len as z r
    have h2 := stepsOf_len as t.1 z
    unfold leadsT at h ⊢
    rw [List.flatMap_cons, List.length_append, List.length_map, List.length_cons, Nat.succ_mul]
    omega
theorem stepsOf_deed {as : List Arw} {r : Int} {z : Str} {s : Str × Int} (h : s ∈ stepsOf as r z) (hd : ∀ x ∈ as, x.2.2.1 ∈ deedsL) : s.1 ∈ deedsL := by
  unfold stepsOf at h
  obtain ⟨x, hx, rfl⟩ := List.mem_map.mp h
  exact hd x (List.mem_filter.mp hx).1
/-- one lead: the told triple, the deed, the triple behind -/
abbrev LD : Type := Addr × TP
def LdAt (H : Hp) (os : List LD) : Prop := ∀ o ∈ os, (∃ v1 v2 : V, H o.1 = some (.tup [v1, v2, .ref o.2.1])) ∧ H o.2.1 = some (.tup (tV o.2.2))
def lds (os : List LD) : List V := os.map fun o => V.ref o.1
theorem LdAt.same {H H' : Hp} {os : List LD} (x : LdAt H os) (s : Same H H') : LdAt H' os := fun o ho => by
  obtain ⟨⟨v1, v2, h1⟩, h2⟩ := x o ho
  exact ⟨⟨v1, v2, s _ _ h1⟩, s _ _ h2⟩
section
variable {X : Cx}
/-- a tuple's part, be it the whole or not -/
def rSlW : V → Option Int → Option Int → Hp → VK → Prop := fun x lo hi H Q => ∃ a xs, x = .ref a ∧ H a = some (.tup xs) ∧ ∀ p H', Same H H' → H' p = some (.tup (cutV xs lo hi)) → Q (.ref p) H'
theorem sl_tupW : SlR X rSlW := by
  intro pins s σ H x v vl vu lo hi sl Q I rx hs pl pu h
  obtain ⟨a, xs, rfl, ha, q⟩ := h
  refine sl_tupA pins s σ H _ v vl vu lo hi sl Q I rx hs pl pu ⟨a, xs, rfl, SqT.of ha, fun hw => q a H (fun _ _ h => h) ?_, fun _ p np => q p _ (same_upd np) upd_same⟩
  unfold cutV
  rw [hw.1, hw.2, List.drop_zero, Nat.sub_zero, List.take_length]
  exact ha
end
section
variable {P : Program} {w : World} {K : PySem.W.Frag} {mg : Str → Option Value} {base : Heap}
def spLeads (K : PySem.W.Frag) (C : Addr) : Sp := fun vs H Q _ => ∃ (a b : Addr) (M : AM) (c : Nat) (ps : List TP), vs = [.ref a, .ref b, .str (Sx [c])] ∧ MachAt K C H a M ∧ SqT K H b (trs ps) ∧ TrAt H ps ∧ (∀ p ∈ ps, rooB M.n p.2.1 = true) ∧ c ∈ M.ls ∧ (∀ x ∈ M.as, x.2.2.1 ∈ deedsL) ∧ M.as.length ≤ 40 ∧ ps.length ≤ 1000 ∧
  ∀ (l : Addr) (os : List LD) H', Same H H' → H' l = some (.lst (lds os)) → LdAt H' os → os.map (·.2.2) = leadsT M.as (Sx [c]) (ps.map (·.2)) → Q (.ref l) H'
def NLd : List Str := ["machine", "board", "letter", "triple", "deed", "end"]
theorem scLeads : FnScope NLd ["machine", "board", "letter"] (defScope sLeads) := ⟨rfl, rfl, rfl, by decide +kernel, rfl, by decide +kernel, by decide +kernel⟩
theorem ok_leads {f C fSt fSp fN fNr fIl tD : Addr} {fd fdSt fdSp fdN fdNr fdIl : FuncData} {k : Nat} (F : Fun K "leads" "leads" sLeads f fd) (T : ClsM K C) (FS : Fun K "steps" "Machine.steps" sMSteps fSt fdSt) (bS : Binds K fdSt NSt []) (mS : Meth K C "steps" fSt)
    (Sp : FnM K mg fSp fdSp "spend" sSpend ["purses", "deed"]) (N : FnM K mg fN fdN "need_deed" sNeedD ["deed"]) (Nr : FnM K mg fNr fdNr "need_rooms" sNeedR ["some", "rooms"]) (Il : FnM K mg fIl fdIl "is_letter" sIsL ["text", "letters"]) (Cs : CsM K mg tD) (B : Bl1 mg) (ml : mg "list" = none) :
    FnOk P w K mg base CX0 (k + 3) f fd ["machine", "board", "letter"] (spLeads K C) := by
  have GS : FnOk P w K mg base CX0 (k + 2) fSt fdSt NSt (spMSteps K C) := ok_msteps FS T Nr Il B ml
  have GP : FnOk P w K mg base CX0 (k + 2) fSp fdSp ["purses", "deed"] (spSpend K) := ok_spend Sp.F N Cs
  refine F.ok scLeads (fun vs H Q E h => ?_) (fun cdv A outer s H vs Q E hr h => ?_)
  · obtain ⟨a, b, M, c, ps, rfl, _⟩ := h
    rfl
  · obtain ⟨a, b, M, c, ps, rfl, mA, hb, hT, hroo, hc, hde, h40, hlen, q⟩ := h
    refine ⟨_, pss_one (ps_ret (pe_lc2 (own := [("triple", 3), ("deed", 4), ("end", 5)]) (vs1 := [4, 5]) (g := gName 3) (tt := tYes) (wi1 := iList K (tMeth C "steps" (spMSteps K C) [] E0 (tVar 0) (tCons (tIx0 K 3 0) (tCons (tVar 2) tNil)))) (g1 := gTup K 2 (gCons (gName 4) (gCons (gName 5) gNil))) (tt1 := tYes)
        (te := tTup (tCons (tVar 3) (tCons (tVar 4) (tCons (tOp (rCatA K) (tTup (tCons (tVar 5) tNil)) (tCall (spSpend K) [] E0 (tCons (tSl rSlW (tVar 3) (tPart (tC (.int 1))) tNoPart) (tCons (tVar 4) tNil)))) tNil)))) rfl scLeads.nd
        (pi_tup (pv 1)) (blkOk_by (own := [("triple", 3), ("deed", 4), ("end", 5)]) (N := NLd) (sc := defScope sLeads) (by decide +kernel)) (by decide)
        (fun _ _ _ _ _ => pg_name (i := 3) scLeads.nd rfl (.inl rfl)) (fun _ _ _ _ _ => pts_nil)
        (fun _ _ _ _ _ => pi_list (pe_meth (pv 0) T.cl mS GS hr bS .nil pass0 (pa_cons (pe_ix ix_tup (pv 3) pe_int (fun _ _ => rfl)) (pa_cons (pv 2) pa_nil))))
        (fun _ _ _ _ _ => pg_tup rfl (pgs_cons (pg_name (i := 4) scLeads.nd rfl (.inl rfl)) (pgs_cons (pg_name (i := 5) scLeads.nd rfl (.inl rfl)) pgs_nil))) (fun _ _ _ _ _ => pts_nil)
        (fun _ _ _ _ _ => pe_tup (pa_cons (pv 3) (pa_cons (pv 4) (pa_cons (pe_op op_catA (pe_tup (pa_cons (pv 5) pa_nil)) (pe_call GP hr (by rfl) Sp.g Sp.F.kp Sp.b .nil pass0 (pa_cons (pe_slice sl_tupW (pv 3) (po_some pe_int) po_none) (pa_cons (pv 4) pa_nil)))) pa_nil)))))), ?_⟩
    obtain ⟨dx, ta, tf, tg, D0, ps0, h1, hrest⟩ := id mA
    refine ⟨_, rfl, b, rfl, ⟨_, hb⟩, fun D nD => ?_⟩
    have same_of : ∀ {H1 H2 : Hp}, Same H H1 → Keep D H1 H2 → Same H H2 := fun s1 k a o e => k a o (ne_of_none e nD) (s1 a o e)
    refine lcG (walk_tup (xs := trs ps)) (fun i H' => Same H H' ∧ ∃ os : List LD, H' D = some (.lst (lds os)) ∧ LdAt H' os ∧ os.map (·.2.2) = leadsT M.as (Sx [c]) ((ps.map (·.2)).take i)) ⟨same_upd nD, [], upd_same, (fun _ h => nomatch h), rfl⟩ (fun i H' _ ⟨sm, _⟩ => same_seqT sm hb) ?_ ?_
    · rintro i x _ H1 hi ⟨sm, os, hD, hL, he⟩ ⟨rfl, hx⟩
      obtain ⟨p, hp, rfl⟩ := trs_at hx
      have hpm := List.mem_of_getElem? hp
      have hp1 := sm _ _ (hT p hpm)
      have p0 := tup_at (K := K) (i := 0) hp1 rfl
      refine ⟨rfl, ?_⟩
      refine yes2 ?_
      refine ⟨_, rfl, a, dx, _, rfl, sm _ _ h1, mfl_none (by decide +kernel), _, rfl, p.1, _, 0, _, rfl, rfl, p0.1, p0.2, _, rfl, a, M, p.2.1, c, rfl, mA.same sm, hroo p hpm, hc, fun l1 xs H2 s2 fl1 hl1 hS ex => ?_⟩
      have hnext : leadsT M.as (Sx [c]) ((ps.map (·.2)).take (i + 1)) = leadsT M.as (Sx [c]) ((ps.map (·.2)).take i) ++ (xs.map (·.2)).map (goT p.2) := by
        rw [take_next (x := p.2) (by rw [List.getElem?_map, hp]; rfl), leadsT_snoc, ex]
      have hol : os.length ≤ 40000 := by
        have e1 := congrArg List.length he
        rw [List.length_map] at e1
        have e2 := leadsT_len M.as (Sx [c]) ((ps.map (·.2)).take i)
        have e3 : ((ps.map (·.2)).take i).length ≤ 1000 := by rw [List.length_take, List.length_map]; omega
        have e4 := Nat.mul_le_mul e3 h40
        omega
      have hxl : xs.length ≤ 40 := by
        have e1 := congrArg List.length ex
        rw [List.length_map] at e1
        have e2 := stepsOf_len M.as p.2.1 (Sx [c])
        omega
      refine ⟨l1, rfl, ⟨_, SqL.of hl1⟩, ?_⟩
      have hD2 := s2 _ _ hD
      have neD : ∀ {q : Addr} {ys : List V}, H2 q = some (.tup ys) → q ≠ D := fun e z => by rw [z, hD2] at e; cases e
      have nl1 : l1 ≠ D := fun z => by
        rw [z, hD] at fl1
        cases fl1
      refine lcG (walk_list (xs := sts xs)) (fun j H' => Keep D H2 H' ∧ ∃ os' : List LD, H' D = some (.lst (lds os')) ∧ LdAt H' os' ∧ os'.length = os.length + j ∧ os'.map (·.2.2) = os.map (·.2.2) ++ ((xs.map (·.2)).take j).map (goT p.2)) ⟨Keep.refl _, os, hD2, hL.same s2, rfl, by rw [List.take_zero, List.map_nil, List.append_nil]⟩ (fun j H' _ ⟨kp, _⟩ => SqL.of (kp _ _ nl1 hl1)) ?_ ?_
      · rintro j x _ H3 hj ⟨kp, os', hD3, hL3, hln, he3⟩ ⟨rfl, hx'⟩
        obtain ⟨s', hs', rfl⟩ : ∃ s' : ST, xs[j]? = some s' ∧ x = .ref s'.1 := by
          unfold sts at hx'
          rw [List.getElem?_map] at hx'
          cases e : xs[j]? with
          | none => rw [e] at hx'; cases hx'
          | some y => rw [e] at hx'; exact ⟨y, rfl, (Option.some.inj hx').symm⟩
        have hsm := List.mem_of_getElem? hs'
        have hs2 := hS s' hsm
        have hs3 := kp _ _ (neD hs2) hs2
        have hp3 := kp _ _ (neD (s2 _ _ hp1)) (s2 _ _ hp1)
        obtain ⟨d, hd⟩ := in_nm s'.2.1 (stepsOf_deed (by rw [← ex]; exact List.mem_map_of_mem hsm) hde)
        refine ⟨s'.1, _, rfl, SqT.of hs3, rfl, _, _, rfl, _, _, rfl, rfl, ?_⟩
        refine ⟨rfl, ?_⟩
        refine yes2 ?_
        refine ⟨_, rfl, _, rfl, _, rfl, (by decide : 1 ≤ sizeLine), fun t1 nt1 => ?_⟩
        have u1 := same_upd (o := .tup [.int s'.2.2]) nt1
        have g1 : (upd H3 t1 (.tup [.int s'.2.2])) t1 = some (.tup [.int s'.2.2]) := upd_same
        generalize upd H3 t1 (.tup [.int s'.2.2]) = H4 at u1 g1
        refine ⟨_, rfl, 1, rfl, p.1, tV p.2, rfl, u1 _ _ hp3, fun t2 H5 u2 g2 => ?_⟩
        refine ⟨_, rfl, t2, p.2.2.1, p.2.2.2, d, by rw [hd]; rfl, SqT.of g2, fun t3 H6 u3 g3 => ?_⟩
        refine ⟨t1, t3, [.int s'.2.2], _, rfl, rfl, SqT.of ((u2.trans u3) _ _ g1), SqT.of g3, (by decide : 3 ≤ sizeLine), (fun z => nomatch z), (fun _ z => nomatch z), fun _ _ t4 nt4 => ?_⟩
        have eg : goT p.2 s'.2 = (s'.2.2, stp (p.2.2.1, p.2.2.2) d) := by
          unfold goT
          rw [hd, ddOf_nm]
        have u4 := same_upd (o := .tup (tV (s'.2.2, stp (p.2.2.1, p.2.2.2) d))) nt4
        have g4 : (upd H6 t4 (.tup (tV (s'.2.2, stp (p.2.2.1, p.2.2.2) d)))) t4 = some (.tup (tV (s'.2.2, stp (p.2.2.1, p.2.2.2) d))) := upd_same
        refine ⟨(by decide : 3 ≤ sizeLine), fun t5 nt5 => ?_⟩
        have u5 := same_upd (o := .tup [.ref p.1, .str s'.2.1, .ref t4]) nt5
        have hU := u1.trans (u2.trans (u3.trans (u4.trans u5)))
        have hD9 := hU _ _ hD3
        have hL9 := hL3.same hU
        have g5 := upd_same (H := upd H6 t4 (.tup (tV (s'.2.2, stp (p.2.2.1, p.2.2.2) d)))) (a := t5) (o := .tup [.ref p.1, .str s'.2.1, .ref t4])
        refine ⟨_, hD9, ?_, fun q o nq e => ?_, os' ++ [(t5, (t4, goT p.2 s'.2))], ?_, fun o ho => ?_, by rw [List.length_append, hln]; rfl, ?_⟩
        · unfold lds
          rw [List.length_map, hln]
          have hj' : j < xs.length := (List.getElem?_eq_some_iff.mp hs').1
          exact Nat.lt_of_le_of_lt (show os.length + j ≤ 50000 by omega) (by decide)
        · rw [upd_ne nq]
          exact hU _ _ (kp _ _ nq e)
        · rw [upd_same]
          unfold lds
          rw [List.map_append]
          rfl
        · have base : (∃ v1 v2 : V, (upd (upd H6 t4 (.tup (tV (s'.2.2, stp (p.2.2.1, p.2.2.2) d)))) t5 (.tup [.ref p.1, .str s'.2.1, .ref t4])) o.1 = some (.tup [v1, v2, .ref o.2.1])) ∧ (upd (upd H6 t4 (.tup (tV (s'.2.2, stp (p.2.2.1, p.2.2.2) d)))) t5 (.tup [.ref p.1, .str s'.2.1, .ref t4])) o.2.1 = some (.tup (tV o.2.2)) := by
            rcases List.mem_append.mp ho with h | h
            · exact hL9 o h
            · rw [List.mem_singleton.mp h]
              exact ⟨⟨_, _, g5⟩, by rw [eg]; exact u5 _ _ g4⟩
          obtain ⟨⟨v1, v2, b1⟩, b2⟩ := base
          exact ⟨⟨v1, v2, by rw [upd_ne (ne_of b1 hD9 (fun z => nomatch z))]; exact b1⟩, by rw [upd_ne (ne_of b2 hD9 (fun z => nomatch z))]; exact b2⟩
        · rw [List.map_append, he3, take_next (xs := xs.map (·.2)) (i := j) (x := s'.2) (by rw [List.getElem?_map, hs']; rfl), List.map_append, List.append_assoc]
          rfl
      · rintro H3 ⟨kp, os', hD3, hL3, _, he3⟩
        refine ⟨same_of (sm.trans s2) kp, os', hD3, hL3, ?_⟩
        rw [he3, hnext, he, sts_len, show xs.length = (xs.map (·.2)).length by rw [List.length_map], List.take_length]
    · rintro H2 ⟨sm, os, hD, hL, he⟩
      rw [trs_len, show ps.length = (ps.map (·.2)).length by rw [List.length_map], List.take_length] at he
      exact q D os H2 sm hD hL he
end
end Onp
set_option maxHeartbeats 4000000
set_option autoImplicit false
namespace Onp
open PySem PySem.Spec PyProof.Rows L2 HotX L2H LamX
/-! ### a lambda with one parameter, which has a whole number as its default and isn't used -/
abbrev dOb (q : Str) (ar : Arguments) (e : Expr) (sc : Scope) (cl : List (Str × Addr)) (T : Addr) (dc pm : Value) (c' : Addr) (ct : Value) : Obj := PySem.W.kdv_obj "<lambda>" q ar (.expr e) sc cl (.ref T) dc pm c' ct
structure LamD (sc scope : Scope) (x : Str) : Prop where
  kind : scope.kind = .function
  co : scope.isCoroutine = false
  gen : scope.isGenerator = false
  own : ∀ y ∈ scope.names, y.2 ≠ .cell ∧ (y.2 = .local → y.1 = x)
  par : scope.names.lookup x = some .local
  free : ∀ y ∈ scope.names, y.2 = .free → sc.names.lookup y.1 = some .cell ∨ sc.names.lookup y.1 = some .free
  non : ∀ y ∈ scope.names, y.1 ≠ ("" : Str)
def lamDB (sc scope : Scope) (x : Str) : Bool :=
  decide (scope.kind = .function) && !scope.isCoroutine && !scope.isGenerator && decide (scope.names.lookup x = some .local) &&
    scope.names.all fun y => !decide (y.2 = .cell) && (!decide (y.2 = .local) || decide (y.1 = x)) && !decide (y.1 = ("" : Str)) && (!decide (y.2 = .free) || decide (sc.names.lookup y.1 = some .cell) || decide (sc.names.lookup y.1 = some .free))
theorem lamD_by {sc scope : Scope} {x : Str} (h : lamDB sc scope x = true) : LamD sc scope x := by
  unfold lamDB at h
  simp only [Bool.and_eq_true, Bool.or_eq_true, Bool.not_eq_true', decide_eq_true_eq, decide_eq_false_iff_not, List.all_eq_true] at h
  obtain ⟨⟨⟨⟨h1, h2⟩, h3⟩, h5⟩, h4⟩ := h
  refine ⟨h1, h2, h3, fun y hy => ⟨(h4 y hy).1.1.1, fun z => ?_⟩, h5, fun y hy e => ?_, fun y hy => (h4 y hy).1.2⟩
  · exact (h4 y hy).1.1.2.elim (fun q => absurd z q) id
  · exact (h4 y hy).2.elim (fun q => q.elim (fun q => absurd e q) .inl) .inr
theorem LamD.has {X : Cx} {scope : Scope} {x : Str} (L : LamD X.env.scope scope x) (ok : X.Ok) : ∀ y ∈ scope.names, y.2 = .free → ∃ c, X.env.cells.lookup y.1 = some c := fun y hy e =>
  (L.free y hy e).elim (fun k => ok.has _ (.inl k)) (fun k => ok.has _ (.inr k))
def mask (x y : Str) : Str := if y = x then "" else y
def lamCxD (X : Cx) (A : Around) (outer : List Env) (s : Shared) (H : Hp) (E : XK) (scope : Scope) (f c' : Addr) (x : Str) : Cx := { lamCxN X A outer s H E scope f c' with N := X.N.map (mask x) }
section
variable {X : Cx} {pins : List (Addr × Obj)} {σ : L2.St} {H : Hp} {s : Shared}
theorem lam_makeD {T : List (Addr × Str)} {c P : Addr} {ar : Arguments} {body : Expr} {sc : Scope} {pos p0 : Pos} {z : Int} {u0 : Nat} {Er : Value → Shared → Prop} {Qv : Value → Shared → Prop} (I : Inv X pins σ H s) (TB : TabB X.base X.mg c P) (hcode : X.env.code = .ref c)
    (hm : (P, X.env.qual ++ "<lambda>") ∈ T) (hu : ∀ p ∈ T, p.1 = P → p.2 = X.env.qual ++ "<lambda>") (hT : Tabs T H) (hd1 : ar.defaults = [.Constant (.int z) u0 p0]) (hd2 : ar.kw_defaults = []) (hfree : ∀ y ∈ sc.names, y.2 = .free → ∃ c, X.env.cells.lookup y.1 = some c)
    (h : ∀ (f c' t : Addr) (dc pm ct : Value) (H1 : Hp) (s' : Shared), Inv X pins σ H1 s' → ExtN H H1 → Tabs T H1 → s'.heap.get? f = some (dOb (X.env.qual ++ "<lambda>") ar body sc (cloFrom X.env.cells sc.names []) t dc pm c' ct) →
      H1 f = none → f ∉ frs X.stack → H1 c' = some (CodeO c' (X.env.qual ++ "<lambda>")) → H1 t = some (.tup [.int z]) → Qv (.ref f) s') :
    wpAny (model X.prog X.w) X.A (eval (.Lambda ar body sc pos) X.env) Qv Er s := by
  refine PySem.W.kdv_lam (by rw [hd1]; rfl) hd2 ?_
  rw [hd1]
  refine PySem.W.kdv_all1 (wpAny_Constant_int (PySem.W.kdv_all0 ?_))
  have I1 := I.tok (s.toks + 1)
  have r1 : RelV (.int z) (.int z s.toks) := ⟨_, rfl⟩
  generalize (Value.int z s.toks) = uv at r1
  generalize ({ s with toks := s.toks + 1 } : Shared) = s1 at I1
  rw [makeFunction_eq]
  simp only [List.zip_nil_right, List.filterMap_nil, List.isEmpty_nil, if_true, pure_bind, List.isEmpty_cons, Bool.false_eq_true, if_false]
  refine wpAny_bind (wpAny_newTextTuple ?_)
  have nT : H s1.heap.objs.size = none := I1.hok.fresh (Nat.le_refl _)
  have I2 : Inv X pins σ (upd H s1.heap.objs.size (.tup [.int z])) { s1 with heap := s1.heap.push { cls := .type "tuple", data := .seq [uv].toArray } } :=
    I1.laid (t' := s1.toks) (fun b u e => Heap.get?_push_of_some _ e) (Nat.le_refl _) ⟨(by decide : 1 ≤ sizeLine), [uv], .cons r1 .nil, ⟨_, Heap.get?_push_size _ rfl, rfl, _, rfl⟩⟩
  have hT2 : Tabs T (upd H s1.heap.objs.size (.tup [.int z])) := hT.ext fun b o e => by
    rw [upd_ne (ne_of_none e nT)]
    exact e
  have e2 : ExtN H (upd H s1.heap.objs.size (.tup [.int z])) := ExtN.of fun b o e => by
    rw [upd_ne (ne_of_none e nT)]
    exact e
  have hTt : (upd H s1.heap.objs.size (.tup [.int z])) s1.heap.objs.size = some (.tup [.int z]) := upd_same
  generalize upd H s1.heap.objs.size (.tup [.int z]) = H2 at I2 hT2 e2 hTt
  generalize s1.heap.objs.size = t at hTt
  generalize ({ s1 with heap := s1.heap.push { cls := .type "tuple", data := .seq [uv].toArray } } : Shared) = s2 at I2
  obtain ⟨ps, hP, ht, ha⟩ := hT2 _ hm
  have bP : s2.heap.BuiltinsAt X.mg P := TB.bm.keeps I2.bk
  have hP' : s2.heap.get? P = some { cls := .none, data := .fields ps } := I2.hok P _ hP
  have nofr : ∀ f, s2.heap.objs.size ≤ f → f ∉ frs X.stack := fun f hf w => by
    rcases List.mem_cons.mp (I2.stkSub _ w) with e | e
    · have q := I2.lt
      rw [← e] at q
      exact absurd (Nat.lt_of_lt_of_le q hf) (Nat.lt_irrefl f)
    · exact I2.nofs hf e
  cases hc : codeAmong pos ps.toList with
  | none =>
    refine PySem.W.kdv_makeTail (mg := X.mg) (c := c) (P := P) (ps := ps) (dV := .ref t) (closure_ok hfree) I2.ok.glob (I2.mod.glob.keeps I2.bk) hcode (TB.code.keeps I2.bk) hP' ht hc TB.gP bP fun c' ct dc h' tk hx hge hlt hrec htb => ?_
    obtain ⟨c2, oc, vs, tq, e3, hoc, hd, hv⟩ := hrec
    cases e3
    have hsz : s2.heap.objs.size ≤ h'.objs.size := by omega
    have nC : H2 c' = none := I2.hok.fresh hge
    have J := inv_table (t' := tk) (more := #[rawInt pos.line, rawInt pos.col, .ref c']) (h' := h'.push (dOb (X.env.qual ++ "<lambda>") ar body sc (cloFrom X.env.cells sc.names []) t dc ((X.mg "__name__").getD .none) c' ct)) I2 hP
      (fun b o hb e => Heap.get?_push_of_some _ (hx b o hb e)) (Heap.get?_push_of_some _ htb) hge ⟨oc, vs, tq, Heap.get?_push_of_some _ hoc, hd, hv⟩
    have hE : ExtN H2 (upd (upd H2 P (.tbl (ps ++ #[rawInt pos.line, rawInt pos.col, .ref c']))) c' (CodeO c' (X.env.qual ++ "<lambda>"))) := fun b o e n => by
      rw [upd_ne (ne_of_none e nC), upd_ne (fun w => n ps (Option.some.inj (e.symm.trans (by rw [w]; exact hP))))]
      exact e
    have eL : (ps ++ #[rawInt pos.line, rawInt pos.col, .ref c']).toList = ps.toList ++ [rawInt pos.line, rawInt pos.col, .ref c'] := by simp
    refine h h'.objs.size c' t dc ((X.mg "__name__").getD .none) ct _ _ J (e2.trans hE) (fun p hp => ?_) (Heap.get?_push_size _ rfl) ?_ (nofr _ hsz) upd_same (hE _ _ hTt fun ps w => by cases w)
    · by_cases hb : p.1 = P
      · rw [hu p hp hb, hb]
        refine ⟨_, by rw [upd_ne (ne_of_none hP nC), upd_same], by rw [eL]; exact PySem.TriplesOk_snoc _ _ _ _ ht, fun p' cv hcv => ?_⟩
        rw [eL] at hcv
        rcases among_app _ ht hcv with w | w
        · obtain ⟨c0, q1, q2⟩ := ha p' cv w
          exact ⟨c0, q1, hE _ _ q2 codeO_ne⟩
        · exact ⟨c', w, upd_same⟩
      · obtain ⟨ps', a1, a2, a3⟩ := hT2 p hp
        refine ⟨ps', by rw [upd_ne (ne_of_none a1 nC), upd_ne hb]; exact a1, a2, fun p' cv hcv => ?_⟩
        obtain ⟨c0, q1, q2⟩ := a3 p' cv hcv
        exact ⟨c0, q1, hE _ _ q2 codeO_ne⟩
    · have n1 : h'.objs.size ≠ c' := by omega
      have n2 : h'.objs.size ≠ P := by
        exact Nat.ne_of_gt (Nat.lt_of_lt_of_le (Heap.lt_size hP') (by omega))
      rw [upd_ne n1, upd_ne n2]
      exact I2.hok.fresh hsz
  | some cv =>
    obtain ⟨c', e, hco⟩ := ha pos cv hc
    subst e
    refine PySem.W.kdv_makeTailHit (mg := X.mg) (c := c) (P := P) (ps := ps) (dV := .ref t) (closure_ok hfree) I2.ok.glob (I2.mod.glob.keeps I2.bk) hcode (TB.code.keeps I2.bk) hP' ht hc bP fun ct dc h' tk hx hsz => ?_
    have J : Inv X pins σ H2 { s2 with heap := h'.push (dOb (X.env.qual ++ "<lambda>") ar body sc (cloFrom X.env.cells sc.names []) t dc ((X.mg "__name__").getD .none) c' ct), toks := tk } := I2.kept fun b o e => Heap.get?_push_of_some _ (hx b o e)
    exact h h'.objs.size c' t dc ((X.mg "__name__").getD .none) ct H2 _ J e2 hT2 (Heap.get?_push_size _ rfl) (I2.hok.fresh hsz) (nofr _ hsz) hco hTt
theorem lam_startD {HZ : Hp} {s1 : Shared} {A : Around} {outer : List Env} {E : XK} {sc : Scope} {f c' : Addr} {x : Str} {uz : Value} {j : Heap} {tk : Nat} (I : Inv X pins σ H s) (L : LamD X.env.scope sc x) (e0 : Env0 X.prog X.w X.K X.mg X.base A outer s1 HZ) (hd : A.handled = none)
    (un : Un (frs X.stack) [] H HZ s.heap s1.heap) (hns : j.Ns s1.heap.objs.size fun y => ([(x, uz)] : List (Str × Value)).reverse.lookup y) (kp : ∀ b o, s1.heap.get? b = some o → j.get? b = some o) : Inv (lamCxD X A outer s1 HZ E sc f c' x) [] σ HZ { s1 with heap := j, toks := tk } := by
  have hfree := L.has I.ok
  have cm : ∀ {y c}, (cloFrom X.env.cells sc.names []).lookup y = some c → X.env.cells.lookup y = some c := fun {y c} e => by
    rcases cloFrom_mem (PySem.mem_of_lookup e) with q | ⟨q1, q2⟩
    · cases q
    · obtain ⟨c1, hc⟩ := hfree _ q1 rfl
      have hc : X.env.cells.lookup y = some c1 := hc
      rw [hc] at q2
      rw [q2]
      exact hc
  have look : ∀ {y}, sc.names.lookup y = some .free → ∃ c, (cloFrom X.env.cells sc.names []).lookup y = some c := fun {y} q => mem_lookup (cloFrom_has (cells := X.env.cells) (acc := []) (PySem.mem_of_lookup q))
  have cellK : ∀ {c : Addr} {v : Option Value}, H c = none → s.heap.IsCell c v → j.IsCell c v := fun {c v} n ⟨o, ho, hd⟩ => by
    obtain ⟨sl, q⟩ := un.any ho n (by simp)
    exact ⟨_, kp _ _ q, hd⟩
  have noA : ∀ b : Addr, b ∉ (lamCxD X A outer s1 HZ E sc f c' x).ex := fun b w => nomatch (show b ∈ ([] : List Addr) from w)
  refine ⟨⟨e0.mod, L.kind, rfl, rfl, Nat.le_refl _, fun y w c e1 e2 => I.ok.inj y w c (cm e1) (cm e2), fun y hy => ?_, fun y c w _ => ?_, fun _ => hd, Around.frames_deeper e0.frames, .inr ⟨rfl, rfl⟩, fun b w => absurd w (noA b), e0.bs, e0.bsz, fun b _ _ => noA b,
      fun b w => absurd w (noA b), e0.funs, e0.frf⟩, rfl, e0.bare, Un.kept kp, ⟨_, hns, fun i y v e1 e2 e3 => ?_⟩, fun y c e => ?_, e0.hok.fresh (Nat.le_refl _), fun y c e => ?_, fun q hq => (nomatch (show q ∈ ([] : List (Addr × Obj)) from hq)), e0.hok.kept kp, ?_⟩
  · have hy : sc.names.lookup y = some .cell ∨ sc.names.lookup y = some .free := hy
    rcases hy with hy | hy
    · exact absurd rfl (L.own _ (PySem.mem_of_lookup hy)).1
    · exact look hy
  · exact absurd (show false = true from w) (by decide)
  · have e1 : (X.N.map (mask x))[i]? = some y := e1
    rw [List.getElem?_map] at e1
    obtain ⟨y0, ey, em⟩ := Option.map_eq_some_iff.mp e1
    have e3 : Vis sc y := e3
    by_cases hx : y0 = x
    · have ym : y = "" := by
        rw [← em]
        unfold mask
        rw [if_pos hx]
      rcases e3 with k | k | k <;> exact absurd ym (L.non _ (PySem.mem_of_lookup k))
    · have ym : y0 = y := by
        rw [← em]
        unfold mask
        rw [if_neg hx]
      subst ym
      rcases e3 with k | k | k
      · exact absurd ((L.own _ (PySem.mem_of_lookup k)).2 rfl) hx
      · exact absurd rfl (L.own _ (PySem.mem_of_lookup k)).1
      · obtain ⟨m, hn, hl⟩ := I.loc
        have hf := L.free _ (PySem.mem_of_lookup k) rfl
        have hvis : Vis X.env.scope y0 := hf.elim (fun k => .inr (.inl k)) (fun k => .inr (.inr k))
        obtain ⟨u', r, q⟩ := hl i y0 v ey e2 hvis
        obtain ⟨c2, h2⟩ := look k
        refine ⟨u', r, .inr ⟨.inr k, c2, h2, ?_⟩⟩
        have c1 := cm h2
        rcases q with ⟨k', _⟩ | ⟨_, c3, e', w⟩
        · have k' : X.env.scope.names.lookup y0 = some .local := k'
          rcases hf with k2 | k2 <;> rw [show X.env.scope.names.lookup y0 = _ from k2] at k' <;> cases k'
        · rw [c1] at e'
          cases e'
          exact cellK (I.freeC y0 _ c1) w
  · obtain ⟨u', w⟩ := I.cell y c (cm e)
    exact ⟨u', cellK (I.freeC y c (cm e)) w⟩
  · obtain ⟨v, o, ho, hd⟩ := I.cell y c (cm e)
    exact un.free c o ho (I.freeC y c (cm e)) (by simp)
  · show σ.length = (X.N.map (mask x)).length
    rw [List.length_map]
    exact I.len
/-- how a default is bound -/
def BindD (ar : Arguments) (body : Expr) (sc : Scope) (x : Str) : Prop := ∀ (q : Str) (cl : List (Str × Addr)) (T : Addr) (dc pm cv ct : Value), ∃ k, bindArgs (PySem.W.kdv_fn "<lambda>" q ar (.expr body) sc cl (.ref T) dc pm cv ct) ⟨[], []⟩ = seqItems? (.ref T) >>= k ∧ ∀ u, k (some #[u]) = pure [(x, u)]
theorem pe_actD {CXg : CXT} {Eg : XK} {Ng : List Str} {qg : Str} {sg : Scope} {g f c' t : Addr} {cdg dc pm ct : Value} {ar : Arguments} {body : Expr} {sc : Scope} {k i : Nat} {a x : Str} {z : Int} {pn : List (Addr × Obj)} {xe : Value → Shared → Prop} {W : WX} {E : XK} {tb : TE} {p1 p2 : Pos}
    (I : Inv X pins σ H s) (L : LamD X.env.scope sc x) (hf : s.heap.get? f = some (dOb (X.env.qual ++ "<lambda>") ar body sc (cloFrom X.env.cells sc.names []) t dc pm c' ct)) (hfn : H f = none) (hfr : f ∉ frs X.stack) (hbind : BindD ar body sc x)
    (tk : L2N.Takes ((cxOf CXg X.prog X.w X.K X.mg X.base Ng qg sg g cdg X.A X.stack s H Eg).tr pn xe) W) (hW : ∀ cls d σ' H', E cls d H' → W cls d σ' H') (hr : Room (k + 1) (X.A.deeper (envOfC qg sg s.heap.objs.size g cdg)))
    (hbody : ∀ (A : Around) (outer : List Env) (s : Shared) (H : Hp), Room k (A.deeper (lamEnv X sc s.heap.objs.size f c')) → PE (lamCxD X A outer s H E sc f c' x) body tb)
    (hN : Ng[i]? = some a) (hv : Vis sg a) (hd : (a == ("__debug__" : Str)) = false) (hcd : (a == ("__classdict__" : Str)) = false) :
    PE ((cxOf CXg X.prog X.w X.K X.mg X.base Ng qg sg g cdg X.A X.stack s H Eg).tr pn xe) (.Call (.Name a p1) [] [] p2) (fun σZ HZ Q => σZ[i]? = some (some (.ref f)) ∧ HZ c' = some (CodeO c' (X.env.qual ++ "<lambda>")) ∧ HZ t = some (.tup [.int z]) ∧ tb σ HZ Q) := by
  refine ⟨fun pinsZ sZ σZ HZ Q IZ ⟨hs, hc, hz, ht⟩ => ?_⟩
  refine wpAny_Call_Name_kw (thn ((pe_var (pos := p1) (i := i) hN hv hd hcd).run pinsZ sZ σZ HZ (fun v H1 => v = .ref f ∧ H1 = HZ) IZ ⟨.ref f, hs, rfl, rfl⟩) fun u s1 ⟨v, H1, I1, r1, ev, eH⟩ => ?_)
  subst ev
  rw [eH] at I1
  obtain rfl : u = Value.ref f := r1
  have of1 := I1.base.keep f _ hf hfn hfr (fun w => nomatch (show f ∈ ([] : List Addr) from w))
  refine PySem.W.callWith_F0 ⟨_, _, _, _, of1⟩ ?_
  obtain ⟨⟨oc, vs, tq, hoc, hdc, hvc⟩, _, _⟩ := I1.hok c' _ hc
  obtain ⟨_, us, rz, ⟨ot, hot, hcl, n, hdt⟩⟩ := I1.hok t _ hz
  obtain ⟨uz, rfl⟩ : ∃ uz, us = [uz] := by
    cases rz with
    | cons r1 r2 =>
      cases r2
      exact ⟨_, rfl⟩
  obtain ⟨kb, b1, b2⟩ := hbind (X.env.qual ++ "<lambda>") (cloFrom X.env.cells sc.names []) t dc pm (.ref c') ct
  have rc : codeAny (model X.prog X.w) (X.A.deeper (envOfC qg sg s.heap.objs.size g cdg)) (.call (.ref f) ⟨[], []⟩) (CR (L2N.CX X.prog X.w) (envOfC qg sg s.heap.objs.size g cdg :: X.stack) X.prog X.w HZ s1 Q E) s1 := by
    refine PySem.W.kla_callFunE hr.depth of1 rfl L.co L.gen rfl ⟨c', oc, vs, tq, rfl, hoc, hdc, hvc⟩ (BindsTo.of_defaults (T := t) rfl hot hdt b1 (b2 uz) _ _ _ _ ?_)
    refine wpAny_newFunctionEnv (fun y hy => (L.own y hy).1) (fun y hy => ?_) (fun j hns hsb => ⟨I1.nolimit.fresh _ hsb, ?_⟩) L.kind
    · rw [List.mem_singleton.mp hy]
      exact L.par
    show codeAny _ _ (.expr body (lamEnv X sc s1.heap.objs.size f c')) _ _
    have kp : ∀ b o, s1.heap.get? b = some o → j.get? b = some o := fun b o e => hsb.extBut b o (Nat.ne_of_lt (Heap.lt_size e)) (Heap.get?_push_of_some _ e)
    have J : Inv (lamCxD X (X.A.deeper (envOfC qg sg s.heap.objs.size g cdg)) (envOfC qg sg s.heap.objs.size g cdg :: X.stack) s1 HZ E sc f c' x) [] σ HZ { s1 with heap := j, toks := s1.toks + ([(x, uz)] : List (Str × Value)).length } := lam_startD I L I1.env0 hr.hd I1.base hns kp
    refine PySem.W.kla_codeExpr (wpAny_mono ((hbody _ _ s1 HZ (hr.deeper _)).run [] _ _ HZ Q J ht) (fun v s' hq => ?_) fun e s' hq => hq)
    obtain ⟨w', H', J', rv, q⟩ := hq
    exact ⟨w', H', J'.os, J'.bare, J'.base, J'.hok, rv, q⟩
  have hx := L2N.passes_call tk hW
  refine wpAny_call (codeAny_mono rc fun r s' hq => ?_)
  rcases r with e | fl
  · exact hx pinsZ σZ HZ s1 e s' I1 hq
  · cases fl with
    | ret u => exact I1.after hq
    | next => exact False.elim hq
    | brk => exact False.elim hq
    | cont => exact False.elim hq
/-- what the def makes of the lambda may also be told that a fact of the heap holds -/
def Adds (TT : (XK → Hp → VK → Prop) → Hp → VK → Prop) : Prop := ∀ (c : Hp → Prop) (tl : XK → Hp → VK → Prop) (H : Hp) (Q : VK), c H → TT tl H Q → TT (fun E H' Q' => c H' ∧ tl E H' Q') H Q
theorem pe_lamD {T : List (Addr × Str)} {TT : (XK → Hp → VK → Prop) → Hp → VK → Prop} {x a y : Str} {g c P : Addr} {k : Nat} {pg : Arguments} {bg : List Stmt} {sg : Scope} {dV kV doc pm cdv ct oc : Value} {an od : Option Addr} {osl : Array (Option Value)} {Ng : List Str}
    {ar : Arguments} {body : Expr} {sc : Scope} {t : XK → TE} {z : Int} {u0 : Nat} {p p0 lpos pos : Pos} (hg : Gl X x) (hm : X.mg x = some (.ref g)) (hk : PySem.W.keepIn X.K (.ref g) = true) (lk : X.K.lookup g = some ⟨oc, od, .func (PySem.W.fnOf x x pg bg sg dV kV doc pm an cdv ct), osl⟩)
    (hcg : PySem.W.codeIn X.K cdv x = true) (hb : L2.Binds X.K (PySem.W.fnOf x x pg bg sg dV kV doc pm an cdv ct) [a] []) (Sg : FnScope Ng [a] sg) (hNg : Ng[0]? = some a) (hva : Vis sg a) (hG : GivesN X k Ng x sg g cdv bg a (X.env.qual ++ "<lambda>") TT) (hA : Adds TT)
    (TB : TabB X.base X.mg c P) (hcode : X.env.code = .ref c) (hmT : (P, X.env.qual ++ "<lambda>") ∈ T) (hu : ∀ p ∈ T, p.1 = P → p.2 = X.env.qual ++ "<lambda>") (hr : Room (k + 2) X.A) (L : LamD X.env.scope sc y) (hd1 : ar.defaults = [.Constant (.int z) u0 p0]) (hd2 : ar.kw_defaults = []) (hbind : BindD ar body sc y)
    (hbody : ∀ (A : Around) (outer : List Env) (s : Shared) (H : Hp) (E : XK) (f c' : Addr), Room k (A.deeper (lamEnv X sc s.heap.objs.size f c')) → PE (lamCxD X A outer s H E sc f c' y) body (t E))
    (hdb : (x == ("__debug__" : Str)) = false := by decide) (hd : (a == ("__debug__" : Str)) = false := by decide) (hcd : (a == ("__classdict__" : Str)) = false := by decide) : PE X (.Call (.Name x p) [.Lambda ar body sc lpos] [] pos) (tLam T TT t) := by
  refine ⟨fun pins s σ H Q I ⟨hT, h⟩ => wpAny_Call_Name_kw (ld_glob I hg hm ?_ hdb)⟩
  refine PySem.W.callWith_K (h₀ := X.base) I.ok.mod.kin hk ?_ (by rfl) (by rfl)
  show wpAny _ _ (spliced ((false, eval (.Lambda ar body sc lpos) X.env) :: backTo pos (starEach [] X.env))) _ _ s
  refine Calls.spliced_cons (lam_makeD I TB hcode hmT hu hT hd1 hd2 (L.has I.ok) fun f c' tt dc pm' ctv H1 s' I1 eN T1 hf hfn hfr hco htt => Calls.spliced_nil ⟨I1.kIn, ?_⟩)
  have rc : codeAny (model X.prog X.w) X.A (.call (.ref g) ⟨[.ref f], []⟩) (CR CX0 X.stack X.prog X.w H1 s' Q E0) s' := by
    refine run_ofS (N := Ng) (ps := [a]) (us := [.ref f]) (vs := [.ref f]) lk hcg Sg hr I1.env0 (hb s' [.ref f] I1.kIn rfl) (.cons rfl .nil) rfl fun hr' => ?_
    obtain ⟨t', ht', hq'⟩ := hG f c' s' H1 Q (fun E H' Q' => H' tt = some (.tup [.int z]) ∧ t E σ H' Q') hr' (fun W pn xe E p1 p2 tk hW => pe_actD (i := 0) I1 L hf hfn hfr hbind tk hW hr' (fun A outer s H hr2 => hbody A outer s H E f c' hr2) hNg hva hd hcd) hco (hA _ _ _ _ htt (h H1 eN T1))
    exact ⟨t', ht'.nox, hq'⟩
  refine wpAny_call (codeAny_mono rc fun r s2 hq => ?_)
  rcases r with e | fl
  · exact (show False from hq).elim
  · cases fl with
    | ret u => exact I1.after hq
    | next => exact False.elim hq
    | brk => exact False.elim hq
    | cont => exact False.elim hq
end
end Onp
set_option maxHeartbeats 4000000
set_option autoImplicit false
namespace Onp
open PySem PySem.Spec PyProof.Rows L2 HotX L2H LamX
/-! ### a lambda with one parameter and no captured names, handed as the fourth thing to a def that calls it -/
structure Lam1 (scope : Scope) (x : Str) : Prop where
  kind : scope.kind = .function
  co : scope.isCoroutine = false
  gen : scope.isGenerator = false
  own : ∀ y ∈ scope.names, y.2 ≠ .cell ∧ y.2 ≠ .free ∧ (y.2 = .local → y.1 = x)
  par : scope.names.lookup x = some .local
def lam1B (scope : Scope) (x : Str) : Bool :=
  decide (scope.kind = .function) && !scope.isCoroutine && !scope.isGenerator && decide (scope.names.lookup x = some .local) && scope.names.all fun y => !decide (y.2 = .cell) && !decide (y.2 = .free) && (!decide (y.2 = .local) || decide (y.1 = x))
theorem lam1_by {scope : Scope} {x : Str} (h : lam1B scope x = true) : Lam1 scope x := by
  unfold lam1B at h
  simp only [Bool.and_eq_true, Bool.or_eq_true, Bool.not_eq_true', decide_eq_true_eq, decide_eq_false_iff_not, List.all_eq_true] at h
  obtain ⟨⟨⟨⟨h1, h2⟩, h3⟩, h5⟩, h4⟩ := h
  exact ⟨h1, h2, h3, fun y hy => ⟨(h4 y hy).1.1, (h4 y hy).1.2, fun z => (h4 y hy).2.elim (fun q => absurd z q) id⟩, h5⟩
def lamCx1 (X : Cx) (A : Around) (outer : List Env) (s : Shared) (H : Hp) (scope : Scope) (f c' : Addr) (x : Str) : Cx :=
  { lamCx X A outer s H (fun _ _ _ => False) scope f c' with N := [x], xe := fun e s' => wpAny (model X.prog X.w) (A.deeper (lamEnv X scope s.heap.objs.size f c')) (leaving (lamEnv X scope s.heap.objs.size f c') e) (fun _ _ => False) (fun _ _ => False) s' }
section
variable {X : Cx} {pins : List (Addr × Obj)} {σ : L2.St} {H : Hp} {s : Shared}
theorem lam_start1 {HZ : Hp} {s1 : Shared} {A : Around} {outer : List Env} {sc : Scope} {f c' : Addr} {x : Str} {v : V} {uz : Value} {j : Heap} {tk : Nat} (L : Lam1 sc x) (e0 : Env0 X.prog X.w X.K X.mg X.base A outer s1 HZ) (hd : A.handled = none)
    (rv : RelV v uz) (hns : j.Ns s1.heap.objs.size fun y => ([(x, uz)] : List (Str × Value)).reverse.lookup y) (kp : ∀ b o, s1.heap.get? b = some o → j.get? b = some o) : Inv (lamCx1 X A outer s1 HZ sc f c' x) [] [some v] HZ { s1 with heap := j, toks := tk } := by
  have nocell : ∀ {y c}, (cloFrom X.env.cells sc.names []).lookup y = some c → False := fun {y c} e => by
    rcases cloFrom_mem (PySem.mem_of_lookup e) with q | ⟨q1, q2⟩
    · cases q
    · exact (L.own _ q1).2.1 rfl
  have noA : ∀ b : Addr, b ∉ (lamCx1 X A outer s1 HZ sc f c' x).ex := fun b w => nomatch (show b ∈ ([] : List Addr) from w)
  refine ⟨⟨e0.mod, L.kind, rfl, rfl, Nat.le_refl _, fun y w c e1 e2 => (nocell e1).elim, fun y hy => ?_, fun y c w _ => ?_, fun _ => hd, Around.frames_deeper e0.frames, .inr ⟨rfl, rfl⟩, fun b w => absurd w (noA b), e0.bs, e0.bsz, fun b _ _ => noA b,
      fun b w => absurd w (noA b), e0.funs, e0.frf⟩, rfl, e0.bare, Un.kept kp, ⟨_, hns, fun i y u e1 e2 e3 => ?_⟩, fun y c e => (nocell e).elim, e0.hok.fresh (Nat.le_refl _), fun y c e => (nocell e).elim, fun q hq => (nomatch (show q ∈ ([] : List (Addr × Obj)) from hq)), e0.hok.kept kp, rfl⟩
  · have hy : sc.names.lookup y = some .cell ∨ sc.names.lookup y = some .free := hy
    rcases hy with hy | hy
    · exact absurd rfl (L.own _ (PySem.mem_of_lookup hy)).1
    · exact absurd rfl (L.own _ (PySem.mem_of_lookup hy)).2.1
  · exact absurd (show false = true from w) (by decide)
  · have e1 : ([x] : List Str)[i]? = some y := e1
    cases i with
    | zero =>
      obtain rfl : x = y := Option.some.inj e1
      obtain rfl : v = u := Option.some.inj (Option.some.inj e2)
      refine ⟨uz, rv, .inl ⟨L.par, ?_⟩⟩
      show List.lookup x [(x, uz)] = some uz
      rw [List.lookup_cons, beq_self_eq_true]
    | succ i => exact absurd e1 (by simp)
/-- a(e) in the def that was handed the lambda -/
theorem pe_act1 {Ng : List Str} {qg : Str} {sg : Scope} {g f c' : Addr} {cdg pm ct : Value} {ar : Arguments} {body : Expr} {sc : Scope} {k i : Nat} {a x : Str} {tb : V → Hp → VK → Prop} {te : TE} {e : Expr} {p1 p2 : Pos}
    (L : Lam1 sc x) (hf : s.heap.get? f = some (PySem.W.kla_obj "<lambda>" (X.env.qual ++ "<lambda>") ar body sc (cloFrom X.env.cells sc.names []) pm c' ct)) (hfn : H f = none) (hfr : f ∉ frs X.stack)
    (hbind : ∀ u, bindArgs (PySem.W.kla_fn "<lambda>" (X.env.qual ++ "<lambda>") ar body sc (cloFrom X.env.cells sc.names []) pm (.ref c') ct) ⟨[u], []⟩ = pure [(x, u)]) (hr : Room (k + 1) (X.A.deeper (envOfC qg sg s.heap.objs.size g cdg)))
    (hbody : ∀ (A : Around) (outer : List Env) (s : Shared) (H : Hp), PE (lamCx1 X A outer s H sc f c' x) body (fun σ H Q => ∃ v, σ = [some v] ∧ tb v H Q))
    (hN : Ng[i]? = some a) (hv : Vis sg a) (he : PE (cxOf CX0 X.prog X.w X.K X.mg X.base Ng qg sg g cdg X.A X.stack s H E0).nox e te) (hd : (a == ("__debug__" : Str)) = false) (hcd : (a == ("__classdict__" : Str)) = false)
    (hs : ∀ env, starEach [e] env = [(false, eval e env)]) :
    PE (cxOf CX0 X.prog X.w X.K X.mg X.base Ng qg sg g cdg X.A X.stack s H E0).nox (.Call (.Name a p1) [e] [] p2) (fun σZ HZ Q => σZ[i]? = some (some (.ref f)) ∧ te σZ HZ fun v H1 => H1 c' = some (CodeO c' (X.env.qual ++ "<lambda>")) ∧ tb v H1 Q) := by
  refine ⟨fun pinsZ sZ σZ HZ Q IZ ⟨hsl, ht⟩ => ?_⟩
  refine wpAny_Call_Name_kw (thn ((pe_var (pos := p1) (i := i) hN hv hd hcd).run pinsZ sZ σZ HZ (fun v H1 => v = .ref f ∧ H1 = HZ) IZ ⟨.ref f, hsl, rfl, rfl⟩) fun u s1 ⟨v, H1, I1, r1, ev, eH⟩ => ?_)
  subst ev
  rw [eH] at I1
  obtain rfl : u = Value.ref f := r1
  have of1 := I1.base.keep f _ hf hfn hfr (fun w => nomatch (show f ∈ ([] : List Addr) from w))
  refine PySem.W.callWith_F (first := []) ⟨_, _, _, _, of1⟩ ?_ (by rw [hs]; rfl) (by rfl)
  rw [hs]
  refine Calls.spliced_cons (thn (he.run pinsZ s1 σZ HZ _ I1 ht) fun ua s2 ⟨va, H2, I2, rva, hc, hq⟩ => Calls.spliced_nil ?_)
  have of2 := I2.base.keep f _ hf hfn hfr (fun w => nomatch (show f ∈ ([] : List Addr) from w))
  refine ⟨⟨_, _, _, _, of2⟩, ?_⟩
  obtain ⟨⟨oc, vs, tq, hoc, hdc, hvc⟩, _, _⟩ := I2.hok c' _ hc
  have rc : codeAny (model X.prog X.w) (X.A.deeper (envOfC qg sg s.heap.objs.size g cdg)) (.call (.ref f) ⟨[ua], []⟩) (CR CX0 (envOfC qg sg s.heap.objs.size g cdg :: X.stack) X.prog X.w H2 s2 Q E0) s2 := by
    refine PySem.W.kla_callFunE hr.depth of2 rfl L.co L.gen rfl ⟨c', oc, vs, tq, rfl, hoc, hdc, hvc⟩ ?_
    rw [hbind]
    refine wpAny_pure (wpAny_newFunctionEnv (fun y hy => (L.own y hy).1) (fun y hy => ?_) (fun j hns hsb => ⟨I2.nolimit.fresh _ hsb, ?_⟩) L.kind)
    · rw [List.mem_singleton.mp hy]
      exact L.par
    show codeAny _ _ (.expr body (lamEnv X sc s2.heap.objs.size f c')) _ _
    have kp : ∀ b o, s2.heap.get? b = some o → j.get? b = some o := fun b o e => hsb.extBut b o (Nat.ne_of_lt (Heap.lt_size e)) (Heap.get?_push_of_some _ e)
    have J : Inv (lamCx1 X (X.A.deeper (envOfC qg sg s.heap.objs.size g cdg)) (envOfC qg sg s.heap.objs.size g cdg :: X.stack) s2 H2 sc f c' x) [] [some va] H2 { s2 with heap := j, toks := s2.toks + ([(x, ua)] : List (Str × Value)).length } := lam_start1 L I2.env0 hr.hd rva hns kp
    refine PySem.W.kla_codeExpr (wpAny_mono ((hbody _ _ s2 H2).run [] _ _ H2 Q J ⟨va, rfl, hq⟩) (fun v s' hq => ?_) fun e s' hq => wpAny_mono hq (fun _ _ z => z.elim) fun _ _ z => z.elim)
    obtain ⟨w', H', J', rv, q⟩ := hq
    exact ⟨w', H', J'.os, J'.bare, J'.base, J'.hok, rv, q⟩
  refine wpAny_call (codeAny_mono rc fun r s' hq => ?_)
  rcases r with e | fl
  · exact (show False from hq).elim
  · cases fl with
    | ret u => exact I2.after hq
    | next => exact False.elim hq
    | brk => exact False.elim hq
    | cont => exact False.elim hq
/-- the def's promise of a lambda that makes tb of a thing -/
def Gives1 (X : Cx) (k : Nat) (Ng : List Str) (x : Str) (sg : Scope) (g : Addr) (cdg : Value) (bg : List Stmt) (a : Str) (q : Str) (tb : V → Hp → VK → Prop) (sp : V → V → V → Hp → VK → Prop) : Prop :=
  ∀ (f c' : Addr) (s : Shared) (H : Hp) (Q : VK) (v0 v1 v2 : V), Room (k + 1) (X.A.deeper (envOfC x sg s.heap.objs.size g cdg)) →
    (∀ (e : Expr) (te : TE) (p1 p2 : Pos), (∀ env, starEach [e] env = [(false, eval e env)]) → PE (cxOf CX0 X.prog X.w X.K X.mg X.base Ng x sg g cdg X.A X.stack s H E0).nox e te →
      PE (cxOf CX0 X.prog X.w X.K X.mg X.base Ng x sg g cdg X.A X.stack s H E0).nox (.Call (.Name a p1) [e] [] p2) (fun σZ HZ Q => σZ[3]? = some (some (.ref f)) ∧ te σZ HZ fun v H1 => H1 c' = some (CodeO c' q) ∧ tb v H1 Q)) →
    H c' = some (CodeO c' q) → sp v0 v1 v2 H Q →
    ∃ t, PSs (cxOf CX0 X.prog X.w X.K X.mg X.base Ng x sg g cdg X.A X.stack s H E0).nox bg t ∧ t { nx := fun _ H' => Q .non H', rt := Q } (L2.start Ng [v0, v1, v2, .ref f]) H
def tLam1 (T : List (Addr × Str)) (sp : V → V → V → Hp → VK → Prop) (t0 t1 t2 : TE) : TE := fun σ H Q => t0 σ H fun v0 H0 => t1 σ H0 fun v1 H1 => t2 σ H1 fun v2 H2 => Tabs T H2 ∧ ∀ H3, ExtN H2 H3 → Tabs T H3 → sp v0 v1 v2 H3 Q
theorem pe_lam1 {T : List (Addr × Str)} {sp : V → V → V → Hp → VK → Prop} {x a y : Str} {a0 a1 a2 : Str} {g c P : Addr} {k : Nat} {pg : Arguments} {bg : List Stmt} {sg : Scope} {dV kV doc pm cdv ct oc : Value} {an od : Option Addr} {osl : Array (Option Value)} {Ng : List Str}
    {e0 e1 e2 : Expr} {t0 t1 t2 : TE} {ar : Arguments} {body : Expr} {sc : Scope} {tb : V → Hp → VK → Prop} {p lpos pos : Pos} (hg : Gl X x) (hm : X.mg x = some (.ref g)) (hk : PySem.W.keepIn X.K (.ref g) = true) (lk : X.K.lookup g = some ⟨oc, od, .func (PySem.W.fnOf x x pg bg sg dV kV doc pm an cdv ct), osl⟩)
    (hcg : PySem.W.codeIn X.K cdv x = true) (hb : L2.Binds X.K (PySem.W.fnOf x x pg bg sg dV kV doc pm an cdv ct) [a0, a1, a2, a] []) (Sg : FnScope Ng [a0, a1, a2, a] sg) (hNg : Ng[3]? = some a) (hva : Vis sg a) (hG : Gives1 X k Ng x sg g cdv bg a (X.env.qual ++ "<lambda>") tb sp)
    (TB : TabB X.base X.mg c P) (hcode : X.env.code = .ref c) (hmT : (P, X.env.qual ++ "<lambda>") ∈ T) (hu : ∀ p ∈ T, p.1 = P → p.2 = X.env.qual ++ "<lambda>") (hr : Room (k + 2) X.A) (L : Lam1 sc y) (hdef : defaultsOf ar X.env = ([], []))
    (hbind : ∀ (q : Str) (cl : List (Str × Addr)) (pm cv ctv u : Value), bindArgs (PySem.W.kla_fn "<lambda>" q ar body sc cl pm cv ctv) ⟨[u], []⟩ = pure [(y, u)])
    (he0 : PE X e0 t0) (he1 : PE X e1 t1) (he2 : PE X e2 t2) (hbody : ∀ (A : Around) (outer : List Env) (s : Shared) (H : Hp) (f c' : Addr), PE (lamCx1 X A outer s H sc f c' y) body (fun σ H Q => ∃ v, σ = [some v] ∧ tb v H Q))
    (hs : ∀ env, starEach [e0, e1, e2, .Lambda ar body sc lpos] env = [(false, eval e0 env), (false, eval e1 env), (false, eval e2 env), (false, eval (.Lambda ar body sc lpos) env)])
    (hs2 : ∀ env, starEach [e1, e2, .Lambda ar body sc lpos] env = [(false, eval e1 env), (false, eval e2 env), (false, eval (.Lambda ar body sc lpos) env)])
    (hdb : (x == ("__debug__" : Str)) = false := by decide) (hd : (a == ("__debug__" : Str)) = false := by decide) (hcd : (a == ("__classdict__" : Str)) = false := by decide) : PE X (.Call (.Name x p) [e0, e1, e2, .Lambda ar body sc lpos] [] pos) (tLam1 T sp t0 t1 t2) := by
  refine ⟨fun pins s σ H Q I h => wpAny_Call_Name_kw (ld_glob I hg hm ?_ hdb)⟩
  refine PySem.W.callWith_K (h₀ := X.base) I.ok.mod.kin hk ?_ (by rw [hs, hs2]) (by rw [hs2]; rfl)
  rw [hs]
  have nof : ∀ y ∈ sc.names, y.2 = .free → ∃ c, X.env.cells.lookup y.1 = some c := fun y hy e => absurd e (L.own y hy).2.1
  refine Calls.spliced_cons (thn (he0.run pins s σ H _ I h) fun u0 s0 ⟨v0, H0, I0, r0, h0⟩ => ?_)
  refine Calls.spliced_cons (thn (he1.run pins s0 σ H0 _ I0 h0) fun u1 s1 ⟨v1, H1, I1, r1, h1⟩ => ?_)
  refine Calls.spliced_cons (thn (he2.run pins s1 σ H1 _ I1 h1) fun u2 s2 ⟨v2, H2, I2, r2, hT, h2⟩ => ?_)
  refine Calls.spliced_cons (lam_make2 I2 TB hcode hmT hu hT hdef nof fun f c' pm' ctv H3 s' I3 eN T3 hf hfn hfr hco => Calls.spliced_nil ⟨I3.kIn, ?_⟩)
  have rc : codeAny (model X.prog X.w) X.A (.call (.ref g) ⟨[u0, u1, u2, .ref f], []⟩) (CR CX0 X.stack X.prog X.w H3 s' Q E0) s' := by
    refine run_ofS (N := Ng) (ps := [a0, a1, a2, a]) (us := [u0, u1, u2, .ref f]) (vs := [v0, v1, v2, .ref f]) lk hcg Sg hr I3.env0 (hb s' [u0, u1, u2, .ref f] I3.kIn rfl) (.cons r0 (.cons r1 (.cons r2 (.cons rfl .nil)))) rfl fun hr' => ?_
    obtain ⟨t', ht', hq'⟩ := hG f c' s' H3 Q v0 v1 v2 hr' (fun e te p1 p2 hs he => pe_act1 (i := 3) L hf hfn hfr (hbind _ _ _ _ _) hr' (fun A outer s H => hbody A outer s H f c') hNg hva he hd hcd hs) hco (h2 H3 eN T3)
    exact ⟨t', ht'.nox, hq'⟩
  refine wpAny_call (codeAny_mono rc fun r s2 hq => ?_)
  rcases r with e | fl
  · exact (show False from hq).elim
  · cases fl with
    | ret u => exact I3.after hq
    | next => exact False.elim hq
    | brk => exact False.elim hq
    | cont => exact False.elim hq
end
end Onp
set_option maxHeartbeats 4000000
set_option autoImplicit false
namespace Onp
open PySem PySem.Spec PyProof.Rows L2 HotX L2H LamX
/-! ### a refusal with the field most -/
def mostL (wd : Str) (v : V) : List (Str × V) := [("most", v), ("word", .str wd)]
def spMost (C : Addr) (wd : Str) : Sp := fun vs H Q _ => ∃ a v, vs = [.ref a, v] ∧ H a = some (exo a C none) ∧ ∀ dx, H dx = none → dx ≠ a → Q .non (upd (upd H dx (exd dx (mostL wd v))) a (exo a C (some dx)))
theorem upd_swap {H : Hp} {a d : Addr} {o1 o2 o3 : HO} (n : d ≠ a) : upd (upd (upd H d o1) a o2) d o3 = upd (upd H d o3) a o2 := by
  funext b
  by_cases e1 : b = d
  · rw [e1, upd_same, upd_ne n, upd_same]
  · rw [upd_ne e1]
    by_cases e2 : b = a
    · rw [e2, upd_same, upd_same]
    · rw [upd_ne e2, upd_ne e1, upd_ne e2, upd_ne e1]
/-- what is raised: a class, its fields -/
def refuse (C : Addr) (fs : List (Str × V)) (H : Hp) (E : XK) : Prop := ∀ d, H d = none → E (.ref C) (some d) (upd H d (.xd fs))
def tRaiseM (C : Addr) (wd : Str) (te : TE) : L2.St → Hp → XK → Prop := fun σ H Q => te σ H fun v H1 => refuse C (mostL wd v) H1 Q
theorem pmk_most {X : Cx} {x wd : Str} {C fI : Addr} {k : Nat} {fd : FuncData} {e : Expr} {te : TE} {p pos : Pos} (T : OexC X.K C) (iC : PySem.W.findIn X.K (.ref C) "__init__" = some (some (.ref fI))) (tI : PySem.W.typeIn X.K (.ref fI) = some (.type "function"))
    (F1 : FnOk X.prog X.w X.K X.mg X.base CX0 k fI fd ["self", "most"] (spMost C wd)) (hr : Room (k + 1) X.A) (hb : Binds X.K fd ["self", "most"] []) (hg : Gl X x) (hm : X.mg x = some (.ref C)) (he : PE X e te) (hs : starEach [e] X.env = [(false, eval e X.env)] := by rfl) (hdb : (x == ("__debug__" : Str)) = false := by decide) :
    L2N.PMk X (.Call (.Name x p) [e] [] pos) (tRaiseM C wd te) := by
  intro pins s σ H Q I h
  refine wpAny_Call_Name_kw (ld_glob I hg hm ?_ hdb)
  refine PySem.W.callWith_K (h₀ := X.base) I.ok.mod.kin T.kC ?_ (by rw [hs]; rfl) (by rfl)
  rw [hs]
  refine Calls.spliced_cons (thn (he.run pins s σ H _ I h) fun u s1 ⟨v, H1, I1, r1, h1⟩ => Calls.spliced_nil ⟨I1.kIn, ?_⟩)
  refine mkRunN T iC tI F1 hr hb I1 (.cons r1 .nil) (by decide : 1 ≤ 1000) fun a ha => ⟨a, v, rfl, upd_same, fun dx ndx ne => ⟨rfl, dx, mostL wd v, upd_same, ?_, ?_, ?_⟩⟩
  · rw [upd_ne ne, upd_same]
  · rw [upd_ne ne] at ndx
    exact ndx
  · rw [upd_ne ne] at ndx
    rw [made_heap ha ndx ne]
    exact h1 dx ndx
end Onp
set_option maxHeartbeats 8000000
set_option autoImplicit false
namespace Onp
open PySem PySem.Spec PyProof.Rows L2
abbrev sSame : Stmt := topS 47
/-! ### data -/
def Lvl : Nat → PyData → Prop
  | _, .none => True
  | _, .bool _ => True
  | _, .int _ => True
  | _, .str _ => True
  | n + 1, .list ds => ds.length ≤ 1000 ∧ ∀ d ∈ ds, Lvl n d
  | n + 1, .tuple ds => ds.length ≤ 1000 ∧ ∀ d ∈ ds, Lvl n d
  | _, _ => False
mutual
theorem dpSame {K : PySem.W.Frag} {H H' : Hp} (e : Same H H') : ∀ {v : V} {d : PyData}, Dp K H v d → Dp K H' v d
  | _, _, .non => .non
  | _, _, .bl b => .bl b
  | _, _, .int i => .int i
  | _, _, .str x => .str x
  | _, _, .lst h a => .lst (e.seq h) (dpAllSame e a)
  | _, _, .tup h a => .tup (same_seqT e h) (dpAllSame e a)
theorem dpAllSame {K : PySem.W.Frag} {H H' : Hp} (e : Same H H') : ∀ {vs : List V} {ds : List PyData}, DpAll K H vs ds → DpAll K H' vs ds
  | _, _, .nil => .nil
  | _, _, .cons a b => .cons (dpSame e a) (dpAllSame e b)
end
theorem dpLen {K : PySem.W.Frag} {H : Hp} : ∀ {vs : List V} {ds : List PyData}, DpAll K H vs ds → vs.length = ds.length
  | _, _, .nil => rfl
  | _, _, .cons _ b => by rw [List.length_cons, List.length_cons, dpLen b]
theorem dpAt {K : PySem.W.Frag} {H : Hp} : ∀ {vs : List V} {ds : List PyData} {i : Nat} {v : V}, DpAll K H vs ds → vs[i]? = some v → ∃ d, ds[i]? = some d ∧ Dp K H v d
  | _, _, _, _, .nil, h => by simp at h
  | _, _, 0, _, .cons a _, h => by simp at h; subst h; exact ⟨_, rfl, a⟩
  | _, _, i + 1, _, .cons _ b, h => by
    obtain ⟨d, h1, h2⟩ := dpAt (i := i) b (by simpa using h)
    exact ⟨d, by simpa using h1, h2⟩
theorem tyL {K : PySem.W.Frag} {H : Hp} {a : Addr} {xs : List V} (h : SqL K H a xs) : TyX K H (.ref a) (.type "list") := by
  rcases h with (h | ⟨o, h⟩) | ⟨o, its, n, h, c, _⟩
  · exact .base (.lst h)
  · exact .base (.frz h)
  · exact .kList h c
theorem tyT {K : PySem.W.Frag} {H : Hp} {a : Addr} {xs : List V} (h : SqT K H a xs) : TyX K H (.ref a) (.type "tuple") := by
  rcases h with (h | ⟨o, h⟩) | ⟨o, its, n, h, c, _⟩
  · exact .base (.tup h)
  · exact .fTuple h
  · exact .kTuple h c
theorem kitAny2 {K : PySem.W.Frag} {t c1 c2 : Value} {b1 b2 : Bool} (h1 : PySem.W.kitOne K t c1 = some b1) (h2 : PySem.W.kitOne K t c2 = some b2) : PySem.W.kitAny K t [c1, c2] = some (b1 || b2) := by
  unfold PySem.W.kitAny
  rw [h1]
  cases b1 with
  | true => rfl
  | false =>
    show PySem.W.kitAny K t [c2] = _
    unfold PySem.W.kitAny
    rw [h2]
    cases b2 <;> rfl
theorem qT {Q : VK} {H : Hp} {c : Prop} [Decidable c] (hc : c) (h : Q (.bl true) H) : Q (.bl (decide c)) H := by
  rw [decide_eq_true hc]
  exact h
theorem qB {Q : VK} {H : Hp} {b : Bool} (hb : b = true) (h : Q (.bl true) H) : Q (.bl b) H := by
  rw [hb]
  exact h
theorem pe_no {X : Cx} {e : Expr} : PE X e (fun _ _ _ => False) := ⟨fun _ _ _ _ _ _ h => h.elim⟩
/-! ### a comprehension over zip of two of one length -/
def ItzG (S : Hp → Addr → List V → Prop) (a b : Addr) : It :=
  ⟨fun i H => ∃ (xs ys : List V) (x y : V), S H a xs ∧ S H b ys ∧ xs[i]? = some x ∧ ys[i]? = some y,
    fun i H v H' => ∃ T x y, v = .ref T ∧ H T = none ∧ H' = upd H T (.tup [x, y]) ∧ (∀ xs, S H a xs → xs[i]? = some x) ∧ ∀ ys, S H b ys → ys[i]? = some y,
    fun i H => ∃ xs ys : List V, S H a xs ∧ S H b ys ∧ (xs.length ≤ i ∨ ys.length ≤ i)⟩
theorem lc_zipG {S : Hp → Addr → List V → Prop} {a b : Addr} {xs ys : List V} {g : TG} {tt : TT} {te : TE} {vs : List Nat} {σ : L2.St} {H1 : Hp} {D : Addr} {Qd : Hp → Prop} (hl : xs.length = ys.length) (Pv : Nat → Hp → Prop) (h0 : Pv 0 (upd H1 D (.lst []))) (hq : ∀ i H, Pv i H → S H a xs ∧ S H b ys)
    (hs : ∀ i x y T H, xs[i]? = some x → ys[i]? = some y → Pv i H → H T = none → g (.ref T) (wipe σ vs) (upd H T (.tup [x, y])) fun σ2 H2 => wipe σ2 vs = wipe σ vs ∧ tt σ2 H2 fun b H3 =>
      if b = true then te σ2 H3 fun y H4 => ∃ acc, H4 D = some (.lst acc) ∧ acc.length < sizeLine ∧ Pv (i + 1) (upd H4 D (.lst (acc ++ [y]))) else Pv (i + 1) H3) (hd : ∀ H, Pv xs.length H → Qd H) :
    ∃ W : Nat → Nat → Hp → Prop, (∃ m, W 0 m (upd H1 D (.lst []))) ∧ ∀ i m H, W i m H → ((ItzG S a b).stop i H ∧ Qd H) ∨ ((ItzG S a b).go i H ∧ ∃ Nx : Hp → Prop, (∀ H', Nx H' → ∃ m', m' < m ∧ W (i + 1) m' H') ∧
      ∀ x H', (ItzG S a b).yld i H x H' → g x (wipe σ vs) H' fun σ2 H2 => wipe σ2 vs = wipe σ vs ∧ tt σ2 H2 fun b H3 => if b = true then te σ2 H3 fun y H4 => ∃ acc, H4 D = some (.lst acc) ∧ acc.length < sizeLine ∧ Nx (upd H4 D (.lst (acc ++ [y]))) else Nx H3) := by
  refine ⟨fun i m H => m = xs.length - i ∧ i ≤ xs.length ∧ Pv i H, ⟨xs.length, by simp, Nat.zero_le _, h0⟩, fun i m H ⟨em, hi, p⟩ => ?_⟩
  obtain ⟨qa, qb⟩ := hq i H p
  by_cases lt : i < xs.length
  · have lt2 : i < ys.length := by omega
    refine .inr ⟨⟨xs, ys, xs[i], ys[i], qa, qb, List.getElem?_eq_getElem lt, List.getElem?_eq_getElem lt2⟩, Pv (i + 1), fun H' p' => ⟨xs.length - (i + 1), by omega, rfl, lt, p'⟩, fun x H' hy => ?_⟩
    obtain ⟨T, x1, x2, rfl, nT, rfl, e1, e2⟩ := hy
    exact hs i x1 x2 T H (e1 _ qa) (e2 _ qb) p nT
  · have e : i = xs.length := by omega
    subst e
    exact .inl ⟨⟨xs, ys, qa, qb, .inl (Nat.le_refl _)⟩, hd H p⟩
def NS : List Str := ["_law_found", "_law_due", "_law_a", "_law_b"]
theorem scSame : FnScope NS ["_law_found", "_law_due"] (defScope sSame) := ⟨rfl, rfl, rfl, by decide +kernel, rfl, by decide +kernel, by decide +kernel⟩
def spSame (K : PySem.W.Frag) (n : Nat) : Sp := fun vs H Q _ => ∃ (x y : V) (d : PyData), vs = [x, y] ∧ Dp K H x d ∧ Dp K H y d ∧ Lvl n d ∧ ∀ H', Same H H' → Q (.bl true) H'
structure Blt (mg : Str → Option Value) : Prop where
  isi : mg "isinstance" = none
  list : mg "list" = none
  tuple : mg "tuple" = none
  bool : mg "bool" = none
  int : mg "int" = none
  str : mg "str" = none
  len : mg "len" = none
  all : mg "all" = none
  zip : mg "zip" = none
section
variable {P : Program} {w : World} {K : PySem.W.Frag} {mg : Str → Option Value} {base : Heap}
theorem ok_same {f : Addr} {fd : FuncData} (F : Fun K "_law_same" "_law_same" sSame f fd) (bS : Binds K fd ["_law_found", "_law_due"] []) (gS : mg "_law_same" = some (.ref f)) (B : Blt mg) : ∀ (n k : Nat), FnOk P w K mg base CX0 (k + n + 1) f fd ["_law_found", "_law_due"] (spSame K n) := by
  intro n
  induction n with
  | zero =>
    intro k
    refine F.ok scSame (fun vs H Q E h => ?_) (fun cdv A outer s H vs Q E hr h => ?_)
    · obtain ⟨x, y, d, rfl, _⟩ := h
      rfl
    · obtain ⟨x, y, d, rfl, hx, hy, hl, q⟩ := h
      refine ⟨_, pss_cons (ps_if (pt_val (pe_callB call_isiT (by rfl) B.isi (by decide +kernel) (pa_cons (pv 1) (pa_cons (pe_tup (pa_cons (pe_bltn (v := .ty "list") (by rfl) B.list (by decide +kernel) rfl) (pa_cons (pe_bltn (v := .ty "tuple") (by rfl) B.tuple (by decide +kernel) rfl) pa_nil))) pa_nil)))) pss_never pss_nil)
      (pss_cons (ps_if (PW.pt (pw_or (pt_cmp (pc_isN (pv 1))) (pw_or1 (pt_cmp (pc_isN (pv 0)))))) (pss_one (ps_ret (pe_and (pe_cmp (pc_isN (pv 0)) rfl) (pe_one (pe_cmp (pc_isN (pv 1)) rfl))))) pss_nil)
      (pss_cons (ps_if (PW.pt (pw_or (pt_cmpR op_ne (pe_callB call_isi (by rfl) B.isi (by decide +kernel) (pa_cons (pv 0) (pa_cons (pe_bltn (v := .ty "bool") (by rfl) B.bool (by decide +kernel) rfl) pa_nil))) (pe_callB call_isi (by rfl) B.isi (by decide +kernel) (pa_cons (pv 1) (pa_cons (pe_bltn (v := .ty "bool") (by rfl) B.bool (by decide +kernel) rfl) pa_nil))) (nomark _)) (pw_or1 (pt_cmpR op_ne (pe_callB call_isi (by rfl) B.isi (by decide +kernel) (pa_cons (pv 0) (pa_cons (pe_bltn (v := .ty "int") (by rfl) B.int (by decide +kernel) rfl) pa_nil))) (pe_callB call_isi (by rfl) B.isi (by decide +kernel) (pa_cons (pv 1) (pa_cons (pe_bltn (v := .ty "int") (by rfl) B.int (by decide +kernel) rfl) pa_nil))) (nomark _))))) pss_never pss_nil)
      (pss_one (ps_ret (pe_and (pe_cmpR op_eq (pe_callB call_isi (by rfl) B.isi (by decide +kernel) (pa_cons (pv 0) (pa_cons (pe_bltn (v := .ty "str") (by rfl) B.str (by decide +kernel) rfl) pa_nil))) (pe_callB call_isi (by rfl) B.isi (by decide +kernel) (pa_cons (pv 1) (pa_cons (pe_bltn (v := .ty "str") (by rfl) B.str (by decide +kernel) rfl) pa_nil))) (nomark _)) (pe_one (pe_cmpR op_eq (pv 0) (pv 1) (nomark _)))))))), ?_⟩
      cases hx with
      | lst h a => exact hl.elim
      | tup h a => exact hl.elim
      | non =>
        cases hy
        refine ⟨_, rfl, (by decide : 2 ≤ sizeLine), fun tp ntp => ?_⟩
        have s1 := same_upd (o := .tup [.ty "list", .ty "tuple"]) ntp
        refine ⟨.non, tp, _, _, _, _, rfl, upd_same, .cons (.ty _) (.cons (.ty _) .nil), .base .non, kitAny2 (b1 := false) (b2 := false) (kit_ty (by decide +kernel)) (kit_ty (by decide +kernel)), _, rfl, iteF ?_⟩
        refine ⟨_, rfl, _, rfl, itT rfl (iteT ?_)⟩
        refine ⟨_, rfl, _, rfl, itT rfl ⟨_, rfl, ?_⟩⟩
        exact qT (Q := Q) rfl (q _ s1)
      | bl b =>
        cases hy
        refine ⟨_, rfl, (by decide : 2 ≤ sizeLine), fun tp ntp => ?_⟩
        have s1 := same_upd (o := .tup [.ty "list", .ty "tuple"]) ntp
        refine ⟨(.bl b), tp, _, _, _, _, rfl, upd_same, .cons (.ty _) (.cons (.ty _) .nil), .base (.bl _), kitAny2 (b1 := false) (b2 := false) (kit_ty (by decide +kernel)) (kit_ty (by decide +kernel)), _, rfl, iteF ?_⟩
        refine ⟨_, rfl, _, rfl, itF (fun h => nomatch h) ⟨_, rfl, _, rfl, itF (fun h => nomatch h) ?_⟩⟩
        refine ⟨_, rfl, (.bl b), .ty "bool", .type "bool", .type "bool", true, rfl, .ty _, .base (.bl _), kit_ty (by decide +kernel), _, rfl, (.bl b), .ty "bool", .type "bool", .type "bool", true, rfl, .ty _, .base (.bl _), kit_ty (by decide +kernel), rfl, _, rfl, iteNS rfl ⟨_, rfl, (.bl b), .ty "int", .type "bool", .type "int", true, rfl, .ty _, .base (.bl _), kit_ty (by decide +kernel), _, rfl, (.bl b), .ty "int", .type "bool", .type "int", true, rfl, .ty _, .base (.bl _), kit_ty (by decide +kernel), rfl, _, rfl, iteNS rfl ?_⟩⟩
        refine ⟨_, rfl, (.bl b), .ty "str", .type "bool", .type "str", false, rfl, .ty _, .base (.bl _), kit_ty (by decide +kernel), _, rfl, (.bl b), .ty "str", .type "bool", .type "str", false, rfl, .ty _, .base (.bl _), kit_ty (by decide +kernel), rfl, _, rfl, itT rfl ⟨_, rfl, _, rfl, rfl, ?_⟩⟩
        exact qT (Q := Q) rfl (q _ s1)
      | int i =>
        cases hy
        refine ⟨_, rfl, (by decide : 2 ≤ sizeLine), fun tp ntp => ?_⟩
        have s1 := same_upd (o := .tup [.ty "list", .ty "tuple"]) ntp
        refine ⟨(.int i), tp, _, _, _, _, rfl, upd_same, .cons (.ty _) (.cons (.ty _) .nil), .base (.int _), kitAny2 (b1 := false) (b2 := false) (kit_ty (by decide +kernel)) (kit_ty (by decide +kernel)), _, rfl, iteF ?_⟩
        refine ⟨_, rfl, _, rfl, itF (fun h => nomatch h) ⟨_, rfl, _, rfl, itF (fun h => nomatch h) ?_⟩⟩
        refine ⟨_, rfl, (.int i), .ty "bool", .type "int", .type "bool", false, rfl, .ty _, .base (.int _), kit_ty (by decide +kernel), _, rfl, (.int i), .ty "bool", .type "int", .type "bool", false, rfl, .ty _, .base (.int _), kit_ty (by decide +kernel), rfl, _, rfl, iteNS rfl ⟨_, rfl, (.int i), .ty "int", .type "int", .type "int", true, rfl, .ty _, .base (.int _), kit_ty (by decide +kernel), _, rfl, (.int i), .ty "int", .type "int", .type "int", true, rfl, .ty _, .base (.int _), kit_ty (by decide +kernel), rfl, _, rfl, iteNS rfl ?_⟩⟩
        refine ⟨_, rfl, (.int i), .ty "str", .type "int", .type "str", false, rfl, .ty _, .base (.int _), kit_ty (by decide +kernel), _, rfl, (.int i), .ty "str", .type "int", .type "str", false, rfl, .ty _, .base (.int _), kit_ty (by decide +kernel), rfl, _, rfl, itT rfl ⟨_, rfl, _, rfl, rfl, ?_⟩⟩
        exact qT (Q := Q) rfl (q _ s1)
      | str z =>
        cases hy
        refine ⟨_, rfl, (by decide : 2 ≤ sizeLine), fun tp ntp => ?_⟩
        have s1 := same_upd (o := .tup [.ty "list", .ty "tuple"]) ntp
        refine ⟨(.str z), tp, _, _, _, _, rfl, upd_same, .cons (.ty _) (.cons (.ty _) .nil), .base (.str _), kitAny2 (b1 := false) (b2 := false) (kit_ty (by decide +kernel)) (kit_ty (by decide +kernel)), _, rfl, iteF ?_⟩
        refine ⟨_, rfl, _, rfl, itF (fun h => nomatch h) ⟨_, rfl, _, rfl, itF (fun h => nomatch h) ?_⟩⟩
        refine ⟨_, rfl, (.str z), .ty "bool", .type "str", .type "bool", false, rfl, .ty _, .base (.str _), kit_ty (by decide +kernel), _, rfl, (.str z), .ty "bool", .type "str", .type "bool", false, rfl, .ty _, .base (.str _), kit_ty (by decide +kernel), rfl, _, rfl, iteNS rfl ⟨_, rfl, (.str z), .ty "int", .type "str", .type "int", false, rfl, .ty _, .base (.str _), kit_ty (by decide +kernel), _, rfl, (.str z), .ty "int", .type "str", .type "int", false, rfl, .ty _, .base (.str _), kit_ty (by decide +kernel), rfl, _, rfl, iteNS rfl ?_⟩⟩
        refine ⟨_, rfl, (.str z), .ty "str", .type "str", .type "str", true, rfl, .ty _, .base (.str _), kit_ty (by decide +kernel), _, rfl, (.str z), .ty "str", .type "str", .type "str", true, rfl, .ty _, .base (.str _), kit_ty (by decide +kernel), rfl, _, rfl, itT rfl ⟨_, rfl, _, rfl, rfl, ?_⟩⟩
        exact qT (Q := Q) rfl (q _ s1)
  | succ n ih =>
    intro k
    have G : FnOk P w K mg base CX0 (k + n + 1) f fd ["_law_found", "_law_due"] (spSame K n) := ih k
    refine F.ok scSame (fun vs H Q E h => ?_) (fun cdv A outer s H vs Q E hr h => ?_)
    · obtain ⟨x, y, d, rfl, _⟩ := h
      rfl
    · obtain ⟨x, y, d, rfl, hx, hy, hl, q⟩ := h
      refine ⟨_, pss_cons (ps_if (pt_val (pe_callB call_isiT (by rfl) B.isi (by decide +kernel) (pa_cons (pv 1) (pa_cons (pe_tup (pa_cons (pe_bltn (v := .ty "list") (by rfl) B.list (by decide +kernel) rfl) (pa_cons (pe_bltn (v := .ty "tuple") (by rfl) B.tuple (by decide +kernel) rfl) pa_nil))) pa_nil))))
          (pss_cons (ps_if (PW.pt (pw_or (pt_cmpR op_ne (pe_callB call_isi (by rfl) B.isi (by decide +kernel) (pa_cons (pv 0) (pa_cons (pe_bltn (v := .ty "list") (by rfl) B.list (by decide +kernel) rfl) pa_nil))) (pe_callB call_isi (by rfl) B.isi (by decide +kernel) (pa_cons (pv 1) (pa_cons (pe_bltn (v := .ty "list") (by rfl) B.list (by decide +kernel) rfl) pa_nil))) (nomark _)) (pw_or1 (pt_cmpR op_ne (pe_callB call_isi (by rfl) B.isi (by decide +kernel) (pa_cons (pv 0) (pa_cons (pe_bltn (v := .ty "tuple") (by rfl) B.tuple (by decide +kernel) rfl) pa_nil))) (pe_callB call_isi (by rfl) B.isi (by decide +kernel) (pa_cons (pv 1) (pa_cons (pe_bltn (v := .ty "tuple") (by rfl) B.tuple (by decide +kernel) rfl) pa_nil))) (nomark _))))) pss_never pss_nil)
          (pss_one (ps_ret (pe_and (pe_cmpR op_eq (pe_callB call_len_seq (by rfl) B.len PySem.boot_len (pa_cons (pv 0) pa_nil)) (pe_callB call_len_seq (by rfl) B.len PySem.boot_len (pa_cons (pv 1) pa_nil)) (nomark _))
            (pe_one (pe_callB (cr_all rfl) (by rfl) B.all (by decide +kernel) (pa_cons (pe_lc (own := [("_law_a", 2), ("_law_b", 3)]) (g := gTup K 2 (gCons (gName 2) (gCons (gName 3) gNil))) (tt := tYes) rfl scSame.nd
              (RZ.pi_zipA (by rfl) B.zip (pa_cons (pv 0) (pa_cons (pv 1) pa_nil))) (blkOk_by (own := [("_law_a", 2), ("_law_b", 3)]) (N := NS) (sc := defScope sSame) (by decide +kernel))
              (fun _ _ _ _ _ => pg_tup (n := 2) rfl (pgs_cons (pg_name (i := 2) scSame.nd rfl (.inl rfl) (.inr rfl)) (pgs_cons (pg_name (i := 3) scSame.nd rfl (.inl rfl) (.inr rfl)) pgs_nil))) (fun _ _ _ _ _ => pts_nil)
              (fun _ _ _ _ _ => pe_call G hr (by rfl) gS F.kp bS .nil pass0 (pa_cons (pv 2) (pa_cons (pv 3) pa_nil)))) pa_nil))))))) pss_nil)
      (pss_cons (ps_if (PW.pt (pw_or (pt_cmp (pc_isN (pv 1))) (pw_or1 (pt_cmp (pc_isN (pv 0)))))) (pss_one (ps_ret (pe_and (pe_cmp (pc_isN (pv 0)) rfl) (pe_one (pe_cmp (pc_isN (pv 1)) rfl))))) pss_nil)
      (pss_cons (ps_if (PW.pt (pw_or (pt_cmpR op_ne (pe_callB call_isi (by rfl) B.isi (by decide +kernel) (pa_cons (pv 0) (pa_cons (pe_bltn (v := .ty "bool") (by rfl) B.bool (by decide +kernel) rfl) pa_nil))) (pe_callB call_isi (by rfl) B.isi (by decide +kernel) (pa_cons (pv 1) (pa_cons (pe_bltn (v := .ty "bool") (by rfl) B.bool (by decide +kernel) rfl) pa_nil))) (nomark _)) (pw_or1 (pt_cmpR op_ne (pe_callB call_isi (by rfl) B.isi (by decide +kernel) (pa_cons (pv 0) (pa_cons (pe_bltn (v := .ty "int") (by rfl) B.int (by decide +kernel) rfl) pa_nil))) (pe_callB call_isi (by rfl) B.isi (by decide +kernel) (pa_cons (pv 1) (pa_cons (pe_bltn (v := .ty "int") (by rfl) B.int (by decide +kernel) rfl) pa_nil))) (nomark _))))) pss_never pss_nil)
      (pss_one (ps_ret (pe_and (pe_cmpR op_eq (pe_callB call_isi (by rfl) B.isi (by decide +kernel) (pa_cons (pv 0) (pa_cons (pe_bltn (v := .ty "str") (by rfl) B.str (by decide +kernel) rfl) pa_nil))) (pe_callB call_isi (by rfl) B.isi (by decide +kernel) (pa_cons (pv 1) (pa_cons (pe_bltn (v := .ty "str") (by rfl) B.str (by decide +kernel) rfl) pa_nil))) (nomark _)) (pe_one (pe_cmpR op_eq (pv 0) (pv 1) (nomark _)))))))), ?_⟩
      cases hx with
      | @lst pa xs ds h a =>
        cases hy with
        | @lst pb ys _ h2 a2 =>
          refine ⟨_, rfl, (by decide : 2 ≤ sizeLine), fun tp ntp => ?_⟩
          have s1 := same_upd (o := .tup [.ty "list", .ty "tuple"]) ntp
          refine ⟨(.ref pb), tp, _, _, _, _, rfl, upd_same, .cons (.ty _) (.cons (.ty _) .nil), tyL (s1.seq h2), kitAny2 (b1 := true) (b2 := false) (kit_ty (by decide +kernel)) (kit_ty (by decide +kernel)), _, rfl, iteT ?_⟩
          refine ⟨_, rfl, .ref pa, .ty "list", .type "list", .type "list", true, rfl, .ty _, tyL (s1.seq h), kit_ty (by decide +kernel), _, rfl, .ref pb, .ty "list", .type "list", .type "list", true, rfl, .ty _, tyL (s1.seq h2), kit_ty (by decide +kernel), rfl, _, rfl, iteNS rfl ⟨_, rfl, .ref pa, .ty "tuple", .type "list", .type "tuple", false, rfl, .ty _, tyL (s1.seq h), kit_ty (by decide +kernel), _, rfl, .ref pb, .ty "tuple", .type "list", .type "tuple", false, rfl, .ty _, tyL (s1.seq h2), kit_ty (by decide +kernel), rfl, _, rfl, iteNS rfl ?_⟩⟩
          have lx := dpLen a
          have ly := dpLen a2
          have hlz : ds.length ≤ 1000 := hl.1
          have eI : V.int ((xs.length : Nat) : Int) = V.int ((ys.length : Nat) : Int) := by rw [lx, ly]
          refine ⟨_, rfl, pa, xs, rfl, .inl (s1.seq h), _, rfl, pb, ys, rfl, .inl (s1.seq h2), rfl, _, rfl, itT eI ?_⟩
          refine ⟨_, rfl, _, rfl, pa, pb, xs, ys, rfl, .inl ⟨(s1.seq h), (s1.seq h2), fun D nD => ?_⟩⟩
          refine lc_zipG (S := SqL K) (xs := xs) (ys := ys) (by omega) (fun i H' => Same H H' ∧ H D = none ∧ H' D = some (.lst (List.replicate i (.bl true)))) ⟨s1.trans (same_upd nD), s1.free nD, upd_same⟩ (fun i H' ⟨sm, _, _⟩ => ⟨(sm.seq h), (sm.seq h2)⟩) ?_ ?_
          · rintro i x y t Hx hx hy ⟨sm, fD, hD⟩ nt
            obtain ⟨d, hd, dx⟩ := dpAt a hx
            obtain ⟨d', hd', dy⟩ := dpAt a2 hy
            rw [hd] at hd'
            cases hd'
            have st : Same Hx (upd Hx t (.tup [x, y])) := same_upd nt
            refine ⟨t, _, rfl, SqT.of upd_same, rfl, _, _, rfl, _, _, rfl, rfl, rfl, ?_⟩
            unfold tYes
            dsimp only
            rw [if_pos rfl]
            refine ⟨_, rfl, _, rfl, x, y, d, rfl, dpSame (sm.trans st) dx, dpSame (sm.trans st) dy, hl.2 d (List.mem_of_getElem? hd), fun H4 s4 => ?_⟩
            have lt : i < xs.length := (List.getElem?_eq_some_iff.mp hx).1
            refine ⟨_, s4 _ _ (st _ _ hD), by rw [List.length_replicate]; exact small1000 (by omega), fun b o e => ?_, fD, ?_⟩
            · rw [upd_ne (ne_of_none e fD)]
              exact s4 _ _ (st _ _ (sm _ _ e))
            · rw [upd_same, List.replicate_succ']
          · rintro Hx ⟨sm, fD, hD⟩
            refine ⟨D, List.replicate xs.length true, rfl, SqL.of (by rw [hD, List.map_replicate]), ?_⟩
            have ea : (List.replicate xs.length true).all id = true := List.all_eq_true.mpr fun b hb => by rw [(List.mem_replicate.mp hb).2]; rfl
            exact qB (Q := Q) ea (q _ sm)
      | @tup pa xs ds h a =>
        cases hy with
        | @tup pb ys _ h2 a2 =>
          refine ⟨_, rfl, (by decide : 2 ≤ sizeLine), fun tp ntp => ?_⟩
          have s1 := same_upd (o := .tup [.ty "list", .ty "tuple"]) ntp
          refine ⟨(.ref pb), tp, _, _, _, _, rfl, upd_same, .cons (.ty _) (.cons (.ty _) .nil), tyT (same_seqT s1 h2), kitAny2 (b1 := false) (b2 := true) (kit_ty (by decide +kernel)) (kit_ty (by decide +kernel)), _, rfl, iteT ?_⟩
          refine ⟨_, rfl, .ref pa, .ty "list", .type "tuple", .type "list", false, rfl, .ty _, tyT (same_seqT s1 h), kit_ty (by decide +kernel), _, rfl, .ref pb, .ty "list", .type "tuple", .type "list", false, rfl, .ty _, tyT (same_seqT s1 h2), kit_ty (by decide +kernel), rfl, _, rfl, iteNS rfl ⟨_, rfl, .ref pa, .ty "tuple", .type "tuple", .type "tuple", true, rfl, .ty _, tyT (same_seqT s1 h), kit_ty (by decide +kernel), _, rfl, .ref pb, .ty "tuple", .type "tuple", .type "tuple", true, rfl, .ty _, tyT (same_seqT s1 h2), kit_ty (by decide +kernel), rfl, _, rfl, iteNS rfl ?_⟩⟩
          have lx := dpLen a
          have ly := dpLen a2
          have hlz : ds.length ≤ 1000 := hl.1
          have eI : V.int ((xs.length : Nat) : Int) = V.int ((ys.length : Nat) : Int) := by rw [lx, ly]
          refine ⟨_, rfl, pa, xs, rfl, .inr (same_seqT s1 h), _, rfl, pb, ys, rfl, .inr (same_seqT s1 h2), rfl, _, rfl, itT eI ?_⟩
          refine ⟨_, rfl, _, rfl, pa, pb, xs, ys, rfl, .inr ⟨(same_seqT s1 h), (same_seqT s1 h2), fun D nD => ?_⟩⟩
          refine lc_zipG (S := SqT K) (xs := xs) (ys := ys) (by omega) (fun i H' => Same H H' ∧ H D = none ∧ H' D = some (.lst (List.replicate i (.bl true)))) ⟨s1.trans (same_upd nD), s1.free nD, upd_same⟩ (fun i H' ⟨sm, _, _⟩ => ⟨(same_seqT sm h), (same_seqT sm h2)⟩) ?_ ?_
          · rintro i x y t Hx hx hy ⟨sm, fD, hD⟩ nt
            obtain ⟨d, hd, dx⟩ := dpAt a hx
            obtain ⟨d', hd', dy⟩ := dpAt a2 hy
            rw [hd] at hd'
            cases hd'
            have st : Same Hx (upd Hx t (.tup [x, y])) := same_upd nt
            refine ⟨t, _, rfl, SqT.of upd_same, rfl, _, _, rfl, _, _, rfl, rfl, rfl, ?_⟩
            unfold tYes
            dsimp only
            rw [if_pos rfl]
            refine ⟨_, rfl, _, rfl, x, y, d, rfl, dpSame (sm.trans st) dx, dpSame (sm.trans st) dy, hl.2 d (List.mem_of_getElem? hd), fun H4 s4 => ?_⟩
            have lt : i < xs.length := (List.getElem?_eq_some_iff.mp hx).1
            refine ⟨_, s4 _ _ (st _ _ hD), by rw [List.length_replicate]; exact small1000 (by omega), fun b o e => ?_, fD, ?_⟩
            · rw [upd_ne (ne_of_none e fD)]
              exact s4 _ _ (st _ _ (sm _ _ e))
            · rw [upd_same, List.replicate_succ']
          · rintro Hx ⟨sm, fD, hD⟩
            refine ⟨D, List.replicate xs.length true, rfl, SqL.of (by rw [hD, List.map_replicate]), ?_⟩
            have ea : (List.replicate xs.length true).all id = true := List.all_eq_true.mpr fun b hb => by rw [(List.mem_replicate.mp hb).2]; rfl
            exact qB (Q := Q) ea (q _ sm)
      | non =>
        cases hy
        refine ⟨_, rfl, (by decide : 2 ≤ sizeLine), fun tp ntp => ?_⟩
        have s1 := same_upd (o := .tup [.ty "list", .ty "tuple"]) ntp
        refine ⟨.non, tp, _, _, _, _, rfl, upd_same, .cons (.ty _) (.cons (.ty _) .nil), .base .non, kitAny2 (b1 := false) (b2 := false) (kit_ty (by decide +kernel)) (kit_ty (by decide +kernel)), _, rfl, iteF ?_⟩
        refine ⟨_, rfl, _, rfl, itT rfl (iteT ?_)⟩
        refine ⟨_, rfl, _, rfl, itT rfl ⟨_, rfl, ?_⟩⟩
        exact qT (Q := Q) rfl (q _ s1)
      | bl b =>
        cases hy
        refine ⟨_, rfl, (by decide : 2 ≤ sizeLine), fun tp ntp => ?_⟩
        have s1 := same_upd (o := .tup [.ty "list", .ty "tuple"]) ntp
        refine ⟨(.bl b), tp, _, _, _, _, rfl, upd_same, .cons (.ty _) (.cons (.ty _) .nil), .base (.bl _), kitAny2 (b1 := false) (b2 := false) (kit_ty (by decide +kernel)) (kit_ty (by decide +kernel)), _, rfl, iteF ?_⟩
        refine ⟨_, rfl, _, rfl, itF (fun h => nomatch h) ⟨_, rfl, _, rfl, itF (fun h => nomatch h) ?_⟩⟩
        refine ⟨_, rfl, (.bl b), .ty "bool", .type "bool", .type "bool", true, rfl, .ty _, .base (.bl _), kit_ty (by decide +kernel), _, rfl, (.bl b), .ty "bool", .type "bool", .type "bool", true, rfl, .ty _, .base (.bl _), kit_ty (by decide +kernel), rfl, _, rfl, iteNS rfl ⟨_, rfl, (.bl b), .ty "int", .type "bool", .type "int", true, rfl, .ty _, .base (.bl _), kit_ty (by decide +kernel), _, rfl, (.bl b), .ty "int", .type "bool", .type "int", true, rfl, .ty _, .base (.bl _), kit_ty (by decide +kernel), rfl, _, rfl, iteNS rfl ?_⟩⟩
        refine ⟨_, rfl, (.bl b), .ty "str", .type "bool", .type "str", false, rfl, .ty _, .base (.bl _), kit_ty (by decide +kernel), _, rfl, (.bl b), .ty "str", .type "bool", .type "str", false, rfl, .ty _, .base (.bl _), kit_ty (by decide +kernel), rfl, _, rfl, itT rfl ⟨_, rfl, _, rfl, rfl, ?_⟩⟩
        exact qT (Q := Q) rfl (q _ s1)
      | int i =>
        cases hy
        refine ⟨_, rfl, (by decide : 2 ≤ sizeLine), fun tp ntp => ?_⟩
        have s1 := same_upd (o := .tup [.ty "list", .ty "tuple"]) ntp
        refine ⟨(.int i), tp, _, _, _, _, rfl, upd_same, .cons (.ty _) (.cons (.ty _) .nil), .base (.int _), kitAny2 (b1 := false) (b2 := false) (kit_ty (by decide +kernel)) (kit_ty (by decide +kernel)), _, rfl, iteF ?_⟩
        refine ⟨_, rfl, _, rfl, itF (fun h => nomatch h) ⟨_, rfl, _, rfl, itF (fun h => nomatch h) ?_⟩⟩
        refine ⟨_, rfl, (.int i), .ty "bool", .type "int", .type "bool", false, rfl, .ty _, .base (.int _), kit_ty (by decide +kernel), _, rfl, (.int i), .ty "bool", .type "int", .type "bool", false, rfl, .ty _, .base (.int _), kit_ty (by decide +kernel), rfl, _, rfl, iteNS rfl ⟨_, rfl, (.int i), .ty "int", .type "int", .type "int", true, rfl, .ty _, .base (.int _), kit_ty (by decide +kernel), _, rfl, (.int i), .ty "int", .type "int", .type "int", true, rfl, .ty _, .base (.int _), kit_ty (by decide +kernel), rfl, _, rfl, iteNS rfl ?_⟩⟩
        refine ⟨_, rfl, (.int i), .ty "str", .type "int", .type "str", false, rfl, .ty _, .base (.int _), kit_ty (by decide +kernel), _, rfl, (.int i), .ty "str", .type "int", .type "str", false, rfl, .ty _, .base (.int _), kit_ty (by decide +kernel), rfl, _, rfl, itT rfl ⟨_, rfl, _, rfl, rfl, ?_⟩⟩
        exact qT (Q := Q) rfl (q _ s1)
      | str z =>
        cases hy
        refine ⟨_, rfl, (by decide : 2 ≤ sizeLine), fun tp ntp => ?_⟩
        have s1 := same_upd (o := .tup [.ty "list", .ty "tuple"]) ntp
        refine ⟨(.str z), tp, _, _, _, _, rfl, upd_same, .cons (.ty _) (.cons (.ty _) .nil), .base (.str _), kitAny2 (b1 := false) (b2 := false) (kit_ty (by decide +kernel)) (kit_ty (by decide +kernel)), _, rfl, iteF ?_⟩
        refine ⟨_, rfl, _, rfl, itF (fun h => nomatch h) ⟨_, rfl, _, rfl, itF (fun h => nomatch h) ?_⟩⟩
        refine ⟨_, rfl, (.str z), .ty "bool", .type "str", .type "bool", false, rfl, .ty _, .base (.str _), kit_ty (by decide +kernel), _, rfl, (.str z), .ty "bool", .type "str", .type "bool", false, rfl, .ty _, .base (.str _), kit_ty (by decide +kernel), rfl, _, rfl, iteNS rfl ⟨_, rfl, (.str z), .ty "int", .type "str", .type "int", false, rfl, .ty _, .base (.str _), kit_ty (by decide +kernel), _, rfl, (.str z), .ty "int", .type "str", .type "int", false, rfl, .ty _, .base (.str _), kit_ty (by decide +kernel), rfl, _, rfl, iteNS rfl ?_⟩⟩
        refine ⟨_, rfl, (.str z), .ty "str", .type "str", .type "str", true, rfl, .ty _, .base (.str _), kit_ty (by decide +kernel), _, rfl, (.str z), .ty "str", .type "str", .type "str", true, rfl, .ty _, .base (.str _), kit_ty (by decide +kernel), rfl, _, rfl, itT rfl ⟨_, rfl, _, rfl, rfl, ?_⟩⟩
        exact qT (Q := Q) rfl (q _ s1)
end
end Onp
set_option maxHeartbeats 8000000
set_option autoImplicit false
namespace Onp
open PySem PySem.Spec PyProof.Rows L2 HotX L2H LamX
section
variable {P : Program} {w : World} {K : PySem.W.Frag} {mg : Str → Option Value} {base : Heap}
theorem passN {X : Cx} : Passes (L2N.CX X.prog X.w) X E0 := fun _ _ _ _ _ _ _ h => by
  obtain ⟨_, _, _, _, _, _, _, _, _, _, _, _, z⟩ := h
  exact z.elim
end
/-- a refusal that is a word alone -/
def badW (C : Addr) (z : Str) (H : Hp) (E : XK) : Prop := ∀ d, H d = none → E (.ref C) (some d) (upd H d (.xd [("word", .str z)]))
abbrev sInitBadSize : Stmt := inClass (topS 8) 0
structure MkBadSize (K : PySem.W.Frag) (mg : Str → Option Value) (C fI : Addr) (fdI : FuncData) : Prop where
  T : OexC K C
  iC : PySem.W.findIn K (.ref C) "__init__" = some (some (.ref fI))
  tI : PySem.W.typeIn K (.ref fI) = some (.type "function")
  F : Fun K "__init__" "BadSize.__init__" sInitBadSize fI fdI
  b : Binds K fdI ["self"] []
  g : mg "BadSize" = some (.ref C)
  nw : PySem.W.findIn K (.ref C) "word" = some none
theorem scIBadSize : FnScope ["self"] ["self"] (defScope sInitBadSize) := ⟨rfl, rfl, rfl, by decide +kernel, rfl, by decide +kernel, by decide +kernel⟩
theorem ok_initBadSize {P : Program} {w : World} {K : PySem.W.Frag} {mg : Str → Option Value} {base : Heap} {C fI : Addr} {fdI : FuncData} {k : Nat} (B : MkBadSize K mg C fI fdI) : FnOk P w K mg base CX0 (k + 1) fI fdI ["self"] (spWord C "badsize") := by
  refine B.F.ok scIBadSize (fun vs H Q E h => ?_) (fun cdv A outer s H vs Q E hr h => ?_)
  · obtain ⟨a, rfl, _⟩ := h
    rfl
  · obtain ⟨a, rfl, ha, q⟩ := h
    refine ⟨_, pss_one (ps_ost (pv 0) pe_str), ?_⟩
    exact ⟨_, rfl, a, C, rfl, B.T, B.nw, .inl ⟨ha, fun dx nd ne => q dx nd ne⟩⟩
abbrev sInitBadWord : Stmt := inClass (topS 7) 0
structure MkBadWord (K : PySem.W.Frag) (mg : Str → Option Value) (C fI : Addr) (fdI : FuncData) : Prop where
  T : OexC K C
  iC : PySem.W.findIn K (.ref C) "__init__" = some (some (.ref fI))
  tI : PySem.W.typeIn K (.ref fI) = some (.type "function")
  F : Fun K "__init__" "BadWord.__init__" sInitBadWord fI fdI
  b : Binds K fdI ["self"] []
  g : mg "BadWord" = some (.ref C)
  nw : PySem.W.findIn K (.ref C) "word" = some none
theorem scIBadWord : FnScope ["self"] ["self"] (defScope sInitBadWord) := ⟨rfl, rfl, rfl, by decide +kernel, rfl, by decide +kernel, by decide +kernel⟩
theorem ok_initBadWord {P : Program} {w : World} {K : PySem.W.Frag} {mg : Str → Option Value} {base : Heap} {C fI : Addr} {fdI : FuncData} {k : Nat} (B : MkBadWord K mg C fI fdI) : FnOk P w K mg base CX0 (k + 1) fI fdI ["self"] (spWord C "badword") := by
  refine B.F.ok scIBadWord (fun vs H Q E h => ?_) (fun cdv A outer s H vs Q E hr h => ?_)
  · obtain ⟨a, rfl, _⟩ := h
    rfl
  · obtain ⟨a, rfl, ha, q⟩ := h
    refine ⟨_, pss_one (ps_ost (pv 0) pe_str), ?_⟩
    exact ⟨_, rfl, a, C, rfl, B.T, B.nw, .inl ⟨ha, fun dx nd ne => q dx nd ne⟩⟩
abbrev sInitTooWide : Stmt := inClass (topS 10) 0
structure MkTooWide (K : PySem.W.Frag) (mg : Str → Option Value) (C fI : Addr) (fdI : FuncData) : Prop where
  T : OexC K C
  iC : PySem.W.findIn K (.ref C) "__init__" = some (some (.ref fI))
  tI : PySem.W.typeIn K (.ref fI) = some (.type "function")
  F : Fun K "__init__" "TooWide.__init__" sInitTooWide fI fdI
  b : Binds K fdI ["self", "most"] []
  g : mg "TooWide" = some (.ref C)
  nw : PySem.W.findIn K (.ref C) "word" = some none
  nm : PySem.W.findIn K (.ref C) "most" = some none
theorem scITooWide : FnScope ["self", "most"] ["self", "most"] (defScope sInitTooWide) := ⟨rfl, rfl, rfl, by decide +kernel, rfl, by decide +kernel, by decide +kernel⟩
theorem ok_initTooWide {P : Program} {w : World} {K : PySem.W.Frag} {mg : Str → Option Value} {base : Heap} {C fI : Addr} {fdI : FuncData} {k : Nat} (B : MkTooWide K mg C fI fdI) : FnOk P w K mg base CX0 (k + 1) fI fdI ["self", "most"] (spMost C "toowide") := by
  refine B.F.ok scITooWide (fun vs H Q E h => ?_) (fun cdv A outer s H vs Q E hr h => ?_)
  · obtain ⟨a, v, rfl, _⟩ := h
    rfl
  · obtain ⟨a, v, rfl, ha, q⟩ := h
    refine ⟨_, pss_cons (ps_ost (pv 0) pe_str) (pss_one (ps_ost (pv 0) (pv 1))), ?_⟩
    refine ⟨_, rfl, a, C, rfl, B.T, B.nw, .inl ⟨ha, fun dx nd ne => ?_⟩⟩
    refine ⟨_, rfl, _, rfl, a, C, rfl, B.T, B.nm, .inr ⟨dx, [("word", .str "toowide")], upd_same, by rw [upd_ne ne, upd_same], by decide, ?_⟩⟩
    have e := q dx nd ne
    rw [← upd_swap ne] at e
    exact e
end Onp
set_option maxHeartbeats 8000000
set_option autoImplicit false
namespace Onp
open PySem PySem.Spec PyProof.Rows L2 HotX L2H LamX
abbrev sNeedSz : Stmt := topS 28
abbrev sNextB : Stmt := topS 32
def capT (n : Int) (ts : List Tri) : List Tri := ts.filter fun t => decide ((if t.2.2 > t.2.1 then t.2.2 else t.2.1) ≤ n)
section
variable {P : Program} {w : World} {K : PySem.W.Frag} {mg : Str → Option Value} {base : Heap}
/-- a call that puts the last parameter by its name -/
theorem kb_last {x qual : Str} {st : Stmt} {f : Addr} {fd : FuncData} {ps ks : List Str} {n : Nat} (F : Fun K x qual st f fd)
    (h : ∀ (kV doc pm : Value) (an : Option Addr) (cdv ct : Value) (us ws : List Value), us.length = n → ws.length = ks.length → bindArgs (PySem.W.fnOf x qual (defArgs st) (defBody st) (defScope st) .none kV doc pm an cdv ct) ⟨us, ks.zip ws⟩ = pure (ps.zip (us ++ ws))) :
    KBn K fd ps n ks (fun us ws => us ++ ws) (fun vs zs => vs ++ zs) := by
  obtain ⟨oc, od, kV, doc, pm, an, cdv, ct, osl, rfl, lk, hcd⟩ := F.ex
  exact ⟨fun s us ws X l1 l2 => .of_eq (h kV doc pm an cdv ct us ws l1 l2), fun r1 r2 => r1.append r2⟩
/-! ### need_size -/
def spNeedSz (C : Addr) : Sp := fun vs H Q E => ∃ n : Int, vs = [.int n] ∧ (0 ≤ n → Q .non H) ∧ (n < 0 → badW C "badsize" H E)
theorem scNeedSz : FnScope ["size"] ["size"] (defScope sNeedSz) := ⟨rfl, rfl, rfl, by decide +kernel, rfl, by decide +kernel, by decide +kernel⟩
theorem ok_needSz {f C fI : Addr} {fd fdI : FuncData} {k : Nat} (F : Fun K "need_size" "need_size" sNeedSz f fd) (S : MkBadSize K mg C fI fdI) : FnOk P w K mg base (L2N.CX P w) (k + 3) f fd ["size"] (spNeedSz C) := by
  refine okN F scNeedSz (fun vs H Q E h => ?_) (fun cdv A outer s H vs Q E hr h => ?_)
  · obtain ⟨n, rfl, _⟩ := h
    rfl
  · obtain ⟨n, rfl, q, e⟩ := h
    refine ⟨_, pss_one (ps_if (pt_cmpR op_lt (pv 0) pe_int (nomark _)) (pss_one (L2N.ps_raise rfl (L2N.takes_of rfl rfl rfl rfl) (pmk_word (k := k + 1) S.T S.iC S.tI (ok_initBadSize S) hr S.b (by rfl) S.g))) pss_nil), ?_⟩
    refine ⟨_, rfl, n, 0, rfl, rfl, _, rfl, ?_⟩
    by_cases hn : n < 0
    · exact itT hn (fun d hd => e hn d hd)
    · exact itF hn (q (by omega))
/-! ### next_board -/
def spNextB (K : PySem.W.Frag) (C CS CW : Addr) : Sp := fun vs H Q E => ∃ (a b : Addr) (M : AM) (z : Str) (n : Int) (ps : List TP), vs = [.ref a, .ref b, .str z, .int n] ∧ MachAt K C H a M ∧ SqT K H b (trs ps) ∧ TrAt H ps ∧ (∀ p ∈ ps, rooB M.n p.2.1 = true) ∧ (∀ x ∈ M.as, x.2.2.1 ∈ deedsL) ∧ M.as.length ≤ 40 ∧ ps.length ≤ 1000 ∧ z.length ≤ sizeLine ∧
  (∀ c ∈ M.ls, z = Sx [c] → 0 ≤ n → (∀ t ∈ capT n (leadsT M.as z (ps.map (·.2))), okT t) ∧ (capT n (leadsT M.as z (ps.map (·.2)))).length < 1001 ∧ ∀ (t : Addr) (qs : List TP) H', Same H H' → H' t = some (.tup (trs qs)) → TrAt H' qs → (∀ p ∈ qs, okT p.2) → qs.length < 1001 → IsLeast (capT n (leadsT M.as z (ps.map (·.2)))) (qs.map (·.2)) → Q (.ref t) H') ∧
  (n < 0 → badW CS "badsize" H E) ∧ (0 ≤ n → (∀ c ∈ M.ls, z ≠ Sx [c]) → badW CW "badword" H E)
def NNb : List Str := ["machine", "board", "letter", "size", "made", "triple", "deed", "after"]
def psNb : List Str := ["machine", "board", "letter", "size"]
theorem scNextB : FnScope NNb psNb (defScope sNextB) := ⟨rfl, rfl, rfl, by decide +kernel, rfl, by decide +kernel, by decide +kernel⟩
theorem ok_nextB {f C CS CW fIS fIW fSz fLt fLd fLo fSt fSp fN fNr fIl tD : Addr} {fd fdIS fdIW fdSz fdLt fdLd fdLo fdSt fdSp fdN fdNr fdIl : FuncData} {k : Nat} (F : Fun K "next_board" "next_board" sNextB f fd) (T : ClsM K C) (SS : MkBadSize K mg CS fIS fdIS) (SW : MkBadWord K mg CW fIW fdIW)
    (Sz : FnM K mg fSz fdSz "need_size" sNeedSz ["size"]) (FLt : Fun K "letters" "Machine.letters" sMLets fLt fdLt) (bLt : Binds K fdLt ["self"] []) (mLt : Meth K C "letters" fLt) (Ld : FnM K mg fLd fdLd "leads" sLeads ["machine", "board", "letter"]) (Lo : FnM K mg fLo fdLo "least_ones" sLeast ["triples"])
    (FS : Fun K "steps" "Machine.steps" sMSteps fSt fdSt) (bS : Binds K fdSt NSt []) (mS : Meth K C "steps" fSt)
    (Sp : FnM K mg fSp fdSp "spend" sSpend ["purses", "deed"]) (N : FnM K mg fN fdN "need_deed" sNeedD ["deed"]) (Nr : FnM K mg fNr fdNr "need_rooms" sNeedR ["some", "rooms"]) (Il : FnM K mg fIl fdIl "is_letter" sIsL ["text", "letters"]) (Cs : CsM K mg tD) (B : Bl1 mg) (ml : mg "list" = none) (ms : mg "sorted" = none) (mt : mg "tuple" = none) (mm : mg "max" = none) :
    FnOk P w K mg base (L2N.CX P w) (k + 4) f fd psNb (spNextB K C CS CW) := by
  have GZ : FnOk P w K mg base (L2N.CX P w) (k + 3) fSz fdSz ["size"] (spNeedSz CS) := ok_needSz Sz.F SS
  have GL : FnOk P w K mg base CX0 (k + 3) fLt fdLt ["self"] (spMLets K C) := ok_mlets FLt T
  have GI : FnOk P w K mg base CX0 (k + 3) fIl fdIl ["text", "letters"] spIsL := ok_isL Il.F B
  have GD : FnOk P w K mg base CX0 (k + 3) fLd fdLd ["machine", "board", "letter"] (spLeads K C) := ok_leads Ld.F T FS bS mS Sp N Nr Il Cs B ml
  have GO : FnOk P w K mg base CX0 (k + 3) fLo fdLo ["triples"] (spLeast K) := ok_least Lo.F ms mt
  refine okN F scNextB (fun vs H Q E h => ?_) (fun cdv A outer s H vs Q E hr h => ?_)
  · obtain ⟨a, b, M, z, n, ps, rfl, _⟩ := h
    rfl
  · obtain ⟨a, b, M, z, n, ps, rfl, mA, hb, hT, hroo, hde, h40, hlen, hz, q, eS, eW⟩ := h
    obtain ⟨dx, ta, tf, tg, D0, ps0, h1, hrest⟩ := id mA
    refine ⟨_, pss_cons (ps_expr (pe_call (E := E) GZ hr (by rfl) Sz.g Sz.F.kp Sz.b .nil (L2N.passes_call (L2N.takes_of (E := E) rfl rfl rfl rfl) fun _ _ _ _ z => z) (pa_cons (pv 3) pa_nil)))
      (pss_cons (ps_if (pt_not (pt_val (pe_call GI hr (by rfl) Il.g Il.F.kp Il.b .nil pass0 (pa_cons (pv 2) (pa_cons (pe_meth0 (pv 0) T.cl mLt GL hr bLt .nil pass0) pa_nil))))) (pss_one (L2N.ps_raise rfl (L2N.takes_of rfl rfl rfl rfl) (pmk_word (k := k + 2) SW.T SW.iC SW.tI (ok_initBadWord SW) hr SW.b (by rfl) SW.g))) pss_nil)
      (pss_cons (ps_setLc (i := 4) (own := [("triple", 5), ("deed", 6), ("after", 7)]) (g := gTup K 3 (gCons (gName 5) (gCons (gName 6) (gCons (gName 7) gNil)))) (tt := tYes) (te := tVar 7) rfl scNextB.nd rfl rfl (sw_true rfl rfl rfl (by decide +kernel))
          (pi_list (pe_call GD hr (by rfl) Ld.g Ld.F.kp Ld.b .nil pass0 (pa_cons (pv 0) (pa_cons (pv 1) (pa_cons (pv 2) pa_nil))))) (blkOk_by (own := [("triple", 5), ("deed", 6), ("after", 7)]) (N := NNb) (sc := defScope sNextB) (by decide +kernel))
          (fun _ _ _ _ _ => pg_tup rfl (pgs_cons (pg_name (i := 5) scNextB.nd rfl (.inl rfl)) (pgs_cons (pg_name (i := 6) scNextB.nd rfl (.inl rfl)) (pgs_cons (pg_name (i := 7) scNextB.nd rfl (.inl rfl)) pgs_nil)))) (fun _ _ _ _ _ => pts_nil) (fun _ _ _ _ _ => pv 7))
      (pss_one (ps_ret (pe_call GO hr (by rfl) Lo.g Lo.F.kp Lo.b .nil pass0 (pa_cons
        (pe_lc (own := [("triple", 5)]) (g := gName 5) (tt := tTest (tOp (rI0 fun i j => .bl (decide (i ≤ j))) (tCB (fun xs H Q => ∃ i j, xs = [.int i, .int j] ∧ Q (.int (if j > i then j else i)) H) (tCons (tIx0 K 5 1) (tCons (tIx0 K 5 2) tNil))) (tVar 3))) (te := tVar 5) rfl scNextB.nd (pi_list (pv 4)) (blkOk_by (own := [("triple", 5)]) (N := NNb) (sc := defScope sNextB) (by decide +kernel))
          (fun _ _ _ _ _ => pg_name (i := 5) scNextB.nd rfl (.inl rfl)) (fun _ _ _ _ _ => pts_one (pt_cmpR op_le (pe_callB (call_max2 rfl) (by rfl) mm (by decide +kernel) (pa_cons (pe_ix ix_tup (pv 5) pe_int (fun _ _ => rfl)) (pa_cons (pe_ix ix_tup (pv 5) pe_int (fun _ _ => rfl)) pa_nil))) (pv 3) (nomark _))) (fun _ _ _ _ _ => pv 5)) pa_nil)))))), ?_⟩
    refine ⟨_, rfl, n, rfl, fun hn => ?_, fun hn => eS hn⟩
    refine ⟨_, rfl, _, rfl, a, dx, _, rfl, h1, mfl_none (by decide +kernel), a, M, rfl, mA, z, M.ls, rfl, hz, ?_⟩
    by_cases hl : ∃ c ∈ M.ls, z = Sx [c]
    · obtain ⟨c, hc, rfl⟩ := hl
      rw [any_mem hc]
      refine ⟨_, rfl, iteF ?_⟩
      obtain ⟨q1, q2, q3⟩ := q c hc rfl hn
      refine ⟨_, rfl, _, rfl, _, rfl, a, b, M, c, ps, rfl, mA, hb, hT, hroo, hc, hde, h40, hlen, fun l os H1 s1 hl1 hL he => ?_⟩
      have hol : os.length ≤ 40000 := by
        have e1 := congrArg List.length he
        rw [List.length_map] at e1
        have e2 := leadsT_len M.as (Sx [c]) (ps.map (·.2))
        have e3 : (ps.map (·.2)).length ≤ 1000 := by rw [List.length_map]; exact hlen
        have e4 := Nat.mul_le_mul e3 h40
        omega
      have hbig : 50000 ≤ sizeLine := by decide
      refine ⟨l, rfl, ⟨_, SqL.of hl1⟩, fun D nD => ?_⟩
      refine lc_list (K := K) (a := l) (xs := lds os) (fun i H' => Same H1 H' ∧ H' D = some (.lst (trs ((os.map (·.2)).take i)))) ⟨same_upd nD, upd_same⟩ (fun i H' _ ⟨sm, _⟩ => SqL.of (sm _ _ hl1)) (fun i x H' hx ⟨sm, hD⟩ => ?_) (fun H2 ⟨s2, hD⟩ => ?_)
      · obtain ⟨o, ho, rfl⟩ : ∃ o : LD, os[i]? = some o ∧ x = .ref o.1 := by
          unfold lds at hx
          rw [List.getElem?_map] at hx
          cases e : os[i]? with
          | none => rw [e] at hx; cases hx
          | some y => rw [e] at hx; exact ⟨y, rfl, (Option.some.inj hx).symm⟩
        obtain ⟨⟨v1, v2, e1⟩, e2⟩ := hL o (List.mem_of_getElem? ho)
        refine ⟨o.1, _, rfl, SqT.of (sm _ _ e1), rfl, _, _, rfl, _, _, rfl, _, _, rfl, rfl, ?_⟩
        refine ⟨rfl, ?_⟩
        refine yes2 ?_
        refine ⟨_, rfl, _, hD, ?_, fun b o e => ?_, ?_⟩
        · rw [trs_len, List.length_take, List.length_map]
          omega
        · rw [upd_ne (ne_of_none e nD)]
          exact sm b o e
        · rw [upd_same, take_next (xs := os.map (·.2)) (i := i) (x := o.2) (by rw [List.getElem?_map, ho]; rfl)]
          unfold trs
          rw [List.map_append]
          rfl
      have hll : (lds os).length = (os.map (·.2)).length := by
        unfold lds
        rw [List.length_map, List.length_map]
      rw [hll, List.take_length] at hD
      have hT2 : TrAt H2 (os.map (·.2)) := fun p hp => by
        obtain ⟨o, ho, rfl⟩ := List.mem_map.mp hp
        exact s2 _ _ (hL o ho).2
      have hm2 : (os.map (·.2)).map (·.2) = leadsT M.as (Sx [c]) (ps.map (·.2)) := by
        rw [← he, List.map_map]
        rfl
      have hol2 : (os.map (·.2)).length ≤ 40000 := by rw [List.length_map]; exact hol
      generalize os.map (·.2) = rs at hD hT2 hm2 hol2
      refine ⟨_, rfl, D, rfl, ⟨_, SqL.of hD⟩, fun D2 nD2 => ?_⟩
      refine lc_list (K := K) (a := D) (xs := trs rs) (fun i H' => Same H2 H' ∧ H' D2 = some (.lst (trs ((rs.take i).filter fun p => decide ((if p.2.2.2 > p.2.2.1 then p.2.2.2 else p.2.2.1) ≤ n))))) ⟨same_upd nD2, upd_same⟩ (fun i H' _ ⟨sm, _⟩ => SqL.of (sm _ _ hD)) (fun i x H' hx ⟨sm, hD2⟩ => ?_) (fun H3 ⟨s3, hD2⟩ => ?_)
      · obtain ⟨p, hp, rfl⟩ := trs_at hx
        have hp' := sm _ _ (hT2 p (List.mem_of_getElem? hp))
        have p1 := tup_at (K := K) (i := 1) hp' rfl
        have p2 := tup_at (K := K) (i := 2) hp' rfl
        refine ⟨rfl, ?_⟩
        refine ⟨_, rfl, p.1, _, 1, _, rfl, rfl, p1.1, p1.2, _, rfl, p.1, _, 2, _, rfl, rfl, p2.1, p2.2, _, _, rfl, _, rfl, _, _, rfl, rfl, _, rfl, ?_⟩
        dsimp only
        rw [take_next hp, List.filter_append]
        by_cases hcap : (decide ((if p.2.2.2 > p.2.2.1 then p.2.2.2 else p.2.2.1) ≤ n)) = true
        · rw [if_pos hcap]
          refine ⟨_, rfl, _, hD2, ?_, fun b o e => ?_, ?_⟩
          · rw [trs_len]
            have := List.length_filter_le (fun p : TP => decide ((if p.2.2.2 > p.2.2.1 then p.2.2.2 else p.2.2.1) ≤ n)) (rs.take i)
            rw [List.length_take] at this
            omega
          · rw [upd_ne (ne_of_none e nD2)]
            exact sm b o e
          · rw [upd_same, List.filter_cons_of_pos (p := fun p : TP => decide ((if p.2.2.2 > p.2.2.1 then p.2.2.2 else p.2.2.1) ≤ n)) hcap, List.filter_nil]
            unfold trs
            rw [List.map_append]
            rfl
        · rw [if_neg hcap, List.filter_cons_of_neg (p := fun p : TP => decide ((if p.2.2.2 > p.2.2.1 then p.2.2.2 else p.2.2.1) ≤ n)) hcap, List.filter_nil, List.append_nil]
          exact ⟨sm, hD2⟩
      rw [trs_len, List.take_length] at hD2
      have hcm : (rs.filter fun p => decide ((if p.2.2.2 > p.2.2.1 then p.2.2.2 else p.2.2.1) ≤ n)).map (·.2) = capT n (leadsT M.as (Sx [c]) (ps.map (·.2))) := by
        rw [← hm2]
        unfold capT
        rw [List.filter_map]
        rfl
      refine ⟨(true, D2), _, rfl, SqL.of hD2, fun p hp => s3 _ _ (hT2 p (List.mem_filter.mp hp).1), fun p hp => q1 p.2 (by rw [← hcm]; exact List.mem_map_of_mem hp), by rw [← List.length_map (f := fun p : TP => p.2), hcm]; exact q2, fun t qs H4 s4 ht hTq okq lq L => ?_⟩
      rw [hcm] at L
      exact q3 t qs H4 (s1.trans (s2.trans (s3.trans s4))) ht hTq okq lq L
    · have hno : (M.ls.any fun c => decide (z = Sx [c])) = false := by
        rw [List.any_eq_false]
        intro c hc e
        exact hl ⟨c, hc, of_decide_eq_true e⟩
      rw [hno]
      exact ⟨_, rfl, iteT (fun d hd => eW hn (fun c hc e => hl ⟨c, hc, e⟩) d hd)⟩
end
end Onp
set_option autoImplicit false
namespace Onp
/-- at most ten arrows by a letter -/
def few (as : List Arw) : Prop := ∀ z : PySem.Str, (as.filter fun a => decide (a.2.1 = z)).length ≤ 10
theorem few_len {as : List Arw} (h : as.length ≤ 10) : few as := fun z => Nat.le_trans (List.length_filter_le ..) h
end Onp
set_option maxHeartbeats 8000000
set_option autoImplicit false
namespace Onp
open PySem PySem.Spec PyProof.Rows L2
/-! ### boards: how many triples, how great -/
/-- a board of a machine of N rooms: purses up to B, at most a hundred triples of a room -/
def BdI (N B : Int) (ts : List Tri) : Prop := (∀ t ∈ ts, rooB N t.1 = true ∧ (0 ≤ t.2.1 ∧ t.2.1 ≤ B) ∧ (0 ≤ t.2.2 ∧ t.2.2 ≤ B)) ∧ ∀ r, (ts.filter fun t => decide (t.1 = r)).length ≤ 100
/-- arrows that boards may go by -/
structure GA (N : Int) (as : List Arw) : Prop where
  deed : ∀ x ∈ as, x.2.2.1 ∈ deedsL
  room : ∀ x ∈ as, rooB N x.2.2.2 = true
  okS : ∀ x ∈ as, Onp.okS x
  len : as.length ≤ 40
  few : Onp.few as
theorem rooB_iff {n r : Int} : rooB n r = true ↔ 0 ≤ r ∧ r < n := by
  unfold rooB
  rw [Bool.and_eq_true, decide_eq_true_eq, decide_eq_true_eq]
theorem GA.of {M : AM} (ok : M.ok) (fw : Onp.few M.as) : GA M.n M.as := by
  obtain ⟨h1, h2, h3, h4, h5, h6, _⟩ := ok
  refine ⟨fun x hx => ?_, fun x hx => ?_, fun x hx => arrB_okS h3 (h4 x hx), h6, fw⟩
  · have h := h4 x hx
    unfold arrB at h
    simp only [Bool.and_eq_true] at h
    exact of_decide_eq_true h.2
  · have h := h4 x hx
    unfold arrB at h
    simp only [Bool.and_eq_true] at h
    unfold rooB
    rw [h.1.1.2.1, h.1.1.2.2]
    rfl
theorem sortA_perm (as : List Arw) : (sortA as).Perm as := List.mergeSort_perm ..
theorem GA.srt {N : Int} {as : List Arw} (h : GA N as) : GA N (sortA as) := by
  have p := sortA_perm as
  refine ⟨fun x hx => h.deed x (p.mem_iff.mp hx), fun x hx => h.room x (p.mem_iff.mp hx), fun x hx => h.okS x (p.mem_iff.mp hx), by rw [p.length_eq]; exact h.len, fun z => ?_⟩
  rw [(p.filter _).length_eq]
  exact h.few z
theorem leadsT_cons (as : List Arw) (z : Str) (t : Tri) (ts : List Tri) : leadsT as z (t :: ts) = (stepsOf as t.1 z).map (goT t) ++ leadsT as z ts := by
  unfold leadsT
  rw [List.flatMap_cons]
theorem stepsOf_cons_len (a : Arw) (as : List Arw) (r : Int) (z : Str) : (stepsOf (a :: as) r z).length = (stepsOf as r z).length + (if r = a.1 ∧ a.2.1 = z then 1 else 0) := by
  unfold stepsOf
  rw [List.length_map, List.length_map]
  by_cases h : r = a.1 ∧ a.2.1 = z
  · rw [List.filter_cons_of_pos (by simp [h.1, h.2]), if_pos h]
    rfl
  · rw [List.filter_cons_of_neg (by
      intro e
      simp only [Bool.and_eq_true, decide_eq_true_eq] at e
      exact h ⟨e.1.symm, e.2⟩), if_neg h]
    rfl
theorem leadsT_len_cons (a : Arw) (as : List Arw) (z : Str) : ∀ ts : List Tri, (leadsT (a :: as) z ts).length = (leadsT as z ts).length + (if a.2.1 = z then (ts.filter fun t => decide (t.1 = a.1)).length else 0)
  | [] => by
    unfold leadsT
    simp
  | t :: r => by
    have ih := leadsT_len_cons a as z r
    rw [leadsT_cons, leadsT_cons, List.length_append, List.length_append, List.length_map, List.length_map, ih, stepsOf_cons_len]
    by_cases hz : a.2.1 = z
    · rw [if_pos hz, if_pos hz]
      by_cases ht : t.1 = a.1
      · rw [if_pos ⟨ht, hz⟩, List.filter_cons_of_pos (by simp [ht]), List.length_cons]
        omega
      · rw [if_neg (fun h => ht h.1), List.filter_cons_of_neg (by simp [ht])]
        omega
    · rw [if_neg hz, if_neg hz, if_neg (fun h => hz h.2)]
      omega
theorem leadsT_six {z : Str} {ts : List Tri} (h : ∀ r, (ts.filter fun t => decide (t.1 = r)).length ≤ 100) : ∀ as : List Arw, (leadsT as z ts).length ≤ 100 * (as.filter fun a => decide (a.2.1 = z)).length
  | [] => by
    have : leadsT [] z ts = [] := by
      unfold leadsT stepsOf
      simp
    rw [this]
    exact Nat.zero_le _
  | a :: as => by
    have ih := leadsT_six (z := z) h as
    have ha := h a.1
    rw [leadsT_len_cons]
    by_cases hz : a.2.1 = z
    · rw [if_pos hz, List.filter_cons_of_pos (by simp [hz]), List.length_cons]
      omega
    · rw [if_neg hz, List.filter_cons_of_neg (by simp [hz])]
      omega
theorem cap_len {n : Int} {N B : Int} {as : List Arw} {z : Str} {ts : List Tri} (g : GA N as) (h : BdI N B ts) : (capT n (leadsT as z ts)).length < 1001 := by
  have h1 := leadsT_six (z := z) h.2 as
  have h2 := g.few z
  have h3 : (capT n (leadsT as z ts)).length ≤ (leadsT as z ts).length := List.length_filter_le ..
  omega
theorem capT_iff {n : Int} {ts : List Tri} {t : Tri} : t ∈ capT n ts ↔ t ∈ ts ∧ t.2.1 ≤ n ∧ t.2.2 ≤ n := by
  unfold capT
  rw [List.mem_filter, decide_eq_true_eq]
  refine and_congr_right fun _ => ?_
  by_cases h : t.2.2 > t.2.1
  · rw [if_pos h]
    omega
  · rw [if_neg h]
    omega
theorem stp_nn {p : Int × Int} {d : Dd} (h : 0 ≤ p.1 ∧ 0 ≤ p.2) : 0 ≤ (stp p d).1 ∧ 0 ≤ (stp p d).2 := by
  cases d <;> unfold stp <;> dsimp only <;> omega
theorem cap_in {n N B : Int} {as : List Arw} {z : Str} {ts : List Tri} (g : GA N as) (h : BdI N B ts) : ∀ t ∈ capT n (leadsT as z ts), rooB N t.1 = true ∧ (0 ≤ t.2.1 ∧ t.2.1 ≤ n) ∧ (0 ≤ t.2.2 ∧ t.2.2 ≤ n) := by
  intro t ht
  obtain ⟨h1, h2, h3⟩ := capT_iff.mp ht
  unfold leadsT at h1
  obtain ⟨u, hu, hm⟩ := List.mem_flatMap.mp h1
  obtain ⟨s, hs, rfl⟩ := List.mem_map.mp hm
  unfold stepsOf at hs
  obtain ⟨x, hx, rfl⟩ := List.mem_map.mp hs
  have hx := (List.mem_filter.mp hx).1
  have hb := h.1 u hu
  have hn := stp_nn (p := (u.2.1, u.2.2)) (d := ddOf x.2.2.1) ⟨hb.2.1.1, hb.2.2.1⟩
  exact ⟨g.room x hx, ⟨hn.1, h2⟩, ⟨hn.2, h3⟩⟩
theorem ok_in {N n : Int} {t : Tri} (hN : N ≤ 8) (hn : n ≤ 100000000000000000000000000000) (h : rooB N t.1 = true ∧ (0 ≤ t.2.1 ∧ t.2.1 ≤ n) ∧ (0 ≤ t.2.2 ∧ t.2.2 ≤ n)) : okT t := by
  have h1 := rooB_iff.mp h.1
  unfold okT bigB
  omega
theorem six_of {ts : List Tri} (h : ts.length ≤ 100) : ∀ r, (ts.filter fun t => decide (t.1 = r)).length ≤ 100 := fun r => Nat.le_trans (List.length_filter_le ..) h
theorem nd_len {l : List Int} (h : l.Nodup) (hb : ∀ x ∈ l, 0 ≤ x ∧ x ≤ 99) : l.length ≤ 100 :=
by
  have hz := nd_le l ((List.range 100).map Int.ofNat) h fun x hx => by
    have := hb x hx
    exact List.mem_map.mpr ⟨x.toNat, List.mem_range.mpr (by omega), by show ((x.toNat : Nat) : Int) = x; omega⟩
  rw [List.length_map, List.length_range] at hz
  exact hz
theorem least_six {S L : List Tri} (h : IsLeast S L) (hb : ∀ t ∈ S, 0 ≤ t.2.1 ∧ t.2.1 ≤ 99) (r : Int) : (L.filter fun t => decide (t.1 = r)).length ≤ 100 := by
  have hin : ∀ t ∈ L.filter (fun t => decide (t.1 = r)), Mini S t ∧ t.1 = r := fun t ht => by
    obtain ⟨h1, h2⟩ := List.mem_filter.mp ht
    exact ⟨(h.2 t).mp h1, of_decide_eq_true h2⟩
  have hp : (L.filter fun t => decide (t.1 = r)).Pairwise fun a b => cd a < cd b := h.1.filter _
  rw [← List.length_map (f := fun t : Tri => t.2.1)]
  refine nd_len ?_ fun x hx => ?_
  · refine List.pairwise_map.mpr (List.Pairwise.imp_of_mem (fun {a b} ha hb' hlt e => ?_) hp)
    obtain ⟨ma, ra⟩ := hin a ha
    obtain ⟨mb, rb⟩ := hin b hb'
    rcases Int.le_total a.2.2 b.2.2 with q | q
    · have : a = b := mb.2 a ma.1 ⟨by rw [ra, rb], by rw [e]; exact Int.le_refl _, q⟩
      rw [this] at hlt
      exact Int.lt_irrefl _ hlt
    · have : b = a := ma.2 b mb.1 ⟨by rw [ra, rb], by rw [e]; exact Int.le_refl _, q⟩
      rw [this] at hlt
      exact Int.lt_irrefl _ hlt
  · obtain ⟨t, ht, rfl⟩ := List.mem_map.mp hx
    exact hb t (hin t ht).1.1
/-- the board behind a letter is a board again -/
theorem BdI.next {n N B : Int} {as : List Arw} {z : Str} {ts L : List Tri} (g : GA N as) (h : BdI N B ts) (hn : n ≤ 99) (hL : IsLeast (capT n (leadsT as z ts)) L) : BdI N 99 L := by
  have hc := cap_in (n := n) (z := z) g h
  refine ⟨fun t ht => ?_, least_six hL fun t ht => ?_⟩
  · have := hc t ((hL.2 t).mp ht).1
    exact ⟨this.1, by omega, by omega⟩
  · have := hc t ht
    omega
theorem BdI.first {M : AM} (ok : M.ok) (hn : M.n ≤ 4) : BdI M.n 99 ((sortI M.fs).map zr) := by
  obtain ⟨h1, h2, h3, h4, h5, h6, h7, h8, _⟩ := ok
  have p : (sortI M.fs).Perm M.fs := List.mergeSort_perm ..
  have hr : ∀ r ∈ sortI M.fs, 0 ≤ r ∧ r < M.n := fun r hr => rooB_iff.mp (h7 r (p.mem_iff.mp hr))
  refine ⟨fun t ht => ?_, six_of ?_⟩
  · obtain ⟨r, hr', rfl⟩ := List.mem_map.mp ht
    exact ⟨h7 r (p.mem_iff.mp hr'), ⟨Int.le_refl _, (by decide : (0 : Int) ≤ 99)⟩, ⟨Int.le_refl _, (by decide : (0 : Int) ≤ 99)⟩⟩
  · rw [List.length_map]
    refine nd_len (p.nodup_iff.mpr h8) fun x hx => ?_
    have := hr x hx
    omega
/-! ### boards along a word -/
def BR (as : List Arw) (n : Int) : List Nat → List Tri → List Tri → Prop
  | [], L0, L => L = L0
  | c :: r, L0, L => ∃ L1, IsLeast (capT n (leadsT as (Sx [c]) L0)) L1 ∧ BR as n r L1 L
theorem BR.snoc {as : List Arw} {n : Int} {c : Nat} {L1 L : List Tri} (hL : IsLeast (capT n (leadsT as (Sx [c]) L1)) L) : ∀ {cs : List Nat} {L0 : List Tri}, BR as n cs L0 L1 → BR as n (cs ++ [c]) L0 L
  | [], L0, h => by
    have e : L1 = L0 := h
    subst e
    exact ⟨L, hL, rfl⟩
  | d :: r, L0, h => by
    obtain ⟨L2, h1, h2⟩ := h
    exact ⟨L2, h1, BR.snoc hL h2⟩
theorem BR.uniq {as : List Arw} {n : Int} : ∀ {cs : List Nat} {L0 L L' : List Tri}, BR as n cs L0 L → BR as n cs L0 L' → L = L'
  | [], L0, L, L', h, h' => by
    have e : L = L0 := h
    have e' : L' = L0 := h'
    rw [e, e']
  | c :: r, L0, L, L', h, h' => by
    obtain ⟨A, a1, a2⟩ := h
    obtain ⟨B, b1, b2⟩ := h'
    have e := a1.uniq b1
    subst e
    exact BR.uniq a2 b2
theorem capT_append (n : Int) (a b : List Tri) : capT n (a ++ b) = capT n a ++ capT n b := by
  unfold capT
  rw [List.filter_append]
end Onp
set_option maxHeartbeats 8000000
set_option autoImplicit false
namespace Onp
open PySem PySem.Spec PyProof.Rows L2
abbrev sLOn : Stmt := topS 54
abbrev sLBOn : Stmt := topS 55
def rotT (t : Tri) : Tri := (t.2.1, t.2.2, t.1)
theorem cap_snoc {n : Int} {xs : List Tri} {i : Nat} {t : Tri} (h : xs[i]? = some t) : capT n (xs.take (i + 1)) = capT n (xs.take i) ++ (if t.2.1 ≤ n ∧ t.2.2 ≤ n then [t] else []) := by
  rw [take_next h, capT_append]
  congr 1
  unfold capT
  by_cases c : t.2.1 ≤ n ∧ t.2.2 ≤ n
  · rw [if_pos c, List.filter_cons_of_pos, List.filter_nil]
    rw [decide_eq_true_eq]
    by_cases h : t.2.2 > t.2.1
    · rw [if_pos h]; omega
    · rw [if_neg h]; omega
  · rw [if_neg c, List.filter_cons_of_neg, List.filter_nil]
    rw [decide_eq_true_eq]
    by_cases h : t.2.2 > t.2.1
    · rw [if_pos h]; omega
    · rw [if_neg h]; omega
section
variable {P : Program} {w : World} {K : PySem.W.Frag} {mg : Str → Option Value} {base : Heap}
/-! ### _law_on -/
def spLOn (K : PySem.W.Frag) : Sp := fun vs H Q _ => ∃ (t b : Addr) (M : AM) (x : Tri) (z : Str) (n : Int), vs = [.ref t, .ref b, .str z, .int n] ∧ DrawnAt K H t M ∧ H b = some (.tup (tV x)) ∧ (∀ a ∈ M.as, okS a) ∧ (∀ a ∈ M.as, a.2.2.1 ∈ deedsL) ∧ M.as.length ≤ 40 ∧ PyData.strOk z = true ∧
  ∀ (l : Addr) (qs : List TP) H', Same H H' → H' l = some (.lst (trs qs)) → TrAt H' qs → qs.map (·.2) = capT n ((stepsOf (sortA M.as) x.1 z).map (goT x)) → Q (.ref l) H'
def NLo : List Str := ["_law_m", "_law_triple", "_law_letter", "_law_limit", "_law_some", "_law_deed", "_law_to", "_law_lesser", "_law_greater"]
def psLo : List Str := ["_law_m", "_law_triple", "_law_letter", "_law_limit"]
theorem scLOn : FnScope NLo psLo (defScope sLOn) := ⟨rfl, rfl, rfl, by decide +kernel, rfl, by decide +kernel, by decide +kernel⟩
theorem ok_lon {f fS fSp : Addr} {fd fdS fdSp : FuncData} {k : Nat} (F : Fun K "_law_on" "_law_on" sLOn f fd) (Ls : FnM K mg fS fdS "_law_steps" sLSteps ["_law_m", "_law_room", "_law_letter"]) (Sp : FnM K mg fSp fdSp "_law_spent" sSpent ["_law_purses", "_law_deed"]) (ms : mg "sorted" = none) : FnOk P w K mg base CX0 (k + 2) f fd psLo (spLOn K) := by
  have GS : FnOk P w K mg base CX0 (k + 1) fS fdS ["_law_m", "_law_room", "_law_letter"] (spLSteps K) := ok_lsteps Ls.F ms
  have GP : FnOk P w K mg base CX0 (k + 1) fSp fdSp ["_law_purses", "_law_deed"] (spSpent K) := ok_spent Sp.F
  refine F.ok scLOn (fun vs H Q E h => ?_) (fun cdv A outer s H vs Q E hr h => ?_)
  · obtain ⟨t, b, M, x, z, n, rfl, _⟩ := h
    rfl
  · obtain ⟨t, b, M, x, z, n, rfl, dA, hb, hokS, hde, h40, hz, q⟩ := h
    refine ⟨_, pss_cons (ps_setLc (i := 4) (own := [("_law_deed", 5), ("_law_to", 6)]) (g := gTup K 2 (gCons (gName 5) (gCons (gName 6) gNil))) (tt := tYes) (te := tOp (rCatA K) (tCall (spSpent K) [] E0 (tCons (tSl rSlW (tVar 1) (tPart (tC (.int 1))) tNoPart) (tCons (tVar 5) tNil))) (tTup (tCons (tVar 6) tNil))) rfl scLOn.nd rfl rfl (sw_true rfl rfl rfl (by decide +kernel))
          (pi_list (pe_call GS hr (by rfl) Ls.g Ls.F.kp Ls.b .nil pass0 (pa_cons (pv 0) (pa_cons (pe_ix ix_tup (pv 1) pe_int (fun _ _ => rfl)) (pa_cons (pv 2) pa_nil))))) (blkOk_by (own := [("_law_deed", 5), ("_law_to", 6)]) (N := NLo) (sc := defScope sLOn) (by decide +kernel))
          (fun _ _ _ _ _ => pg_tup rfl (pgs_cons (pg_name (i := 5) scLOn.nd rfl (.inl rfl)) (pgs_cons (pg_name (i := 6) scLOn.nd rfl (.inl rfl)) pgs_nil))) (fun _ _ _ _ _ => pts_nil)
          (fun _ _ _ _ _ => pe_op op_catA (pe_call GP hr (by rfl) Sp.g Sp.F.kp Sp.b .nil pass0 (pa_cons (pe_slice sl_tupW (pv 1) (po_some pe_int) po_none) (pa_cons (pv 5) pa_nil))) (pe_tup (pa_cons (pv 6) pa_nil))))
      (pss_one (ps_ret (pe_lc (own := [("_law_lesser", 7), ("_law_greater", 8), ("_law_to", 6)]) (g := gTup K 3 (gCons (gName 7) (gCons (gName 8) (gCons (gName 6) gNil)))) (tt := tAnd (tTest (tOp (rI0 fun i j => .bl (decide (i ≤ j))) (tVar 7) (tVar 3))) (tTest (tOp (rI0 fun i j => .bl (decide (i ≤ j))) (tVar 8) (tVar 3)))) (te := tTup (tCons (tVar 6) (tCons (tVar 7) (tCons (tVar 8) tNil)))) rfl scLOn.nd
          (pi_list (pv 4)) (blkOk_by (own := [("_law_lesser", 7), ("_law_greater", 8), ("_law_to", 6)]) (N := NLo) (sc := defScope sLOn) (by decide +kernel))
          (fun _ _ _ _ _ => pg_tup rfl (pgs_cons (pg_name (i := 7) scLOn.nd rfl (.inl rfl)) (pgs_cons (pg_name (i := 8) scLOn.nd rfl (.inl rfl)) (pgs_cons (pg_name (i := 6) scLOn.nd rfl (.inl rfl)) pgs_nil))))
          (fun _ _ _ _ _ => pts_one (PW.pt (pw_and (pt_cmpR op_le (pv 7) (pv 3) (nomark _)) (pw_and1 (pt_cmpR op_le (pv 8) (pv 3) (nomark _)))))) (fun _ _ _ _ _ => pe_tup (pa_cons (pv 6) (pa_cons (pv 7) (pa_cons (pv 8) pa_nil))))))), ?_⟩
    have b0 := tup_at (K := K) (p := (b, x)) (i := 0) hb rfl
    refine ⟨_, rfl, _, rfl, b, _, 0, _, rfl, rfl, b0.1, b0.2, _, rfl, t, M, x.1, z, rfl, dA, hokS, h40, hz, fun p xs H1 s1 np hp1 hS he => ?_⟩
    have hxl : xs.length ≤ 40 := by
      have e1 := congrArg List.length he
      rw [List.length_map] at e1
      have e2 := stepsOf_len (sortA M.as) x.1 z
      rw [(sortA_perm M.as).length_eq] at e2
      omega
    have hds : ∀ s ∈ xs, s.2.1 ∈ deedsL := fun s hs => stepsOf_deed (as := sortA M.as) (r := x.1) (z := z) (by rw [← he]; exact List.mem_map_of_mem hs) fun a ha => hde a ((sortA_perm M.as).mem_iff.mp ha)
    have hb1 := s1 _ _ hb
    refine ⟨p, rfl, ⟨_, SqL.of hp1⟩, fun D nD => ?_⟩
    refine lc_list (K := K) (a := p) (xs := sts xs) (fun i H' => Same H1 H' ∧ ∃ ps : List TP, H' D = some (.lst (trs ps)) ∧ TrAt H' ps ∧ ps.map (·.2) = ((xs.map (·.2)).take i).map fun s => rotT (goT x s)) ⟨same_upd nD, [], upd_same, (fun _ h => nomatch h), rfl⟩ (fun i H' _ ⟨sm, _⟩ => SqL.of (sm _ _ hp1)) (fun i y H' hy ⟨sm, ps, hD, hT, hpe⟩ => ?_) (fun H2 ⟨s2, ps, hD, hT, hpe⟩ => ?_)
    · obtain ⟨s', hs', rfl⟩ : ∃ s' : ST, xs[i]? = some s' ∧ y = .ref s'.1 := by
        unfold sts at hy
        rw [List.getElem?_map] at hy
        cases e : xs[i]? with
        | none => rw [e] at hy; cases hy
        | some y => rw [e] at hy; exact ⟨y, rfl, (Option.some.inj hy).symm⟩
      have hsm := List.mem_of_getElem? hs'
      have hs3 := sm _ _ (hS s' hsm)
      obtain ⟨d, hd⟩ := in_nm s'.2.1 (hds s' hsm)
      have hpl : ps.length ≤ 1000 := by
        have := congrArg List.length hpe
        rw [List.length_map, List.length_map, List.length_take, List.length_map] at this
        omega
      refine ⟨s'.1, _, rfl, SqT.of hs3, rfl, _, _, rfl, _, _, rfl, rfl, ?_⟩
      refine ⟨rfl, ?_⟩
      refine yes2 ?_
      refine ⟨_, rfl, 1, rfl, b, tV x, rfl, sm _ _ hb1, fun t2 H5 u2 g2 => ?_⟩
      refine ⟨_, rfl, t2, x.2.1, x.2.2, d, by rw [hd]; rfl, SqT.of g2, fun t3 H6 u3 g3 => ?_⟩
      refine ⟨_, rfl, (by decide : 1 ≤ sizeLine), fun t1 nt1 => ?_⟩
      have u1 := same_upd (o := .tup [.int s'.2.2]) nt1
      have g1 : (upd H6 t1 (.tup [.int s'.2.2])) t1 = some (.tup [.int s'.2.2]) := upd_same
      have g3' := u1 _ _ g3
      generalize upd H6 t1 (.tup [.int s'.2.2]) = H7 at u1 g1 g3'
      have u := u2.trans (u3.trans u1)
      refine ⟨t3, t1, _, [.int s'.2.2], rfl, rfl, SqT.of g3', SqT.of g1, (by decide : 3 ≤ sizeLine), (fun z => nomatch z), (fun _ z => nomatch z), fun _ _ t4 nt4 => ?_⟩
      have eg : rotT (goT x s'.2) = ((stp (x.2.1, x.2.2) d).1, (stp (x.2.1, x.2.2) d).2, s'.2.2) := by
        unfold goT rotT
        rw [hd, ddOf_nm]
      obtain ⟨acc, a1, a2, a3, a4, a5⟩ := grow_tri (x := ((stp (x.2.1, x.2.2) d).1, (stp (x.2.1, x.2.2) d).2, s'.2.2)) nD (sm.trans u) (u _ _ hD) (hT.same u) hpl nt4
      exact ⟨acc, a1, a2, a3, _, a4, a5, by rw [List.map_append, hpe, take_next (xs := xs.map (·.2)) (x := s'.2) (by rw [List.getElem?_map, hs']; rfl), List.map_append]; show _ ++ [_] = _ ++ [rotT (goT x s'.2)]; rw [eg]⟩
    · rw [sts_len, show xs.length = (xs.map (·.2)).length by rw [List.length_map], List.take_length, he] at hpe
      have hpl : ps.length ≤ 40 := by
        have := congrArg List.length hpe
        rw [List.length_map, List.length_map] at this
        have e2 := stepsOf_len (sortA M.as) x.1 z
        rw [(sortA_perm M.as).length_eq] at e2
        omega
      refine ⟨_, rfl, D, rfl, ⟨_, SqL.of hD⟩, fun D2 nD2 => ?_⟩
      have hpe2 : (ps.map fun p : TP => ((p.2.2.2, p.2.1, p.2.2.1) : Tri)) = (stepsOf (sortA M.as) x.1 z).map (goT x) := by
        have e := congrArg (List.map fun t : Tri => ((t.2.2, t.1, t.2.1) : Tri)) hpe
        rw [List.map_map, List.map_map] at e
        exact e
      refine lc_list (K := K) (a := D) (xs := trs ps) (fun i H' => Same H2 H' ∧ ∃ qs : List TP, H' D2 = some (.lst (trs qs)) ∧ TrAt H' qs ∧ qs.length ≤ i ∧ qs.map (·.2) = capT n ((ps.map fun p : TP => ((p.2.2.2, p.2.1, p.2.2.1) : Tri)).take i)) ⟨same_upd nD2, [], upd_same, (fun _ h => nomatch h), Nat.le_refl _, rfl⟩ (fun i H' _ ⟨sm, _⟩ => SqL.of (sm _ _ hD)) (fun i y H' hy ⟨sm, qs, hD', hT', hql, hqe⟩ => ?_) (fun H3 ⟨s3, qs, hD', hT', hql, hqe⟩ => ?_)
      · obtain ⟨r, hr', rfl⟩ := trs_at hy
        have hi : i < ps.length := (List.getElem?_eq_some_iff.mp hr').1
        have hr3 := sm _ _ (hT r (List.mem_of_getElem? hr'))
        have hn := cap_snoc (n := n) (xs := ps.map fun p : TP => ((p.2.2.2, p.2.1, p.2.2.1) : Tri)) (i := i) (t := (r.2.2.2, r.2.1, r.2.2.1)) (by rw [List.getElem?_map, hr']; rfl)
        have no : ¬ (r.2.1 ≤ n ∧ r.2.2.1 ≤ n) → Same H2 H' ∧ ∃ qs : List TP, H' D2 = some (.lst (trs qs)) ∧ TrAt H' qs ∧ qs.length ≤ i + 1 ∧ qs.map (·.2) = capT n ((ps.map fun p : TP => ((p.2.2.2, p.2.1, p.2.2.1) : Tri)).take (i + 1)) := fun e => by
          rw [hn, if_neg e, List.append_nil]
          exact ⟨sm, qs, hD', hT', by omega, hqe⟩
        refine ⟨r.1, _, rfl, SqT.of hr3, rfl, _, _, rfl, _, _, rfl, _, _, rfl, rfl, ?_⟩
        refine ⟨rfl, ?_⟩
        refine ⟨_, rfl, _, rfl, _, _, rfl, rfl, _, rfl, ?_⟩
        by_cases c1 : r.2.1 ≤ n
        · refine itT c1 ?_
          refine ⟨_, rfl, _, rfl, _, _, rfl, rfl, _, rfl, ?_⟩
          by_cases c2 : r.2.2.1 ≤ n
          · refine itT c2 ?_
            refine ⟨_, rfl, _, rfl, _, rfl, (by decide : 3 ≤ sizeLine), fun t4 nt4 => ?_⟩
            obtain ⟨acc, a1, a2, a3, a4, a5⟩ := grow_tri (x := (r.2.2.2, r.2.1, r.2.2.1)) nD2 sm hD' hT' (by omega) nt4
            exact ⟨acc, a1, a2, a3, _, a4, a5, by rw [List.length_append]; show qs.length + 1 ≤ i + 1; omega, by rw [hn, if_pos ⟨c1, c2⟩, List.map_append, hqe]; rfl⟩
          · refine itF c2 ?_
            exact no fun e => c2 e.2
        · refine itF c1 ?_
          refine iteF ?_
          exact no fun e => c1 e.1
      · rw [trs_len, show ps.length = (ps.map fun p : TP => ((p.2.2.2, p.2.1, p.2.2.1) : Tri)).length by rw [List.length_map], List.take_length, hpe2] at hqe
        exact q D2 qs H3 (s1.trans (s2.trans s3)) hD' hT' hqe
/-! ### _law_board_on -/
def spLBOn (K : PySem.W.Frag) : Sp := fun vs H Q _ => ∃ (t b : Addr) (M : AM) (z : Str) (n : Int) (ps : List TP), vs = [.ref t, .ref b, .str z, .int n] ∧ DrawnAt K H t M ∧ SqT K H b (trs ps) ∧ TrAt H ps ∧ (∀ a ∈ M.as, okS a) ∧ (∀ a ∈ M.as, a.2.2.1 ∈ deedsL) ∧ M.as.length ≤ 40 ∧ PyData.strOk z = true ∧ ps.length ≤ 1000 ∧
  (∀ t ∈ capT n (leadsT (sortA M.as) z (ps.map (·.2))), okT t) ∧ (capT n (leadsT (sortA M.as) z (ps.map (·.2)))).length < 1001 ∧
  ∀ (u : Addr) (qs : List TP) H', Same H H' → H' u = some (.tup (trs qs)) → TrAt H' qs → (∀ p ∈ qs, okT p.2) → qs.length < 1001 → IsLeast (capT n (leadsT (sortA M.as) z (ps.map (·.2)))) (qs.map (·.2)) → Q (.ref u) H'
def NLbo : List Str := ["_law_m", "_law_board", "_law_letter", "_law_limit", "_law_found", "_law_triple"]
def psLbo : List Str := ["_law_m", "_law_board", "_law_letter", "_law_limit"]
theorem scLBOn : FnScope NLbo psLbo (defScope sLBOn) := ⟨rfl, rfl, rfl, by decide +kernel, rfl, by decide +kernel, by decide +kernel⟩
theorem ok_lbon {f fO fS fSp fL : Addr} {fd fdO fdS fdSp fdL : FuncData} {k : Nat} (F : Fun K "_law_board_on" "_law_board_on" sLBOn f fd) (On : FnM K mg fO fdO "_law_on" sLOn psLo) (Ls : FnM K mg fS fdS "_law_steps" sLSteps ["_law_m", "_law_room", "_law_letter"]) (Sp : FnM K mg fSp fdSp "_law_spent" sSpent ["_law_purses", "_law_deed"]) (LL : FnM K mg fL fdL "_law_least" sLLeast ["_law_triples"]) (ms : mg "sorted" = none) (mse : mg "set" = none) (mt : mg "tuple" = none) (mi : mg "int" = none) : FnOk P w K mg base CX0 (k + 3) f fd psLbo (spLBOn K) := by
  have GO : FnOk P w K mg base CX0 (k + 2) fO fdO psLo (spLOn K) := ok_lon On.F Ls Sp ms
  have GL : FnOk P w K mg base CX0 (k + 2) fL fdL ["_law_triples"] (spLLeast K) := ok_lleast LL.F ms mse mt mi
  refine F.ok scLBOn (fun vs H Q E h => ?_) (fun cdv A outer s H vs Q E hr h => ?_)
  · obtain ⟨t, b, M, z, n, ps, rfl, _⟩ := h
    rfl
  · obtain ⟨t, b, M, z, n, ps, rfl, dA, hb, hT, hokS, hde, h40, hz, hpl, q1, q2, q3⟩ := h
    refine ⟨_, pss_cons (ps_set (i := 4) scLBOn.nd rfl (.inl rfl) (pe_lst pa_nil))
      (pss_cons (ps_for PassesOwn.never rfl (pi_tup (pv 1)) (pg_name (i := 5) scLBOn.nd rfl (.inl rfl))
        (pss_one (ps_set (i := 4) scLBOn.nd rfl (.inl rfl) (pe_op op_cat (pv 4) (pe_call GO hr (by rfl) On.g On.F.kp On.b .nil pass0 (pa_cons (pv 0) (pa_cons (pv 5) (pa_cons (pv 2) (pa_cons (pv 3) pa_nil)))))))))
      (pss_one (ps_ret (pe_call GL hr (by rfl) LL.g LL.F.kp LL.b .nil pass0 (pa_cons (pv 4) pa_nil))))), ?_⟩
    refine ⟨(by decide : 0 ≤ sizeLine), fun fo nfo => ?_⟩
    have s1 := same_upd (o := .lst []) nfo
    have hf1 : (upd H fo (.lst [])) fo = some (.lst (trs [])) := upd_same
    generalize upd H fo (.lst []) = H1 at s1 hf1
    have hbig : 200000 ≤ sizeLine := by decide
    have hlen : ∀ ts : List Tri, ts.length ≤ 1000 → (capT n (leadsT (sortA M.as) z ts)).length ≤ 40000 := fun ts ht => by
      have e1 : (capT n (leadsT (sortA M.as) z ts)).length ≤ (leadsT (sortA M.as) z ts).length := List.length_filter_le ..
      have e2 := leadsT_len (sortA M.as) z ts
      have e3 : (sortA M.as).length ≤ 40 := by rw [(sortA_perm M.as).length_eq]; exact h40
      have e4 := Nat.mul_le_mul ht e3
      omega
    refine ⟨_, rfl, b, rfl, ⟨_, same_seqT s1 hb⟩, for_tup (K := K) (a := b) (xs := trs ps)
      (fun i σ H' => ∃ (fo : Addr) (fs : List TP) (y5 : Option V), σ = [some (.ref t), some (.ref b), some (.str z), some (.int n), some (.ref fo), y5] ∧ Same H1 H' ∧ H' fo = some (.lst (trs fs)) ∧ TrAt H' fs ∧ fs.map (·.2) = capT n (leadsT (sortA M.as) z ((ps.map (·.2)).take i)))
      ⟨fo, [], _, rfl, fun _ _ h => h, hf1, (fun _ h => nomatch h), rfl⟩ (fun i σ H' _ ⟨_, _, _, _, sm, _⟩ => same_seqT (s1.trans sm) hb) ?_ ?_⟩
    · rintro i y σ H2 hy ⟨fo, fs, y5, rfl, s2, hfo, hfT, hfe⟩
      obtain ⟨r, hr', rfl⟩ := trs_at hy
      have s02 := s1.trans s2
      refine ⟨_, rfl, _, rfl, _, rfl, _, rfl, _, rfl, t, r.1, M, r.2, z, n, rfl, dA.same s02, s02 _ _ (hT r (List.mem_of_getElem? hr')), hokS, hde, h40, hz, fun l qs H3 s3 hl hqT hqe => ?_⟩
      have hfl : fs.length ≤ 40000 := by
        rw [← List.length_map (f := fun p : TP => p.2), hfe]
        exact hlen _ (by rw [List.length_take, List.length_map]; omega)
      have hql : qs.length ≤ 40000 := by
        have e0 := congrArg List.length hqe
        rw [List.length_map] at e0
        have e1 : (capT n ((stepsOf (sortA M.as) r.2.1 z).map (goT r.2))).length ≤ ((stepsOf (sortA M.as) r.2.1 z).map (goT r.2)).length := List.length_filter_le ..
        rw [List.length_map] at e1
        have e2 := stepsOf_len (sortA M.as) r.2.1 z
        rw [(sortA_perm M.as).length_eq] at e2
        omega
      refine ⟨fo, l, trs fs, trs qs, rfl, rfl, s3 _ _ hfo, hl, by rw [trs_len, trs_len]; omega, fun p9 np9 => ?_⟩
      have s4 := same_upd (o := .lst (trs fs ++ trs qs)) np9
      refine ⟨p9, fs ++ qs, _, rfl, s2.trans (s3.trans s4), ?_, fun p hp => ?_, ?_⟩
      · rw [upd_same]
        unfold trs
        rw [List.map_append]
      · rcases List.mem_append.mp hp with h | h
        · exact (s3.trans s4) _ _ (hfT p h)
        · exact s4 _ _ (hqT p h)
      · rw [List.map_append, hfe, hqe, take_next (xs := ps.map (·.2)) (x := r.2) (by rw [List.getElem?_map, hr']; rfl), leadsT_snoc, capT_append]
    · rintro σ H2 ⟨fo, fs, y5, rfl, s2, hfo, hfT, hfe⟩
      rw [trs_len, show ps.length = (ps.map (·.2)).length by rw [List.length_map], List.take_length] at hfe
      refine ⟨_, rfl, fo, fs, rfl, SqL.of hfo, hfT, fun p hp => q1 p.2 (by rw [← hfe]; exact List.mem_map_of_mem hp), by rw [← List.length_map (f := fun p : TP => p.2), hfe]; exact q2, fun u qs H3 s3 hu hqT hqo hql hL => ?_⟩
      rw [hfe] at hL
      exact q3 u qs H3 (s1.trans (s2.trans s3)) hu hqT hqo hql hL
end
end Onp
set_option maxHeartbeats 8000000
set_option autoImplicit false
namespace Onp
open PySem PySem.Spec PyProof.Rows L2
abbrev sLWell : Stmt := topS 57
section
variable {P : Program} {w : World} {K : PySem.W.Frag} {mg : Str → Option Value} {base : Heap}
def spLWell (K : PySem.W.Frag) : Sp := fun vs H Q _ => ∃ (a b : Addr) (M : AM) (ps : List TP), vs = [.ref a, .ref b] ∧ DrawnAt K H a M ∧ SqT K H b (trs ps) ∧ TrAt H ps ∧ ps.length ≤ 1000 ∧ ∀ H', Same H H' → Q (.bl (wellB M.gs (ps.map (·.2)))) H'
def NLwl : List Str := ["_law_m", "_law_board", "_law_triple"]
theorem scLWell : FnScope NLwl ["_law_m", "_law_board"] (defScope sLWell) := ⟨rfl, rfl, rfl, by decide +kernel, rfl, by decide +kernel, by decide +kernel⟩
theorem ok_lwell {f : Addr} {fd : FuncData} {k : Nat} (F : Fun K "_law_well" "_law_well" sLWell f fd) (ma : mg "any" = none) : FnOk P w K mg base CX0 (k + 1) f fd ["_law_m", "_law_board"] (spLWell K) := by
  refine F.ok scLWell (fun vs H Q E h => ?_) (fun cdv A outer s H vs Q E hr h => ?_)
  · obtain ⟨a, b, M, ps, rfl, _⟩ := h
    rfl
  · obtain ⟨a, b, M, ps, rfl, dA, hb, hT, hlen, q⟩ := h
    obtain ⟨la, lf, lg, ps0, h1, h2, h3, h4, h5, h6⟩ := dA
    refine ⟨_, pss_one (ps_ret (pe_callB (cr_any rfl) (by rfl) ma (by decide +kernel) (pa_cons
        (pe_lc (own := [("_law_triple", 2)]) (g := gName 2) (tt := tYes) (te := tOp (rIn K false) (tIx0 K 2 0) (tIx0 K 0 4)) rfl scLWell.nd (pi_tup (pv 1)) (blkOk_by (own := [("_law_triple", 2)]) (N := NLwl) (sc := defScope sLWell) (by decide +kernel))
          (fun _ _ _ _ _ => pg_name (i := 2) scLWell.nd rfl (.inl rfl)) (fun _ _ _ _ _ => pts_nil) (fun _ _ _ _ _ => pe_cmpR op_in_seq (pe_ix ix_tup (pv 2) pe_int (fun _ _ => rfl)) (pe_ix ix_tup (pv 0) pe_int (fun _ _ => rfl)) (by rfl))) pa_nil))), ?_⟩
    refine ⟨_, rfl, b, rfl, ⟨_, hb⟩, fun D nD => ?_⟩
    refine lc_tup (K := K) (a := b) (xs := trs ps) (fun i H' => Same H H' ∧ H' D = some (.lst ((((ps.map (·.2)).take i).map fun t : Tri => decide (t.1 ∈ M.gs)).map V.bl))) ⟨same_upd nD, upd_same⟩ (fun i H' _ ⟨sm, _⟩ => same_seqT sm hb) (fun i x H' hx ⟨sm, hD⟩ => ?_) (fun H2 ⟨s2, hD⟩ => ?_)
    · obtain ⟨p, hp, rfl⟩ := trs_at hx
      have hp' := sm _ _ (hT p (List.mem_of_getElem? hp))
      have p0 := tup_at (K := K) (i := 0) hp' rfl
      refine ⟨rfl, ?_⟩
      refine yes2 ?_
      refine ⟨_, rfl, p.1, _, 0, _, rfl, rfl, p0.1, p0.2, _, rfl, a, _, 4, _, rfl, rfl, SqT.of (sm _ _ h1), rfl, lg, M.gs.map V.int, rfl, .inl (SqL.of (sm _ _ h6)), rfl, flatInts _, ?_⟩
      rw [if_neg Bool.false_ne_true, inV_ints]
      exact grow_bl (ts := ps.map (·.2)) (f := fun t : Tri => decide (t.1 ∈ M.gs)) (t := p.2) nD sm (by rw [List.getElem?_map, hp]; rfl) (by rw [List.length_map]; exact hlen) hD
    · rw [trs_len, show ps.length = (ps.map (·.2)).length by rw [List.length_map], List.take_length] at hD
      refine ⟨D, _, rfl, SqL.of hD, ?_⟩
      rw [well_list]
      exact q H2 s2
end
end Onp
set_option maxHeartbeats 4000000
set_option autoImplicit false
/-! {k: v for target in iter if ..}, the keys tuples of ints and texts -/
namespace Onp
open PySem PySem.Spec PyProof.Rows L2
section
variable {X : Cx}
theorem d_dictSetP {pins : List (Addr × Obj)} {σ : L2.St} {H : Hp} {s : Shared} {E : Value → Shared → Prop} {D b : Addr} {kvs : List (List L2.Key × V)} {k : List L2.Key} {v : V} {r : Value} {Q : Unit → Shared → Prop} (hu : X.A.units + 1 < cLine) (I : Inv X pins σ H s) (hD : H D = some (.dT kvs)) (hb : H b = some (.tup (k.map kV))) (hz : kvs.length < sizeLine)
    (rv : RelV v r) (h : ∀ s', Inv X pins σ (upd H D (.dT (putK kvs k v))) s' → Q () s') : wpAny (model X.prog X.w) X.A (dictSet D (.ref b) r) Q E s := by
  obtain ⟨z, hd, xs, rel, dd⟩ := dt_of I.hok hD
  have hx : xs.length ≤ sizeLine := Paired.length rel ▸ z
  have hl : (putK kvs k v).length ≤ sizeLine := Nat.le_trans (length_putK kvs k v) hz
  refine wpAny_dictSet_heap (hsz := hx) (show X.A.units < cLine by omega) (key_of I.hok hb) dd fun h' dd' hs => h _ ?_
  obtain ⟨q, es, ep, hq, c2, c3, c4, _, c5⟩ := dd'
  refine d_write I (by rw [hD]; exact True.intro) hs ⟨q, hq⟩ ⟨hl, hd, _, (rel.put k hb rv).keeps fun c ys ec => ?_, q, es, ep, hq, c2, c3, c4, c5⟩
  rw [upd_ne (ne_of ec hD (fun z => nomatch z))]
  exact ec
end
/-- what a store does, told of the heap -/
abbrev PutR : Type := Hp → Addr → V → V → Hp → Prop
def PutOk (P : Program) (w : World) (K : PySem.W.Frag) (Put : PutR) : Prop := ∀ (X : Cx) (pins : List (Addr × Obj)) (σ : L2.St) (H H' : Hp) (s : Shared) (E : Value → Shared → Prop) (D : Addr) (y v : V) (u r : Value) (Q : Unit → Shared → Prop), X.prog = P → X.w = w → X.K = K → X.A.units + 64 < cLine → Inv X pins σ H s → Put H D y v H' → RelV y u → RelV v r → (∀ s', Inv X pins σ H' s' → Q () s') → wpAny (model X.prog X.w) X.A (dictSet D u r) Q E s
/-- a dict that nothing is in -/
def NewOk (P : Program) (w : World) (o : HO) : Prop := ∀ (H : Hp) (h : Heap), sysModules < h.objs.size → ObjOk P w H (h.push { cls := .type "dict", data := .dict #[] }) h.objs.size o
def PutT : PutR := fun H D y v H' => ∃ kvs k b, H D = some (.dT kvs) ∧ y = .ref b ∧ H b = some (.tup (k.map kV)) ∧ kvs.length < sizeLine ∧ H' = upd H D (.dT (putK kvs k v))
theorem putT_ok (P : Program) (w : World) {K : PySem.W.Frag} : PutOk P w K PutT := by
  intro X pins σ H H' s E D y v u r Q e1 e2 e3 hu I hp ry rv h
  obtain ⟨kvs, k, b, hD, rfl, hb, hz, rfl⟩ := hp
  cases ry
  exact d_dictSetP (by omega) I hD hb hz rv h
def NewOkA (P : Program) (w : World) (o : Addr → HO) : Prop := ∀ (H : Hp) (h : Heap), sysModules < h.objs.size → ObjOk P w H (h.push { cls := .type "dict", data := .dict #[] }) h.objs.size (o h.objs.size)
theorem newT_ok (P : Program) (w : World) : NewOk P w (.dT []) := fun _ h hb => dt_empty h hb
section
variable {X : Cx}
def tDcA (o0 : Addr → HO) (Put : PutR) (wi : TI) (g : TG) (tt : TT) (tk tv : TE) (vs : List Nat) : TE := fun σ H Q => wi σ H fun J H1 => ∀ D, H1 D = none → ∃ W : Nat → Nat → Hp → Prop, (∃ m, W 0 m (upd H1 D (o0 D))) ∧ ∀ i m H, W i m H →
  (J.stop i H ∧ Q (.ref D) H) ∨ (J.go i H ∧ ∃ Nx : Hp → Prop, (∀ H', Nx H' → ∃ m', m' < m ∧ W (i + 1) m' H') ∧ ∀ x H', J.yld i H x H' → g x (wipe σ vs) H' fun σ2 H2 => wipe σ2 vs = wipe σ vs ∧ tt σ2 H2 fun b H3 =>
    if b = true then tk σ2 H3 fun y H4 => tv σ2 H4 fun z H5 => ∃ H6, Put H5 D y z H6 ∧ Nx H6 else Nx H3)
def tDcG (o0 : HO) (Put : PutR) (wi : TI) (g : TG) (tt : TT) (tk tv : TE) (vs : List Nat) : TE := fun σ H Q => wi σ H fun J H1 => ∀ D, H1 D = none → ∃ W : Nat → Nat → Hp → Prop, (∃ m, W 0 m (upd H1 D o0)) ∧ ∀ i m H, W i m H →
  (J.stop i H ∧ Q (.ref D) H) ∨ (J.go i H ∧ ∃ Nx : Hp → Prop, (∀ H', Nx H' → ∃ m', m' < m ∧ W (i + 1) m' H') ∧ ∀ x H', J.yld i H x H' → g x (wipe σ vs) H' fun σ2 H2 => wipe σ2 vs = wipe σ vs ∧ tt σ2 H2 fun b H3 =>
    if b = true then tk σ2 H3 fun y H4 => tv σ2 H4 fun z H5 => ∃ H6, Put H5 D y z H6 ∧ Nx H6 else Nx H3)
theorem pe_dcA {kx vx tg iter : Expr} {ifs : List Expr} {scope : Scope} {own : List (Str × Nat)} {pos : Pos} {wi : TI} {g : TG} {tt : TT} {tk tv : TE} {o0 : Addr → HO} {Put : PutR} (hnew : NewOkA X.prog X.w o0) (hput : PutOk X.prog X.w X.K Put) (hu : X.A.units + 64 < cLine) (hc : X.calm = true) (hN : X.N.Nodup) (hi : PI X tg iter wi) (ok : BlkOk X.N X.env.scope scope own)
    (hg : ∀ (s : Shared) (H : Hp) (C : Addr) (cl : List (Str × Addr)) (fp : List Addr), PG (X.blk s H scope (compEnvC scope cl C X.env) fp) tg g) (ht : ∀ (s : Shared) (H : Hp) (C : Addr) (cl : List (Str × Addr)) (fp : List Addr), PTs (X.blk s H scope (compEnvC scope cl C X.env) fp) ifs tt)
    (hk : ∀ (s : Shared) (H : Hp) (C : Addr) (cl : List (Str × Addr)) (fp : List Addr), PE (X.blk s H scope (compEnvC scope cl C X.env) fp) kx tk)
    (he : ∀ (s : Shared) (H : Hp) (C : Addr) (cl : List (Str × Addr)) (fp : List Addr), PE (X.blk s H scope (compEnvC scope cl C X.env) fp) vx tv) (hs : ∀ x, foldedSetIterable iter X.env x = pure x := by intro _; rfl) :
    PE X (.DictComp kx vx [⟨tg, iter, ifs, 0⟩] scope pos) (tDcA o0 Put wi g tt tk tv (own.map (·.2))) := by
  refine ⟨fun pins s σ H Q I hstart => ?_⟩
  rw [arm_eval_DictComp]
  have cellsOf : ∀ y ∈ scope.names, y.2 = .free → ∃ c, X.env.cells.lookup y.1 = some c := fun y hy e => I.ok.has _ (ok.free y hy e)
  refine wpAny_comprehension_free (use := none) rfl hs (closure_ok cellsOf) ok.kind (fun y hy e => by rw [ok.uniq y hy, e])
    (thn (hi.run pins s σ H _ I hstart) fun _ sa hx => thn hx fun _ sb hb => ?_)
  obtain ⟨it, fp, tn, J, Hb, rfl, Ib, T, st0, pin0, todo⟩ := hb
  refine wpAny_newObj_type (newEnv_comp ?_)
  generalize hD : sb.heap.objs.size = D
  obtain ⟨W, ⟨m0, w0⟩, turn⟩ := todo D (Ib.hok.fresh (Nat.le_of_eq hD))
  generalize hsc : ({ sb with heap := sb.heap.push { cls := .type "dict", data := .dict #[] } } : Shared) = sc
  have push : sc.heap = sb.heap.push { cls := .type "dict", data := .dict #[] } := by rw [← hsc]
  have Ic : Inv X pins σ (upd Hb D (o0 D)) sc := by
    subst hsc
    refine Ib.laid (t' := sb.toks) (fun b o e => Heap.get?_push_of_some _ e) (Nat.le_of_eq hD) ?_
    subst hD
    exact hnew _ sb.heap Ib.big
  have old : ∀ b ∈ fp, b < sb.heap.objs.size := fun b hb => (T.obj _ _ st0 b hb).elim fun o e => Heap.lt_size e.1
  have pin1 : ∀ b ∈ fp, FpOk X pins (upd Hb D (o0 D)) b ∧ b < sc.heap.objs.size := fun b hb =>
    ⟨⟨by rw [upd_ne (by rw [← hD]; exact Nat.ne_of_lt (old b hb))]; exact (pin0 b hb).1, (pin0 b hb).2⟩, by rw [push, Heap.size_push]; exact Nat.lt_succ_of_lt (old b hb)⟩
  have st1 : tn 0 sc.heap := T.keep _ _ _ st0 fun b _ o e => by rw [push]; exact Heap.get?_push_of_some _ e
  have Id := block_start Ic ok hN pin1
  have pg := hg sc (upd Hb D (o0 D)) sc.heap.objs.size (cellsFrom (sc.heap.objs.size + 1) scope.names (cloFrom X.env.cells scope.names [])) fp
  have pt := ht sc (upd Hb D (o0 D)) sc.heap.objs.size (cellsFrom (sc.heap.objs.size + 1) scope.names (cloFrom X.env.cells scope.names [])) fp
  have pk := hk sc (upd Hb D (o0 D)) sc.heap.objs.size (cellsFrom (sc.heap.objs.size + 1) scope.names (cloFrom X.env.cells scope.names [])) fp
  have pv' := he sc (upd Hb D (o0 D)) sc.heap.objs.size (cellsFrom (sc.heap.objs.size + 1) scope.names (cloFrom X.env.cells scope.names [])) fp
  show codeAny _ _ (.compStart (.DictComp kx vx [⟨tg, iter, ifs, 0⟩] scope pos) 0 (.ref it) (.ref D) (compEnvC scope (cellsFrom (sc.heap.objs.size + 1) scope.names (cloFrom X.env.cells scope.names [])) sc.heap.objs.size X.env)) (compPost (model X.prog X.w) X.A X.xe none _ (.ref D) sc.heap.objs.size) { sc with heap := pushCells (sc.heap.push { cls := .type "dict", data := .dict #[] }) scope.names }
  generalize hce : compEnvC scope (cellsFrom (sc.heap.objs.size + 1) scope.names (cloFrom X.env.cells scope.names [])) sc.heap.objs.size X.env = ce at Id pg pt pk pv' ⊢
  have cL : ce.locals = sc.heap.objs.size := by subst hce; rfl
  have gone : ∀ b ∈ fp, (upd Hb D (o0 D)) b = none := fun b hb => (pin1 b hb).1.1
  generalize hHc : upd Hb D (o0 D) = Hc at Ic Id pg pt pk pv' w0 gone pin1
  generalize hsd : ({ sc with heap := pushCells (sc.heap.push { cls := .type "dict", data := .dict #[] }) scope.names } : Shared) = sd at Id ⊢
  have st2 : tn 0 sd.heap := T.keep _ _ _ st1 fun b _ o e => by rw [← hsd]; exact pushCells_keeps _ _ _ _ (Heap.get?_push_of_some _ e)
  have stat : ∀ {σ' : L2.St} {H' : Hp} {s' : Shared}, Inv (X.blk sc Hc scope ce fp) [] σ' H' s' → (∀ b ∈ fp, H' b = none) → ∀ b ∈ fp, FpOk (X.blk sc Hc scope ce fp) [] H' b := fun {σ' H' s'} I' hn b hb =>
    ⟨hn b hb, (I'.ok.exf b hb).1, I'.ok.exfs b hb, .inl hb, fun x c e => (I'.ok.exf b hb).2 x c e, fun p hp => absurd (show p ∈ ([] : List (Addr × Obj)) ++ [] from hp) (by simp)⟩
  refine codeAny_compStart_dict ?loop (T.self X.A 0 _ _ _ st2 ?loop)
  case loop =>
  refine compLoop_anyD (fun n s' => ∃ i H', Inv (X.blk sc Hc scope ce fp) [] (wipe σ (own.map (·.2))) H' s' ∧ tn i s'.heap ∧ (∀ b ∈ fp, H' b = none) ∧ W i n H') ?_ m0 ⟨0, Hc, Id, st2, gone, w0⟩
  rintro n se ⟨i, He, Ie, ste, ne, we⟩
  rcases turn i n He we with ⟨stop, qq⟩ | ⟨go, Nx, hNx, step⟩
  · refine thnF (T.done (X.blk sc Hc scope ce fp) rfl rfl rfl hc i [] se _ He (fun _ _ => False) Ie (stat Ie ne) ste stop) fun r sf ⟨hr, If⟩ => ?_
    subst hr
    have Ig : Inv X pins σ He sf := Ic.call' (ch := fp) If.os If.base If.hok If.bare fun b hb => ⟨(pin1 b hb).1.2.2.2.1, (pin1 b hb).1.2.1, (pin1 b hb).1.2.2.2.2.1, (pin1 b hb).1.2.2.2.2.2⟩
    have nC : He sc.heap.objs.size = none := cL ▸ (show He ce.locals = none from If.free)
    obtain ⟨m, hn, _⟩ := If.loc
    have hn : sf.heap.Ns sc.heap.objs.size m := cL ▸ (show sf.heap.Ns ce.locals m from hn)
    obtain ⟨f0, f1, f2, f3, f4, f5⟩ := Ic.fpOk (Nat.le_refl _) (show Hc sc.heap.objs.size = none from Ic.hok.fresh (Nat.le_refl _))
    exact ⟨m, hn, fun h'' sb' => ⟨.ref D, He, Ig.turned (t' := sf.toks) (fun b o hb e => (sb'.2 b hb).trans e) nC f1 f3 f4 f5, rfl, qq⟩⟩
  · refine thnF (T.item (X.blk sc Hc scope ce fp) rfl rfl rfl hc i [] se _ He (fun _ _ => False) Ie (stat Ie ne) ste go) fun r sf ⟨u, hr, hf⟩ => ?_
    subst hr
    refine thnF hf fun _ sg ⟨x, Hg, Ig, rg, yg, stg, ng⟩ => ?_
    have Ig' := Ig.pinned (stat Ig ng) (T.obj _ _ stg)
    refine thnF (pg.run _ sg _ Hg x u _ Ig' rg (step x Hg yg)) fun _ sh ⟨σ8, H8, I8, hw8, q8⟩ => ?_
    refine thnF (pt.run _ sh σ8 H8 _ I8 q8) fun b s9 ⟨H9, I9, q9⟩ => ?_
    have fin : ∀ {s' : Shared} {H' : Hp}, Inv (X.blk sc Hc scope ce fp) ([] ++ pinsAt fp sg.heap) σ8 H' s' → Nx H' → ∃ m, m < n ∧ ∃ i H', Inv (X.blk sc Hc scope ce fp) [] (wipe σ (own.map (·.2))) H' s' ∧ tn i s'.heap ∧ (∀ b ∈ fp, H' b = none) ∧ W i m H' := fun {s' H'} I' nx => by
      obtain ⟨m', hm, w'⟩ := hNx H' nx
      have pin' : ∀ b ∈ fp, ∀ o, sg.heap.get? b = some o → s'.heap.get? b = some o ∧ H' b = none := fun b hb o e =>
        let z := I'.pin (b, o) (List.mem_append_right _ (List.mem_append_right _ (mem_pinsAt hb e)))
        ⟨z.1, z.2.1⟩
      refine ⟨m', hm, i + 1, H', (I'.unpinned (pins := [])).weak (by rw [← hw8, wipe_length]) (fun j v e => (wipe_some (hw8 ▸ e)).1), T.keep _ _ _ stg fun b hb o e => (pin' b hb o e).1, fun b hb => ?_, w'⟩
      obtain ⟨o, e, _⟩ := T.obj _ _ stg b hb
      exact (pin' b hb o e).2
    cases b with
    | false =>
      rw [if_neg Bool.false_ne_true] at q9
      exact fin I9 q9
    | true =>
      rw [if_pos rfl] at q9
      refine thnF (pk.run _ s9 σ8 H9 _ I9 q9) fun z s10 ⟨yk, H10, I10, r10, q10⟩ => ?_
      refine thnF (pv'.run _ s10 σ8 H10 _ I10 q10) fun z2 s11 ⟨yv, H11, I11, r11, H12, put, nx⟩ => ?_
      exact hput (X.blk sc Hc scope ce fp) _ _ _ _ _ _ _ _ _ _ _ _ rfl rfl rfl hu I11 put r10 r11 fun s12 I12 => fin I12 nx
theorem pe_dcG {kx vx tg iter : Expr} {ifs : List Expr} {scope : Scope} {own : List (Str × Nat)} {pos : Pos} {wi : TI} {g : TG} {tt : TT} {tk tv : TE} {o0 : HO} {Put : PutR} (hnew : NewOk X.prog X.w o0) (hput : PutOk X.prog X.w X.K Put) (hu : X.A.units + 64 < cLine) (hc : X.calm = true) (hN : X.N.Nodup) (hi : PI X tg iter wi) (ok : BlkOk X.N X.env.scope scope own)
    (hg : ∀ (s : Shared) (H : Hp) (C : Addr) (cl : List (Str × Addr)) (fp : List Addr), PG (X.blk s H scope (compEnvC scope cl C X.env) fp) tg g) (ht : ∀ (s : Shared) (H : Hp) (C : Addr) (cl : List (Str × Addr)) (fp : List Addr), PTs (X.blk s H scope (compEnvC scope cl C X.env) fp) ifs tt)
    (hk : ∀ (s : Shared) (H : Hp) (C : Addr) (cl : List (Str × Addr)) (fp : List Addr), PE (X.blk s H scope (compEnvC scope cl C X.env) fp) kx tk)
    (he : ∀ (s : Shared) (H : Hp) (C : Addr) (cl : List (Str × Addr)) (fp : List Addr), PE (X.blk s H scope (compEnvC scope cl C X.env) fp) vx tv) (hs : ∀ x, foldedSetIterable iter X.env x = pure x := by intro _; rfl) :
    PE X (.DictComp kx vx [⟨tg, iter, ifs, 0⟩] scope pos) (tDcG o0 Put wi g tt tk tv (own.map (·.2))) :=
  pe_dcA (o0 := fun _ => o0) hnew hput hu hc hN hi ok hg ht hk he hs
end
end Onp
set_option maxHeartbeats 4000000
set_option autoImplicit false
/-! dicts whose keys are nested tuples -/
namespace Onp
open PySem PySem.Spec PyProof.Rows L2
abbrev NKy : Type := PySem.NestedKey
/-! ### keys -/
inductive NKat (K : PySem.W.Frag) (H : Hp) : NKy → V → Prop
  | none : NKat K H .none .non
  | num (i : Int) : NKat K H (.num i) (.int i)
  | text (x : Str) : NKat K H (.text x) (.str x)
  | tup {a : Addr} {ks : List NKy} {vs : List V} : SqT K H a vs → ks.length = vs.length → (∀ (i : Nat) (k : NKy) (v : V), ks[i]? = some k → vs[i]? = some v → NKat K H k v) → NKat K H (.tup ks) (.ref a)
theorem NKat.move {K : PySem.W.Frag} {H H' : Hp} (m : ∀ a xs, SqT K H a xs → SqT K H' a xs) {k : NKy} {v : V} (h : NKat K H k v) : NKat K H' k v := by
  induction h with
  | none => exact .none
  | num i => exact .num i
  | text x => exact .text x
  | tup h hl _ ih => exact .tup (m _ _ h) hl ih
theorem nall_of {h : Heap} : ∀ {ks : List NKy} {us : List Value}, ks.length = us.length → (∀ (i : Nat) (k : NKy) (u : Value), ks[i]? = some k → us[i]? = some u → NestedIs h k u) → NestedAll h ks us
  | [], [], _, _ => .nil
  | k :: ks, u :: us, hl, f => .cons (f 0 k u rfl rfl) (nall_of (Nat.succ.inj hl) fun i k' u' h1 h2 => f (i + 1) k' u' h1 h2)
theorem vals_at {vs : List V} {us : List Value} (r : Vals vs us) : ∀ {i : Nat} {u : Value}, us[i]? = some u → ∃ v, vs[i]? = some v ∧ RelV v u := by
  induction r with
  | nil => intro i u h; simp at h
  | cons h1 _ ih =>
    intro i u h
    cases i with
    | zero =>
      obtain rfl := Option.some.inj h
      exact ⟨_, rfl, h1⟩
    | succ i => exact ih h
section
variable {X : Cx} {pins : List (Addr × Obj)} {σ : L2.St} {H : Hp} {s : Shared}
theorem NKat.is (I : Inv X pins σ H s) {k : NKy} {v : V} (h : NKat X.K H k v) : ∀ u, RelV v u → NestedIs s.heap k u := by
  induction h with
  | none =>
    intro u r
    cases (show u = Value.none from r)
    exact .none
  | num i =>
    intro u r
    obtain ⟨t, rfl⟩ := (show ∃ t, u = Value.int i t from r)
    exact .int i t
  | text x =>
    intro u r
    obtain ⟨t, rfl⟩ := (show ∃ t, u = Value.str x t from r)
    exact .text x t
  | tup h hl _ ih =>
    intro u r
    cases (show u = Value.ref _ from r)
    obtain ⟨its, rv, ⟨o, ho, hc, n, hd⟩, hz⟩ := I.tuple h
    refine .tup ho hc hd (nall_of ?_ fun i k' u' hk hu => ?_)
    · rw [hl, Vals.length rv]
    · obtain ⟨v', hv, rr⟩ := vals_at rv hu
      exact ih i k' v' hk hv u' rr
end
theorem sqT_upd {K : PySem.W.Frag} {H : Hp} {D a : Addr} {o ob : HO} {zs : List V} (h : H D = some o) (ht : ∀ xs, o ≠ .tup xs) (hf : ∀ q xs, o ≠ .frz q (.tup xs)) (x : SqT K H a zs) : SqT K (upd H D ob) a zs := by
  rcases x with (h' | ⟨q, h'⟩) | h'
  · exact .inl (.inl (by rw [upd_ne (ne_of h' h (fun z => ht _ z.symm))]; exact h'))
  · exact .inl (.inr ⟨q, by rw [upd_ne (ne_of h' h (fun z => hf _ _ z.symm))]; exact h'⟩)
  · exact .inr h'
/-! ### dicts -/
abbrev NEn : Type := NKy × Addr × V
abbrev NVn : Type := NKy × Addr × Value
inductive NPair : List NEn → List NVn → Prop
  | nil : NPair [] []
  | cons {k : NKy} {a : Addr} {v : V} {u : Value} {xs : List NEn} {vs : List NVn} : RelV v u → NPair xs vs → NPair ((k, a, v) :: xs) ((k, a, u) :: vs)
def valN (xs : List NEn) (k : NKy) : Option V := (xs.find? fun x => decide (x.1 = k)).map (·.2.2)
def putN (xs : List NEn) (k : NKy) (a : Addr) (v : V) : List NEn := if (valN xs k).isSome then xs.map (fun x => if x.1 = k then (x.1, x.2.1, v) else x) else xs ++ [(k, a, v)]
theorem NPair.length {xs : List NEn} {vs : List NVn} (r : NPair xs vs) : xs.length = vs.length := by
  induction r with
  | nil => rfl
  | cons _ _ ih => simp [ih]
theorem NPair.val {xs : List NEn} {vs : List NVn} (r : NPair xs vs) (k : NKy) : (valN xs k = none ∧ atKey vs k = none) ∨ ∃ v p, valN xs k = some v ∧ atKey vs k = some p ∧ RelV v p.2 := by
  induction r with
  | nil => exact .inl ⟨rfl, rfl⟩
  | @cons k0 a v u xs vs h r ih =>
    by_cases e : k0 = k
    · refine .inr ⟨v, (a, u), ?_, ?_, h⟩
      · simp [valN, List.find?_cons, e]
      · simp [atKey, List.find?_cons, e]
    · rcases ih with ⟨i1, i2⟩ | ⟨v', p, i1, i2, i3⟩
      · refine .inl ⟨?_, ?_⟩
        · simpa [valN, List.find?_cons, e] using i1
        · simpa [atKey, List.find?_cons, e] using i2
      · refine .inr ⟨v', p, ?_, ?_, i3⟩
        · simpa [valN, List.find?_cons, e] using i1
        · simpa [atKey, List.find?_cons, e] using i2
theorem NPair.some {xs : List NEn} {vs : List NVn} (r : NPair xs vs) (k : NKy) : (valN xs k).isSome = (atKey vs k).isSome := by
  rcases r.val k with ⟨a, b⟩ | ⟨v, p, a, b, _⟩ <;> rw [a, b] <;> rfl
theorem NPair.map {xs : List NEn} {vs : List NVn} (r : NPair xs vs) {k : NKy} {v : V} {u : Value} (h : RelV v u) : NPair (xs.map fun x => if x.1 = k then (x.1, x.2.1, v) else x) (vs.map (putAt k u)) := by
  induction r with
  | nil => exact .nil
  | @cons k0 a v0 u0 xs vs h0 r ih =>
    rw [List.map_cons, List.map_cons]
    unfold putAt
    by_cases e : k0 = k
    · rw [if_pos e, if_pos e]
      exact .cons h ih
    · rw [if_neg e, if_neg e]
      exact .cons h0 ih
theorem NPair.app {xs : List NEn} {vs : List NVn} (r : NPair xs vs) {k : NKy} {a : Addr} {v : V} {u : Value} (h : RelV v u) : NPair (xs ++ [(k, a, v)]) (vs ++ [(k, a, u)]) := by
  induction r with
  | nil => exact .cons h .nil
  | cons h0 _ ih => exact .cons h0 ih
theorem NPair.put {xs : List NEn} {vs : List NVn} (r : NPair xs vs) {k : NKy} {a : Addr} {v : V} {u : Value} (h : RelV v u) : NPair (putN xs k a v) (storedH vs k a u) := by
  unfold putN storedH
  rw [r.some k]
  split
  · exact r.map h
  · exact r.app h
theorem NPair.mem {xs : List NEn} {vs : List NVn} (r : NPair xs vs) : ∀ y ∈ vs, ∃ x ∈ xs, x.1 = y.1 ∧ x.2.1 = y.2.1 := by
  induction r with
  | nil => exact fun y hy => nomatch hy
  | cons _ _ ih =>
    intro y hy
    rcases List.mem_cons.mp hy with rfl | hy
    · exact ⟨_, List.mem_cons_self, rfl, rfl⟩
    · obtain ⟨x, hx, e⟩ := ih y hy
      exact ⟨x, List.mem_cons_of_mem _ hx, e⟩
theorem putN_len (xs : List NEn) (k : NKy) (a : Addr) (v : V) : (putN xs k a v).length ≤ xs.length + 1 := by
  unfold putN
  split
  · rw [List.length_map]
    exact Nat.le_succ _
  · rw [List.length_append]
    exact Nat.le_refl _
theorem putN_mem {xs : List NEn} {k : NKy} {a : Addr} {v : V} : ∀ y ∈ putN xs k a v, (y.1 = k ∧ y.2.1 = a) ∨ ∃ x ∈ xs, x.1 = y.1 ∧ x.2.1 = y.2.1 := by
  intro y hy
  unfold putN at hy
  split at hy
  · obtain ⟨x, hx, rfl⟩ := List.mem_map.mp hy
    refine .inr ⟨x, hx, ?_⟩
    split <;> exact ⟨rfl, rfl⟩
  · rcases List.mem_append.mp hy with h | h
    · exact .inr ⟨y, h, rfl, rfl⟩
    · rw [List.mem_singleton.mp h]
      exact .inl ⟨rfl, rfl⟩
theorem valN_put {xs : List NEn} {k k' : NKy} {a : Addr} {v : V} : valN (putN xs k a v) k' = if k' = k then some v else valN xs k' := by
  unfold putN
  split
  · rename_i hs
    induction xs with
    | nil => cases hs
    | cons x xs ih =>
      rw [List.map_cons]
      by_cases e : x.1 = k
      · rw [if_pos e]
        by_cases e2 : k' = k
        · subst e2
          rw [if_pos rfl]
          simp [valN, List.find?_cons, e]
        · rw [if_neg e2]
          have e3 : ¬ x.1 = k' := fun z => e2 (z.symm.trans e)
          have aux : ∀ (ys : List NEn), (ys.map fun x => if x.1 = k then (x.1, x.2.1, v) else x).find? (fun x => decide (x.1 = k')) = ys.find? (fun x => decide (x.1 = k')) := by
            intro ys
            induction ys with
            | nil => rfl
            | cons y ys ihy =>
              rw [List.map_cons, List.find?_cons, List.find?_cons, ihy]
              by_cases ey : y.1 = k
              · have : ¬ y.1 = k' := fun z => e2 (z.symm.trans ey)
                simp [ey, this]
                have : ¬ k = k' := fun z => e2 z.symm
                simp [this]
              · simp [ey]
          unfold valN
          rw [List.find?_cons, List.find?_cons, aux xs]
          simp [e3]
      · rw [if_neg e]
        have hs' : (valN xs k).isSome = true := by simpa [valN, List.find?_cons, e] using hs
        have ih := ih hs'
        by_cases e2 : x.1 = k'
        · have : ¬ k' = k := fun z => e (e2.trans z)
          rw [if_neg this]
          simp [valN, List.find?_cons, e2]
        · have g1 : ∀ ys : List NEn, valN (x :: ys) k' = valN ys k' := fun ys => by simp [valN, List.find?_cons, e2]
          rw [g1, g1]
          exact ih
  · rename_i hs
    have hn : valN xs k = none := by simpa using hs
    by_cases e2 : k' = k
    · subst e2
      rw [if_pos rfl]
      unfold valN at hn ⊢
      rw [List.find?_append, Option.map_eq_none_iff.mp hn]
      simp
    · rw [if_neg e2]
      have : ¬ k = k' := fun z => e2 z.symm
      unfold valN
      rw [List.find?_append]
      cases xs.find? (fun x => decide (x.1 = k')) <;> simp [this]
/-- what the dict's own object says -/
def NRaw (P : Program) (w : World) (h : Heap) (a : Addr) (xs : List NEn) : Prop :=
  (a == sysModules) = false ∧ xs.length ≤ sizeLine ∧ ∃ vs : List NVn, NPair xs vs ∧ ∃ o es ep, h.get? a = some o ∧ o.ExactDict ∧ o.data = .dict es ep ∧ es.toList = vs.map (entryOfKey (nestedKind P w)) ∧ (vs.map (·.1)).Nodup
def NDO (P : Program) (w : World) (a : Addr) (xs : List NEn) : HO := .ext fun h => NRaw P w h a xs
theorem NRaw.at {P : Program} {w : World} {h h' : Heap} {a : Addr} {xs : List NEn} (R : NRaw P w h a xs) (k : ∀ o, h.get? a = some o → h'.get? a = some o) : NRaw P w h' a xs := by
  obtain ⟨h1, h2, vs, r, o, es, ep, ho, t⟩ := R
  exact ⟨h1, h2, vs, r, o, es, ep, k _ ho, t⟩
theorem ndo_new {P : Program} {w : World} {H : Hp} {h : Heap} {a : Addr} {xs : List NEn} (R : NRaw P w h a xs) : ObjOk P w H h a (NDO P w a xs) := by
  have ⟨_, _, _, _, o, _, _, ho, _⟩ := R
  exact ⟨R, ⟨o, ho⟩, fun h1 h2 p k => NRaw.at p k⟩
/-- a dict stands at D, its keys' tuples with it -/
structure NAt (P : Program) (w : World) (K : PySem.W.Frag) (H : Hp) (D : Addr) (xs : List NEn) : Prop where
  at_ : H D = some (NDO P w D xs)
  key : ∀ x ∈ xs, NKat K H x.1 (.ref x.2.1) ∧ x.1.depth ≤ 8
theorem NAt.move {P : Program} {w : World} {K : PySem.W.Frag} {H H' : Hp} {D : Addr} {xs : List NEn} (h : NAt P w K H D xs) (hD : H' D = some (NDO P w D xs)) (m : ∀ a xs, SqT K H a xs → SqT K H' a xs) : NAt P w K H' D xs := ⟨hD, fun x hx => ⟨(h.key x hx).1.move m, (h.key x hx).2⟩⟩
theorem NAt.put {P : Program} {w : World} {K : PySem.W.Frag} {H : Hp} {D b : Addr} {xs : List NEn} {k : NKy} {v : V} (h : NAt P w K H D xs) (hk : NKat K H k (.ref b)) (hd : k.depth ≤ 8) : NAt P w K (upd H D (NDO P w D (putN xs k b v))) D (putN xs k b v) := by
  have m : ∀ a ys, SqT K H a ys → SqT K (upd H D (NDO P w D (putN xs k b v))) a ys := fun a ys q => sqT_upd h.at_ (fun _ z => nomatch z) (fun _ _ z => nomatch z) q
  refine ⟨upd_same, fun y hy => ?_⟩
  rcases putN_mem y hy with ⟨e1, e2⟩ | ⟨x, hx, e1, e2⟩
  · rw [e1, e2]
    exact ⟨hk.move m, hd⟩
  · rw [← e1, ← e2]
    exact ⟨(h.key x hx).1.move m, (h.key x hx).2⟩
theorem nraw_empty {P : Program} {w : World} (h : Heap) (hb : sysModules < h.objs.size) : NRaw P w (h.push { cls := .type "dict", data := .dict #[] }) h.objs.size [] :=
  ⟨beq_eq_false_iff_ne.mpr (Ne.symm (Nat.ne_of_lt hb)), Nat.zero_le _, [], .nil, _, #[], 0, Heap.get?_push_size _ rfl, ⟨rfl, rfl, rfl⟩, rfl, rfl, List.nodup_nil⟩
section
variable {X : Cx} {pins : List (Addr × Obj)} {σ : L2.St} {H : Hp} {s : Shared} {D b : Addr} {xs : List NEn} {k : NKy} {E : Value → Shared → Prop}
theorem NAt.of (I : Inv X pins σ H s) (h : NAt X.prog X.w X.K H D xs) : (D == sysModules) = false ∧ xs.length ≤ sizeLine ∧ ∃ vs, NPair xs vs ∧ s.heap.DictOfH (nestedKind X.prog X.w) D vs := by
  obtain ⟨h1, h2, vs, r, o, es, ep, ho, c1, c2, c3, c4⟩ := (I.hok D _ h.at_).1
  refine ⟨h1, h2, vs, r, o, es, ep, ho, c1, c2, c3, fun y hy => ?_, c4⟩
  obtain ⟨x, hx, e1, e2⟩ := r.mem y hy
  have q := h.key x hx
  rw [e1, e2] at q
  exact ⟨q.1.is I _ rfl, q.2⟩
theorem NAt.write (I : Inv X pins σ H s) (h : NAt X.prog X.w X.K H D xs) (hs : xs.length < sizeLine) {v : V} {u : Value} (hd : (D == sysModules) = false) {vs : List NVn} (r : NPair xs vs) (ru : RelV v u) {h' : Heap} {t' : Nat} (dd : h'.DictOfH (nestedKind X.prog X.w) D (storedH vs k b u)) (sb : Heap.SameBut D s.heap h') :
    Inv X pins σ (upd H D (NDO X.prog X.w D (putN xs k b v))) { s with heap := h', toks := t' } := by
  obtain ⟨q, es, ep, hq, c2, c3, c4, _, c5⟩ := dd
  refine I.write (e := D) (t' := t') (by rw [h.at_]; trivial) (.inl rfl) (fun b u hb hu => (sb.2 b hb).trans hu) ⟨q, hq⟩ (ndo_new ⟨hd, ?_, _, r.put ru, q, es, ep, hq, c2, c3, c4, c5⟩)
  have := putN_len xs k b v
  omega
/-! ### operations -/
def rInN (P : Program) (w : World) (K : PySem.W.Frag) (neg : Bool) : R2 := fun x y H Q => ∃ (D b : Addr) (xs : List NEn) (k : NKy), x = .ref b ∧ y = .ref D ∧ NAt P w K H D xs ∧ NKat K H k (.ref b) ∧ k.depth ≤ 8 ∧ Q (.bl (if neg then !(valN xs k).isSome else (valN xs k).isSome)) H
theorem op_inN (hu : X.A.units + 64 < cLine) : OpR X (compareOp .In) (rInN X.prog X.w X.K false) := by
  intro pins s σ H x y v u Q I rx ry h
  obtain ⟨D, b, xs, k, rfl, rfl, hD, hk, hd, q⟩ := h
  cases rx
  cases ry
  obtain ⟨h1, h2, vs, r, dd⟩ := hD.of I
  refine wpAny_in_heap (knd := nestedKind X.prog X.w) (show X.A.in1.units + 8 < cLine by show X.A.units + 1 + 8 < cLine; omega) ⟨hk.is I _ rfl, hd⟩ h1 dd ?_
  rw [← r.some k]
  exact ⟨.bl _, H, I.tok _, rfl, q⟩
theorem op_notInN (hu : X.A.units + 64 < cLine) : OpR X (compareOp .NotIn) (rInN X.prog X.w X.K true) := by
  intro pins s σ H x y v u Q I rx ry h
  obtain ⟨D, b, xs, k, rfl, rfl, hD, hk, hd, q⟩ := h
  cases rx
  cases ry
  obtain ⟨h1, h2, vs, r, dd⟩ := hD.of I
  refine wpAny_notIn_heap (knd := nestedKind X.prog X.w) (show X.A.in1.units + 8 < cLine by show X.A.units + 1 + 8 < cLine; omega) ⟨hk.is I _ rfl, hd⟩ h1 dd ?_
  rw [← r.some k]
  exact ⟨.bl _, H, I.tok _, rfl, q⟩
/-- d[k], there -/
def tNGet (P : Program) (w : World) (K : PySem.W.Frag) (td ty : TE) : TE := fun σ H Q => td σ H fun x H1 => ty σ H1 fun y H2 => ∃ (D b : Addr) (xs : List NEn) (k : NKy) (v : V), x = .ref D ∧ y = .ref b ∧ NAt P w K H2 D xs ∧ NKat K H2 k (.ref b) ∧ k.depth ≤ 8 ∧ valN xs k = some v ∧ Q v H2
theorem pe_nget {o i : Expr} {td ty : TE} {pos : Pos} (hu : X.A.units + 64 < cLine) (ho : PE X o td) (hi : PE X i ty) (hs : NoSl i) : PE X (.Subscript o i pos) (tNGet X.prog X.w X.K td ty) := by
  refine ⟨fun pins s σ H Q I h => ?_⟩
  refine subD_of PySem.F.slot_dict_getitem.lookup hs (thn (ho.run pins s σ H _ I h) fun u s1 ⟨x, H1, I1, rx, q1⟩ => thn (hi.run pins s1 σ H1 _ I1 q1) fun iv s2 ⟨y, H2, I2, ry, D, b, xs, k, v, ex, ey, hD, hk, hd, hv, q2⟩ => ?_)
  subst ex ey
  obtain rfl : u = Value.ref D := rx
  obtain rfl : iv = Value.ref b := ry
  obtain ⟨h1, h2, vs, r, dd⟩ := hD.of I2
  refine ⟨dd.typeIs, ?_⟩
  rcases r.val k with ⟨a1, _⟩ | ⟨v', p, a1, a2, a3⟩
  · rw [hv] at a1
    cases a1
  · rw [hv] at a1
    obtain rfl := Option.some.inj a1
    exact wpAny_getItem_heap (knd := nestedKind X.prog X.w) (show X.A.in1.units + 8 < cLine by show X.A.units + 1 + 8 < cLine; omega) ⟨hk.is I2 _ rfl, hd⟩ dd a2 ⟨v, H2, I2.tok _, a3, q2⟩
/-- d[k] = v -/
def rSetN (P : Program) (w : World) (K : PySem.W.Frag) : TSet := fun o i v H Q => ∃ (D b : Addr) (xs : List NEn) (k : NKy), o = .ref D ∧ i = .ref b ∧ NAt P w K H D xs ∧ NKat K H k (.ref b) ∧ k.depth ≤ 8 ∧ xs.length < sizeLine ∧ Q (upd H D (NDO P w D (putN xs k b v)))
theorem set_nest (hu : X.A.units + 64 < cLine) : PSet X (rSetN X.prog X.w X.K) := by
  intro pins s σ H o i v ov iv u Q I ro ri rv h
  obtain ⟨D, b, xs, k, rfl, rfl, hD, hk, hd, hz, q⟩ := h
  cases ro
  cases ri
  obtain ⟨h1, h2, vs, r, dd⟩ := hD.of I
  refine wpAny_setItem_heap (knd := nestedKind X.prog X.w) (hsz := by rw [← r.length]; exact h2) (show X.A.in1.units + 8 < cLine by show X.A.units + 1 + 8 < cLine; omega) ⟨hk.is I _ rfl, hd⟩ dd fun h' dd' sb => ?_
  exact ⟨_, hD.write I hz h1 r rv dd' sb, q⟩
/-- len(d) -/
def rLenN (P : Program) (w : World) (K : PySem.W.Frag) : List V → Hp → VK → Prop := fun vs H Q => ∃ (D : Addr) (xs : List NEn), vs = [.ref D] ∧ NAt P w K H D xs ∧ Q (.int ((xs.length : Nat) : Int)) H
theorem call_len_nest : CallR X (.builtin "len") (rLenN X.prog X.w X.K) := by
  intro pins s σ H vs us Q I r h
  obtain ⟨D, xs, rfl, hD, q⟩ := h
  rw [Vals.ref1 r]
  obtain ⟨h1, h2, vs, rr, dd⟩ := hD.of I
  refine call_len_dictH h1 dd (by rw [← rr.length]; rw [sizeLine_eq] at h2; omega) ?_
  rw [← rr.length]
  exact ⟨.int _, H, I.tok _, ⟨_, rfl⟩, q⟩
/-! ### comprehensions -/
def PutNest (P : Program) (w : World) (K : PySem.W.Frag) : PutR := fun H D y v H' => ∃ (xs : List NEn) (k : NKy) (b : Addr), NAt P w K H D xs ∧ y = .ref b ∧ NKat K H k (.ref b) ∧ k.depth ≤ 8 ∧ xs.length < sizeLine ∧ H' = upd H D (NDO P w D (putN xs k b v))
end
theorem putN_ok (P : Program) (w : World) {K : PySem.W.Frag} : PutOk P w K (PutNest P w K) := by
  intro X pins σ H H' s E D y v u r Q e1 e2 e3 hu I hp ry rv h
  subst e1 e2 e3
  obtain ⟨xs, k, b, hD, rfl, hk, hd, hz, rfl⟩ := hp
  cases ry
  obtain ⟨h1, h2, vs, rr, dd⟩ := hD.of I
  refine wpAny_dictSet_heap (knd := nestedKind X.prog X.w) (hsz := by rw [← rr.length]; exact h2) (show X.A.units + 8 < cLine by omega) ⟨hk.is I _ rfl, hd⟩ dd fun h' dd' sb => ?_
  exact h _ (hD.write I hz h1 rr rv dd' sb)
theorem newN_ok (P : Program) (w : World) : NewOkA P w (fun D => NDO P w D []) := fun _ h hb => ndo_new (nraw_empty h hb)
/-! ### {k: v} -/
/-- the new dict stands empty while its pair is made -/
def tDisp1N (P : Program) (w : World) (K : PySem.W.Frag) (tk tv : TE) : TE := fun σ H Q => ∀ p, H p = none → tk σ (upd H p (NDO P w p [])) fun x H1 => tv σ H1 fun y H2 => ∃ (b : Addr) (k : NKy), x = .ref b ∧ H2 p = some (NDO P w p []) ∧ NKat K H2 k (.ref b) ∧ k.depth ≤ 8 ∧ Q (.ref p) (upd H2 p (NDO P w p [(k, b, y)]))
theorem pe_disp1N {X : Cx} {pos : Pos} {ke ve : Expr} {tk tv : TE} (hu : X.A.units + 64 < cLine) (hk : PE X ke tk) (hv : PE X ve tv) : PE X (.Dict [some ke] [ve] pos) (tDisp1N X.prog X.w X.K tk tv) := by
  refine ⟨fun pins s σ H Q I q => ?_⟩
  have hn := I.hok.fresh (Nat.le_refl s.heap.objs.size)
  have I1 := I.laid (a := s.heap.objs.size) (o := NDO X.prog X.w s.heap.objs.size []) (h' := s.heap.push { cls := .type "dict", data := .dict #[] }) (t' := s.toks) (fun _ _ q => Heap.get?_push_of_some _ q) (Nat.le_refl _) (ndo_new (nraw_empty s.heap I.big))
  refine wpAny_Dict_any (by rfl) rfl (fun z => nomatch z) (by show 1 ≤ 15; decide) ?_
  refine pairTrees_cons_walk (thn (hk.run pins _ σ _ _ I1 (q _ hn)) fun u s1 ⟨x, H1, J1, rx, q1⟩ => thn (hv.run pins s1 σ H1 _ J1 q1) fun r s2 ⟨y, H2, J2, ry, b, k, ex, e, hb, hd, q2⟩ => pairTrees_nil_walk ?_)
  subst ex
  obtain rfl : u = Value.ref b := rx
  have hD : NAt X.prog X.w X.K H2 s.heap.objs.size [] := ⟨e, fun _ z => nomatch z⟩
  obtain ⟨h1, h2, vs, rr, dd⟩ := hD.of J2
  cases rr
  show wpAny _ _ (storeAll s.heap.objs.size [(Value.ref b, r)]) _ _ _
  unfold storeAll
  rw [List.forIn_cons]
  refine wpAny_bind (wpAny_bind (wpAny_dictSet_heap (knd := nestedKind X.prog X.w) (hsz := Nat.zero_le _) (show X.A.units + 8 < cLine by omega) ⟨hb.is J2 _ rfl, hd⟩ dd fun h' dd' sb => wpAny_pure ?_))
  dsimp only
  rw [List.forIn_nil]
  exact wpAny_pure ⟨.ref _, _, hD.write (v := y) J2 (by decide) h1 .nil ry dd' sb, rfl, q2⟩
end Onp
set_option autoImplicit false
/-! what steps lead to -/
namespace Onp
inductive Rch {κ : Type} (S : List κ) (E : List (κ × κ)) : κ → Prop where
  | start {x : κ} : x ∈ S → Rch S E x
  | step {x y : κ} : Rch S E x → (x, y) ∈ E → Rch S E y
theorem Rch.into {κ : Type} {S : List κ} {E : List (κ × κ)} {F : List κ} (h0 : ∀ x ∈ S, x ∈ F) (h1 : ∀ x y, (x, y) ∈ E → x ∈ F → y ∈ F) : ∀ {x}, Rch S E x → x ∈ F := by
  intro x h
  induction h with
  | start h => exact h0 _ h
  | step _ e ih => exact h1 _ _ e ih
theorem Rch.all {κ : Type} {S : List κ} {E : List (κ × κ)} {x : κ} (h : Rch S E x) : x ∈ S ++ E.map (·.2) := by
  cases h with
  | start h => exact List.mem_append_left _ h
  | step _ e => exact List.mem_append_right _ (List.mem_map.mpr ⟨_, e, rfl⟩)
theorem Rch.mono {κ : Type} {S S' : List κ} {E E' : List (κ × κ)} (h0 : ∀ x ∈ S, x ∈ S') (h1 : ∀ e ∈ E, e ∈ E') : ∀ {x}, Rch S E x → Rch S' E' x := by
  intro x h
  induction h with
  | start h => exact .start (h0 _ h)
  | step _ e ih => exact .step ih (h1 _ e)
theorem Rch.congr {κ : Type} {S S' : List κ} {E E' : List (κ × κ)} (h0 : ∀ x, x ∈ S ↔ x ∈ S') (h1 : ∀ e, e ∈ E ↔ e ∈ E') (x : κ) : Rch S E x ↔ Rch S' E' x :=
  ⟨Rch.mono (fun x h => (h0 x).mp h) (fun e h => (h1 e).mp h), Rch.mono (fun x h => (h0 x).mpr h) (fun e h => (h1 e).mpr h)⟩
theorem filt_snocG {κ ι : Type} {c : κ → Bool} {f : κ → ι} {xs : List κ} {i : Nat} {x : κ} (h : xs[i]? = some x) : ((xs.take (i + 1)).filter c).map f = ((xs.take i).filter c).map f ++ (if c x = true then [f x] else []) := by
  have e : xs.take (i + 1) = xs.take i ++ [x] := by rw [List.take_add_one, h]; rfl
  rw [e, List.filter_append, List.map_append]
  congr 1
  by_cases e : c x = true
  · rw [if_pos e, List.filter_cons_of_pos e]
    rfl
  · rw [if_neg e, List.filter_cons_of_neg e]
    rfl
theorem hu1 {n c : Nat} (h : n + 64 < c) : n + 1 < c := by omega
end Onp
set_option maxHeartbeats 4000000
set_option autoImplicit false
/-! boards as rooms, as keys, as data -/
namespace Onp
open PySem PySem.Spec PyProof.Rows L2
abbrev Bd : Type := List Tri
def tk (t : Tri) : NKy := .tup [.num t.1, .num t.2.1, .num t.2.2]
def bk (L : Bd) : NKy := .tup (L.map tk)
theorem tk_inj {a b : Tri} (h : tk a = tk b) : a = b := by
  obtain ⟨a1, a2, a3⟩ := a
  obtain ⟨b1, b2, b3⟩ := b
  unfold tk at h
  injection h with h
  simp only [List.cons.injEq, NestedKey.num.injEq, and_true] at h
  obtain ⟨rfl, rfl, rfl⟩ := h
  rfl
theorem bk_inj {a b : Bd} (h : bk a = bk b) : a = b := by
  unfold bk at h
  injection h with h
  induction a generalizing b with
  | nil => cases b with
    | nil => rfl
    | cons y b => cases h
  | cons x a ih => cases b with
    | nil => cases h
    | cons y b =>
      rw [List.map_cons, List.map_cons, List.cons.injEq] at h
      rw [tk_inj h.1, ih h.2]
theorem bk_depth (L : Bd) : (bk L).depth ≤ 8 := by
  have h : NestedKey.depthAll (L.map tk) ≤ 1 := by
    induction L with
    | nil => exact Nat.zero_le _
    | cons t L ih =>
      rw [List.map_cons, NestedKey.depthAll]
      have : (tk t).depth ≤ 1 := by
        unfold tk
        simp [NestedKey.depth, NestedKey.depthAll]
      omega
  unfold bk
  rw [NestedKey.depth]
  omega
/-- a board stands at a -/
def BoardAt (H : Hp) (a : Addr) (L : Bd) : Prop := ∃ ps : List TP, H a = some (.tup (trs ps)) ∧ TrAt H ps ∧ ps.map (·.2) = L
theorem trAt_same {H H' : Hp} {ps : List TP} (h : TrAt H ps) (s : Same H H') : TrAt H' ps := fun p hp => s _ _ (h p hp)
theorem BoardAt.same {H H' : Hp} {a : Addr} {L : Bd} (h : BoardAt H a L) (s : Same H H') : BoardAt H' a L := by
  obtain ⟨ps, h1, h2, h3⟩ := h
  exact ⟨ps, s _ _ h1, trAt_same h2 s, h3⟩
theorem BoardAt.upd {H : Hp} {a D : Addr} {L : Bd} {o ob : HO} (h : BoardAt H a L) (hD : H D = some o) (ht : ∀ xs, o ≠ .tup xs) : BoardAt (L2.upd H D ob) a L := by
  obtain ⟨ps, h1, h2, h3⟩ := h
  exact ⟨ps, by rw [upd_ne (ne_of h1 hD (fun z => ht _ z.symm))]; exact h1, fun p hp => by rw [upd_ne (ne_of (h2 p hp) hD (fun z => ht _ z.symm))]; exact h2 p hp, h3⟩
theorem BoardAt.key {K : PySem.W.Frag} {H : Hp} {a : Addr} {L : Bd} (h : BoardAt H a L) : NKat K H (bk L) (.ref a) := by
  obtain ⟨ps, h1, h2, rfl⟩ := h
  refine .tup (vs := trs ps) (SqT.of h1) (by unfold trs; rw [List.length_map, List.length_map, List.length_map]) fun i k v hk hv => ?_
  unfold trs at hv
  rw [List.getElem?_map] at hv
  rw [List.map_map, List.getElem?_map] at hk
  cases hp : ps[i]? with
  | none => rw [hp] at hv; cases hv
  | some p =>
    rw [hp] at hv hk
    obtain rfl := Option.some.inj hv
    obtain rfl := Option.some.inj hk
    refine .tup (vs := tV p.2) (SqT.of (h2 p (List.mem_of_getElem? hp))) rfl fun j k v hk hv => ?_
    match j, hk, hv with
    | 0, hk, hv => obtain rfl := Option.some.inj hk; obtain rfl := Option.some.inj hv; exact .num _
    | 1, hk, hv => obtain rfl := Option.some.inj hk; obtain rfl := Option.some.inj hv; exact .num _
    | 2, hk, hv => obtain rfl := Option.some.inj hk; obtain rfl := Option.some.inj hv; exact .num _
abbrev BdA : Type := Addr × Bd
def bds (xs : List BdA) : List V := xs.map fun p => V.ref p.1
def BdAt (H : Hp) (xs : List BdA) : Prop := ∀ p ∈ xs, BoardAt H p.1 p.2
theorem BdAt.same {H H' : Hp} {xs : List BdA} (h : BdAt H xs) (s : Same H H') : BdAt H' xs := fun p hp => (h p hp).same s
theorem bds_at {xs : List BdA} {i : Nat} {v : V} (h : (bds xs)[i]? = some v) : ∃ p : BdA, xs[i]? = some p ∧ v = .ref p.1 := by
  unfold bds at h
  rw [List.getElem?_map] at h
  cases e : xs[i]? with
  | none => rw [e] at h; cases h
  | some p => rw [e] at h; exact ⟨p, rfl, (Option.some.inj h).symm⟩
theorem bds_len (xs : List BdA) : (bds xs).length = xs.length := List.length_map ..
/-- an arrow between boards: its tuple, its boards, what it is -/
abbrev BA : Type := Bd × Str × Str × Bd
structure WB where
  p : Addr
  a : Addr
  b : Addr
  v : BA
def wbs (xs : List WB) : List V := xs.map fun w => V.ref w.p
def WbAt (H : Hp) (xs : List WB) : Prop := ∀ w ∈ xs, H w.p = some (.tup [.ref w.a, .str w.v.2.1, .str w.v.2.2.1, .ref w.b]) ∧ BoardAt H w.a w.v.1 ∧ BoardAt H w.b w.v.2.2.2
theorem WbAt.same {H H' : Hp} {xs : List WB} (h : WbAt H xs) (s : Same H H') : WbAt H' xs := fun w hw => by
  obtain ⟨h1, h2, h3⟩ := h w hw
  exact ⟨s _ _ h1, h2.same s, h3.same s⟩
theorem wbs_at {xs : List WB} {i : Nat} {v : V} (h : (wbs xs)[i]? = some v) : ∃ w : WB, xs[i]? = some w ∧ v = .ref w.p := by
  unfold wbs at h
  rw [List.getElem?_map] at h
  cases e : xs[i]? with
  | none => rw [e] at h; cases h
  | some p => rw [e] at h; exact ⟨p, rfl, (Option.some.inj h).symm⟩
theorem wbs_len (xs : List WB) : (wbs xs).length = xs.length := List.length_map ..
/-! ### their numbers -/
def numB (rs : List Bd) (r : Bd) : Int := ((rs.idxOf r : Nat) : Int)
def dBk (k : Nat) (rs : List BdA) : List NEn := (rs.zipIdx k).map fun p => (bk p.1.2, p.1.1, V.int (p.2 : Nat))
def dB (rs : List BdA) : List NEn := dBk 0 rs
theorem dB_len (rs : List BdA) : (dB rs).length = rs.length := by
  unfold dB dBk
  rw [List.length_map, List.length_zipIdx]
theorem valN_cons {x : NEn} {xs : List NEn} {k : NKy} : valN (x :: xs) k = if x.1 = k then some x.2.2 else valN xs k := by
  unfold valN
  rw [List.find?_cons]
  by_cases h : x.1 = k
  · simp [h]
  · simp [h]
theorem dBk_val : ∀ (rs : List BdA) (k : Nat) (r : Bd), valN (dBk k rs) (bk r) = if r ∈ rs.map (·.2) then some (V.int ((k + (rs.map (·.2)).idxOf r : Nat) : Int)) else none
  | [], _, _ => rfl
  | x :: xs, k, r => by
    have e : dBk k (x :: xs) = (bk x.2, x.1, V.int (k : Nat)) :: dBk (k + 1) xs := by
      unfold dBk
      rw [List.zipIdx_cons, List.map_cons]
    rw [e, valN_cons, List.map_cons]
    by_cases h : x.2 = r
    · subst h
      rw [if_pos rfl, if_pos List.mem_cons_self, List.idxOf_cons_self]
      rfl
    · rw [if_neg (fun z => h (bk_inj z)), dBk_val xs (k + 1) r]
      by_cases hm : r ∈ xs.map (·.2)
      · rw [if_pos hm, if_pos (List.mem_cons_of_mem _ hm), List.idxOf_cons, show (x.2 == r) = false from beq_eq_false_iff_ne.mpr h, cond_false]
        congr 2
        omega
      · rw [if_neg hm, if_neg (fun z => (List.mem_cons.mp z).elim (fun z => h z.symm) hm)]
theorem dB_val (rs : List BdA) (r : Bd) : valN (dB rs) (bk r) = if r ∈ rs.map (·.2) then some (V.int (numB (rs.map (·.2)) r)) else none := by
  have := dBk_val rs 0 r
  rw [Nat.zero_add] at this
  exact this
theorem dB_put {rs : List BdA} {i : Nat} {r : BdA} (hn : (rs.map (·.2)).Nodup) (h : rs[i]? = some r) : putN (dB (rs.take i)) (bk r.2) r.1 (.int (i : Nat)) = dB (rs.take (i + 1)) := by
  have e : rs.take (i + 1) = rs.take i ++ [r] := take_next h
  have hil := (List.getElem?_eq_some_iff.mp h).1
  have hni : r.2 ∉ (rs.take i).map (·.2) := fun hm => by
    have h2 : ((rs.take (i + 1)).map (·.2)).Nodup := hn.sublist ((List.take_sublist _ _).map _)
    rw [e, List.map_append, List.nodup_append] at h2
    exact h2.2.2 r.2 hm r.2 List.mem_cons_self rfl
  unfold putN
  rw [dB_val, if_neg hni, e]
  unfold dB dBk
  rw [List.zipIdx_append, List.map_append, List.length_take, Nat.min_eq_left (by omega), Nat.zero_add]
  rfl
theorem dB_key {P : Program} {w : World} {K : PySem.W.Frag} {H : Hp} {D : Addr} {rs : List BdA} (hD : H D = some (NDO P w D (dB rs))) (h : BdAt H rs) : NAt P w K H D (dB rs) := by
  refine ⟨hD, fun x hx => ?_⟩
  unfold dB dBk at hx
  obtain ⟨p, hp, rfl⟩ := List.mem_map.mp hx
  have hm : p.1 ∈ rs := (List.mem_zipIdx hp).2.2 ▸ List.getElem_mem _
  exact ⟨(h p.1 hm).key, bk_depth _⟩
/-! ### as data -/
def bdat (L : Bd) : PyData := .tuple (L.map fun t => .tuple [.int t.1, .int t.2.1, .int t.2.2])
theorem eqv_bd (a b : Bd) : PyData.eqv (bdat a) (bdat b) = decide (a = b) := by
  unfold bdat
  simp only [PyData.eqv]
  induction a generalizing b with
  | nil => cases b <;> simp [PyData.eqvAll]
  | cons x a ih =>
    cases b with
    | nil => simp [PyData.eqvAll]
    | cons y b =>
      obtain ⟨x1, x2, x3⟩ := x
      obtain ⟨y1, y2, y3⟩ := y
      simp only [List.map_cons, PyData.eqvAll, PyData.eqv]
      rw [ih b, Bool.eq_iff_iff]
      simp only [Bool.and_eq_true, beq_iff_eq, decide_eq_true_eq, List.cons.injEq, Prod.mk.injEq, and_true]
theorem any_bd (as : List Bd) (a : Bd) : ((as.map bdat).any fun z => PyData.eqv z (bdat a)) = decide (a ∈ as) := by
  rw [Bool.eq_iff_iff, List.any_eq_true, decide_eq_true_eq]
  constructor
  · rintro ⟨d, hd, e⟩
    obtain ⟨b, hb, rfl⟩ := List.mem_map.mp hd
    rw [eqv_bd, decide_eq_true_eq] at e
    rw [← e]
    exact hb
  · intro h
    exact ⟨bdat a, List.mem_map_of_mem h, by rw [eqv_bd]; exact decide_eq_true rfl⟩
theorem lay_bd (L : Bd) : (bdat L).canLay0 = true := by
  unfold bdat
  rw [PyData.canLay0]
  induction L with
  | nil => rfl
  | cons t L ih =>
    simp only [List.map_cons, PyData.canLayAll0, PyData.canLay0, Bool.and_true, Bool.true_and]
    exact ih
theorem dep_bd (L : Bd) : (bdat L).depth ≤ 8 := by
  have h : PyData.depthAll (L.map fun t : Tri => PyData.tuple [.int t.1, .int t.2.1, .int t.2.2]) ≤ 4 := by
    induction L with
    | nil => simp [PyData.depthAll]
    | cons t L ih =>
      simp only [List.map_cons, PyData.depthAll, PyData.depth]
      omega
  unfold bdat
  rw [PyData.depth]
  omega
theorem shB (L : Bd) : SeqAt.shaped (bdat L) = true := by
  unfold SeqAt.shaped
  rw [lay_bd, decide_eq_true (Nat.le_trans (dep_bd L) (by decide))]
  rfl
theorem shBs (Ls : List Bd) : SeqAt.shaped (.list (Ls.map bdat)) = true := by
  have h1 : PyData.canLayAll0 (Ls.map bdat) = true := by
    induction Ls with
    | nil => rfl
    | cons L Ls ih => simp only [List.map_cons, PyData.canLayAll0, lay_bd, Bool.true_and]; exact ih
  have h2 : PyData.depthAll (Ls.map bdat) ≤ 8 := by
    clear h1
    induction Ls with
    | nil => simp [PyData.depthAll]
    | cons L Ls ih =>
      have := dep_bd L
      simp only [List.map_cons, PyData.depthAll]
      omega
  unfold SeqAt.shaped
  rw [PyData.canLay0, h1, decide_eq_true (by rw [PyData.depth]; omega)]
  rfl
theorem dpTri {K : PySem.W.Frag} {H : Hp} : ∀ {ps : List TP}, TrAt H ps → DpAll K H (trs ps) ((ps.map (·.2)).map fun t : Tri => PyData.tuple [.int t.1, .int t.2.1, .int t.2.2])
  | [], _ => .nil
  | p :: r, h => .cons (.tup (SqT.of (h p List.mem_cons_self)) (.cons (.int _) (.cons (.int _) (.cons (.int _) .nil)))) (dpTri fun q hq => h q (List.mem_cons_of_mem _ hq))
theorem BoardAt.dp {K : PySem.W.Frag} {H : Hp} {a : Addr} {L : Bd} (h : BoardAt H a L) : Dp K H (.ref a) (bdat L) := by
  obtain ⟨ps, h1, h2, rfl⟩ := h
  exact .tup (SqT.of h1) (dpTri h2)
theorem dpBds {K : PySem.W.Frag} {H : Hp} : ∀ {xs : List BdA}, BdAt H xs → DpAll K H (bds xs) ((xs.map (·.2)).map bdat)
  | [], _ => .nil
  | p :: r, h => .cons (h p List.mem_cons_self).dp (dpBds fun q hq => h q (List.mem_cons_of_mem _ hq))
end Onp
set_option maxHeartbeats 8000000
set_option autoImplicit false
namespace Onp
open PySem PySem.Spec PyProof.Rows L2 HotX L2H LamX
/-! ### the board behind a board -/
/-- a machine that boards may go by -/
structure BGM (M : AM) : Prop where
  ga : GA M.n M.as
  n8 : M.n ≤ 8
  ls : ∀ c ∈ M.ls, PyData.strOk (Sx [c]) = true
  b0 : BdI M.n 99 (M.fs.map zr)
  fl : M.fs.length ≤ 100
theorem BGM.of {M : AM} (ok : M.ok) (fw : few M.as) (hn : M.n ≤ 4) : BGM M.srt := by
  have g := (GA.of ok fw).srt
  have b := BdI.first ok hn
  obtain ⟨h1, h2, h3, h4, h5, h6, h7, h8, h9, h10, h11, h12⟩ := ok
  refine ⟨g, h2, fun c hc => small_strOk c (letB_small h3 c hc), b, ?_⟩
  show (sortI M.fs).length ≤ 100
  rw [show (sortI M.fs).length = M.fs.length from List.length_mergeSort ..]
  exact h11
theorem BGM.cap {M : AM} (g : BGM M) {n B : Int} {z : Str} {ts : List Tri} (h : BdI M.n B ts) (hn : n ≤ 100000000000000000000000000000) : (∀ t ∈ capT n (leadsT M.as z ts), okT t) ∧ (capT n (leadsT M.as z ts)).length < 1001 := ⟨fun t ht => ok_in g.n8 hn (cap_in g.ga h t ht), cap_len g.ga h⟩
open Classical in
/-- the board behind a board by a letter -/
noncomputable def nxB (as : List Arw) (n : Int) (c : Nat) (L : Bd) : Bd := if h : ∃ L', IsLeast (capT n (leadsT as (Sx [c]) L)) L' then h.choose else []
theorem nxB_eq {as : List Arw} {n : Int} {c : Nat} {L L' : Bd} (h : IsLeast (capT n (leadsT as (Sx [c]) L)) L') : nxB as n c L = L' := by
  unfold nxB
  have e : ∃ L', IsLeast (capT n (leadsT as (Sx [c]) L)) L' := ⟨L', h⟩
  rw [dif_pos e]
  exact e.choose_spec.uniq h
/-- good boards of a machine -/
def GdB (N : Int) (b : Bd) : Prop := BdI N 99 b ∧ b.length ≤ 1000
theorem gd_nil (N : Int) : GdB N [] := ⟨⟨(fun _ h => nomatch h), fun _ => Nat.zero_le _⟩, Nat.zero_le _⟩
theorem least_len {S L : List Tri} (h : IsLeast S L) (hs : S.length < 1001) : L.length ≤ 1000 := by
  have nd : L.Nodup := h.1.imp fun {a b} x e => by rw [e] at x; exact absurd x (by first | exact lt_irrefl _ | omega | exact Nat.lt_irrefl _ | exact List.lt_irrefl _)
  have := nd_le L S nd fun x hx => ((h.2 x).mp hx).1
  omega
theorem gd_next {M : AM} (g : BGM M) {n : Int} (h0 : 0 ≤ n ∧ n ≤ 99) {b : Bd} (h : GdB M.n b) (c : Nat) : GdB M.n (nxB M.as n c b) := by
  by_cases e : ∃ L', IsLeast (capT n (leadsT M.as (Sx [c]) b)) L'
  · obtain ⟨L', hL⟩ := e
    rw [nxB_eq hL]
    exact ⟨BdI.next g.ga h.1 (by omega) hL, least_len hL (g.cap h.1 (by omega)).2⟩
  · unfold nxB
    rw [dif_neg e]
    exact gd_nil _
/-- a def that is called with its last parameter by name -/
structure FnK (K : PySem.W.Frag) (mg : Str → Option Value) (f : Addr) (fd : FuncData) (x : Str) (st : Stmt) : Prop where
  F : Fun K x x st f fd
  g : mg x = some (.ref f)
section
variable {P : Program} {w : World} {K : PySem.W.Frag} {mg : Str → Option Value} {base : Heap}
theorem kb_nextB {f : Addr} {fd : FuncData} (F : Fun K "next_board" "next_board" sNextB f fd) : KBn K fd psNb 3 ["size"] (fun us ws => us ++ ws) (fun vs zs => vs ++ zs) :=
  kb_last F fun _ _ _ _ _ _ us ws h1 h2 => match us, ws, h1, h2 with | [_, _, _], [_], _, _ => rfl
end
end Onp
set_option maxHeartbeats 4000000
set_option autoImplicit false
/-! set(list of ints), as a set that sorted can be asked of -/
namespace Onp
open PySem PySem.Spec PyProof.Rows L2
section
variable {P : Program} {w : World} {A : Around}
def GI (w : World) (S : Addr) (ns : List Int) (i : Nat) (h : Heap) : Prop := ∃ c, c ≤ i ∧ SetR w h S (fun j => decide (j ∈ ns.take i)) c
theorem keepsI {S : Addr} {h0 : Heap} {ns : List Int} : KeepsSet S h0 (GI w S ns) := fun i h h' ⟨c, hc, R⟩ z1 _ => ⟨c, hc, R.at z1⟩
theorem ints_at : ∀ {ns : List Int} {us : List Value}, Vals (ns.map V.int) us → ∀ {i : Nat} {v : Value}, us[i]? = some v → ∃ k t, ns[i]? = some k ∧ v = Value.int k t
  | [], _, .nil, i, v, h => by simp at h
  | k :: ks, _, .cons r t, i, v, h => by
    cases i with
    | zero =>
      obtain rfl := Option.some.inj h
      obtain ⟨tk, rfl⟩ := r
      exact ⟨k, tk, rfl, rfl⟩
    | succ i => exact ints_at t h
theorem addsI {S : Addr} {h0 : Heap} {ns : List Int} {its : Array Value} (r : Vals (ns.map V.int) its.toList) (few : ns.length < 1000) : AddsTo P w A S h0 (fun i v => its[i]? = some v) (GI w S ns) := by
  intro i v s E pv ⟨c, hc, R⟩ z
  obtain ⟨k, t, hk, rfl⟩ := ints_at r (i := i) (v := v) (by rw [Array.getElem?_toList]; exact pv)
  have hlt : i < ns.length := (List.getElem?_eq_some_iff.mp hk).1
  unfold setAdd
  refine wpAny_holding (wpAny_bind ((intKind P w).pyHash (k := k) (intKind_is _ _ _ _) ?_))
  refine setR_add_hashed (s := { s with toks := s.toks + 1 }) R (by unfold scanBound; omega) fun h' sb R' => ?_
  refine ⟨h', s.toks + 1, rfl, Nat.le_succ _, sb, (if decide (k ∈ ns.take i) = true then c else c + 1), by split <;> omega, R'.congr fun j => ?_⟩
  rw [List.take_add_one, hk]
  simp [List.mem_append]
theorem freshI {h : Heap} {S : Addr} {ns : List Int} (e : h.get? S = some (set0 w)) : GI w S ns 0 h := ⟨0, Nat.le_refl _, setR_new_at e⟩
end
section
variable {X : Cx}
def rSetOfI (K : PySem.W.Frag) (w : World) : List V → Hp → VK → Prop := fun xs H Q => ∃ (l : Addr) (ns : List Int), xs = [V.ref l] ∧ SqL K H l (ns.map V.int) ∧ ns.length < 64 ∧
  ∀ a c, H a = none → c < 64 → Q (.ref a) (upd H a (SetO w a (fun j => decide (j ∈ ns)) c))
theorem cr_setOfI (hc : X.calm = true) : CallR X (.type "set") (rSetOfI X.K X.w) := by
  intro pins s σ H xs us Q I r h
  obtain ⟨l, ns, rfl, hl, hf, q⟩ := h
  rw [Vals.ref1 r]
  obtain ⟨its, rv, pl, hz⟩ := I.list hl
  have hn : H s.heap.objs.size = none := I.hok.fresh (Nat.le_refl _)
  have sz : its.toArray.size = ns.length := by rw [List.size_toArray, ← rv.length, List.length_map]
  refine callSet_list (I.ok.hd hc) pl.isList (GI X.w s.heap.objs.size ns) (addsI (by simpa using rv) (by omega)) keepsI (fun h e => freshI e) fun h' tk g k => ?_
  obtain ⟨c, hc', R⟩ := g
  rw [sz] at hc' R
  rw [List.take_length] at R
  exact ⟨.ref s.heap.objs.size, upd H s.heap.objs.size (SetO X.w s.heap.objs.size (fun j => decide (j ∈ ns)) c), I.laid (t' := tk) k (Nat.le_refl _) (setO_new R), rfl, q _ c hn (by omega)⟩
end
end Onp
set_option maxHeartbeats 8000000
set_option autoImplicit false
namespace Onp
open PySem PySem.Spec PyProof.Rows L2
abbrev sBehR : Stmt := inClass sMach 15
abbrev sMLetsW : Stmt := inClass sMach 11
/-! ### rooms behind a letter, rising -/
def onB (as : List Arw) (z : Str) (rs : List Int) (k : Int) : Bool := as.any fun x => decide (x.1 ∈ rs) && (decide (x.2.1 = z) && decide (x.2.2.2 = k))
def all8 : List Int := [0, 1, 2, 3, 4, 5, 6, 7]
def onL (as : List Arw) (z : Str) (rs : List Int) : List Int := all8.filter (onB as z rs)
theorem onB_iff {as : List Arw} {z : Str} {rs : List Int} {k : Int} : onB as z rs k = true ↔ ∃ x ∈ as, x.1 ∈ rs ∧ x.2.1 = z ∧ x.2.2.2 = k := by
  unfold onB
  rw [List.any_eq_true]
  constructor
  · rintro ⟨x, hx, e⟩
    simp only [Bool.and_eq_true, decide_eq_true_eq] at e
    exact ⟨x, hx, e.1, e.2.1, e.2.2⟩
  · rintro ⟨x, hx, e⟩
    refine ⟨x, hx, ?_⟩
    simp only [Bool.and_eq_true, decide_eq_true_eq]
    exact ⟨e.1, e.2.1, e.2.2⟩
theorem onB_srt (as : List Arw) (z : Str) (rs : List Int) (k : Int) : onB (sortA as) z rs k = onB as z rs k := by
  have p : (sortA as).Perm as := List.mergeSort_perm ..
  rw [Bool.eq_iff_iff, onB_iff, onB_iff]
  exact ⟨fun ⟨x, hx, e⟩ => ⟨x, p.mem_iff.mp hx, e⟩, fun ⟨x, hx, e⟩ => ⟨x, p.mem_iff.mpr hx, e⟩⟩
theorem onL_srt (as : List Arw) (z : Str) (rs : List Int) : onL (sortA as) z rs = onL as z rs := by
  unfold onL
  exact List.filter_congr fun k _ => onB_srt as z rs k
theorem rise_eq : ∀ {a b : List Int}, a.Pairwise (· < ·) → b.Pairwise (· < ·) → (∀ x, x ∈ a ↔ x ∈ b) → a = b
  | [], [], _, _, _ => rfl
  | [], y :: b, _, _, h => absurd ((h y).mpr List.mem_cons_self) (fun z => nomatch z)
  | x :: a, [], _, _, h => absurd ((h x).mp List.mem_cons_self) (fun z => nomatch z)
  | x :: a, y :: b, ha, hb, h => by
    obtain ⟨ha1, ha2⟩ := List.pairwise_cons.mp ha
    obtain ⟨hb1, hb2⟩ := List.pairwise_cons.mp hb
    have e : x = y := by
      rcases List.mem_cons.mp ((h x).mp List.mem_cons_self) with e | e
      · exact e
      · have l1 := hb1 x e
        rcases List.mem_cons.mp ((h y).mpr List.mem_cons_self) with e2 | e2
        · exact e2.symm
        · have l2 := ha1 y e2
          omega
    subst e
    congr 1
    refine rise_eq ha2 hb2 fun z => ⟨fun hz => ?_, fun hz => ?_⟩
    · rcases List.mem_cons.mp ((h z).mp (List.mem_cons_of_mem _ hz)) with e | e
      · have := ha1 z hz
        omega
      · exact e
    · rcases List.mem_cons.mp ((h z).mpr (List.mem_cons_of_mem _ hz)) with e | e
      · have := hb1 z hz
        omega
      · exact e
theorem all8_rise : all8.Pairwise (· < ·) := by decide
theorem onL_rise (as : List Arw) (z : Str) (rs : List Int) : (onL as z rs).Pairwise (· < ·) := all8_rise.filter _
/-- rooms that rise and are those behind -/
theorem onL_eq {N : Int} {as : List Arw} {z : Str} {rs out : List Int} (hN : N ≤ 8) (ha : ∀ x ∈ as, rooB N x.2.2.2 = true) (ho : out.Pairwise (· < ·)) (hm : ∀ k, k ∈ out ↔ onB as z rs k = true) : out = onL as z rs := by
  refine rise_eq ho (onL_rise as z rs) fun k => ?_
  rw [hm]
  unfold onL
  rw [List.mem_filter]
  constructor
  · intro h
    refine ⟨?_, h⟩
    obtain ⟨x, hx, _, _, e⟩ := onB_iff.mp h
    have hb := ha x hx
    rw [e] at hb
    unfold rooB at hb
    rw [Bool.and_eq_true, decide_eq_true_eq, decide_eq_true_eq] at hb
    unfold all8
    simp only [List.mem_cons, List.not_mem_nil, or_false]
    omega
  · exact fun h => h.2
theorem onL_roo {N : Int} {as : List Arw} {z : Str} {rs : List Int} (ha : ∀ x ∈ as, rooB N x.2.2.2 = true) : ∀ r ∈ onL as z rs, rooB N r = true := fun r hr => by
  obtain ⟨x, hx, _, _, e⟩ := onB_iff.mp (List.mem_filter.mp hr).2
  rw [← e]
  exact ha x hx
theorem onL_len (as : List Arw) (z : Str) (rs : List Int) : (onL as z rs).length ≤ 8 := List.length_filter_le ..
def wordR (as : List Arw) (cs : List Nat) (rs : List Int) : List Int := cs.foldl (fun rs c => onL as (Sx [c]) rs) rs
theorem wordR_snoc (as : List Arw) (cs : List Nat) (c : Nat) (rs : List Int) : wordR as (cs ++ [c]) rs = onL as (Sx [c]) (wordR as cs rs) := by
  unfold wordR
  rw [List.foldl_append]
  rfl
theorem wordR_srt (as : List Arw) (cs : List Nat) (rs : List Int) : wordR (sortA as) cs rs = wordR as cs rs := by
  unfold wordR
  congr 1
  funext rs c
  exact onL_srt as _ rs
def hasL (gs rs : List Int) : Bool := rs.any fun r => decide (r ∈ gs)
theorem hasL_srt (gs rs : List Int) : hasL (sortI gs) rs = hasL gs rs := by
  unfold hasL
  congr 1
  funext r
  have p : (sortI gs).Perm gs := List.mergeSort_perm ..
  rw [Bool.eq_iff_iff, decide_eq_true_eq, decide_eq_true_eq]
  exact p.mem_iff
/-- a machine whose words can be walked -/
structure WM (M : AM) : Prop where
  n8 : M.n ≤ 8
  room : ∀ x ∈ M.as, rooB M.n x.2.2.2 = true
  few : few M.as
  len : M.as.length ≤ 40
  fr : ∀ r ∈ M.fs, rooB M.n r = true
  fl : M.fs.length ≤ 8
  n6 : M.n ≤ 8
  fn : M.fs.Nodup
theorem stepsOf_few {as : List Arw} {r : Int} {z : Str} (h : few as) : (stepsOf as r z).length ≤ 10 := by
  unfold stepsOf
  rw [List.length_map]
  refine Nat.le_trans ?_ (h z)
  rw [← List.countP_eq_length_filter, ← List.countP_eq_length_filter]
  refine List.countP_mono_left fun x _ e => ?_
  simp only [Bool.and_eq_true] at e
  exact e.2
/-- the ends of all steps of these rooms -/
def endsT (as : List Arw) (z : Str) (rs : List Int) : List Int := rs.flatMap fun r => (stepsOf as r z).map (·.2)
theorem endsT_snoc (as : List Arw) (z : Str) (rs : List Int) (r : Int) : endsT as z (rs ++ [r]) = endsT as z rs ++ (stepsOf as r z).map (·.2) := by
  unfold endsT
  rw [List.flatMap_append, List.flatMap_cons, List.flatMap_nil, List.append_nil]
theorem endsT_len {as : List Arw} {z : Str} (h : few as) : ∀ rs : List Int, (endsT as z rs).length ≤ 10 * rs.length
  | [] => Nat.zero_le _
  | r :: rs => by
    have ih := endsT_len (z := z) h rs
    have h1 := stepsOf_few (r := r) (z := z) h
    unfold endsT at ih ⊢
    rw [List.flatMap_cons, List.length_append, List.length_map, List.length_cons]
    omega
theorem cnt_add {α : Type} {p q s : α → Bool} (h1 : ∀ x, p x = true → s x = true) (h2 : ∀ x, q x = true → s x = true) (h3 : ∀ x, p x = true → q x = true → False) : ∀ l : List α, l.countP p + l.countP q ≤ l.countP s
  | [] => Nat.le_refl _
  | x :: r => by
    have ih := cnt_add h1 h2 h3 r
    rw [List.countP_cons, List.countP_cons, List.countP_cons]
    cases hp : p x with
    | true =>
      cases hq : q x with
      | true => exact (h3 x hp hq).elim
      | false => simp [h1 x hp]; omega
    | false =>
      cases hq : q x with
      | true => simp [h2 x hq]; omega
      | false => simp; omega
theorem endsT_cnt (as : List Arw) (z : Str) : ∀ rs : List Int, rs.Nodup → (endsT as z rs).length ≤ as.countP fun a => decide (a.1 ∈ rs) && decide (a.2.1 = z)
  | [], _ => Nat.zero_le _
  | r :: rs, h => by
    obtain ⟨hn, hr⟩ := List.nodup_cons.mp h
    have ih := endsT_cnt as z rs hr
    have h1 : (stepsOf as r z).length = as.countP fun a => decide (a.1 = r) && decide (a.2.1 = z) := by
      unfold stepsOf
      rw [List.length_map, List.countP_eq_length_filter]
    unfold endsT at ih ⊢
    rw [List.flatMap_cons, List.length_append, List.length_map, h1]
    refine Nat.le_trans (Nat.add_le_add_left ih _) (cnt_add (fun x e => ?_) (fun x e => ?_) (fun x e1 e2 => ?_) as)
    · simp only [Bool.and_eq_true, decide_eq_true_eq] at e ⊢
      exact ⟨by rw [e.1]; exact List.mem_cons_self .., e.2⟩
    · simp only [Bool.and_eq_true, decide_eq_true_eq] at e ⊢
      exact ⟨List.mem_cons_of_mem _ e.1, e.2⟩
    · simp only [Bool.and_eq_true, decide_eq_true_eq] at e1 e2
      exact hn (by rw [← e1.1]; exact e2.1)
theorem endsT_ten {as : List Arw} {z : Str} (h : few as) {rs : List Int} (hn : rs.Nodup) : (endsT as z rs).length ≤ 10 := by
  refine Nat.le_trans (endsT_cnt as z rs hn) (Nat.le_trans ?_ (h z))
  rw [← List.countP_eq_length_filter]
  refine List.countP_mono_left fun x _ e => ?_
  simp only [Bool.and_eq_true] at e
  exact e.2
theorem endsT_iff {as : List Arw} {z : Str} {rs : List Int} {k : Int} : k ∈ endsT as z rs ↔ onB as z rs k = true := by
  rw [onB_iff]
  unfold endsT
  rw [List.mem_flatMap]
  constructor
  · rintro ⟨r, hr, hk⟩
    obtain ⟨s, hs, rfl⟩ := List.mem_map.mp hk
    unfold stepsOf at hs
    obtain ⟨x, hx, rfl⟩ := List.mem_map.mp hs
    obtain ⟨h1, h2⟩ := List.mem_filter.mp hx
    simp only [Bool.and_eq_true, decide_eq_true_eq] at h2
    exact ⟨x, h1, by rw [h2.1]; exact hr, h2.2, rfl⟩
  · rintro ⟨x, hx, h1, h2, rfl⟩
    refine ⟨x.1, h1, List.mem_map.mpr ⟨(x.2.2.1, x.2.2.2), ?_, rfl⟩⟩
    unfold stepsOf
    refine List.mem_map.mpr ⟨x, List.mem_filter.mpr ⟨hx, ?_⟩, rfl⟩
    simp [h2]
section
variable {P : Program} {w : World} {K : PySem.W.Frag} {mg : Str → Option Value} {base : Heap}
/-! ### Machine.rooms_behind -/
def spBehR (K : PySem.W.Frag) (C : Addr) : Sp := fun vs H Q _ => ∃ (a t : Addr) (M : AM) (rs : List Int) (c : Nat), vs = [.ref a, .ref t, .str (Sx [c])] ∧ MachAt K C H a M ∧ H t = some (.tup (rs.map V.int)) ∧ WM M ∧ (∀ r ∈ rs, rooB M.n r = true) ∧ rs.length ≤ 8 ∧ rs.Nodup ∧ c ∈ M.ls ∧
  ∀ (p : Addr) H', Same H H' → H' p = some (.tup ((onL M.as (Sx [c]) rs).map V.int)) → Q (.ref p) H'
def NBr : List Str := ["self", "rooms", "letter", "found", "room", "step"]
def psBr : List Str := ["self", "rooms", "letter"]
theorem scBehR : FnScope NBr psBr (defScope sBehR) := ⟨rfl, rfl, rfl, by decide +kernel, rfl, by decide +kernel, by decide +kernel⟩
theorem ok_behR {f C fSt fNr fIl : Addr} {fd fdSt fdNr fdIl : FuncData} {k : Nat} (F : Fun K "rooms_behind" "Machine.rooms_behind" sBehR f fd) (T : ClsM K C) (FS : Fun K "steps" "Machine.steps" sMSteps fSt fdSt) (bS : Binds K fdSt NSt []) (mS : Meth K C "steps" fSt) (Nr : FnM K mg fNr fdNr "need_rooms" sNeedR ["some", "rooms"]) (Il : FnM K mg fIl fdIl "is_letter" sIsL ["text", "letters"]) (B : Bl1 mg) (ml : mg "list" = none) (ms : mg "sorted" = none) (mt : mg "tuple" = none) : FnOk P w K mg base CX0 (k + 3) f fd psBr (spBehR K C) := by
  have GS : FnOk P w K mg base CX0 (k + 2) fSt fdSt NSt (spMSteps K C) := ok_msteps FS T Nr Il B ml
  refine F.ok scBehR (fun vs H Q E h => ?_) (fun cdv A outer s H vs Q E hr h => ?_)
  · obtain ⟨a, t, M, rs, c, rfl, _⟩ := h
    rfl
  · obtain ⟨a, t, M, rs, c, rfl, mA, ht, wm, hroo, hr6, hnd, hc, q⟩ := h
    refine ⟨_, pss_cons (ps_setLc2 (i := 3) (own := [("room", 4), ("step", 5)]) (vs1 := [5]) (g := gName 4) (tt := tYes) (wi1 := iList K (tMeth C "steps" (spMSteps K C) [] E0 (tVar 0) (tCons (tVar 4) (tCons (tVar 2) tNil)))) (g1 := gName 5) (tt1 := tYes) (te := tOp (rIxT K) (tVar 5) (tC (.int 1))) rfl scBehR.nd rfl rfl (sw_true rfl rfl rfl (by decide +kernel))
        (pi_tup (pv 1)) (blkOk_by (own := [("room", 4), ("step", 5)]) (N := NBr) (sc := defScope sBehR) (by decide +kernel)) (by decide)
        (fun _ _ _ _ _ => pg_name (i := 4) scBehR.nd rfl (.inl rfl)) (fun _ _ _ _ _ => pts_nil)
        (fun _ _ _ _ _ => pi_list (pe_meth (pv 0) T.cl mS GS hr bS .nil pass0 (pa_cons (pv 4) (pa_cons (pv 2) pa_nil))))
        (fun _ _ _ _ _ => pg_name (i := 5) scBehR.nd rfl (.inl rfl)) (fun _ _ _ _ _ => pts_nil)
        (fun _ _ _ _ _ => pe_ix ix_tup (pv 5) pe_int (fun _ _ => rfl)))
      (pss_one (ps_ret (pe_callTy call_tuple_of (by rfl) mt (by decide +kernel) (pa_cons (pe_callB (cr_sortedSet rfl) (by rfl) ms (by decide +kernel) (pa_cons (pe_callTy (cr_setOfI rfl) (by rfl) B.set (by decide +kernel) (pa_cons (pv 3) pa_nil)) pa_nil)) pa_nil)))), ?_⟩
    obtain ⟨dx, ta, tf, tg, D0, ps0, h1, hrest⟩ := id mA
    refine ⟨_, rfl, t, rfl, ⟨_, SqT.of ht⟩, fun D nD => ?_⟩
    have same_of : ∀ {H1 H2 : Hp}, Same H H1 → Keep D H1 H2 → Same H H2 := fun s1 k a o e => k a o (ne_of_none e nD) (s1 a o e)
    refine lcG (walk_tup (xs := rs.map V.int)) (fun i H' => Same H H' ∧ H' D = some (.lst ((endsT M.as (Sx [c]) (rs.take i)).map V.int))) ⟨same_upd nD, upd_same⟩ (fun i H' _ ⟨sm, _⟩ => SqT.of (sm _ _ ht)) ?_ ?_
    · rintro i x _ H1 hi ⟨sm, hD⟩ ⟨rfl, hx⟩
      obtain ⟨r, hr', rfl⟩ : ∃ r, rs[i]? = some r ∧ x = .int r := by
        rw [List.getElem?_map] at hx
        cases e : rs[i]? with
        | none => rw [e] at hx; cases hx
        | some y => rw [e] at hx; exact ⟨y, rfl, (Option.some.inj hx).symm⟩
      have hil : i < rs.length := (List.getElem?_eq_some_iff.mp hr').1
      refine ⟨rfl, ?_⟩
      refine yes2 ?_
      refine ⟨_, rfl, a, dx, _, rfl, sm _ _ h1, mfl_none (by decide +kernel), _, rfl, _, rfl, a, M, r, c, rfl, mA.same sm, hroo r (List.mem_of_getElem? hr'), hc, fun l1 xs H2 s2 fl1 hl1 hS ex => ?_⟩
      have hol : (endsT M.as (Sx [c]) (rs.take i)).length ≤ 80 := by
        have := endsT_len (z := Sx [c]) wm.few (rs.take i)
        rw [List.length_take] at this
        omega
      have hxl : xs.length ≤ 10 := by
        have e1 := congrArg List.length ex
        rw [List.length_map] at e1
        have e2 := stepsOf_few (r := r) (z := Sx [c]) wm.few
        omega
      refine ⟨l1, rfl, ⟨_, SqL.of hl1⟩, ?_⟩
      have hD2 := s2 _ _ hD
      have nl1 : l1 ≠ D := fun z => by
        rw [z, hD] at fl1
        cases fl1
      refine lcG (walk_list (xs := sts xs)) (fun j H' => Keep D H2 H' ∧ H' D = some (.lst ((endsT M.as (Sx [c]) (rs.take i) ++ ((xs.map (·.2)).take j).map (·.2)).map V.int))) ⟨Keep.refl _, by rw [List.take_zero, List.map_nil, List.append_nil]; exact hD2⟩ (fun j H' _ ⟨kp, _⟩ => SqL.of (kp _ _ nl1 hl1)) ?_ ?_
      · rintro j x _ H3 hj ⟨kp, hD3⟩ ⟨rfl, hx'⟩
        obtain ⟨s', hs', rfl⟩ : ∃ s' : ST, xs[j]? = some s' ∧ x = .ref s'.1 := by
          unfold sts at hx'
          rw [List.getElem?_map] at hx'
          cases e : xs[j]? with
          | none => rw [e] at hx'; cases hx'
          | some y => rw [e] at hx'; exact ⟨y, rfl, (Option.some.inj hx').symm⟩
        have hj' : j < xs.length := (List.getElem?_eq_some_iff.mp hs').1
        have hs2 := hS s' (List.mem_of_getElem? hs')
        have hs3 := kp _ _ (fun z => by rw [z, hD2] at hs2; cases hs2) hs2
        refine ⟨rfl, ?_⟩
        refine yes2 ?_
        refine ⟨_, rfl, s'.1, _, 1, _, rfl, rfl, SqT.of hs3, rfl, ?_⟩
        refine ⟨_, hD3, ?_, fun q o nq e => ?_, ?_⟩
        · rw [List.length_map, List.length_append, List.length_map, List.length_take]
          exact Nat.lt_of_le_of_lt (show _ ≤ 1000 by omega) (by decide)
        · rw [upd_ne nq]
          exact kp _ _ nq e
        · rw [upd_same, take_next (xs := xs.map (·.2)) (i := j) (x := s'.2) (by rw [List.getElem?_map, hs']; rfl), List.map_append, List.map_append, List.map_append, List.map_append, List.append_assoc]
          rfl
      · rintro H3 ⟨kp, hD3⟩
        refine ⟨same_of (sm.trans s2) kp, ?_⟩
        rw [hD3, sts_len, show xs.length = (xs.map (·.2)).length by rw [List.length_map], List.take_length, ex, take_next hr', endsT_snoc]
    · rintro H2 ⟨sm, hD⟩
      rw [List.length_map, List.take_length] at hD
      have hel : (endsT M.as (Sx [c]) rs).length < 64 := by
        have := endsT_ten (z := Sx [c]) wm.few hnd
        omega
      refine ⟨_, rfl, D, _, rfl, SqL.of hD, hel, fun S n nS hn => ?_⟩
      have sS := same_upd (o := SetO w S (fun j => decide (j ∈ endsT M.as (Sx [c]) rs)) n) nS
      refine ⟨S, _, n, rfl, upd_same, hn, fun out p ho hm hl np => ?_⟩
      have sp := same_upd (o := .lst (out.map V.int)) np
      have eo : out = onL M.as (Sx [c]) rs := onL_eq wm.n8 wm.room ho fun k => by rw [hm, decide_eq_true_eq]; exact endsT_iff
      refine ⟨p, _, rfl, .inl ⟨SqL.of upd_same, fun u nu => ?_⟩⟩
      have su := same_upd (o := .tup (out.map V.int)) nu
      exact q u _ (sm.trans (sS.trans (sp.trans su))) (by rw [upd_same, eo])
end
end Onp
set_option maxHeartbeats 4000000
set_option autoImplicit false
/-! pairs of rooms and a board, as keys; words by pairs; the search -/
namespace Onp
open PySem PySem.Spec PyProof.Rows L2
abbrev Pr : Type := List Int × Bd
def rk (rs : List Int) : NKy := .tup (rs.map .num)
def pk (p : Pr) : NKy := .tup [rk p.1, bk p.2]
theorem rk_inj {a b : List Int} (h : rk a = rk b) : a = b := by
  unfold rk at h
  injection h with h
  induction a generalizing b with
  | nil => cases b with
    | nil => rfl
    | cons y b => cases h
  | cons x a ih => cases b with
    | nil => cases h
    | cons y b =>
      rw [List.map_cons, List.map_cons, List.cons.injEq] at h
      rw [NestedKey.num.inj h.1, ih h.2]
theorem pk_inj {a b : Pr} (h : pk a = pk b) : a = b := by
  obtain ⟨a1, a2⟩ := a
  obtain ⟨b1, b2⟩ := b
  unfold pk at h
  injection h with h
  simp only [List.cons.injEq, and_true] at h
  rw [rk_inj h.1, bk_inj h.2]
theorem rk_depth (rs : List Int) : (rk rs).depth ≤ 1 := by
  have h : NestedKey.depthAll (rs.map NestedKey.num) = 0 := by
    induction rs with
    | nil => rfl
    | cons r rs ih =>
      rw [List.map_cons, NestedKey.depthAll, ih]
      simp [NestedKey.depth]
  unfold rk
  rw [NestedKey.depth, h]
  exact Nat.le_refl _
theorem bk_depth2 (L : Bd) : (bk L).depth ≤ 2 := by
  have h : NestedKey.depthAll (L.map tk) ≤ 1 := by
    induction L with
    | nil => exact Nat.zero_le _
    | cons t L ih =>
      rw [List.map_cons, NestedKey.depthAll]
      have : (tk t).depth ≤ 1 := by
        unfold tk
        simp [NestedKey.depth, NestedKey.depthAll]
      omega
  unfold bk
  rw [NestedKey.depth]
  omega
theorem pk_depth (p : Pr) : (pk p).depth ≤ 8 := by
  have h1 := rk_depth p.1
  have h2 := bk_depth2 p.2
  unfold pk
  rw [NestedKey.depth, NestedKey.depthAll, NestedKey.depthAll, NestedKey.depthAll]
  omega
/-- a pair stands at a -/
def PrAt (H : Hp) (a : Addr) (p : Pr) : Prop := ∃ r b : Addr, H a = some (.tup [.ref r, .ref b]) ∧ H r = some (.tup (p.1.map V.int)) ∧ BoardAt H b p.2
theorem PrAt.same {H H' : Hp} {a : Addr} {p : Pr} (h : PrAt H a p) (s : Same H H') : PrAt H' a p := by
  obtain ⟨r, b, h1, h2, h3⟩ := h
  exact ⟨r, b, s _ _ h1, s _ _ h2, h3.same s⟩
theorem PrAt.upd {H : Hp} {a D : Addr} {p : Pr} {o ob : HO} (h : PrAt H a p) (hD : H D = some o) (ht : ∀ xs, o ≠ .tup xs) : PrAt (L2.upd H D ob) a p := by
  obtain ⟨r, b, h1, h2, h3⟩ := h
  exact ⟨r, b, by rw [upd_ne (ne_of h1 hD (fun z => ht _ z.symm))]; exact h1, by rw [upd_ne (ne_of h2 hD (fun z => ht _ z.symm))]; exact h2, h3.upd hD ht⟩
theorem PrAt.key {K : PySem.W.Frag} {H : Hp} {a : Addr} {p : Pr} (h : PrAt H a p) : NKat K H (pk p) (.ref a) := by
  obtain ⟨r, b, h1, h2, h3⟩ := h
  refine .tup (vs := [.ref r, .ref b]) (SqT.of h1) rfl fun i k v hk hv => ?_
  match i, hk, hv with
  | 0, hk, hv =>
    obtain rfl := Option.some.inj hk
    obtain rfl := Option.some.inj hv
    refine .tup (vs := p.1.map V.int) (SqT.of h2) (by rw [List.length_map, List.length_map]) fun j k v hk hv => ?_
    rw [List.getElem?_map] at hk hv
    cases e : p.1[j]? with
    | none => rw [e] at hv; cases hv
    | some x =>
      rw [e] at hk hv
      obtain rfl := Option.some.inj hk
      obtain rfl := Option.some.inj hv
      exact .num _
  | 1, hk, hv =>
    obtain rfl := Option.some.inj hk
    obtain rfl := Option.some.inj hv
    exact h3.key
abbrev PrA : Type := Addr × Pr
def prs (xs : List PrA) : List V := xs.map fun p => V.ref p.1
theorem prs_len (xs : List PrA) : (prs xs).length = xs.length := List.length_map ..
theorem prs_at {xs : List PrA} {i : Nat} {v : V} (h : (prs xs)[i]? = some v) : ∃ p : PrA, xs[i]? = some p ∧ v = .ref p.1 := by
  unfold prs at h
  rw [List.getElem?_map] at h
  cases e : xs[i]? with
  | none => rw [e] at h; cases h
  | some p => rw [e] at h; exact ⟨p, rfl, (Option.some.inj h).symm⟩
def PrsAt (H : Hp) (xs : List PrA) : Prop := ∀ p ∈ xs, PrAt H p.1 p.2
theorem PrsAt.same {H H' : Hp} {xs : List PrA} (h : PrsAt H xs) (s : Same H H') : PrsAt H' xs := fun p hp => (h p hp).same s
theorem PrsAt.upd {H : Hp} {rs : List PrA} {D : Addr} {o ob : HO} (h : PrsAt H rs) (hD : H D = some o) (ht : ∀ xs, o ≠ .tup xs) : PrsAt (L2.upd H D ob) rs := fun p hp => (h p hp).upd hD ht
/-- a list of pairs stands at l -/
def PLs (H : Hp) (l : Addr) (R : List Pr) : Prop := ∃ rs : List PrA, H l = some (.lst (prs rs)) ∧ PrsAt H rs ∧ rs.map (·.2) = R
theorem PLs.same {H H' : Hp} {l : Addr} {R : List Pr} (h : PLs H l R) (s : Same H H') : PLs H' l R := by
  obtain ⟨rs, h1, h2, h3⟩ := h
  exact ⟨rs, s _ _ h1, h2.same s, h3⟩
theorem PLs.upd {H : Hp} {l D : Addr} {R : List Pr} {o ob : HO} (h : PLs H l R) (hD : H D = some o) (ht : ∀ xs, o ≠ .tup xs) (ne : l ≠ D) : PLs (L2.upd H D ob) l R := by
  obtain ⟨rs, h1, h2, h3⟩ := h
  exact ⟨rs, by rw [upd_ne ne]; exact h1, h2.upd hD ht, h3⟩
theorem PLs.put {H : Hp} {l b : Addr} {R : List Pr} {p : Pr} {rs : List PrA} (h1 : H l = some (.lst (prs rs))) (h2 : PrsAt H rs) (h3 : rs.map (·.2) = R) (hb : PrAt H b p) : PLs (L2.upd H l (.lst (prs rs ++ [V.ref b]))) l (R ++ [p]) := by
  refine ⟨rs ++ [(b, p)], ?_, fun q hq => ?_, by rw [List.map_append, h3]; rfl⟩
  · rw [upd_same]
    unfold prs
    rw [List.map_append]
    rfl
  · rcases List.mem_append.mp hq with hq | hq
    · exact (h2 q hq).upd h1 (fun _ z => nomatch z)
    · rw [List.mem_singleton.mp hq]
      exact hb.upd h1 (fun _ z => nomatch z)
/-! ### words by pairs -/
abbrev PW' : Type := Pr × List Nat
def wfind (W : List PW') (p : Pr) : Option (List Nat) := (W.find? fun q => decide (q.1 = p)).map (·.2)
theorem wfind_some {W : List PW'} {p : Pr} : (wfind W p).isSome = decide (p ∈ W.map (·.1)) := by
  unfold wfind
  rw [Option.isSome_map, Bool.eq_iff_iff, List.find?_isSome]
  simp
def WdAt (P : Program) (w : World) (K : PySem.W.Frag) (H : Hp) (D : Addr) (W : List PW') : Prop := ∃ xs : List NEn, NAt P w K H D xs ∧ xs.map (fun x => (x.1, x.2.2)) = W.map fun q => (pk q.1, V.str (Sx q.2))
theorem wd_len {xs : List NEn} {W : List PW'} (e : xs.map (fun x => (x.1, x.2.2)) = W.map fun q => (pk q.1, V.str (Sx q.2))) : xs.length = W.length := by
  have := congrArg List.length e
  rwa [List.length_map, List.length_map] at this
theorem wd_val : ∀ {xs : List NEn} {W : List PW'}, xs.map (fun x => (x.1, x.2.2)) = W.map (fun q => (pk q.1, V.str (Sx q.2))) → ∀ p, valN xs (pk p) = (wfind W p).map fun z => V.str (Sx z)
  | [], [], _, p => rfl
  | [], _ :: _, e, p => nomatch e
  | _ :: _, [], e, p => nomatch e
  | (k, a, v) :: xs, (q, z) :: W, e, p => by
    rw [List.map_cons, List.map_cons, List.cons.injEq] at e
    obtain ⟨e1, e2⟩ := e
    simp only [Prod.mk.injEq] at e1
    obtain ⟨rfl, rfl⟩ := e1
    have ih := wd_val e2 p
    unfold valN wfind at ih ⊢
    rw [List.find?_cons, List.find?_cons]
    by_cases h : q = p
    · subst h
      rw [show (decide (pk q = pk q)) = true from decide_eq_true rfl, show (decide (q = q)) = true from decide_eq_true rfl]
      rfl
    · rw [decide_eq_false (fun z => h (pk_inj z) : ¬ pk q = pk p), decide_eq_false h]
      exact ih
theorem wd_put {xs : List NEn} {W : List PW'} (e : xs.map (fun x => (x.1, x.2.2)) = W.map fun q => (pk q.1, V.str (Sx q.2))) {p : Pr} (hp : p ∉ W.map (·.1)) (b : Addr) (z : List Nat) : (putN xs (pk p) b (.str (Sx z))).map (fun x => (x.1, x.2.2)) = (W ++ [(p, z)]).map fun q => (pk q.1, V.str (Sx q.2)) := by
  have h : (valN xs (pk p)).isSome = false := by
    rw [wd_val e, Option.isSome_map, wfind_some, decide_eq_false hp]
  unfold putN
  rw [h, if_neg (by decide), List.map_append, List.map_append, e]
  rfl
/-! ### the search -/
inductive PS where
  | go (W : List PW')
  | hit (z : List Nat) (W : List PW')
  | wide (W : List PW')
section
variable (nx : Nat → Pr → Pr) (fl : Pr → Bool) (most : Nat)
def stepP (p : Pr) (z : List Nat) (W : List PW') (c : Nat) : PS :=
  if nx c p ∈ W.map (·.1) then .go W else if fl (nx c p) = true then .hit (z ++ [c]) W else if W.length = most then .wide W else .go (W ++ [(nx c p, z ++ [c])])
def rowP (p : Pr) (z : List Nat) : List Nat → List PW' → PS
  | [], W => .go W
  | c :: cs, W => match stepP nx fl most p z W c with | .go W' => rowP p z cs W' | r => r
def srP (ls : List Nat) (p0 : Pr) : Nat → PS
  | 0 => .go [(p0, [])]
  | k + 1 => match srP ls p0 k with
    | .go W => (match W[k]? with | some q => rowP nx fl most q.1 q.2 ls W | none => .go W)
    | r => r
end
section
variable {nx : Nat → Pr → Pr} {fl : Pr → Bool} {most : Nat}
theorem rowP_snoc {p : Pr} {z : List Nat} {c : Nat} : ∀ {cs : List Nat} {W W' : List PW'}, rowP nx fl most p z cs W = .go W' → rowP nx fl most p z (cs ++ [c]) W = stepP nx fl most p z W' c
  | [], W, W', h => by
    cases h
    show (match stepP nx fl most p z W c with | .go W' => rowP nx fl most p z [] W' | r => r) = _
    cases stepP nx fl most p z W c <;> rfl
  | d :: cs, W, W', h => by
    have h : (match stepP nx fl most p z W d with | .go W' => rowP nx fl most p z cs W' | r => r) = .go W' := h
    show (match stepP nx fl most p z W d with | .go W' => rowP nx fl most p z (cs ++ [c]) W' | r => r) = _
    cases e : stepP nx fl most p z W d with
    | go W2 => rw [e] at h; exact rowP_snoc h
    | hit _ _ => rw [e] at h; cases h
    | wide _ => rw [e] at h; cases h
/-- what was not gone on with stays -/
theorem rowP_stop {p : Pr} {z : List Nat} {r : PS} (hr : ∀ W, r ≠ .go W) : ∀ {cs ds : List Nat} {W : List PW'}, rowP nx fl most p z cs W = r → rowP nx fl most p z (cs ++ ds) W = r
  | [], ds, W, h => absurd h.symm (hr _)
  | d :: cs, ds, W, h => by
    have h : (match stepP nx fl most p z W d with | .go W' => rowP nx fl most p z cs W' | r => r) = r := h
    show (match stepP nx fl most p z W d with | .go W' => rowP nx fl most p z (cs ++ ds) W' | r => r) = r
    cases e : stepP nx fl most p z W d with
    | go W2 => rw [e] at h; exact rowP_stop hr h
    | hit _ _ => rw [e] at h; exact h
    | wide _ => rw [e] at h; exact h
theorem stepP_go {p : Pr} {z : List Nat} {W W' : List PW'} {c : Nat} (h : stepP nx fl most p z W c = .go W') : W <+: W' ∧ (W.map (·.1)).Nodup = (W.map (·.1)).Nodup ∧ W'.length ≤ W.length + 1 ∧ (W.length ≤ most → W'.length ≤ most) := by
  unfold stepP at h
  split at h
  · cases h
    exact ⟨List.prefix_refl _, rfl, Nat.le_succ _, id⟩
  · split at h
    · cases h
    · split at h
      · cases h
      · cases h
        rename_i h3
        refine ⟨List.prefix_append _ _, rfl, ?_, fun hm => ?_⟩
        · rw [List.length_append]
          exact Nat.le_refl _
        · rw [List.length_append]
          show W.length + 1 ≤ most
          omega
theorem rowP_go {p : Pr} {z : List Nat} : ∀ {cs : List Nat} {W W' : List PW'}, rowP nx fl most p z cs W = .go W' → W <+: W' ∧ (W.length ≤ most → W'.length ≤ most)
  | [], W, W', h => by
    cases h
    exact ⟨List.prefix_refl _, id⟩
  | d :: cs, W, W', h => by
    have h : (match stepP nx fl most p z W d with | .go W' => rowP nx fl most p z cs W' | r => r) = .go W' := h
    cases e : stepP nx fl most p z W d with
    | go W2 =>
      rw [e] at h
      obtain ⟨a1, _, _, a3⟩ := stepP_go e
      obtain ⟨b1, b2⟩ := rowP_go h
      exact ⟨a1.trans b1, fun hm => b2 (a3 hm)⟩
    | hit _ _ => rw [e] at h; cases h
    | wide _ => rw [e] at h; cases h
variable {ls : List Nat} {p0 : Pr}
theorem srP_next {k : Nat} {W : List PW'} {q : PW'} (h : srP nx fl most ls p0 k = .go W) (hq : W[k]? = some q) : srP nx fl most ls p0 (k + 1) = rowP nx fl most q.1 q.2 ls W := by
  show (match srP nx fl most ls p0 k with | .go W => (match W[k]? with | some q => rowP nx fl most q.1 q.2 ls W | none => .go W) | r => r) = _
  rw [h]
  show (match W[k]? with | some q => rowP nx fl most q.1 q.2 ls W | none => .go W) = _
  rw [hq]
theorem srP_none {k : Nat} {W : List PW'} (h : srP nx fl most ls p0 k = .go W) (hk : W.length ≤ k) : srP nx fl most ls p0 (k + 1) = .go W := by
  show (match srP nx fl most ls p0 k with | .go W => (match W[k]? with | some q => rowP nx fl most q.1 q.2 ls W | none => .go W) | r => r) = _
  rw [h]
  show (match W[k]? with | some q => rowP nx fl most q.1 q.2 ls W | none => .go W) = _
  rw [List.getElem?_eq_none hk]
theorem srP_stop {r : PS} (hr : ∀ W, r ≠ .go W) {k : Nat} (h : srP nx fl most ls p0 k = r) : ∀ {j : Nat}, k ≤ j → srP nx fl most ls p0 j = r := fun {j} hj => by
  induction hj with
  | refl => exact h
  | @step m _ ih =>
    show (match srP nx fl most ls p0 m with | .go W => (match W[m]? with | some q => rowP nx fl most q.1 q.2 ls W | none => .go W) | r => r) = _
    rw [ih]
    cases r with
    | go W => exact absurd rfl (hr W)
    | hit _ _ => rfl
    | wide _ => rfl
theorem srP_end {k : Nat} {W : List PW'} (h : srP nx fl most ls p0 k = .go W) (hk : W.length ≤ k) : ∀ {j : Nat}, k ≤ j → srP nx fl most ls p0 j = .go W := fun {j} hj => by
  induction hj with
  | refl => exact h
  | @step m hm ih => exact srP_none ih (Nat.le_trans hk hm)
theorem srP_go_pre {k : Nat} {W W' : List PW'} (h : srP nx fl most ls p0 k = .go W) (h' : srP nx fl most ls p0 (k + 1) = .go W') : W <+: W' := by
  cases hq : W[k]? with
  | none =>
    rw [srP_none h (List.getElem?_eq_none_iff.mp hq)] at h'
    cases h'
    exact List.prefix_refl _
  | some q =>
    rw [srP_next h hq] at h'
    exact (rowP_go h').1
end
end Onp
set_option maxHeartbeats 8000000
set_option autoImplicit false
namespace Onp
open PySem PySem.Spec PyProof.Rows L2 HotX L2H LamX
abbrev sFirstP : Stmt := topS 37
abbrev sNextP : Stmt := topS 38
abbrev sHasL : Stmt := topS 39
abbrev sFails : Stmt := topS 40
/-! ### pairs of a machine -/
noncomputable def nxP (M : AM) (n : Int) (c : Nat) (p : Pr) : Pr := (onL M.as (Sx [c]) p.1, nxB M.as n c p.2)
def flP (M : AM) (p : Pr) : Bool := hasL M.gs p.1 && !wellB M.gs p.2
/-- good pairs of a machine of N rooms -/
structure GdP (N : Int) (p : Pr) : Prop where
  room : ∀ r ∈ p.1, rooB N r = true
  nd : p.1.Nodup
  len : p.1.length ≤ 8
  bd : GdB N p.2
structure PM (M : AM) : Prop where
  g : BGM M
  w : WM M
theorem onL_nd (as : List Arw) (z : Str) (rs : List Int) : (onL as z rs).Nodup := List.Pairwise.filter _ (by decide : all8.Nodup)
theorem onL_room {M : AM} (wm : WM M) (z : Str) (rs : List Int) : ∀ r ∈ onL M.as z rs, rooB M.n r = true := fun r hr => by
  obtain ⟨x, hx, _, _, e⟩ := onB_iff.mp (List.mem_filter.mp hr).2
  rw [← e]
  exact wm.room x hx
theorem gdP_next {M : AM} (pm : PM M) {n : Int} (h0 : 0 ≤ n ∧ n ≤ 99) {p : Pr} (h : GdP M.n p) (c : Nat) : GdP M.n (nxP M n c p) :=
  ⟨onL_room pm.w _ _, onL_nd _ _ _, onL_len _ _ _, gd_next pm.g h0 h.bd c⟩
theorem gdP_first {M : AM} (pm : PM M) : GdP M.n (M.fs, M.fs.map zr) := ⟨pm.w.fr, pm.w.fn, pm.w.fl, pm.g.b0, by
  show (M.fs.map zr).length ≤ 1000
  rw [List.length_map]
  have := pm.w.fl
  omega⟩
section
variable {P : Program} {w : World} {K : PySem.W.Frag} {mg : Str → Option Value} {base : Heap}
/-! ### first_pair -/
def spFirstP (K : PySem.W.Frag) (C : Addr) : Sp := fun vs H Q _ => ∃ (a : Addr) (M : AM), vs = [.ref a] ∧ MachAt K C H a M ∧ M.fs.length ≤ 100 ∧ ∀ (p : Addr) H', Same H H' → PrAt H' p (M.fs, M.fs.map zr) → Q (.ref p) H'
theorem scFirstP : FnScope ["machine"] ["machine"] (defScope sFirstP) := ⟨rfl, rfl, rfl, by decide +kernel, rfl, by decide +kernel, by decide +kernel⟩
theorem ok_firstP {f fFb fF C : Addr} {fd fdFb fdF : FuncData} {k : Nat} (F : Fun K "first_pair" "first_pair" sFirstP f fd) (T : ClsM K C) (Fb : FnM K mg fFb fdFb "first_board" sFirstB ["machine"]) (FF : Fun K "firsts" "Machine.firsts" sMFsts fF fdF) (bF : Binds K fdF ["self"] []) (mF : Meth K C "firsts" fF) (ml : mg "list" = none) (mt : mg "tuple" = none) : FnOk P w K mg base CX0 (k + 3) f fd ["machine"] (spFirstP K C) := by
  have GF : FnOk P w K mg base CX0 (k + 2) fF fdF ["self"] (spMFsts K C) := ok_mfsts FF T ml
  have GFb : FnOk P w K mg base CX0 (k + 2) fFb fdFb ["machine"] (spFirstB K C) := ok_firstB Fb.F FF bF mF T ml mt
  refine F.ok scFirstP (fun vs H Q E h => ?_) (fun cdv A outer s H vs Q E hr h => ?_)
  · obtain ⟨a, M, rfl, _⟩ := h
    rfl
  · obtain ⟨a, M, rfl, mA, hlen, q⟩ := h
    obtain ⟨dx, ta, tf, tg, D0, ps0, h1, hrest⟩ := id mA
    refine ⟨_, pss_one (ps_ret (pe_tup (pa_cons (pe_callTy call_tuple_of (by rfl) mt (by decide +kernel) (pa_cons (pe_meth0 (pv 0) T.cl mF GF hr bF .nil pass0) pa_nil)) (pa_cons (pe_call GFb hr (by rfl) Fb.g Fb.F.kp Fb.b .nil pass0 (pa_cons (pv 0) pa_nil)) pa_nil)))), ?_⟩
    refine ⟨_, rfl, a, dx, _, rfl, h1, mfl_none (by decide +kernel), a, M, rfl, mA, fun lf nlf => ?_⟩
    have s1 := same_upd (o := .lst (M.fs.map V.int)) nlf
    have hlf : (upd H lf (.lst (M.fs.map V.int))) lf = some (.lst (M.fs.map V.int)) := upd_same
    generalize upd H lf (.lst (M.fs.map V.int)) = H1 at s1 hlf
    refine ⟨lf, _, rfl, .inl ⟨SqL.of hlf, fun t nt => ?_⟩⟩
    have s2 := same_upd (o := .tup (M.fs.map V.int)) nt
    have ht : (upd H1 t (.tup (M.fs.map V.int))) t = some (.tup (M.fs.map V.int)) := upd_same
    generalize upd H1 t (.tup (M.fs.map V.int)) = H2 at s2 ht
    refine ⟨_, rfl, a, M, rfl, mA.same (s1.trans s2), hlen, fun b ps H3 s3 hb hT he => ⟨(by decide : 2 ≤ sizeLine), fun p np => ?_⟩⟩
    have s4 := same_upd (o := .tup [.ref t, .ref b]) np
    exact q p _ (s1.trans (s2.trans (s3.trans s4))) ⟨t, b, upd_same, s4 _ _ (s3 _ _ ht), ps, s4 _ _ hb, trAt_same hT s4, he⟩
/-! ### next_pair -/
def NNp : List Str := ["machine", "pair", "letter", "size", "rooms", "board"]
def psNp : List Str := ["machine", "pair", "letter", "size"]
theorem scNextP : FnScope NNp psNp (defScope sNextP) := ⟨rfl, rfl, rfl, by decide +kernel, rfl, by decide +kernel, by decide +kernel⟩
def spNextP (K : PySem.W.Frag) (C : Addr) : Sp := fun vs H Q _ => ∃ (a t : Addr) (M : AM) (c : Nat) (n : Int) (p : Pr), vs = [.ref a, .ref t, .str (Sx [c]), .int n] ∧ MachAt K C H a M ∧ PrAt H t p ∧ PM M ∧ GdP M.n p ∧ c ∈ M.ls ∧ (0 ≤ n ∧ n ≤ 99) ∧ ∀ (q : Addr) H', Same H H' → PrAt H' q (nxP M n c p) → Q (.ref q) H'
theorem ok_nextP {f fN fBr C CS CW : Addr} {fd fdN fdBr : FuncData} {k : Nat} (F : Fun K "next_pair" "next_pair" sNextP f fd) (T : ClsM K C) (FN : FnK K mg fN fdN "next_board" sNextB) (GN : FnOk P w K mg base (L2N.CX P w) k fN fdN psNb (spNextB K C CS CW)) (bBr : Binds K fdBr psBr []) (mBr : Meth K C "rooms_behind" fBr) (GBr : FnOk P w K mg base CX0 k fBr fdBr psBr (spBehR K C)) : FnOk P w K mg base (L2N.CX P w) (k + 1) f fd psNp (spNextP K C) := by
  refine okN F scNextP (fun vs H Q E h => ?_) (fun cdv A outer s H vs Q E hr h => ?_)
  · obtain ⟨a, t, M, c, n, p, rfl, _⟩ := h
    rfl
  · obtain ⟨a, t, M, c, n, p, rfl, mA, hp, pm, gp, hc, hn, q⟩ := h
    obtain ⟨dx, ta, tf, tg, D0, ps0, h1, hrest⟩ := id mA
    refine ⟨_, pss_cons (ps_asg (pv 1) (pg_tup rfl (pgs_cons (pg_name (i := 4) scNextP.nd rfl (.inl rfl)) (pgs_cons (pg_name (i := 5) scNextP.nd rfl (.inl rfl)) pgs_nil))))
      (pss_one (ps_ret (pe_tup (pa_cons (pe_meth (pv 0) T.cl mBr GBr hr bBr .nil pass0 (pa_cons (pv 4) (pa_cons (pv 2) pa_nil))) (pa_cons (pe_callN (E := E) GN hr (by rfl) FN.g FN.F.kp (kb_nextB FN.F) (L2N.passes_call (L2N.takes_of (E := E) rfl rfl rfl rfl) fun _ _ _ _ z => z) (pa_cons (pv 0) (pa_cons (pv 5) (pa_cons (pv 2) pa_nil))) (pk_cons (pv 3) pk_nil)) pa_nil))))), ?_⟩
    obtain ⟨r, b, p1, p2, bs, b1, b2, b3⟩ := hp
    refine ⟨_, rfl, t, _, rfl, SqT.of p1, rfl, _, _, rfl, _, _, rfl, rfl, ?_⟩
    refine ⟨_, rfl, a, dx, _, rfl, h1, mfl_none (by decide +kernel), _, rfl, _, rfl, a, r, M, p.1, c, rfl, mA, p2, pm.w, gp.room, gp.len, gp.nd, hc, fun u H1 s1 hu => ?_⟩
    have hBI : BdI M.n 99 (bs.map (·.2)) := by rw [b3]; exact gp.bd.1
    have hql : bs.length ≤ 1000 := by
      have := gp.bd.2
      rw [← b3, List.length_map] at this
      exact this
    refine ⟨_, rfl, _, rfl, _, rfl, _, rfl, rfl, rfl, a, b, M, Sx [c], n, bs, rfl, mA.same s1, SqT.of (s1 _ _ b1), trAt_same b2 s1, fun x hx => (hBI.1 x.2 (List.mem_map_of_mem hx)).1, pm.g.ga.deed, pm.g.ga.len, hql, (show 1 ≤ sizeLine by decide), fun c' hc' ez _ => ?_, fun e => absurd e (by omega), fun _ e => absurd rfl (e c hc)⟩
    obtain ⟨g1, g2⟩ := pm.g.cap (n := n) (z := Sx [c]) hBI (by omega)
    refine ⟨g1, g2, fun v rs H2 s2 hv hTr _ hrl L => ⟨(by decide : 2 ≤ sizeLine), fun o no => ?_⟩⟩
    rw [b3] at L
    have enb : nxB M.as n c p.2 = rs.map (·.2) := nxB_eq L
    have s3 := same_upd (o := .tup [.ref u, .ref v]) no
    exact q o _ (s1.trans (s2.trans s3)) ⟨u, v, upd_same, s3 _ _ (s2 _ _ hu), rs, s3 _ _ hv, trAt_same hTr s3, enb.symm⟩
/-! ### has_last, fails -/
def spHasL (K : PySem.W.Frag) (C : Addr) : Sp := fun vs H Q _ => ∃ (a t : Addr) (M : AM) (rs : List Int), vs = [.ref a, .ref t] ∧ MachAt K C H a M ∧ H t = some (.tup (rs.map V.int)) ∧ rs.length ≤ 1000 ∧ ∀ H', Same H H' → Q (.bl (hasL M.gs rs)) H'
def NHl : List Str := ["machine", "rooms", "lasts", "room"]
theorem scHasL : FnScope NHl ["machine", "rooms"] (defScope sHasL) := ⟨rfl, rfl, rfl, by decide +kernel, rfl, by decide +kernel, by decide +kernel⟩
theorem grow_bI {H2 H' : Hp} {D : Addr} {ts : List Int} {f : Int → Bool} {i : Nat} {t : Int} (nD : H2 D = none) (sm : Same H2 H') (ht : ts[i]? = some t) (hl : ts.length ≤ 1000) (hD : H' D = some (.lst (((ts.take i).map f).map V.bl))) :
    ∃ acc, H' D = some (.lst acc) ∧ acc.length < sizeLine ∧ Same H2 (upd H' D (.lst (acc ++ [.bl (f t)]))) ∧ (upd H' D (.lst (acc ++ [.bl (f t)]))) D = some (.lst (((ts.take (i + 1)).map f).map V.bl)) := by
  refine ⟨_, hD, ?_, fun b o e => ?_, ?_⟩
  · rw [List.length_map, List.length_map, List.length_take]
    exact Nat.lt_of_le_of_lt (Nat.le_trans (Nat.min_le_right _ _) hl) (by decide)
  · rw [upd_ne (ne_of_none e nD)]
    exact sm b o e
  · rw [upd_same, take_next ht, List.map_append, List.map_append]
    rfl
theorem ok_hasL {f fF C : Addr} {fd fdF : FuncData} {k : Nat} (F : Fun K "has_last" "has_last" sHasL f fd) (FF : Fun K "lasts" "Machine.lasts" sMLsts fF fdF) (bF : Binds K fdF ["self"] []) (mF : Meth K C "lasts" fF) (T : ClsM K C) (ml : mg "list" = none) (ma : mg "any" = none) : FnOk P w K mg base CX0 (k + 2) f fd ["machine", "rooms"] (spHasL K C) := by
  have GF : FnOk P w K mg base CX0 (k + 1) fF fdF ["self"] (spMLsts K C) := ok_mlsts FF T ml
  refine F.ok scHasL (fun vs H Q E h => ?_) (fun cdv A outer s H vs Q E hr h => ?_)
  · obtain ⟨a, b, M, ps, rfl, _⟩ := h
    rfl
  · obtain ⟨a, b, M, rs, rfl, mA, hb, hlen, q⟩ := h
    obtain ⟨dx, ta, tf, tg, D0, ps0, h1, hrest⟩ := id mA
    refine ⟨_, pss_cons (ps_set (i := 2) scHasL.nd rfl (.inr rfl) (pe_meth0 (pv 0) T.cl mF GF hr bF .nil pass0))
      (pss_one (ps_ret (pe_callB (cr_any rfl) (by rfl) ma (by decide +kernel) (pa_cons
        (pe_lc (own := [("room", 3)]) (g := gName 3) (tt := tYes) (te := tOp (rIn K false) (tVar 3) (tVar 2)) rfl scHasL.nd (pi_tup (pv 1)) (blkOk_by (own := [("room", 3)]) (N := NHl) (sc := defScope sHasL) (by decide +kernel))
          (fun _ _ _ _ _ => pg_name (i := 3) scHasL.nd rfl (.inl rfl)) (fun _ _ _ _ _ => pts_nil) (fun _ _ _ _ _ => pe_cmpR op_in_seq (pv 3) (pv 2) (by rfl))) pa_nil)))), ?_⟩
    refine ⟨_, rfl, a, dx, _, rfl, h1, mfl_none (by decide +kernel), a, M, rfl, mA, fun lg nlg => ?_⟩
    have s1 := same_upd (o := .lst (M.gs.map V.int)) nlg
    have hlg : (upd H lg (.lst (M.gs.map V.int))) lg = some (.lst (M.gs.map V.int)) := upd_same
    generalize upd H lg (.lst (M.gs.map V.int)) = H1 at s1 hlg
    refine ⟨_, rfl, b, rfl, ⟨_, SqT.of (s1 _ _ hb)⟩, fun D nD => ?_⟩
    refine lc_tup (K := K) (a := b) (xs := rs.map V.int) (fun i H' => Same H1 H' ∧ H' D = some (.lst (((rs.take i).map fun r => decide (r ∈ M.gs)).map V.bl))) ⟨same_upd nD, upd_same⟩ (fun i H' _ ⟨sm, _⟩ => SqT.of (sm _ _ (s1 _ _ hb))) (fun i x H' hx ⟨sm, hD⟩ => ?_) (fun H2 ⟨s2, hD⟩ => ?_)
    · obtain ⟨r, hr', rfl⟩ : ∃ r, rs[i]? = some r ∧ x = .int r := by
        rw [List.getElem?_map] at hx
        cases z : rs[i]? with
        | none => rw [z] at hx; cases hx
        | some r => rw [z] at hx; exact ⟨r, rfl, (Option.some.inj hx).symm⟩
      refine ⟨rfl, ?_⟩
      refine yes2 ?_
      refine ⟨_, rfl, _, rfl, lg, M.gs.map V.int, rfl, .inl (SqL.of (sm _ _ hlg)), rfl, flatInts _, ?_⟩
      rw [if_neg Bool.false_ne_true, inV_ints]
      exact grow_bI (ts := rs) (f := fun r => decide (r ∈ M.gs)) (t := r) nD sm hr' hlen hD
    · rw [List.length_map, List.take_length] at hD
      refine ⟨D, _, rfl, SqL.of hD, ?_⟩
      rw [show ((rs.map fun r => decide (r ∈ M.gs))).any id = hasL M.gs rs by unfold hasL; rw [List.any_map]; rfl]
      exact q H2 (s1.trans s2)
def spFails (K : PySem.W.Frag) (C : Addr) : Sp := fun vs H Q _ => ∃ (a t : Addr) (M : AM) (p : Pr), vs = [.ref a, .ref t] ∧ MachAt K C H a M ∧ PrAt H t p ∧ p.1.length ≤ 1000 ∧ p.2.length ≤ 1000 ∧ ∀ H', Same H H' → Q (.bl (flP M p)) H'
def NFa : List Str := ["machine", "pair", "rooms", "board"]
theorem scFails : FnScope NFa ["machine", "pair"] (defScope sFails) := ⟨rfl, rfl, rfl, by decide +kernel, rfl, by decide +kernel, by decide +kernel⟩
theorem ok_fails {f fH fE C : Addr} {fd fdH fdE : FuncData} {k : Nat} (F : Fun K "fails" "fails" sFails f fd) (Hl : FnM K mg fH fdH "has_last" sHasL ["machine", "rooms"]) (GH : FnOk P w K mg base CX0 k fH fdH ["machine", "rooms"] (spHasL K C)) (Ew : FnM K mg fE fdE "ends_well" sEnds ["machine", "board"]) (GE : FnOk P w K mg base CX0 k fE fdE ["machine", "board"] (spEnds K C)) : FnOk P w K mg base CX0 (k + 1) f fd ["machine", "pair"] (spFails K C) := by
  refine F.ok scFails (fun vs H Q E h => ?_) (fun cdv A outer s H vs Q E hr h => ?_)
  · obtain ⟨a, b, M, p, rfl, _⟩ := h
    rfl
  · obtain ⟨a, t, M, p, rfl, mA, hp, hl1, hl2, q⟩ := h
    refine ⟨_, pss_cons (ps_asg (pv 1) (pg_tup rfl (pgs_cons (pg_name (i := 2) scFails.nd rfl (.inl rfl)) (pgs_cons (pg_name (i := 3) scFails.nd rfl (.inl rfl)) pgs_nil))))
      (pss_one (ps_ret (pe_and (pe_call GH hr (by rfl) Hl.g Hl.F.kp Hl.b .nil pass0 (pa_cons (pv 0) (pa_cons (pv 2) pa_nil))) (pe_one (pe_not (pe_call GE hr (by rfl) Ew.g Ew.F.kp Ew.b .nil pass0 (pa_cons (pv 0) (pa_cons (pv 3) pa_nil)))))))), ?_⟩
    obtain ⟨r, b, p1, p2, bs, b1, b2, b3⟩ := hp
    refine ⟨_, rfl, t, _, rfl, SqT.of p1, rfl, _, _, rfl, _, _, rfl, rfl, ?_⟩
    refine ⟨_, rfl, _, rfl, a, r, M, p.1, rfl, mA, p2, hl1, fun H1 s1 => ⟨_, rfl, ?_⟩⟩
    have hql : bs.length ≤ 1000 := by
      rw [← b3, List.length_map] at hl2
      exact hl2
    cases e : hasL M.gs p.1 with
    | false =>
      have e2 : flP M p = false := by unfold flP; rw [e]; rfl
      rw [e2] at q
      exact iteF (q H1 s1)
    | true =>
      refine iteT ?_
      refine ⟨_, rfl, _, rfl, a, b, M, bs, rfl, mA.same s1, SqT.of (s1 _ _ b1), trAt_same b2 s1, hql, fun H2 s2 => ⟨_, rfl, ?_⟩⟩
      have e2 : flP M p = !wellB M.gs p.2 := by unfold flP; rw [e]; rfl
      rw [e2] at q
      rw [b3]
      exact q H2 (s1.trans s2)
end
end Onp
set_option maxHeartbeats 4000000
set_option autoImplicit false
/-! words by pairs in the heap; what a search keeps -/
namespace Onp
open PySem PySem.Spec PyProof.Rows L2
theorem sqT_same {K : PySem.W.Frag} {H H' : Hp} {a : Addr} {xs : List V} (s : Same H H') (h : SqT K H a xs) : SqT K H' a xs := by
  rcases h with (h | ⟨o, h⟩) | h
  · exact .inl (.inl (s _ _ h))
  · exact .inl (.inr ⟨o, s _ _ h⟩)
  · exact .inr h
theorem WdAt.same {P : Program} {w : World} {K : PySem.W.Frag} {H H' : Hp} {D : Addr} {W : List PW'} (h : WdAt P w K H D W) (s : Same H H') : WdAt P w K H' D W := by
  obtain ⟨xs, h1, h2⟩ := h
  exact ⟨xs, h1.move (s _ _ h1.at_) (fun a ys q => sqT_same s q), h2⟩
theorem WdAt.upd {P : Program} {w : World} {K : PySem.W.Frag} {H : Hp} {D l : Addr} {W : List PW'} {xs ys : List V} (h : WdAt P w K H D W) (hl : H l = some (.lst xs)) (ne : D ≠ l) : WdAt P w K (L2.upd H l (.lst ys)) D W := by
  obtain ⟨zs, h1, h2⟩ := h
  exact ⟨zs, h1.move (by rw [upd_ne ne]; exact h1.at_) (fun a ys q => sqT_upd hl (fun _ z => nomatch z) (fun _ _ z => nomatch z) q), h2⟩
theorem same_putD {H0 H : Hp} {D : Addr} {ob : HO} (s : Same H0 H) (n : H0 D = none) : Same H0 (L2.upd H D ob) := fun b o e => by
  rw [upd_ne (ne_of_none e n)]
  exact s b o e
theorem wfind_at {W : List PW'} (hn : (W.map (·.1)).Nodup) {q : PW'} (hq : q ∈ W) : wfind W q.1 = some q.2 := by
  unfold wfind
  induction W with
  | nil => cases hq
  | cons x W ih =>
    rw [List.map_cons] at hn
    obtain ⟨h1, h2⟩ := List.nodup_cons.mp hn
    rw [List.find?_cons]
    rcases List.mem_cons.mp hq with rfl | hq
    · rw [decide_eq_true rfl]
      rfl
    · have : ¬ x.1 = q.1 := fun e => h1 (e ▸ List.mem_map_of_mem hq)
      rw [decide_eq_false this]
      exact ih h2 hq
/-- what a search has found so far: each pair once, each good, words no longer than there are pairs -/
structure SOk (G : Pr → Prop) (W : List PW') : Prop where
  nd : (W.map (·.1)).Nodup
  gd : ∀ q ∈ W, G q.1
  zl : ∀ q ∈ W, q.2.length ≤ W.length
theorem SOk.first {G : Pr → Prop} {p : Pr} (h : G p) : SOk G [(p, [])] := ⟨List.nodup_cons.mpr ⟨(fun z => nomatch z), .nil⟩, fun q hq => by rw [List.mem_singleton.mp hq]; exact h, fun q hq => by rw [List.mem_singleton.mp hq]; exact Nat.zero_le _⟩
theorem SOk.put {G : Pr → Prop} {W : List PW'} (h : SOk G W) {p : Pr} (hp : p ∉ W.map (·.1)) (g : G p) {z : List Nat} (hz : z.length ≤ W.length) (c : Nat) : SOk G (W ++ [(p, z ++ [c])]) := by
  refine ⟨?_, fun q hq => ?_, fun q hq => ?_⟩
  · rw [List.map_append]
    refine List.nodup_append.mpr ⟨h.nd, List.nodup_cons.mpr ⟨(fun z => nomatch z), .nil⟩, fun x hx y hy e => hp ?_⟩
    rw [← show y = p from List.mem_singleton.mp hy, ← e]
    exact hx
  · rcases List.mem_append.mp hq with hq | hq
    · exact h.gd q hq
    · rw [List.mem_singleton.mp hq]
      exact g
  · rw [List.length_append]
    rcases List.mem_append.mp hq with hq | hq
    · have := h.zl q hq
      exact Nat.le_trans this (Nat.le_add_right _ _)
    · rw [List.mem_singleton.mp hq]
      show (z ++ [c]).length ≤ W.length + 1
      rw [List.length_append]
      exact Nat.add_le_add_right hz 1
end Onp
set_option autoImplicit false
namespace L2
open PySem PySem.Spec PyProof.Rows
section
variable {X : Cx}
/-- a statement, then the rest, with a word between them -/
def tCutM (t u : TS) : TS := fun D σ H => ∃ Mid : L2.St → Hp → Prop, t { D with nx := Mid } σ H ∧ ∀ σ' H', Mid σ' H' → u D σ' H'
theorem pss_cutM {st : Stmt} {rest : List Stmt} {t u : TS} (h1 : PS X st t) (h2 : PSs X rest u) : PSs X (st :: rest) (tCutM t u) := by
  refine ⟨fun pins s σ H D I h => ?_⟩
  obtain ⟨Mid, hm, hu⟩ := h
  refine wpAny_execs_cons (thn (h1.run pins s σ H { D with nx := Mid } I hm) fun f s1 q => ?_)
  cases f with
  | next =>
    obtain ⟨σ', H', I', q⟩ := q
    exact h2.run pins s1 σ' H' D I' (hu σ' H' q)
  | ret v => exact q
  | brk => exact q
  | cont => exact q
end
end L2
set_option maxHeartbeats 8000000
set_option autoImplicit false
namespace Onp
open PySem PySem.Spec PyProof.Rows L2 HotX L2H LamX
abbrev sSrch : Stmt := topS 41
section
variable {P : Program} {w : World} {K : PySem.W.Frag} {mg : Str → Option Value} {base : Heap}
/-! ### searched_pairs -/
/-- the search of a machine after k pairs -/
noncomputable def srM (M : AM) (n : Int) (m : Nat) (k : Nat) : PS := srP (nxP M n) (flP M) m M.ls (M.fs, M.fs.map zr) k
def NSr : List Str := ["machine", "size", "most", "newest", "words", "fresh", "pair", "letter", "made"]
def psSr : List Str := ["machine", "size", "most"]
theorem scSrch : FnScope NSr psSr (defScope sSrch) := ⟨rfl, rfl, rfl, by decide +kernel, rfl, by decide +kernel, by decide +kernel⟩
def spSrch (P : Program) (w : World) (K : PySem.W.Frag) (C CT : Addr) : Sp := fun vs H Q E => ∃ (a : Addr) (M : AM) (n : Int) (m : Nat), vs = [.ref a, .int n, .int (m : Nat)] ∧ MachAt K C H a M ∧ PM M ∧ M.ls.length ≤ 3 ∧ (0 ≤ n ∧ n ≤ 99) ∧ (1 ≤ m ∧ m ≤ 1000) ∧
  (∀ k z W D r H', srM M n m k = .hit z W → Same H H' → WdAt P w K H' D W → H' r = some (.tup [.ref D, .str (Sx z)]) → Q (.ref r) H') ∧
  (∀ k W H', srM M n m k = .wide W → Same H H' → refuse CT (mostL "toowide" (.int (m : Nat))) H' E) ∧
  (∀ k W D r H', srM M n m k = .go W → W.length ≤ k → Same H H' → WdAt P w K H' D W → H' r = some (.tup [.ref D, .non]) → Q (.ref r) H')
theorem ok_srch {f C CT fFp fNp fFa fLt iT : Addr} {fd fdFp fdNp fdFa fdLt fdiT : FuncData} {k : Nat} (F : Fun K "searched_pairs" "searched_pairs" sSrch f fd) (T : ClsM K C) (ST : MkTooWide K mg CT iT fdiT)
    (Fp : FnM K mg fFp fdFp "first_pair" sFirstP ["machine"]) (GFp : FnOk P w K mg base CX0 (k + 2) fFp fdFp ["machine"] (spFirstP K C)) (Np : FnM K mg fNp fdNp "next_pair" sNextP psNp) (GNp : FnOk P w K mg base (L2N.CX P w) (k + 2) fNp fdNp psNp (spNextP K C)) (Fa : FnM K mg fFa fdFa "fails" sFails ["machine", "pair"]) (GFa : FnOk P w K mg base CX0 (k + 2) fFa fdFa ["machine", "pair"] (spFails K C))
    (FLt : Fun K "letters" "Machine.letters" sMLets fLt fdLt) (bLt : Binds K fdLt ["self"] []) (mLt : Meth K C "letters" fLt) (mlen : mg "len" = none) :
    FnOk P w K mg base (L2N.CX P w) (k + 3) f fd psSr (spSrch P w K C CT) := by
  have GLt : FnOk P w K mg base CX0 (k + 2) fLt fdLt ["self"] (spMLets K C) := ok_mlets FLt T
  refine okN F scSrch (fun vs H Q E h => ?_) (fun cdv A outer s H vs Q E hr h => ?_)
  · obtain ⟨a, M, n, m, rfl, _⟩ := h
    rfl
  · obtain ⟨a, M, n, m, rfl, mA, pm, hl3, hn, hm, qH, qW, qN⟩ := h
    have hu : (cxOf (L2N.CX P w) P w K mg base NSr "searched_pairs" (defScope sSrch) f cdv A outer s H E).A.units + 64 < cLine := hr.units
    refine ⟨_, (pss_cutM (ps_set (i := 3) scSrch.nd rfl (.inl rfl) (pe_lst (pa_cons (pe_call GFp hr (by rfl) Fp.g Fp.F.kp Fp.b .nil pass0 (pa_cons (pv 0) pa_nil)) pa_nil)))
      (pss_cutM (ps_set (i := 4) scSrch.nd rfl (.inl rfl) (pe_disp1N hu (pe_ix ix_list (pv 3) pe_int (fun _ _ => rfl)) pe_str))
      (pss_cutM (ps_while (passes_of rfl) (pt_truth (pv 3) (fun _ => rfl)) (pss_cutM (ps_set (i := 5) scSrch.nd rfl (.inl rfl) (pe_lst pa_nil))
      (pss_cutM (ps_for (passes_of rfl) rfl (pi_list (pv 3)) (pg_name (i := 6) scSrch.nd rfl (.inl rfl))
        (pss_one (ps_for (passes_of rfl) rfl (pi_str (pe_meth0 (pv 0) T.cl mLt GLt hr bLt .nil pass0)) (pg_name (i := 7) scSrch.nd rfl (.inl rfl))
        (pss_cons (ps_set (i := 8) scSrch.nd rfl (.inl rfl) (pe_call (E := E) GNp hr (by rfl) Np.g Np.F.kp Np.b .nil (L2N.passes_call (L2N.takes_of (E := E) rfl rfl rfl rfl) fun _ _ _ _ z => z) (pa_cons (pv 0) (pa_cons (pv 6) (pa_cons (pv 7) (pa_cons (pv 1) pa_nil))))))
      (pss_cons (ps_if (pt_cmpR (op_inN hu) (pv 8) (pv 4) (by rfl)) (pss_one ps_continue) pss_nil)
      (pss_cons (ps_if (pt_val (pe_call GFa hr (by rfl) Fa.g Fa.F.kp Fa.b .nil pass0 (pa_cons (pv 0) (pa_cons (pv 8) pa_nil)))) (pss_one (ps_ret (pe_tup (pa_cons (pv 4) (pa_cons (pe_op op_add_str (pe_nget hu (pv 4) (pv 6) (fun _ _ => rfl)) (pv 7)) pa_nil))))) pss_nil)
      (pss_cons (ps_if (pt_cmpR op_eq (pe_callB call_len_nest (by rfl) mlen PySem.boot_len (pa_cons (pv 4) pa_nil)) (pv 2) (nomark _)) (pss_one (L2N.ps_raise rfl (L2N.takes_of rfl rfl rfl rfl) (pmk_most (k := k + 1) ST.T ST.iC ST.tI (ok_initTooWide ST) hr ST.b (by rfl) ST.g (pv 2) rfl))) pss_nil)
      (pss_cons (ps_asg (pe_op op_add_str (pe_nget hu (pv 4) (pv 6) (fun _ _ => rfl)) (pv 7)) (pg_sub (pv 4) (pv 8) (set_nest hu)))
      (pss_one (ps_expr (pe_bm PySem.F.plainAttrs_list PySem.F.slot_list_append PySem.F.type_list_append mt_append (pv 5) (pa_cons (pv 8) pa_nil))))))))))))
      (pss_one (ps_set (i := 3) scSrch.nd rfl (.inl rfl) (pv 5))))))
      (pss_one (ps_ret (pe_tup (pa_cons (pv 4) (pa_cons pe_non pa_nil)))))))), ?_⟩
    have hbig : 50000 ≤ sizeLine := by decide
    have GX : ∀ {p : Pr}, GdP M.n p → ∀ c, GdP M.n (nxP M n c p) := fun h c => gdP_next pm hn h c
    obtain ⟨p0, ep0⟩ : ∃ p0 : Pr, p0 = (M.fs, M.fs.map zr) := ⟨_, rfl⟩
    -- the first pair
    refine ⟨fun σ' H' => ∃ (ln p : Addr), σ' = [some (.ref a), some (.int n), some (.int (m : Nat)), some (.ref ln), none, none, none, none, none] ∧ Same H H' ∧ H' ln = some (.lst [.ref p]) ∧ PrAt H' p p0, ?_, ?_⟩
    · refine ⟨_, rfl, a, M, rfl, mA, (by have := pm.w.fl; omega), fun p H1 s1 hp => ⟨(by decide : 1 ≤ sizeLine), fun ln nln => ?_⟩⟩
      have s2 := same_upd (o := .lst [.ref p]) nln
      exact ⟨ln, p, rfl, s1.trans s2, upd_same, by rw [ep0]; exact hp.same s2⟩
    rintro σ H1 ⟨ln, p, rfl, s1, hln, hp⟩
    -- the words
    refine ⟨fun σ' H' => ∃ D : Addr, σ' = [some (.ref a), some (.int n), some (.int (m : Nat)), some (.ref ln), some (.ref D), none, none, none, none] ∧ Same H H' ∧ PLs H' ln [p0] ∧ WdAt P w K H' D [(p0, [])] ∧ H D = none ∧ ln ≠ D, ?_, ?_⟩
    · intro D nD
      have sD := same_upd (o := NDO P w D []) nD
      refine ⟨_, rfl, ln, _, 0, _, rfl, rfl, SqL.of (sD _ _ hln), rfl, p, pk p0, rfl, upd_same, (hp.same sD).key, pk_depth _, ?_⟩
      have s3 := same_putD (D := D) (ob := NDO P w D [(pk p0, p, V.str "")]) sD nD
      exact ⟨D, rfl, s1.trans s3, ⟨[(p, p0)], s3 _ _ hln, fun q hq => by rw [List.mem_singleton.mp hq]; exact hp.same s3, rfl⟩, ⟨[(pk p0, p, V.str "")], ⟨upd_same, fun x hx => by rw [List.mem_singleton.mp hx]; exact ⟨(hp.same s3).key, pk_depth _⟩⟩, rfl⟩, s1.free nD, fun z => by rw [z, nD] at hln; cases hln⟩
    clear s1 hln hp p
    rintro σ H2 ⟨D, rfl, s2, hN2, hD2, nD, ne0⟩
    have hsr : ∀ k, srM M n m k = srP (nxP M n) (flP M) m M.ls p0 k := fun k => by rw [ep0]; rfl
    have gp0 : GdP M.n p0 := by rw [ep0]; exact gdP_first pm
    -- as long as there are new ones
    refine ⟨fun σ' H' => ∃ (k : Nat) (W : List PW') (ln : Addr) (y5 y6 y7 y8 : Option V), σ' = [some (.ref a), some (.int n), some (.int (m : Nat)), some (.ref ln), some (.ref D), y5, y6, y7, y8] ∧ Same H H' ∧ WdAt P w K H' D W ∧ srM M n m k = .go W ∧ W.length ≤ k, ?_, ?_⟩
    · refine ⟨fun μ σ' H' => ∃ (k : Nat) (W : List PW') (ln : Addr) (y5 y6 y7 y8 : Option V), σ' = [some (.ref a), some (.int n), some (.int (m : Nat)), some (.ref ln), some (.ref D), y5, y6, y7, y8] ∧ Same H H' ∧ WdAt P w K H' D W ∧ PLs H' ln ((W.map (·.1)).drop k) ∧ srM M n m k = .go W ∧ SOk (GdP M.n) W ∧ k ≤ W.length ∧ W.length ≤ m ∧ ln ≠ D ∧ μ = m + 1 - k,
        ⟨_, 0, [(p0, [])], ln, _, _, _, _, rfl, s2, hD2, (show PLs H2 ln ((([(p0, ([] : List Nat))] : List PW').map (·.1)).drop 0) from hN2), by rw [hsr]; rfl, SOk.first gp0, Nat.zero_le _, hm.1, ne0, rfl⟩, ?_⟩
      clear s2 hD2 hN2 ne0 H2 ln
      rintro μ σ' H5 ⟨k, W, ln, y5, y6, y7, y8, rfl, s5, hD5, hN5, hgo, sk, hk, hkm, ne1, rfl⟩
      obtain ⟨ns, n1, n2, n3⟩ := id hN5
      have hnl : ns.length = W.length - k := by
        have := congrArg List.length n3
        rw [List.length_map, List.length_drop, List.length_map] at this
        exact this
      refine ⟨_, rfl, _, .inl ⟨_, SqL.of n1, rfl⟩, ?_⟩
      by_cases hns : ns = []
      · rw [hns]
        have : W.length ≤ k := by
          rw [hns] at hnl
          simp only [List.length_nil] at hnl
          omega
        exact iteF ⟨k, W, ln, y5, y6, y7, y8, rfl, s5, hD5, hgo, this⟩
      rw [show (!(prs ns).isEmpty) = true by cases ns with | nil => exact absurd rfl hns | cons _ _ => rfl]
      have hnl1 : 1 ≤ ns.length := List.length_pos_iff.mpr hns
      refine iteT ⟨fun σ' H' => ∃ (k' : Nat) (W : List PW') (ln : Addr) (y5 y6 y7 y8 : Option V), σ' = [some (.ref a), some (.int n), some (.int (m : Nat)), some (.ref ln), some (.ref D), y5, y6, y7, y8] ∧ Same H H' ∧ WdAt P w K H' D W ∧ PLs H' ln ((W.map (·.1)).drop k') ∧ srM M n m k' = .go W ∧ SOk (GdP M.n) W ∧ k' ≤ W.length ∧ W.length ≤ m ∧ ln ≠ D ∧ k < k', fun σ' H' ⟨k', W, ln, y5, y6, y7, y8, e, x1, x2, x3, x4, x5, x6, x7, x8, x9⟩ => ⟨m + 1 - k', by omega, k', W, ln, y5, y6, y7, y8, e, x1, x2, x3, x4, x5, x6, x7, x8, rfl⟩, ?_⟩
      -- one more round
      refine ⟨fun σ' H' => ∃ lr : Addr, σ' = [some (.ref a), some (.int n), some (.int (m : Nat)), some (.ref ln), some (.ref D), some (.ref lr), y6, y7, y8] ∧ Same H H' ∧ WdAt P w K H' D W ∧ H' ln = some (.lst (prs ns)) ∧ PrsAt H' ns ∧ PLs H' lr [] ∧ D ≠ lr ∧ ln ≠ lr ∧ H lr = none, ?_, ?_⟩
      · refine ⟨(by decide : 0 ≤ sizeLine), fun lr nlr => ?_⟩
        have sl := same_upd (o := .lst []) nlr
        obtain ⟨xs, x1, _⟩ := id hD5
        exact ⟨lr, rfl, s5.trans sl, hD5.same sl, sl _ _ n1, n2.same sl, ⟨[], upd_same, (fun _ h => nomatch h), rfl⟩, fun z => (by have := x1.at_; rw [z, nlr] at this; cases this), fun z => (by rw [z, nlr] at n1; cases n1), s5.free nlr⟩
      clear s5 hD5 hN5 n1 n2 H5 y5
      rintro σ' H5 ⟨lr, rfl, s5, hD5, n1, n2, hR5, ne2, ne3, nlr⟩
      refine ⟨fun σ' H' => ∃ (y6 y7 y8 : Option V) (W' : List PW'), σ' = [some (.ref a), some (.int n), some (.int (m : Nat)), some (.ref ln), some (.ref D), some (.ref lr), y6, y7, y8] ∧ Same H H' ∧ WdAt P w K H' D W' ∧ srM M n m (k + ns.length) = .go W' ∧ SOk (GdP M.n) W' ∧ W <+: W' ∧ W'.length ≤ m ∧ PLs H' lr ((W'.map (·.1)).drop W.length), ?_, ?_⟩
      · refine ⟨_, rfl, ln, rfl, ⟨_, SqL.of n1⟩, for_list (K := K) (a := ln) (xs := prs ns) (fun j σ H' => ∃ (y6 y7 y8 : Option V) (W' : List PW'), σ = [some (.ref a), some (.int n), some (.int (m : Nat)), some (.ref ln), some (.ref D), some (.ref lr), y6, y7, y8] ∧ Same H H' ∧ H' ln = some (.lst (prs ns)) ∧ PrsAt H' ns ∧ WdAt P w K H' D W' ∧ srM M n m (k + j) = .go W' ∧ SOk (GdP M.n) W' ∧ W <+: W' ∧ W'.length ≤ m ∧ PLs H' lr ((W'.map (·.1)).drop W.length))
          ⟨_, _, _, W, rfl, s5, n1, n2, hD5, hgo, sk, List.prefix_refl _, hkm, by rw [show W.length = (W.map (·.1)).length from (List.length_map ..).symm, List.drop_length]; exact hR5⟩ ?_ ?_ ?_⟩
        · rintro j σ H' _ ⟨_, _, _, _, rfl, _, h, _⟩
          exact SqL.of h
        · clear s5 hD5 n1 n2 hR5 H5 y6 y7 y8
          rintro j x σ H6 hx ⟨y6, y7, y8, W', rfl, s6, m1, m2, hD6, hgo6, sk6, pre, hm6, hR6⟩
          obtain ⟨pb, hpb, rfl⟩ := prs_at hx
          have hj := (List.getElem?_eq_some_iff.mp hpb).1
          obtain ⟨q, hq, eq⟩ : ∃ q : PW', W'[k + j]? = some q ∧ q.1 = pb.2 := by
            have h1 : (ns.map (·.2))[j]? = some pb.2 := by rw [List.getElem?_map, hpb]; rfl
            rw [n3, List.getElem?_drop, List.getElem?_map] at h1
            cases e : W[k + j]? with
            | none => rw [e] at h1; cases h1
            | some q =>
              rw [e] at h1
              obtain ⟨t, ht⟩ := pre
              refine ⟨q, ?_, Option.some.inj h1⟩
              rw [← ht, List.getElem?_append_left (List.getElem?_eq_some_iff.mp e).1]
              exact e
          have hqm : q ∈ W' := List.mem_of_getElem? hq
          have gp : GdP M.n pb.2 := eq ▸ sk6.gd q hqm
          have hnext : srM M n m (k + j + 1) = rowP (nxP M n) (flP M) m pb.2 q.2 M.ls W' := by
            rw [hsr] at hgo6 ⊢
            rw [← eq]
            exact srP_next hgo6 hq
          have mA6 := mA.same s6
          obtain ⟨dx, ta, tf, tg, D0, pm0, hmm, _⟩ := id mA6
          have hlw : W.length ≤ W'.length := pre.length_le
          refine ⟨_, rfl, a, dx, _, rfl, hmm, mfl_none (by decide +kernel), a, M, rfl, mA6, Sx M.ls, rfl, for_it walk_str (fun i σ H' => ∃ (y7 y8 : Option V) (W2 : List PW'), σ = [some (.ref a), some (.int n), some (.int (m : Nat)), some (.ref ln), some (.ref D), some (.ref lr), some (.ref pb.1), y7, y8] ∧ Same H H' ∧ H' ln = some (.lst (prs ns)) ∧ PrsAt H' ns ∧ WdAt P w K H' D W2 ∧ rowP (nxP M n) (flP M) m pb.2 q.2 (M.ls.take i) W' = .go W2 ∧ SOk (GdP M.n) W2 ∧ W' <+: W2 ∧ W2.length ≤ m ∧ PLs H' lr ((W2.map (·.1)).drop W.length))
            ⟨_, _, W', rfl, s6, m1, m2, hD6, rfl, sk6, List.prefix_refl _, hm6, hR6⟩ (fun _ _ _ _ _ => True.intro) ?_ ?_⟩
          · clear hD6 hR6 mA6 hmm m1 m2 s6 y7 y8
            rintro i x σ H7 H8 hi ⟨y7, y8, W2, rfl, s7, m1, m2, hD7, hrow, sk7, pre2, hm7, hR7⟩ ⟨rfl, c, hc, rfl⟩
            have hc : M.ls[i]? = some c := by
              have : M.ls.toArray[i]? = some c := hc
              simpa using this
            have hcm : c ∈ M.ls := List.mem_of_getElem? hc
            have hb7 : PrAt H8 pb.1 pb.2 := m2 pb (List.mem_of_getElem? hpb)
            refine ⟨_, rfl, _, rfl, _, rfl, _, rfl, a, pb.1, M, c, n, pb.2, rfl, mA.same s7, hb7, pm, gp, hcm, hn, fun t H9 s9 ht => ?_⟩
            have s7 := s7.trans s9
            have m1 := s9 _ _ m1
            have m2 := m2.same s9
            have hD7 := hD7.same s9
            have hR7 := hR7.same s9
            have hb7 := hb7.same s9
            clear s9
            have hstep : rowP (nxP M n) (flP M) m pb.2 q.2 (M.ls.take (i + 1)) W' = stepP (nxP M n) (flP M) m pb.2 q.2 W2 c := by
              rw [take_next hc]
              exact rowP_snoc hrow
            have hz : wfind W2 pb.2 = some q.2 := by
              rw [← eq]
              exact wfind_at sk7.nd (pre2.subset hqm)
            have hzl : q.2.length ≤ W2.length := sk7.zl q (pre2.subset hqm)
            have hlw2 : W.length ≤ W2.length := Nat.le_trans hlw pre2.length_le
            have gq := GX gp c
            obtain ⟨xs, x1, x2⟩ := id hD7
            -- there already
            refine ⟨_, rfl, _, rfl, D, t, xs, pk (nxP M n c pb.2), rfl, rfl, x1, ht.key, pk_depth _, _, rfl, ?_⟩
            rw [if_neg Bool.false_ne_true, wd_val x2, Option.isSome_map, wfind_some]
            by_cases hin : nxP M n c pb.2 ∈ W2.map (·.1)
            · rw [decide_eq_true hin]
              have e : stepP (nxP M n) (flP M) m pb.2 q.2 W2 c = .go W2 := if_pos hin
              exact iteT ⟨_, _, W2, rfl, s7, m1, m2, hD7, hstep.trans e, sk7, pre2, hm7, hR7⟩
            rw [decide_eq_false hin]
            refine iteF ?_
            -- it fails
            refine ⟨_, rfl, _, rfl, a, t, M, nxP M n c pb.2, rfl, mA.same s7, ht, (by have := gq.len; omega), gq.bd.2, fun H10 s10 => ⟨_, rfl, ?_⟩⟩
            have s7 := s7.trans s10
            have m1 := s10 _ _ m1
            have m2 := m2.same s10
            have hD7 := hD7.same s10
            have hR7 := hR7.same s10
            have hb7 := hb7.same s10
            have ht := ht.same s10
            clear s10 x1 x2 xs
            obtain ⟨xs, x1, x2⟩ := id hD7
            have hxl := wd_len x2
            have hsum : Sx q.2 ++ (⟨#[c]⟩ : Str) = Sx (q.2 ++ [c]) := sx_app q.2 [c]
            have hadd : (Sx q.2).length + (⟨#[c]⟩ : Str).length ≤ sizeLine := by
              have h1 : (Sx q.2).length = q.2.length := sx_len q.2
              have h2 : (⟨#[c]⟩ : Str).length = 1 := rfl
              have := hm.2
              omega
            by_cases hfl : flP M (nxP M n c pb.2) = true
            · rw [hfl]
              have e : stepP (nxP M n) (flP M) m pb.2 q.2 W2 c = .hit (q.2 ++ [c]) W2 := by
                unfold stepP
                rw [if_neg hin, if_pos hfl]
              have hh : srM M n m (k + j + 1) = .hit (q.2 ++ [c]) W2 := by
                rw [hnext, show M.ls = M.ls.take (i + 1) ++ M.ls.drop (i + 1) from (List.take_append_drop ..).symm]
                exact rowP_stop (r := .hit (q.2 ++ [c]) W2) (fun _ z => nomatch z) (hstep.trans e)
              refine iteT ⟨_, rfl, _, rfl, _, rfl, D, pb.1, xs, pk pb.2, .str (Sx q.2), rfl, rfl, x1, hb7.key, pk_depth _, by rw [wd_val x2, hz]; rfl, _, rfl, Sx q.2, ⟨#[c]⟩, rfl, rfl, hadd, (by decide : 2 ≤ sizeLine), fun o no => ?_⟩
              have so := same_upd (o := .tup [.ref D, .str (Sx q.2 ++ (⟨#[c]⟩ : Str))]) no
              exact qH (k + j + 1) _ W2 D o _ hh (s7.trans so) (hD7.same so) (by rw [upd_same, hsum])
            rw [show flP M (nxP M n c pb.2) = false from Bool.not_eq_true _ ▸ hfl]
            refine iteF ?_
            -- too many
            refine ⟨_, rfl, D, xs, rfl, x1, _, rfl, rfl, _, rfl, ?_⟩
            by_cases hw : W2.length = m
            · have e : stepP (nxP M n) (flP M) m pb.2 q.2 W2 c = .wide W2 := by
                unfold stepP
                rw [if_neg hin, if_neg hfl, if_pos hw]
              have hh : srM M n m (k + j + 1) = .wide W2 := by
                rw [hnext, show M.ls = M.ls.take (i + 1) ++ M.ls.drop (i + 1) from (List.take_append_drop ..).symm]
                exact rowP_stop (r := .wide W2) (fun _ z => nomatch z) (hstep.trans e)
              exact itT (by rw [hxl, hw]) ⟨_, rfl, fun d hd => qW (k + j + 1) W2 _ hh s7 d hd⟩
            have e : stepP (nxP M n) (flP M) m pb.2 q.2 W2 c = .go (W2 ++ [(nxP M n c pb.2, q.2 ++ [c])]) := by
              unfold stepP
              rw [if_neg hin, if_neg hfl, if_neg hw]
            refine itF (fun z => hw (by have := V.int.inj z; omega)) ?_
            -- put in
            refine ⟨_, rfl, _, rfl, D, pb.1, xs, pk pb.2, .str (Sx q.2), rfl, rfl, x1, hb7.key, pk_depth _, by rw [wd_val x2, hz]; rfl, _, rfl, Sx q.2, ⟨#[c]⟩, rfl, rfl, hadd, ?_⟩
            rw [hsum]
            refine ⟨_, rfl, _, rfl, D, t, xs, pk (nxP M n c pb.2), rfl, rfl, x1, ht.key, pk_depth _, by omega, ?_⟩
            have hput := x1.put (v := V.str (Sx (q.2 ++ [c]))) (ht.key (K := K)) (pk_depth _)
            have s11 := same_putD (D := D) (ob := NDO P w D (putN xs (pk (nxP M n c pb.2)) t (.str (Sx (q.2 ++ [c]))))) s7 nD
            have nt : ∀ zs : List V, NDO P w D xs ≠ .tup zs := fun _ z => nomatch z
            have hD11 : WdAt P w K (upd H10 D (NDO P w D (putN xs (pk (nxP M n c pb.2)) t (.str (Sx (q.2 ++ [c])))))) D (W2 ++ [(nxP M n c pb.2, q.2 ++ [c])]) := ⟨_, hput, wd_put x2 hin t _⟩
            have m1 : (upd H10 D (NDO P w D (putN xs (pk (nxP M n c pb.2)) t (.str (Sx (q.2 ++ [c])))))) ln = some (.lst (prs ns)) := by rw [upd_ne ne1]; exact m1
            have m2 := m2.upd (ob := NDO P w D (putN xs (pk (nxP M n c pb.2)) t (.str (Sx (q.2 ++ [c]))))) x1.at_ nt
            have hR11 := hR7.upd (ob := NDO P w D (putN xs (pk (nxP M n c pb.2)) t (.str (Sx (q.2 ++ [c]))))) x1.at_ nt (fun z => ne2 z.symm)
            have ht11 := ht.upd (ob := NDO P w D (putN xs (pk (nxP M n c pb.2)) t (.str (Sx (q.2 ++ [c]))))) x1.at_ nt
            obtain ⟨rs', r1, r2, r3⟩ := id hR11
            have hrl : rs'.length ≤ 1000 := by
              have := congrArg List.length r3
              rw [List.length_map, List.length_drop, List.length_map] at this
              have := hm.2
              omega
            refine ⟨_, rfl, .inl ⟨rfl, _, SqL.of r1⟩, _, rfl, lr, _, _, rfl, rfl, r1, by rw [prs_len]; omega, ?_⟩
            refine ⟨_, _, W2 ++ [(nxP M n c pb.2, q.2 ++ [c])], rfl, same_putD s11 nlr, by rw [upd_ne ne3]; exact m1, m2.upd r1 (fun _ z => nomatch z), hD11.upd r1 ne2, hstep.trans e, sk7.put hin gq hzl c, pre2.trans (List.prefix_append _ _), by rw [List.length_append]; show W2.length + 1 ≤ m; omega, ?_⟩
            rw [List.map_append, List.drop_append_of_le_length (by rw [List.length_map]; exact hlw2)]
            exact PLs.put r1 r2 r3 ht11
          · rintro σ H7 ⟨y7, y8, W2, rfl, s7, m1, m2, hD7, hrow, sk7, pre2, hm7, hR7⟩
            rw [show (Sx M.ls).cps.size = M.ls.length from sx_len M.ls, List.take_length] at hrow
            exact ⟨_, _, _, W2, rfl, s7, m1, m2, hD7, hnext.trans hrow, sk7, pre.trans pre2, hm7, hR7⟩
        · rintro σ H' ⟨y6, y7, y8, W', rfl, s6, _, _, h1, h2, h3, h4, h5, h6⟩
          rw [prs_len] at h2
          exact ⟨y6, y7, y8, W', rfl, s6, h1, h2, h3, h4, h5, h6⟩
      rintro σ' H6 ⟨y6, y7, y8, W', rfl, s6, hD6, hgo6, sk6, pre, hm6, hR6⟩
      have hkn : k + ns.length = W.length := by omega
      rw [hkn] at hgo6
      exact ⟨_, rfl, W.length, W', lr, _, _, _, _, rfl, s6, hD6, hR6, hgo6, sk6, pre.length_le, hm6, (fun z => ne2 z.symm), by omega⟩
    clear s2 hD2 hN2 ne0 H2 ln
    rintro σ H4 ⟨k, W, ln, y5, y6, y7, y8, rfl, s4, hD4, hgo, hkl⟩
    refine ⟨_, rfl, (by decide : 2 ≤ sizeLine), fun r nr => ?_⟩
    have sr := same_upd (o := .tup [.ref D, .non]) nr
    exact qN k W D r _ hgo hkl (s4.trans sr) (hD4.same sr) upd_same
end
end Onp
set_option maxHeartbeats 8000000
set_option autoImplicit false
namespace Onp
open PySem PySem.Spec PyProof.Rows L2 HotX L2H LamX
abbrev sNeedM : Stmt := topS 36
abbrev sFirstD : Stmt := topS 42
abbrev sIsEn : Stmt := topS 43
section
variable {P : Program} {w : World} {K : PySem.W.Frag} {mg : Str → Option Value} {base : Heap}
/-! ### need_most -/
def spNeedM (C : Addr) : Sp := fun vs H Q E => ∃ n : Int, vs = [.int n] ∧ (1 ≤ n ∧ n ≤ 1000 → Q .non H) ∧ (¬ (1 ≤ n ∧ n ≤ 1000) → badW C "badsize" H E)
theorem scNeedM : FnScope ["most"] ["most"] (defScope sNeedM) := ⟨rfl, rfl, rfl, by decide +kernel, rfl, by decide +kernel, by decide +kernel⟩
theorem ok_needM {f C fI : Addr} {fd fdI : FuncData} {k : Nat} (F : Fun K "need_most" "need_most" sNeedM f fd) (S : MkBadSize K mg C fI fdI) {tk : Tok} (gP : mg "MOST_PAIRS" = some (.int 1000 tk)) : FnOk P w K mg base (L2N.CX P w) (k + 3) f fd ["most"] (spNeedM C) := by
  refine okN F scNeedM (fun vs H Q E h => ?_) (fun cdv A outer s H vs Q E hr h => ?_)
  · obtain ⟨n, rfl, _⟩ := h
    rfl
  · obtain ⟨n, rfl, q1, q2⟩ := h
    refine ⟨_, pss_one (ps_if (pt_not (pt_chain op_le op_le pe_int (pv 0) (pe_glob (v := .int 1000) rfl gP ⟨_, rfl⟩))) (pss_one (L2N.ps_raise rfl (L2N.takes_of rfl rfl rfl rfl) (pmk_word (k := k + 1) S.T S.iC S.tI (ok_initBadSize S) hr S.b (by rfl) S.g))) pss_nil), ?_⟩
    refine ⟨_, rfl, _, _, rfl, rfl, _, rfl, ?_⟩
    by_cases h1 : 1 ≤ n
    rotate_left
    · exact itF h1 ⟨_, rfl, iteT (fun d hd => q2 (fun z => h1 z.1) d hd)⟩
    refine itT h1 ⟨_, _, rfl, rfl, _, rfl, ?_⟩
    by_cases h2 : n ≤ 1000
    rotate_left
    · rw [decide_eq_false h2]
      exact iteT (fun d hd => q2 (fun z => h2 z.2) d hd)
    rw [decide_eq_true h2]
    exact iteF (q1 ⟨h1, h2⟩)
/-! ### first_dear, is_enough -/
def psFd : List Str := ["machine", "size", "most"]
theorem scFirstD : FnScope psFd psFd (defScope sFirstD) := ⟨rfl, rfl, rfl, by decide +kernel, rfl, by decide +kernel, by decide +kernel⟩
theorem scIsEn : FnScope psFd psFd (defScope sIsEn) := ⟨rfl, rfl, rfl, by decide +kernel, rfl, by decide +kernel, by decide +kernel⟩
/-- what a search tells: a word, that it is too wide, or nothing -/
structure Tells (M : AM) (n : Int) (m : Nat) (H : Hp) (qH : List Nat → Hp → Prop) (qW : Hp → Prop) (qN : Hp → Prop) : Prop where
  hit : ∀ k z W H', srM M n m k = .hit z W → Same H H' → qH z H'
  wide : ∀ k W H', srM M n m k = .wide W → Same H H' → qW H'
  none : ∀ k W H', srM M n m k = .go W → W.length ≤ k → Same H H' → qN H'
def spFirstD (K : PySem.W.Frag) (C CS CT : Addr) (f1 : List Nat → V) (f0 : V) : Sp := fun vs H Q E => ∃ (a : Addr) (M : AM) (n m : Int), vs = [.ref a, .int n, .int m] ∧ MachAt K C H a M ∧ PM M ∧ M.ls.length ≤ 3 ∧ n ≤ 99 ∧
  (n < 0 → ∀ H', Same H H' → badW CS "badsize" H' E) ∧ (0 ≤ n → ¬ (1 ≤ m ∧ m ≤ 1000) → ∀ H', Same H H' → badW CS "badsize" H' E) ∧
  (0 ≤ n → ∀ m' : Nat, m = (m' : Nat) → 1 ≤ m' ∧ m' ≤ 1000 → Tells M n m' H (fun z H' => Q (f1 z) H') (fun H' => refuse CT (mostL "toowide" (.int m)) H' E) (fun H' => Q f0 H'))
theorem kb_firstD {f : Addr} {fd : FuncData} {z : V} (F : FunD K "first_dear" "first_dear" (defArgs sFirstD) (defBody sFirstD) (defScope sFirstD) [] [("most", z)] f fd) :
    ∃ g : List Value → List Value → List Value, KBn K fd psFd 2 ["most"] g (fun vs zs => vs ++ zs) := by
  obtain ⟨mv, h⟩ := F.kbinds0 (ps := psFd) 2 ["most"] [] (fun us _ ws => us ++ ws) (fun z => nomatch z) (fun q hq => nomatch hq) (fun r1 _ r3 => r1.append r3) (fun D doc pm an cdv ct us mv ws l1 l2 l3 => by
    match us, l1, mv, l2, ws, l3 with
    | [a, b], _, [], _, [w], _ => rfl)
  exact ⟨_, h⟩
theorem kb_firstD0 {f : Addr} {fd : FuncData} {z : V} (F : FunD K "first_dear" "first_dear" (defArgs sFirstD) (defBody sFirstD) (defScope sFirstD) [] [("most", z)] f fd) :
    ∃ ds, Vals [z] ds ∧ Binds K fd psFd ds :=
  F.binds0 (ps := psFd) 2 (fun z => nomatch z) rfl (fun D doc pm an cdv ct us ks l1 l2 => by
    match us, l1, ks, l2 with
    | [a, b], _, [w], _ => exact ⟨_, _, _, _, _, _, rfl, rfl, rfl⟩)
theorem kb_isEn0 {f : Addr} {fd : FuncData} {z : V} (F : FunD K "is_enough" "is_enough" (defArgs sIsEn) (defBody sIsEn) (defScope sIsEn) [] [("most", z)] f fd) :
    ∃ ds, Vals [z] ds ∧ Binds K fd psFd ds :=
  F.binds0 (ps := psFd) 2 (fun z => nomatch z) rfl (fun D doc pm an cdv ct us ks l1 l2 => by
    match us, l1, ks, l2 with
    | [a, b], _, [w], _ => exact ⟨_, _, _, _, _, _, rfl, rfl, rfl⟩)
theorem kb_isEn {f : Addr} {fd : FuncData} {z : V} (F : FunD K "is_enough" "is_enough" (defArgs sIsEn) (defBody sIsEn) (defScope sIsEn) [] [("most", z)] f fd) :
    ∃ g : List Value → List Value → List Value, KBn K fd psFd 2 ["most"] g (fun vs zs => vs ++ zs) := by
  obtain ⟨mv, h⟩ := F.kbinds0 (ps := psFd) 2 ["most"] [] (fun us _ ws => us ++ ws) (fun z => nomatch z) (fun q hq => nomatch hq) (fun r1 _ r3 => r1.append r3) (fun D doc pm an cdv ct us mv ws l1 l2 l3 => by
    match us, l1, mv, l2, ws, l3 with
    | [a, b], _, [], _, [w], _ => rfl)
  exact ⟨_, h⟩
theorem ok_firstD {f C CS CT fSz fNm fSr iS : Addr} {fd fdSz fdNm fdSr fdiS : FuncData} {k : Nat} {z : V} (F : FunD K "first_dear" "first_dear" (defArgs sFirstD) (defBody sFirstD) (defScope sFirstD) [] [("most", z)] f fd) (SS : MkBadSize K mg CS iS fdiS)
    (Sz : FnM K mg fSz fdSz "need_size" sNeedSz ["size"]) (Nm : FnM K mg fNm fdNm "need_most" sNeedM ["most"]) (Sr : FnM K mg fSr fdSr "searched_pairs" sSrch psSr) (GSr : FnOk P w K mg base (L2N.CX P w) (k + 3) fSr fdSr psSr (spSrch P w K C CT)) {tk : Tok} (gP : mg "MOST_PAIRS" = some (.int 1000 tk)) :
    FnOk P w K mg base (L2N.CX P w) (k + 4) f fd psFd (spFirstD K C CS CT (fun z => .str (Sx z)) .non) := by
  have GZ : FnOk P w K mg base (L2N.CX P w) (k + 3) fSz fdSz ["size"] (spNeedSz CS) := ok_needSz Sz.F SS
  have GM : FnOk P w K mg base (L2N.CX P w) (k + 3) fNm fdNm ["most"] (spNeedM CS) := ok_needM Nm.F SS gP
  refine F.ok scFirstD (fun vs H Q E h => ?_) (fun cdv A outer s H vs Q E hr h => ?_)
  · obtain ⟨a, M, n, m, rfl, _⟩ := h
    rfl
  · obtain ⟨a, M, n, m, rfl, mA, pm, hl3, hn, e1, e2, q⟩ := h
    refine ⟨_, pss_cons (ps_expr (pe_call (E := E) GZ hr (by rfl) Sz.g Sz.F.kp Sz.b .nil (L2N.passes_call (L2N.takes_of (E := E) rfl rfl rfl rfl) fun _ _ _ _ z => z) (pa_cons (pv 1) pa_nil)))
      (pss_cons (ps_expr (pe_call (E := E) GM hr (by rfl) Nm.g Nm.F.kp Nm.b .nil (L2N.passes_call (L2N.takes_of (E := E) rfl rfl rfl rfl) fun _ _ _ _ z => z) (pa_cons (pv 2) pa_nil)))
      (pss_one (ps_ret (pe_ix ix_tup (pe_call (E := E) GSr hr (by rfl) Sr.g Sr.F.kp Sr.b .nil (L2N.passes_call (L2N.takes_of (E := E) rfl rfl rfl rfl) fun _ _ _ _ z => z) (pa_cons (pv 0) (pa_cons (pv 1) (pa_cons (pv 2) pa_nil)))) pe_int (fun _ _ => rfl))))), ?_⟩
    refine ⟨_, rfl, n, rfl, fun h0 => ?_, fun h0 => e1 h0 H (Same.refl _)⟩
    refine ⟨_, rfl, m, rfl, fun hm => ?_, fun hm => e2 h0 hm H (Same.refl _)⟩
    obtain ⟨m', rfl⟩ : ∃ m' : Nat, m = (m' : Nat) := ⟨m.toNat, by omega⟩
    have t := q h0 m' rfl ⟨by omega, by omega⟩
    refine ⟨_, rfl, _, rfl, _, rfl, ?_⟩
    dsimp only [tNil]
    refine ⟨a, M, n, m', rfl, mA, pm, hl3, ⟨h0, hn⟩, ⟨by omega, by omega⟩, fun j z W D r H' e s' hD hr' => ?_, fun j W H' e s' => t.wide j W H' e s', fun j W D r H' e hk s' hD hr' => ?_⟩
    · exact ⟨r, _, 1, _, rfl, rfl, SqT.of hr', rfl, t.hit j z W H' e s'⟩
    · exact ⟨r, _, 1, _, rfl, rfl, SqT.of hr', rfl, t.none j W H' e hk s'⟩
theorem ok_isEn {f C CS CT fFd : Addr} {fd fdFd : FuncData} {k : Nat} {z z' : V} (F : FunD K "is_enough" "is_enough" (defArgs sIsEn) (defBody sIsEn) (defScope sIsEn) [] [("most", z)] f fd) (Fd : FunD K "first_dear" "first_dear" (defArgs sFirstD) (defBody sFirstD) (defScope sFirstD) [] [("most", z')] fFd fdFd) (gFd : mg "first_dear" = some (.ref fFd)) (GFd : FnOk P w K mg base (L2N.CX P w) k fFd fdFd psFd (spFirstD K C CS CT (fun z => .str (Sx z)) .non)) :
    FnOk P w K mg base (L2N.CX P w) (k + 1) f fd psFd (spFirstD K C CS CT (fun _ => .bl false) (.bl true)) := by
  obtain ⟨gg, KB⟩ := kb_firstD Fd
  refine F.ok scIsEn (fun vs H Q E h => ?_) (fun cdv A outer s H vs Q E hr h => ?_)
  · obtain ⟨a, M, n, m, rfl, _⟩ := h
    rfl
  · obtain ⟨a, M, n, m, rfl, mA, pm, hl3, hn, e1, e2, q⟩ := h
    refine ⟨_, pss_one (ps_ret (pe_cmpR op_isN1 (pe_callN (E := E) GFd hr (by rfl) gFd Fd.kp KB (L2N.passes_call (L2N.takes_of (E := E) rfl rfl rfl rfl) fun _ _ _ _ z => z) (pa_cons (pv 0) (pa_cons (pv 1) pa_nil)) (pk_cons (pv 2) pk_nil)) pe_non (nomark _))), ?_⟩
    refine ⟨_, rfl, _, rfl, _, rfl, rfl, rfl, ?_⟩
    refine ⟨a, M, n, m, rfl, mA, pm, hl3, hn, e1, e2, fun h0 m' em hm => ?_⟩
    have eF : ∀ z : Str, decide (V.str z = V.non) = false := fun z => decide_eq_false (fun h => by cases h)
    have t := q h0 m' em hm
    exact ⟨fun j z W H' e s' => ⟨rfl, by
      show Q (.bl (decide (V.str (Sx z) = V.non))) H'
      rw [eF]
      exact t.hit j z W H' e s'⟩, t.wide, fun j W H' e hk s' => ⟨rfl, by
      show Q (.bl (decide (V.non = V.non))) H'
      rw [decide_eq_true rfl]
      exact t.none j W H' e hk s'⟩⟩
end
end Onp
set_option maxHeartbeats 8000000
set_option autoImplicit false
namespace Onp
open PySem PySem.Spec PyProof.Rows L2 HotX L2H LamX
abbrev sLRon : Stmt := topS 52
def goesB (z : Str) (rs : List Int) (a : Arw) : Bool := decide (a.1 ∈ rs) && decide (a.2.1 = z)
theorem goes_iff {as : List Arw} {z : Str} {rs : List Int} {k : Int} : k ∈ (as.filter (goesB z rs)).map (·.2.2.2) ↔ onB as z rs k = true := by
  rw [onB_iff]
  constructor
  · intro h
    obtain ⟨x, hx, rfl⟩ := List.mem_map.mp h
    obtain ⟨h1, h2⟩ := List.mem_filter.mp hx
    unfold goesB at h2
    simp only [Bool.and_eq_true, decide_eq_true_eq] at h2
    exact ⟨x, h1, h2.1, h2.2, rfl⟩
  · rintro ⟨x, hx, h1, h2, rfl⟩
    refine List.mem_map.mpr ⟨x, List.mem_filter.mpr ⟨hx, ?_⟩, rfl⟩
    unfold goesB
    rw [decide_eq_true h1, decide_eq_true h2]
    rfl
structure WD (M : AM) : Prop where
  n8 : M.n ≤ 8
  room : ∀ x ∈ M.as, rooB M.n x.2.2.2 = true
  len : M.as.length ≤ 40
  fl : M.fs.length ≤ 100
section
variable {P : Program} {w : World} {K : PySem.W.Frag} {mg : Str → Option Value} {base : Heap}
/-! ### _law_rooms_on -/
def spLRon (K : PySem.W.Frag) : Sp := fun vs H Q _ => ∃ (t l : Addr) (M : AM) (rs : List Int) (z : Str), vs = [.ref t, .ref l, .str z] ∧ DrawnAt K H t M ∧ WD M ∧ (H l = some (.lst (rs.map V.int)) ∨ H l = some (.tup (rs.map V.int))) ∧ ∀ p H', Same H H' → H' p = some (.lst ((onL M.as z rs).map V.int)) → Q (.ref p) H'
def NRo : List Str := ["_law_m", "_law_rooms", "_law_letter", "_law_start", "_law_sign", "_law_deed", "_law_to"]
def psRo : List Str := ["_law_m", "_law_rooms", "_law_letter"]
theorem scLRon : FnScope NRo psRo (defScope sLRon) := ⟨rfl, rfl, rfl, by decide +kernel, rfl, by decide +kernel, by decide +kernel⟩
theorem ok_lron {f : Addr} {fd : FuncData} {k : Nat} (F : Fun K "_law_rooms_on" "_law_rooms_on" sLRon f fd) (ms : mg "sorted" = none) (mse : mg "set" = none) : FnOk P w K mg base CX0 (k + 1) f fd psRo (spLRon K) := by
  refine F.ok scLRon (fun vs H Q E h => ?_) (fun cdv A outer s H vs Q E hr h => ?_)
  · obtain ⟨t, l, M, rs, z, rfl, _⟩ := h
    rfl
  · obtain ⟨t, l, M, rs, z, rfl, dA, wd, hl, q⟩ := h
    obtain ⟨la, lf, lg, ps, h1, h2, h3, h4, h5, h6⟩ := dA
    refine ⟨_, pss_one (ps_ret (pe_callB (cr_sortedSet rfl) (by rfl) ms (by decide +kernel) (pa_cons (pe_callTy (cr_setOfI rfl) (by rfl) mse (by decide +kernel) (pa_cons
      (pe_lc (own := [("_law_start", 3), ("_law_sign", 4), ("_law_deed", 5), ("_law_to", 6)]) (g := gTup K 4 (gCons (gName 3) (gCons (gName 4) (gCons (gName 5) (gCons (gName 6) gNil))))) (tt := tAnd (tTest (tOp (rIn K false) (tVar 3) (tVar 1))) (tTest (tOp rEq (tVar 4) (tVar 2)))) (te := tVar 6) rfl scLRon.nd
        (pi_list (pe_ix ix_tup (pv 0) pe_int (fun _ _ => rfl))) (blkOk_by (own := [("_law_start", 3), ("_law_sign", 4), ("_law_deed", 5), ("_law_to", 6)]) (N := NRo) (sc := defScope sLRon) (by decide +kernel))
        (fun _ _ _ _ _ => pg_tup rfl (pgs_cons (pg_name (i := 3) scLRon.nd rfl (.inl rfl)) (pgs_cons (pg_name (i := 4) scLRon.nd rfl (.inl rfl)) (pgs_cons (pg_name (i := 5) scLRon.nd rfl (.inl rfl)) (pgs_cons (pg_name (i := 6) scLRon.nd rfl (.inl rfl)) pgs_nil)))))
        (fun _ _ _ _ _ => pts_one (PW.pt (pw_and (pt_cmpR op_in_seq (pv 3) (pv 1) (by rfl)) (pw_and1 (pt_cmpR op_eq (pv 4) (pv 2) (nomark _)))))) (fun _ _ _ _ _ => pv 6)) pa_nil)) pa_nil))), ?_⟩
    have hpl : ps.length ≤ 40 := by
      have := congrArg List.length h4
      rw [List.length_map] at this
      have := wd.len
      omega
    refine ⟨_, rfl, t, _, 2, _, rfl, rfl, SqT.of h1, rfl, la, rfl, ⟨_, SqL.of h2⟩, fun D nD => ?_⟩
    refine lc_list (K := K) (a := la) (xs := rfs ps) (fun i H' => Same H H' ∧ ∃ os : List Int, H' D = some (.lst (os.map V.int)) ∧ os.length ≤ i ∧ os = (((ps.map (·.2)).take i).filter (goesB z rs)).map (·.2.2.2)) ⟨same_upd nD, [], upd_same, Nat.le_refl _, rfl⟩ (fun i H' _ ⟨sm, _⟩ => SqL.of (sm _ _ h2)) (fun i x H' hx ⟨sm, os, hD, hol, he⟩ => ?_) (fun H2 ⟨s2, os, hD, hol, he⟩ => ?_)
    · obtain ⟨p, hp, rfl⟩ : ∃ p : AR, ps[i]? = some p ∧ x = .ref p.1 := by
        unfold rfs at hx
        rw [List.getElem?_map] at hx
        cases e : ps[i]? with
        | none => rw [e] at hx; cases hx
        | some p => rw [e] at hx; exact ⟨p, rfl, (Option.some.inj hx).symm⟩
      have hil : i < ps.length := (List.getElem?_eq_some_iff.mp hp).1
      have hpT := sameT sm (h3 p (List.mem_of_getElem? hp))
      obtain ⟨pa, a1, a2, a3, a4⟩ := p
      have hn : ((ps.map (·.2)).take (i + 1)).filter (goesB z rs) = ((ps.map (·.2)).take i).filter (goesB z rs) ++ [(a1, a2, a3, a4)].filter (goesB z rs) := by
        rw [take_next (xs := ps.map (·.2)) (x := (a1, a2, a3, a4)) (by rw [List.getElem?_map, hp]; rfl), List.filter_append]
      have no : goesB z rs (a1, a2, a3, a4) = false → Same H H' ∧ ∃ os : List Int, H' D = some (.lst (os.map V.int)) ∧ os.length ≤ i + 1 ∧ os = (((ps.map (·.2)).take (i + 1)).filter (goesB z rs)).map (·.2.2.2) := fun e => by
        refine ⟨sm, os, hD, by omega, ?_⟩
        rw [hn, List.filter_cons_of_neg (by rw [e]; decide), List.filter_nil, List.append_nil]
        exact he
      refine ⟨pa, _, rfl, hpT, rfl, _, _, rfl, _, _, rfl, _, _, rfl, _, _, rfl, rfl, ?_⟩
      refine ⟨rfl, ?_⟩
      refine ⟨_, rfl, _, rfl, l, rs.map V.int, rfl, hl.elim (fun h => .inl (SqL.of (sm _ _ h))) (fun h => .inr (SqT.of (sm _ _ h))), rfl, flatInts _, _, rfl, ?_⟩
      show if inV (V.int a1) (rs.map V.int) = true then _ else _
      rw [inV_ints]
      by_cases c1 : a1 ∈ rs
      · refine itT c1 ?_
        refine ⟨_, rfl, _, rfl, rfl, _, rfl, ?_⟩
        by_cases c2 : a2 = z
        · refine itT (by rw [c2]) ?_
          refine ⟨_, rfl, _, hD, ?_, fun b o e => ?_, os ++ [a4], ?_, by rw [List.length_append]; show os.length + 1 ≤ i + 1; omega, ?_⟩
          · rw [List.length_map]
            exact Nat.lt_of_le_of_lt (show _ ≤ 1000 by omega) (by decide)
          · rw [upd_ne (ne_of_none e nD)]
            exact sm b o e
          · rw [upd_same, List.map_append]
            rfl
          · rw [hn, List.filter_cons_of_pos (by unfold goesB; rw [decide_eq_true c1, decide_eq_true c2]; rfl), List.filter_nil, List.map_append, ← he]
            rfl
        · refine itF (fun e => c2 (V.str.inj e)) ?_
          exact no (by unfold goesB; rw [decide_eq_false c2, Bool.and_false])
      · refine itF c1 ?_
        refine iteF ?_
        exact no (by unfold goesB; rw [decide_eq_false c1, Bool.false_and])
    · rw [show (rfs ps).length = (ps.map (·.2)).length by rw [List.length_map]; exact List.length_map .., List.take_length, h4] at he
      have hol64 : os.length < 64 := by
        rw [show (rfs ps).length = ps.length from List.length_map ..] at hol
        omega
      refine ⟨D, os, rfl, SqL.of hD, hol64, fun S n nS hn => ?_⟩
      have sS := same_upd (o := SetO w S (fun j => decide (j ∈ os)) n) nS
      refine ⟨S, _, n, rfl, upd_same, hn, fun out p ho hm hl' np => ?_⟩
      have sp := same_upd (o := .lst (out.map V.int)) np
      have eo : out = onL M.as z rs := onL_eq wd.n8 wd.room ho fun k => by rw [hm, decide_eq_true_eq, he]; exact goes_iff
      exact q p _ (s2.trans (sS.trans sp)) (by rw [upd_same, eo])
/-! ### a pair behind a pair, as the law has it -/
abbrev sLPon : Stmt := topS 58
abbrev sLFails : Stmt := topS 59
abbrev sLPs : Stmt := topS 60
/-- a drawn machine that may be searched -/
structure LM (M : AM) : Prop where
  ok : M.ok
  pm : PM M.srt
theorem mem_sA {as : List Arw} {a : Arw} : a ∈ sortA as ↔ a ∈ as := (List.mergeSort_perm ..).mem_iff
theorem LM.wd {M : AM} (h : LM M) : WD M := ⟨h.ok.2.1, fun x hx => h.pm.w.room x (mem_sA.mpr hx), h.ok.2.2.2.2.2.1, h.ok.2.2.2.2.2.2.2.2.2.2.1⟩
def spLPon (K : PySem.W.Frag) : Sp := fun vs H Q _ => ∃ (t u : Addr) (M : AM) (c : Nat) (n : Int) (p : Pr), vs = [.ref t, .ref u, .str (Sx [c]), .int n] ∧ DrawnAt K H t M ∧ LM M ∧ PrAt H u p ∧ GdP M.n p ∧ c ∈ M.ls ∧ (0 ≤ n ∧ n ≤ 99) ∧ ∀ (q : Addr) H', Same H H' → PrAt H' q (nxP M.srt n c p) → Q (.ref q) H'
def NPo : List Str := ["_law_m", "_law_pair", "_law_letter", "_law_limit"]
theorem scLPon : FnScope NPo NPo (defScope sLPon) := ⟨rfl, rfl, rfl, by decide +kernel, rfl, by decide +kernel, by decide +kernel⟩
theorem ok_lpon {f fRo fBo : Addr} {fd fdRo fdBo : FuncData} {k : Nat} (F : Fun K "_law_pair_on" "_law_pair_on" sLPon f fd) (Ro : FnM K mg fRo fdRo "_law_rooms_on" sLRon psRo) (GRo : FnOk P w K mg base CX0 k fRo fdRo psRo (spLRon K)) (Bo : FnM K mg fBo fdBo "_law_board_on" sLBOn psLbo) (GBo : FnOk P w K mg base CX0 k fBo fdBo psLbo (spLBOn K)) (mt : mg "tuple" = none) : FnOk P w K mg base CX0 (k + 1) f fd NPo (spLPon K) := by
  refine F.ok scLPon (fun vs H Q E h => ?_) (fun cdv A outer s H vs Q E hr h => ?_)
  · obtain ⟨t, u, M, c, n, p, rfl, _⟩ := h
    rfl
  · obtain ⟨t, u, M, c, n, p, rfl, dM, lm, hp, gp, hc, hn, q⟩ := h
    refine ⟨_, pss_one (ps_ret (pe_tup (pa_cons (pe_callTy call_tuple_of (by rfl) mt (by decide +kernel) (pa_cons (pe_call GRo hr (by rfl) Ro.g Ro.F.kp Ro.b .nil pass0 (pa_cons (pv 0) (pa_cons (pe_ix ix_tup (pv 1) pe_int (fun _ _ => rfl)) (pa_cons (pv 2) pa_nil)))) pa_nil)) (pa_cons (pe_call GBo hr (by rfl) Bo.g Bo.F.kp Bo.b .nil pass0 (pa_cons (pv 0) (pa_cons (pe_ix ix_tup (pv 1) pe_int (fun _ _ => rfl)) (pa_cons (pv 2) (pa_cons (pv 3) pa_nil))))) pa_nil)))), ?_⟩
    obtain ⟨r, b, p1, p2, bs, b1, b2, b3⟩ := hp
    have hlt := letB_small lm.ok.2.2.1
    refine ⟨_, rfl, _, rfl, u, _, 0, _, rfl, rfl, SqT.of p1, rfl, _, rfl, t, r, M, p.1, Sx [c], rfl, dM, lm.wd, .inr p2, fun l H1 s1 hl => ?_⟩
    refine ⟨l, _, rfl, .inl ⟨SqL.of hl, fun v nv => ?_⟩⟩
    have s2 := same_upd (o := .tup ((onL M.as (Sx [c]) p.1).map V.int)) nv
    have hv : (upd H1 v (.tup ((onL M.as (Sx [c]) p.1).map V.int))) v = some (.tup ((onL M.as (Sx [c]) p.1).map V.int)) := upd_same
    generalize upd H1 v (.tup ((onL M.as (Sx [c]) p.1).map V.int)) = H2 at s2 hv
    have s12 := s1.trans s2
    have hBI : BdI M.n 99 (bs.map (·.2)) := by rw [b3]; exact gp.bd.1
    have hql : bs.length ≤ 1000 := by
      have := gp.bd.2
      rw [← b3, List.length_map] at this
      exact this
    obtain ⟨g1, g2⟩ := lm.pm.g.cap (n := n) (z := Sx [c]) hBI (by omega)
    refine ⟨_, rfl, _, rfl, u, _, 1, _, rfl, rfl, SqT.of (s12 _ _ p1), rfl, _, rfl, _, rfl, t, b, M, Sx [c], n, bs, rfl, dM.same s12, SqT.of (s12 _ _ b1), trAt_same b2 s12, (fun a ha => arrB_okS lm.ok.2.2.1 (lm.ok.2.2.2.1 a ha)), (fun a ha => lm.pm.g.ga.deed a (mem_sA.mpr ha)), lm.ok.2.2.2.2.2.1, small_strOk c (hlt c hc), hql, g1, g2, fun o rs H3 s3 ho hTr _ hrl L => ⟨(by decide : 2 ≤ sizeLine), fun e ne => ?_⟩⟩
    rw [b3] at L
    have enb : nxB M.srt.as n c p.2 = rs.map (·.2) := nxB_eq L
    have s4 := same_upd (o := .tup [.ref v, .ref o]) ne
    refine q e _ (s12.trans (s3.trans s4)) ⟨v, o, upd_same, ?_, rs, s4 _ _ ho, trAt_same hTr s4, enb.symm⟩
    rw [show (nxP M.srt n c p).1 = onL M.as (Sx [c]) p.1 from onL_srt _ _ _]
    exact s4 _ _ (s3 _ _ hv)
/-! ### _law_fails -/
def spLFails (K : PySem.W.Frag) : Sp := fun vs H Q _ => ∃ (t u : Addr) (M : AM) (p : Pr), vs = [.ref t, .ref u] ∧ DrawnAt K H t M ∧ PrAt H u p ∧ p.1.length ≤ 1000 ∧ p.2.length ≤ 1000 ∧ ∀ H', Same H H' → Q (.bl (flP M.srt p)) H'
def NLf : List Str := ["_law_m", "_law_pair", "_law_room"]
theorem scLFails : FnScope NLf ["_law_m", "_law_pair"] (defScope sLFails) := ⟨rfl, rfl, rfl, by decide +kernel, rfl, by decide +kernel, by decide +kernel⟩
theorem ok_lfails {f fW : Addr} {fd fdW : FuncData} {k : Nat} (F : Fun K "_law_fails" "_law_fails" sLFails f fd) (We : FnM K mg fW fdW "_law_well" sLWell ["_law_m", "_law_board"]) (GWe : FnOk P w K mg base CX0 k fW fdW ["_law_m", "_law_board"] (spLWell K)) (ma : mg "any" = none) : FnOk P w K mg base CX0 (k + 1) f fd ["_law_m", "_law_pair"] (spLFails K) := by
  refine F.ok scLFails (fun vs H Q E h => ?_) (fun cdv A outer s H vs Q E hr h => ?_)
  · obtain ⟨t, u, M, p, rfl, _⟩ := h
    rfl
  · obtain ⟨t, u, M, p, rfl, dM, hp, hl1, hl2, q⟩ := h
    refine ⟨_, pss_one (ps_ret (pe_and (pe_callB (cr_any rfl) (by rfl) ma (by decide +kernel) (pa_cons
        (pe_lc (own := [("_law_room", 2)]) (g := gName 2) (tt := tYes) (te := tOp (rIn K false) (tVar 2) (tOp (rIxT K) (tVar 0) (tC (.int 4)))) rfl scLFails.nd (pi_tup (pe_ix ix_tup (pv 1) pe_int (fun _ _ => rfl))) (blkOk_by (own := [("_law_room", 2)]) (N := NLf) (sc := defScope sLFails) (by decide +kernel))
          (fun _ _ _ _ _ => pg_name (i := 2) scLFails.nd rfl (.inl rfl)) (fun _ _ _ _ _ => pts_nil) (fun _ _ _ _ _ => pe_cmpR op_in_seq (pv 2) (pe_ix ix_tup (pv 0) pe_int (fun _ _ => rfl)) (by rfl))) pa_nil))
        (pe_one (pe_not (pe_call GWe hr (by rfl) We.g We.F.kp We.b .nil pass0 (pa_cons (pv 0) (pa_cons (pe_ix ix_tup (pv 1) pe_int (fun _ _ => rfl)) pa_nil))))))), ?_⟩
    obtain ⟨r, b, p1, p2, bs, b1, b2, b3⟩ := hp
    obtain ⟨la, lf, lg, ps, d1, d2, d3, d4, d5, d6⟩ := id dM
    have hql : bs.length ≤ 1000 := by
      rw [← b3, List.length_map] at hl2
      exact hl2
    have eh : hasL M.srt.gs p.1 = hasL M.gs p.1 := hasL_srt _ _
    have ew : wellB M.srt.gs p.2 = wellB M.gs p.2 := well_sort M _
    refine ⟨_, rfl, u, _, 0, _, rfl, rfl, SqT.of p1, rfl, r, rfl, ⟨_, SqT.of p2⟩, fun D nD => ?_⟩
    refine lc_tup (K := K) (a := r) (xs := p.1.map V.int) (fun i H' => Same H H' ∧ H' D = some (.lst (((p.1.take i).map fun r => decide (r ∈ M.gs)).map V.bl))) ⟨same_upd nD, upd_same⟩ (fun i H' _ ⟨sm, _⟩ => SqT.of (sm _ _ p2)) (fun i x H' hx ⟨sm, hD⟩ => ?_) (fun H2 ⟨s2, hD⟩ => ?_)
    · obtain ⟨r, hr', rfl⟩ : ∃ r, p.1[i]? = some r ∧ x = .int r := by
        rw [List.getElem?_map] at hx
        cases z : p.1[i]? with
        | none => rw [z] at hx; cases hx
        | some r => rw [z] at hx; exact ⟨r, rfl, (Option.some.inj hx).symm⟩
      refine ⟨rfl, ?_⟩
      refine yes2 ?_
      refine ⟨_, rfl, _, rfl, t, _, 4, _, rfl, rfl, SqT.of (sm _ _ d1), rfl, lg, M.gs.map V.int, rfl, .inl (SqL.of (sm _ _ d6)), rfl, flatInts _, ?_⟩
      rw [if_neg Bool.false_ne_true, inV_ints]
      exact grow_bI (ts := p.1) (f := fun r => decide (r ∈ M.gs)) (t := r) nD sm hr' hl1 hD
    · rw [List.length_map, List.take_length] at hD
      refine ⟨D, _, rfl, SqL.of hD, _, rfl, ?_⟩
      rw [show ((p.1.map fun r => decide (r ∈ M.gs))).any id = hasL M.gs p.1 by unfold hasL; rw [List.any_map]; rfl]
      cases e : hasL M.gs p.1 with
      | false =>
        have e2 : flP M.srt p = false := by unfold flP; rw [eh, e]; rfl
        rw [e2] at q
        exact iteF (q H2 s2)
      | true =>
        refine iteT ?_
        refine ⟨_, rfl, _, rfl, u, _, 1, _, rfl, rfl, SqT.of (s2 _ _ p1), rfl, t, b, M, bs, rfl, dM.same s2, SqT.of (s2 _ _ b1), trAt_same b2 s2, hql, fun H3 s3 => ⟨_, rfl, ?_⟩⟩
        have e2 : flP M.srt p = !wellB M.gs p.2 := by unfold flP; rw [eh, e, ew]; rfl
        rw [e2] at q
        rw [b3]
        exact q H3 (s2.trans s3)
/-! ### _law_pairs -/
def NLps : List Str := ["_law_m", "_law_limit", "_law_room", "_law_start", "_law_words", "_law_rows", "_law_at", "_law_pair", "_law_letter", "_law_later"]
def psLps : List Str := ["_law_m", "_law_limit", "_law_room"]
theorem scLPs : FnScope NLps psLps (defScope sLPs) := ⟨rfl, rfl, rfl, by decide +kernel, rfl, by decide +kernel, by decide +kernel⟩
def spLPs (K : PySem.W.Frag) : Sp := fun vs H Q _ => ∃ (t : Addr) (M : AM) (n : Int) (m : Nat), vs = [.ref t, .int n, .int (m : Nat)] ∧ DrawnAt K H t M ∧ LM M ∧ (0 ≤ n ∧ n ≤ 99) ∧ (1 ≤ m ∧ m ≤ 1000) ∧
  (∀ k z W l r H', srM M.srt n m k = .hit z W → Same H H' → PLs H' l (W.map (·.1)) → H' r = some (.tup [.str (Sx z), .ref l]) → Q (.ref r) H') ∧
  (∀ k W l r H', srM M.srt n m k = .wide W → Same H H' → PLs H' l (W.map (·.1)) → H' r = some (.tup [.str "wide", .ref l]) → Q (.ref r) H') ∧
  (∀ k W l r H', srM M.srt n m k = .go W → W.length ≤ k → Same H H' → PLs H' l (W.map (·.1)) → H' r = some (.tup [.non, .ref l]) → Q (.ref r) H')
theorem ok_lps {f fBg fPo fLf : Addr} {fd fdBg fdPo fdLf : FuncData} {k : Nat} (F : Fun K "_law_pairs" "_law_pairs" sLPs f fd) (Bg : FnM K mg fBg fdBg "_law_begin" sLBegin ["_law_m"]) (GBg : FnOk P w K mg base CX0 k fBg fdBg ["_law_m"] (spLBegin K)) (Po : FnM K mg fPo fdPo "_law_pair_on" sLPon NPo) (GPo : FnOk P w K mg base CX0 k fPo fdPo NPo (spLPon K)) (Lf : FnM K mg fLf fdLf "_law_fails" sLFails ["_law_m", "_law_pair"]) (GLf : FnOk P w K mg base CX0 k fLf fdLf ["_law_m", "_law_pair"] (spLFails K))
    (ml : mg "len" = none) (ms : mg "sorted" = none) (mt : mg "tuple" = none) : FnOk P w K mg base CX0 (k + 1) f fd psLps (spLPs K) := by
  refine F.ok scLPs (fun vs H Q E h => ?_) (fun cdv A outer s H vs Q E hr h => ?_)
  · obtain ⟨t, M, n, m, rfl, _⟩ := h
    rfl
  · obtain ⟨t, M, n, m, rfl, dM, lm, hn, hm, qH, qW, qN⟩ := h
    have hu : (cxOf CX0 P w K mg base NLps "_law_pairs" (defScope sLPs) f cdv A outer s H E).nox.A.units + 64 < cLine := hr.units
    refine ⟨_, (pss_cutM (ps_set (i := 3) scLPs.nd rfl (.inl rfl) (pe_tup (pa_cons (pe_callTy call_tuple_of (by rfl) mt (by decide +kernel) (pa_cons (pe_callB (cr_sortD hu) (by rfl) ms (by decide +kernel) (pa_cons (pe_ix ix_tup (pv 0) pe_int (fun _ _ => rfl)) pa_nil)) pa_nil)) (pa_cons (pe_call GBg hr (by rfl) Bg.g Bg.F.kp Bg.b .nil pass0 (pa_cons (pv 0) pa_nil)) pa_nil))))
      (pss_cutM (ps_par3 (i := 4) (j := 5) (l := 6) rfl scLPs.nd rfl rfl rfl (by decide) (by decide) (by decide) rfl rfl rfl (pa_cons (pe_disp1N hu (pv 3) pe_str) (pa_cons (pe_lst (pa_cons (pv 3) pa_nil)) (pa_cons pe_int pa_nil))) rfl)
      (pss_cutM (ps_while PassesOwn.never (pt_cmpR op_lt (pv 6) (pe_callB call_len_seq (by rfl) ml PySem.boot_len (pa_cons (pv 5) pa_nil)) (nomark _)) (pss_cutM (ps_set (i := 7) scLPs.nd rfl (.inl rfl) (pe_ix ix_list (pv 5) (pv 6) (fun _ _ => rfl)))
      (pss_cutM (ps_set (i := 6) scLPs.nd rfl (.inl rfl) (pe_op op_add (pv 6) pe_int))
      (pss_one (ps_for PassesOwn.never rfl (pi_str (pe_ix ix_tup (pv 0) pe_int (fun _ _ => rfl))) (pg_name (i := 8) scLPs.nd rfl (.inl rfl))
        (pss_cons (ps_set (i := 9) scLPs.nd rfl (.inl rfl) (pe_call GPo hr (by rfl) Po.g Po.F.kp Po.b .nil pass0 (pa_cons (pv 0) (pa_cons (pv 7) (pa_cons (pv 8) (pa_cons (pv 1) pa_nil))))))
      (pss_one (ps_if (pt_cmpR (op_notInN hu) (pv 9) (pv 4) (by rfl)) (pss_cons (ps_if (pt_val (pe_call GLf hr (by rfl) Lf.g Lf.F.kp Lf.b .nil pass0 (pa_cons (pv 0) (pa_cons (pv 9) pa_nil)))) (pss_one (ps_ret (pe_tup (pa_cons (pe_op op_add_str (pe_nget hu (pv 4) (pv 7) (fun _ _ => rfl)) (pv 8)) (pa_cons (pv 5) pa_nil))))) pss_nil)
      (pss_cons (ps_if (pt_cmpR op_ge (pe_callB call_len_seq (by rfl) ml PySem.boot_len (pa_cons (pv 5) pa_nil)) (pv 2) (nomark _)) (pss_one (ps_ret (pe_tup (pa_cons pe_str (pa_cons (pv 5) pa_nil))))) pss_nil)
      (pss_cons (ps_asg (pe_op op_add_str (pe_nget hu (pv 4) (pv 7) (fun _ _ => rfl)) (pv 8)) (pg_sub (pv 4) (pv 9) (set_nest hu)))
      (pss_one (ps_expr (pe_bm PySem.F.plainAttrs_list PySem.F.slot_list_append PySem.F.type_list_append mt_append (pv 5) (pa_cons (pv 9) pa_nil))))))) pss_nil))))))))
      (pss_one (ps_ret (pe_tup (pa_cons pe_non (pa_cons (pv 5) pa_nil)))))))), ?_⟩
    have hbig : 50000 ≤ sizeLine := by decide
    have pm := lm.pm
    have hl3 := letB_pos lm.ok.2.2.1
    have GX : ∀ {p : Pr}, GdP M.n p → ∀ c, GdP M.n (nxP M.srt n c p) := fun h c => gdP_next (M := M.srt) pm hn h c
    obtain ⟨p0, ep0⟩ : ∃ p0 : Pr, p0 = (M.srt.fs, M.srt.fs.map zr) := ⟨_, rfl⟩
    have hsr : ∀ k, srM M.srt n m k = srP (nxP M.srt n) (flP M.srt) m M.ls p0 k := fun k => by rw [ep0]; rfl
    have gp0 : GdP M.n p0 := by rw [ep0]; exact gdP_first pm
    -- the first pair
    refine ⟨fun σ' H' => ∃ p : Addr, σ' = [some (.ref t), some (.int n), some (.int (m : Nat)), some (.ref p), none, none, none, none, none, none] ∧ Same H H' ∧ PrAt H' p p0, ?_, ?_⟩
    · obtain ⟨la, lf, lg, ps0, h1, h2, h3, h4, h5, h6⟩ := id dM
      refine ⟨_, rfl, t, _, 3, _, rfl, rfl, SqT.of h1, rfl, lf, M.fs.map vdI, rfl, by rw [vdI_fst]; exact .inl (SqL.of h5), fun p hp => ?_, al_I _, so_I _, dep_I _, fun ls nls => ?_⟩
      · obtain ⟨r, hr', rfl⟩ := List.mem_map.mp hp
        exact .int r
      rw [srtD_I, vdI_fst]
      have s1 := same_upd (o := .lst ((sortI M.fs).map V.int)) nls
      have hls : (upd H ls (.lst ((sortI M.fs).map V.int))) ls = some (.lst ((sortI M.fs).map V.int)) := upd_same
      generalize upd H ls (.lst ((sortI M.fs).map V.int)) = H1 at s1 hls
      refine ⟨ls, _, rfl, .inl ⟨SqL.of hls, fun v nv => ?_⟩⟩
      have s2 := same_upd (o := .tup ((sortI M.fs).map V.int)) nv
      have hv : (upd H1 v (.tup ((sortI M.fs).map V.int))) v = some (.tup ((sortI M.fs).map V.int)) := upd_same
      generalize upd H1 v (.tup ((sortI M.fs).map V.int)) = H2 at s2 hv
      refine ⟨_, rfl, t, M, rfl, dM.same (s1.trans s2), lm.ok.2.2.2.2.2.2.2.2.2.2.1, fun b bs H3 s3 hb hT he => ⟨(by decide : 2 ≤ sizeLine), fun p np => ?_⟩⟩
      have s4 := same_upd (o := .tup [.ref v, .ref b]) np
      exact ⟨p, rfl, s1.trans (s2.trans (s3.trans s4)), by rw [ep0]; exact ⟨v, b, upd_same, s4 _ _ (s3 _ _ hv), bs, s4 _ _ hb, trAt_same hT s4, he⟩⟩
    rintro σ H1 ⟨p, rfl, s1, hp⟩
    -- words, rows, place
    refine ⟨fun σ' H' => ∃ D lr : Addr, σ' = [some (.ref t), some (.int n), some (.int (m : Nat)), some (.ref p), some (.ref D), some (.ref lr), some (.int 0), none, none, none] ∧ Same H H' ∧ PLs H' lr [p0] ∧ WdAt P w K H' D [(p0, [])] ∧ H D = none ∧ H lr = none ∧ lr ≠ D, ?_, ?_⟩
    · intro D nD
      have sD := same_upd (o := NDO P w D []) nD
      refine ⟨_, rfl, p, pk p0, rfl, upd_same, (hp.same sD).key, pk_depth _, ?_⟩
      have s3 := same_putD (D := D) (ob := NDO P w D [(pk p0, p, V.str "")]) sD nD
      have hD3 : WdAt P w K (upd (upd H1 D (NDO P w D [])) D (NDO P w D [(pk p0, p, V.str "")])) D [(p0, [])] := ⟨[(pk p0, p, V.str "")], ⟨upd_same, fun x hx => by rw [List.mem_singleton.mp hx]; exact ⟨(hp.same s3).key, pk_depth _⟩⟩, rfl⟩
      refine ⟨_, rfl, (by decide : 1 ≤ sizeLine), fun lr nlr => ?_⟩
      have s4 := same_upd (o := .lst [.ref p]) nlr
      obtain ⟨xs, x1, _⟩ := id hD3
      have hD4 := hD3.same s4
      exact ⟨_, _, _, rfl, D, lr, rfl, s1.trans (s3.trans s4), ⟨[(p, p0)], upd_same, fun q hq => by rw [List.mem_singleton.mp hq]; exact (hp.same s3).same s4, rfl⟩, hD4, s1.free nD, (s1.trans s3).free nlr, fun z => by rw [z] at nlr; exact nomatch (nlr.symm.trans x1.at_)⟩
    clear s1 hp
    rintro σ H2 ⟨D, lr, rfl, s2, hR2, hD2, nD, nlr, ne0⟩
    -- as long as there are more rows
    refine ⟨fun σ' H' => ∃ (k : Nat) (W : List PW') (y7 y8 y9 : Option V), σ' = [some (.ref t), some (.int n), some (.int (m : Nat)), some (.ref p), some (.ref D), some (.ref lr), some (.int ((k : Nat) : Int)), y7, y8, y9] ∧ Same H H' ∧ PLs H' lr (W.map (·.1)) ∧ srM M.srt n m k = .go W ∧ W.length ≤ k, ?_, ?_⟩
    · refine ⟨fun μ σ' H' => ∃ (k : Nat) (W : List PW') (y7 y8 y9 : Option V), σ' = [some (.ref t), some (.int n), some (.int (m : Nat)), some (.ref p), some (.ref D), some (.ref lr), some (.int ((k : Nat) : Int)), y7, y8, y9] ∧ Same H H' ∧ PLs H' lr (W.map (·.1)) ∧ WdAt P w K H' D W ∧ srM M.srt n m k = .go W ∧ SOk (GdP M.n) W ∧ k ≤ W.length ∧ W.length ≤ m ∧ μ = m + 1 - k,
        ⟨_, 0, [(p0, [])], _, _, _, rfl, s2, (show PLs H2 lr (([(p0, ([] : List Nat))] : List PW').map (·.1)) from hR2), hD2, by rw [hsr]; rfl, SOk.first gp0, Nat.zero_le _, hm.1, rfl⟩, ?_⟩
      clear s2 hD2 hR2 H2
      rintro μ σ' H5 ⟨k, W, y7, y8, y9, rfl, s5, hR5, hD5, hgo, sk, hk, hkm, rfl⟩
      obtain ⟨rs, r1, r2, r3⟩ := id hR5
      have hrl : rs.length = W.length := by
        have := congrArg List.length r3
        rw [List.length_map, List.length_map] at this
        exact this
      refine ⟨_, rfl, _, rfl, lr, _, rfl, .inl (SqL.of r1), _, _, rfl, rfl, _, rfl, ?_⟩
      by_cases hlt : k < W.length
      rotate_left
      · exact itF (by rw [prs_len, hrl]; omega) ⟨k, W, y7, y8, y9, rfl, s5, hR5, hgo, by omega⟩
      refine itT (by rw [prs_len, hrl]; omega) ⟨fun σ' H' => ∃ (W : List PW') (y7 y8 y9 : Option V), σ' = [some (.ref t), some (.int n), some (.int (m : Nat)), some (.ref p), some (.ref D), some (.ref lr), some (.int ((k + 1 : Nat) : Int)), y7, y8, y9] ∧ Same H H' ∧ PLs H' lr (W.map (·.1)) ∧ WdAt P w K H' D W ∧ srM M.srt n m (k + 1) = .go W ∧ SOk (GdP M.n) W ∧ k + 1 ≤ W.length ∧ W.length ≤ m, fun σ' H' ⟨W, y7, y8, y9, e, x1, x2, x3, x4, x5, x6, x7⟩ => ⟨m + 1 - (k + 1), by omega, k + 1, W, y7, y8, y9, e, x1, x2, x3, x4, x5, x6, x7, rfl⟩, ?_⟩
      -- the pair at this place
      obtain ⟨q, hq⟩ : ∃ q : PW', W[k]? = some q := ⟨_, List.getElem?_eq_getElem hlt⟩
      obtain ⟨pb, hpb, epb⟩ : ∃ pb : PrA, rs[k]? = some pb ∧ pb.2 = q.1 := by
        have hk2 : k < rs.length := by omega
        refine ⟨rs[k], List.getElem?_eq_getElem hk2, ?_⟩
        have e : (rs.map (·.2))[k]? = (W.map (·.1))[k]? := by rw [r3]
        rw [List.getElem?_map, List.getElem?_map, hq, List.getElem?_eq_getElem hk2] at e
        exact Option.some.inj e
      have hqm : q ∈ W := List.mem_of_getElem? hq
      have gp : GdP M.n pb.2 := epb ▸ sk.gd q hqm
      have hnext : srM M.srt n m (k + 1) = rowP (nxP M.srt n) (flP M.srt) m pb.2 q.2 M.ls W := by
        rw [hsr] at hgo ⊢
        rw [epb]
        exact srP_next hgo hq
      refine ⟨fun σ' H' => σ' = [some (.ref t), some (.int n), some (.int (m : Nat)), some (.ref p), some (.ref D), some (.ref lr), some (.int ((k : Nat) : Int)), some (.ref pb.1), y8, y9] ∧ H5 = H', ?_, ?_⟩
      · exact ⟨_, rfl, _, rfl, lr, _, ((k : Nat) : Int), _, rfl, rfl, SqL.of r1, atI_nat (by unfold prs; rw [List.getElem?_map, hpb]; rfl), rfl, rfl⟩
      rintro σ' H' ⟨rfl, rfl⟩
      refine ⟨fun σ' H' => σ' = [some (.ref t), some (.int n), some (.int (m : Nat)), some (.ref p), some (.ref D), some (.ref lr), some (.int ((k + 1 : Nat) : Int)), some (.ref pb.1), y8, y9] ∧ H5 = H', ?_, ?_⟩
      · exact ⟨_, rfl, _, _, rfl, rfl, rfl, rfl⟩
      rintro σ' H' ⟨rfl, rfl⟩
      have hb5 : PrAt H5 pb.1 pb.2 := r2 pb (List.mem_of_getElem? hpb)
      obtain ⟨la, lf, lg, ps0, d1, _⟩ := id (dM.same s5)
      refine ⟨_, rfl, t, _, 1, _, rfl, rfl, SqT.of d1, rfl, Sx M.ls, rfl, for_it walk_str (fun i σ H' => ∃ (y8 y9 : Option V) (W2 : List PW'), σ = [some (.ref t), some (.int n), some (.int (m : Nat)), some (.ref p), some (.ref D), some (.ref lr), some (.int ((k + 1 : Nat) : Int)), some (.ref pb.1), y8, y9] ∧ Same H H' ∧ PrAt H' pb.1 pb.2 ∧ PLs H' lr (W2.map (·.1)) ∧ WdAt P w K H' D W2 ∧ rowP (nxP M.srt n) (flP M.srt) m pb.2 q.2 (M.ls.take i) W = .go W2 ∧ SOk (GdP M.n) W2 ∧ W <+: W2 ∧ W2.length ≤ m)
        ⟨_, _, W, rfl, s5, hb5, hR5, hD5, rfl, sk, List.prefix_refl _, hkm⟩ (fun _ _ _ _ _ => True.intro) ?_ ?_⟩
      · clear hD5 hR5 hb5 d1 r1 r2 r3 s5 y8 y9
        rintro i x σ H7 H8 hi ⟨y8, y9, W2, rfl, s7, hb7, hR7, hD7, hrow, sk7, pre2, hm7⟩ ⟨rfl, c, hc, rfl⟩
        have hc : M.ls[i]? = some c := by
          have : M.ls.toArray[i]? = some c := hc
          simpa using this
        have hcm : c ∈ M.ls := List.mem_of_getElem? hc
        refine ⟨_, rfl, _, rfl, _, rfl, _, rfl, t, pb.1, M, c, n, pb.2, rfl, dM.same s7, lm, hb7, gp, hcm, hn, fun u H9 s9 ht => ?_⟩
        have s7 := s7.trans s9
        have hD7 := hD7.same s9
        have hR7 := hR7.same s9
        have hb7 := hb7.same s9
        clear s9
        have hstep : rowP (nxP M.srt n) (flP M.srt) m pb.2 q.2 (M.ls.take (i + 1)) W = stepP (nxP M.srt n) (flP M.srt) m pb.2 q.2 W2 c := by
          rw [take_next hc]
          exact rowP_snoc hrow
        have hz : wfind W2 pb.2 = some q.2 := by
          rw [epb]
          exact wfind_at sk7.nd (pre2.subset hqm)
        have hzl : q.2.length ≤ W2.length := sk7.zl q (pre2.subset hqm)
        have gq := GX gp c
        have hsum : Sx q.2 ++ (⟨#[c]⟩ : Str) = Sx (q.2 ++ [c]) := sx_app q.2 [c]
        have hadd : (Sx q.2).length + (⟨#[c]⟩ : Str).length ≤ sizeLine := by
          have h1 : (Sx q.2).length = q.2.length := sx_len q.2
          have h2 : (⟨#[c]⟩ : Str).length = 1 := rfl
          have := hm.2
          omega
        obtain ⟨xs, x1, x2⟩ := id hD7
        -- there already
        refine ⟨_, rfl, _, rfl, D, u, xs, pk (nxP M.srt n c pb.2), rfl, rfl, x1, ht.key, pk_depth _, _, rfl, ?_⟩
        rw [if_pos rfl, wd_val x2, Option.isSome_map, wfind_some]
        by_cases hin : nxP M.srt n c pb.2 ∈ W2.map (·.1)
        · rw [decide_eq_true hin]
          have e : stepP (nxP M.srt n) (flP M.srt) m pb.2 q.2 W2 c = .go W2 := if_pos hin
          exact iteF ⟨_, _, W2, rfl, s7, hb7, hR7, hD7, hstep.trans e, sk7, pre2, hm7⟩
        rw [decide_eq_false hin]
        refine iteT ?_
        -- it fails
        refine ⟨_, rfl, _, rfl, t, u, M, nxP M.srt n c pb.2, rfl, dM.same s7, ht, (by have := gq.len; omega), gq.bd.2, fun H10 s10 => ⟨_, rfl, ?_⟩⟩
        have s7 := s7.trans s10
        have hD7 := hD7.same s10
        have hR7 := hR7.same s10
        have hb7 := hb7.same s10
        have ht := ht.same s10
        clear s10 x1 x2 xs
        obtain ⟨xs, x1, x2⟩ := id hD7
        have hxl := wd_len x2
        obtain ⟨rs, r1, r2, r3⟩ := id hR7
        have hrl : rs.length = W2.length := by
          have := congrArg List.length r3
          rw [List.length_map, List.length_map] at this
          exact this
        by_cases hfl : flP M.srt (nxP M.srt n c pb.2) = true
        · rw [hfl]
          have e : stepP (nxP M.srt n) (flP M.srt) m pb.2 q.2 W2 c = .hit (q.2 ++ [c]) W2 := by
            unfold stepP
            rw [if_neg hin, if_pos hfl]
          have hh : srM M.srt n m (k + 1) = .hit (q.2 ++ [c]) W2 := by
            rw [hnext, show M.ls = M.ls.take (i + 1) ++ M.ls.drop (i + 1) from (List.take_append_drop ..).symm]
            exact rowP_stop (r := .hit (q.2 ++ [c]) W2) (fun _ z => nomatch z) (hstep.trans e)
          refine iteT ⟨_, rfl, _, rfl, D, pb.1, xs, pk pb.2, .str (Sx q.2), rfl, rfl, x1, hb7.key, pk_depth _, by rw [wd_val x2, hz]; rfl, _, rfl, Sx q.2, ⟨#[c]⟩, rfl, rfl, hadd, _, rfl, (by decide : 2 ≤ sizeLine), fun o no => ?_⟩
          have so := same_upd (o := .tup [.str (Sx q.2 ++ (⟨#[c]⟩ : Str)), .ref lr]) no
          exact qH (k + 1) _ W2 lr o _ hh (s7.trans so) (hR7.same so) (by rw [upd_same, hsum])
        rw [show flP M.srt (nxP M.srt n c pb.2) = false from Bool.not_eq_true _ ▸ hfl]
        refine iteF ?_
        -- too many
        refine ⟨_, rfl, lr, _, rfl, .inl (SqL.of r1), _, rfl, _, _, rfl, rfl, _, rfl, ?_⟩
        by_cases hw : W2.length = m
        · have e : stepP (nxP M.srt n) (flP M.srt) m pb.2 q.2 W2 c = .wide W2 := by
            unfold stepP
            rw [if_neg hin, if_neg hfl, if_pos hw]
          have hh : srM M.srt n m (k + 1) = .wide W2 := by
            rw [hnext, show M.ls = M.ls.take (i + 1) ++ M.ls.drop (i + 1) from (List.take_append_drop ..).symm]
            exact rowP_stop (r := .wide W2) (fun _ z => nomatch z) (hstep.trans e)
          refine itT (by rw [prs_len, hrl, hw]; omega) ⟨_, rfl, (by decide : 2 ≤ sizeLine), fun o no => ?_⟩
          have so := same_upd (o := .tup [.str "wide", .ref lr]) no
          exact qW (k + 1) W2 lr o _ hh (s7.trans so) (hR7.same so) upd_same
        have e : stepP (nxP M.srt n) (flP M.srt) m pb.2 q.2 W2 c = .go (W2 ++ [(nxP M.srt n c pb.2, q.2 ++ [c])]) := by
          unfold stepP
          rw [if_neg hin, if_neg hfl, if_neg hw]
        refine itF (by rw [prs_len, hrl]; omega) ?_
        -- put in
        refine ⟨_, rfl, _, rfl, D, pb.1, xs, pk pb.2, .str (Sx q.2), rfl, rfl, x1, hb7.key, pk_depth _, by rw [wd_val x2, hz]; rfl, _, rfl, Sx q.2, ⟨#[c]⟩, rfl, rfl, hadd, ?_⟩
        rw [hsum]
        refine ⟨_, rfl, _, rfl, D, u, xs, pk (nxP M.srt n c pb.2), rfl, rfl, x1, ht.key, pk_depth _, by omega, ?_⟩
        have hput := x1.put (v := V.str (Sx (q.2 ++ [c]))) (ht.key (K := K)) (pk_depth _)
        have s11 := same_putD (D := D) (ob := NDO P w D (putN xs (pk (nxP M.srt n c pb.2)) u (.str (Sx (q.2 ++ [c]))))) s7 nD
        have nt : ∀ zs : List V, NDO P w D xs ≠ .tup zs := fun _ z => nomatch z
        have hD11 : WdAt P w K (upd H10 D (NDO P w D (putN xs (pk (nxP M.srt n c pb.2)) u (.str (Sx (q.2 ++ [c])))))) D (W2 ++ [(nxP M.srt n c pb.2, q.2 ++ [c])]) := ⟨_, hput, wd_put x2 hin u _⟩
        have r2 := r2.upd (ob := NDO P w D (putN xs (pk (nxP M.srt n c pb.2)) u (.str (Sx (q.2 ++ [c]))))) x1.at_ nt
        have r1 : (upd H10 D (NDO P w D (putN xs (pk (nxP M.srt n c pb.2)) u (.str (Sx (q.2 ++ [c])))))) lr = some (.lst (prs rs)) := by rw [upd_ne ne0]; exact r1
        have ht11 := ht.upd (ob := NDO P w D (putN xs (pk (nxP M.srt n c pb.2)) u (.str (Sx (q.2 ++ [c]))))) x1.at_ nt
        have hb11 := hb7.upd (ob := NDO P w D (putN xs (pk (nxP M.srt n c pb.2)) u (.str (Sx (q.2 ++ [c]))))) x1.at_ nt
        refine ⟨_, rfl, .inl ⟨rfl, _, SqL.of r1⟩, _, rfl, lr, _, _, rfl, rfl, r1, by rw [prs_len]; have := hm.2; omega, ?_⟩
        refine ⟨_, _, W2 ++ [(nxP M.srt n c pb.2, q.2 ++ [c])], rfl, same_putD s11 nlr, hb11.upd r1 (fun _ z => nomatch z), ?_, hD11.upd r1 (fun z => ne0 z.symm), hstep.trans e, sk7.put hin gq hzl c, pre2.trans (List.prefix_append _ _), by rw [List.length_append]; show W2.length + 1 ≤ m; omega⟩
        rw [List.map_append]
        exact PLs.put r1 r2 r3 ht11
      · rintro σ H7 ⟨y8, y9, W2, rfl, s7, hb7, hR7, hD7, hrow, sk7, pre2, hm7⟩
        rw [show (Sx M.ls).cps.size = M.ls.length from sx_len M.ls, List.take_length] at hrow
        exact ⟨W2, _, _, _, rfl, s7, hR7, hD7, hnext.trans hrow, sk7, by have := pre2.length_le; omega, hm7⟩
    clear s2 hD2 hR2 H2
    rintro σ H4 ⟨k, W, y7, y8, y9, rfl, s4, hR4, hgo, hkl⟩
    refine ⟨_, rfl, (by decide : 2 ≤ sizeLine), fun r nr => ?_⟩
    have sr := same_upd (o := .tup [.non, .ref lr]) nr
    exact qN k W lr r _ hgo hkl (s4.trans sr) (hR4.same sr) upd_same
end
end Onp
set_option maxHeartbeats 8000000
set_option autoImplicit false
namespace Onp
open PySem PySem.Spec PyProof.Rows L2 HotX L2H LamX
/-! ### a ring of rooms: one step costs a cent -/
theorem one_of {α : Type} {l : List α} {r : α} (nd : l.Nodup) (h : ∀ x, x ∈ l ↔ x = r) : l = [r] := by
  cases l with
  | nil => exact absurd ((h r).mpr rfl) (fun z => nomatch z)
  | cons a t =>
    have ha : a = r := (h a).mp List.mem_cons_self
    subst ha
    cases t with
    | nil => rfl
    | cons b t =>
      have hb : b = a := (h b).mp (List.mem_cons_of_mem _ List.mem_cons_self)
      subst hb
      exact absurd List.mem_cons_self (List.nodup_cons.mp nd).1
def dR (k g : Nat) : Str := if k = g then "cent" else "keep"
def ringA (N c g : Nat) : List Arw := (List.range N).map fun k => (((k : Nat) : Int), Sx [c], dR k g, (((k + 1) % N : Nat) : Int))
def ringM (N c g f : Nat) : AM := ⟨(N : Nat), [c], ringA N c g, [((f : Nat) : Int)], (List.range N).map fun k => ((k : Nat) : Int)⟩
theorem dR_in (k g : Nat) : dR k g ∈ deedsL := by
  unfold dR
  split <;> decide +kernel
theorem ring_mem {N c g : Nat} {a : Arw} : a ∈ ringA N c g ↔ ∃ k, k < N ∧ a = (((k : Nat) : Int), Sx [c], dR k g, (((k + 1) % N : Nat) : Int)) := by
  unfold ringA
  rw [List.mem_map]
  exact ⟨fun ⟨k, hk, e⟩ => ⟨k, List.mem_range.mp hk, e.symm⟩, fun ⟨k, hk, e⟩ => ⟨k, List.mem_range.mpr hk, e.symm⟩⟩
theorem ring_nd (N c g : Nat) : (ringA N c g).Nodup := by
  unfold ringA
  refine List.Pairwise.map _ (fun a b (h : a ≠ b) e => h ?_) List.nodup_range
  exact Int.ofNat.inj (Prod.mk.inj e).1
theorem ring_len (N c g : Nat) : (ringA N c g).length = N := by
  unfold ringA
  rw [List.length_map, List.length_range]
theorem leastR_nil : IsLeast [] [] := ⟨.nil, fun x => ⟨(fun h => nomatch h), fun h => nomatch h.1⟩⟩
theorem leastR_one (t : Tri) : IsLeast [t] [t] := ⟨List.pairwise_singleton _ _, fun x => ⟨fun h => ⟨h, fun y hy _ => by rw [List.mem_singleton.mp hy, List.mem_singleton.mp h]⟩, fun h => h.1⟩⟩
theorem go_dR (r : Int) (x k g : Nat) (s : Int) : goT (r, ((x : Nat) : Int), 0) (dR k g, s) = (s, ((x + (if k = g then 1 else 0) : Nat) : Int), 0) := by
  unfold goT dR
  by_cases h : k = g
  · rw [if_pos h, if_pos h, show ddOf ("cent" : Str) = ddOf "cent" from rfl]
    show (s, stp (((x : Nat) : Int), 0) (ddOf "cent")) = _
    rw [show ddOf "cent" = Dd.cent by decide +kernel]
    show (s, ((x : Nat) : Int) + 1, (0 : Int)) = _
    rw [show ((x : Nat) : Int) + 1 = ((x + 1 : Nat) : Int) by omega]
  · rw [if_neg h, if_neg h]
    show (s, stp (((x : Nat) : Int), 0) (ddOf "keep")) = _
    rw [show ddOf "keep" = Dd.keep by decide +kernel]
    rfl
section
variable {N c g f : Nat} (h5 : 5 ≤ N) (h8 : N ≤ 8) (hf : f < N) (hc : c ∈ smallL)
include h5 h8 hf hc
theorem ring_ok : (ringM N c g f).ok := by
  have hls : letB [c] = true := by
    unfold letB risB smaB
    simp
    simpa using hc
  refine ⟨by show (1 : Int) ≤ (N : Nat); omega, by show ((N : Nat) : Int) ≤ 8; omega, hls, fun a ha => ?_, ring_nd N c g, by rw [show (ringM N c g f).as.length = N from ring_len N c g]; omega, fun r hr => ?_, List.nodup_cons.mpr ⟨(fun z => nomatch z), .nil⟩, fun r hr => ?_, ?_, (show 1 ≤ 100 by decide), ?_⟩
  · obtain ⟨k, hk, rfl⟩ := ring_mem.mp ha
    unfold arrB
    have h1 : (k + 1) % N < N := Nat.mod_lt _ (by omega)
    simp only [Bool.and_eq_true, decide_eq_true_eq]
    exact ⟨⟨⟨⟨by omega, show ((k : Nat) : Int) < ((N : Nat) : Int) by omega⟩, ⟨by omega, show (((k + 1) % N : Nat) : Int) < ((N : Nat) : Int) by omega⟩⟩, List.any_eq_true.mpr ⟨c, List.mem_singleton.mpr rfl, decide_eq_true rfl⟩⟩, dR_in k g⟩
  · rw [List.mem_singleton.mp hr]
    exact rooB_iff.mpr ⟨by omega, by show ((f : Nat) : Int) < ((N : Nat) : Int); omega⟩
  · obtain ⟨k, hk, rfl⟩ := List.mem_map.mp hr
    have := List.mem_range.mp hk
    exact rooB_iff.mpr ⟨by omega, by show ((k : Nat) : Int) < ((N : Nat) : Int); omega⟩
  · exact List.Pairwise.map _ (fun a b (h : a ≠ b) e => h (Int.ofNat.inj e)) List.nodup_range
  · show ((List.range N).map fun k => ((k : Nat) : Int)).length ≤ 100
    rw [List.length_map, List.length_range]
    omega
theorem ring_LM : LM (ringM N c g f) := by
  have ok := ring_ok h5 h8 hf hc (g := g)
  have fw : few (ringM N c g f).as := few_len (by rw [show (ringM N c g f).as.length = N from ring_len N c g]; omega)
  have ga := (GA.of ok fw).srt
  have es : (ringM N c g f).srt.fs = [((f : Nat) : Int)] := List.mergeSort_singleton _
  have hrf : rooB (ringM N c g f).n ((f : Nat) : Int) = true := ok.2.2.2.2.2.2.1 _ List.mem_cons_self
  refine ⟨ok, ⟨ga, ok.2.1, fun d hd => small_strOk d (letB_small ok.2.2.1 d hd), ?_, by rw [es]; exact (by decide : 1 ≤ 100)⟩, ⟨ok.2.1, ga.room, ga.few, ga.len, fun r hr => ?_, by rw [es]; exact (by decide : 1 ≤ 8), ok.2.1, by rw [es]; exact List.nodup_cons.mpr ⟨(fun z => nomatch z), .nil⟩⟩⟩
  · rw [es]
    refine ⟨fun t ht => ?_, six_of (by rw [List.length_map]; exact (by decide : 1 ≤ 100))⟩
    rw [List.mem_singleton.mp ht]
    exact ⟨hrf, ⟨Int.le_refl _, (by decide : (0 : Int) ≤ 99)⟩, ⟨Int.le_refl _, (by decide : (0 : Int) ≤ 99)⟩⟩
  · rw [es] at hr
    rw [List.mem_singleton.mp hr]
    exact hrf
omit hf hc
/-- cents after j steps -/
def cntR (N g f j : Nat) : Nat := (j + (N - 1 - (g + N - f) % N)) / N
def rmR (N f j : Nat) : Nat := (f + j) % N
theorem cnt_next (hf : f < N) (hg : g < N) (j : Nat) : cntR N g f (j + 1) = cntR N g f j + (if rmR N f j = g then 1 else 0) := by
  unfold cntR rmR
  have : N = 5 ∨ N = 6 ∨ N = 7 ∨ N = 8 := by omega
  rcases this with rfl | rfl | rfl | rfl <;> split <;> omega
theorem rm_next (j : Nat) : rmR N f (j + 1) = (rmR N f j + 1) % N := by
  unfold rmR
  have : N = 5 ∨ N = 6 ∨ N = 7 ∨ N = 8 := by omega
  rcases this with rfl | rfl | rfl | rfl <;> omega
theorem rm_inj (hf : f < N) (hg : g < N) {i j : Nat} (h1 : rmR N f i = rmR N f j) (h2 : cntR N g f i = cntR N g f j) : i = j := by
  unfold cntR at h2
  unfold rmR at h1
  have : N = 5 ∨ N = 6 ∨ N = 7 ∨ N = 8 := by omega
  rcases this with rfl | rfl | rfl | rfl <;> omega
theorem cnt_le (hf : f < N) (hg : g < N) {L j : Nat} : cntR N g f j ≤ L ↔ j < (g + N - f) % N + 1 + N * L := by
  unfold cntR
  have : N = 5 ∨ N = 6 ∨ N = 7 ∨ N = 8 := by omega
  rcases this with rfl | rfl | rfl | rfl <;> omega
theorem cnt_zero : cntR N g f 0 = 0 := by
  unfold cntR
  have : N = 5 ∨ N = 6 ∨ N = 7 ∨ N = 8 := by omega
  rcases this with rfl | rfl | rfl | rfl <;> omega
/-- the pair after j steps -/
def prR (N g f j : Nat) : Pr := ([((rmR N f j : Nat) : Int)], [(((rmR N f j : Nat) : Int), ((cntR N g f j : Nat) : Int), 0)])
theorem ring_steps {r : Nat} (hr : r < N) : stepsOf (sortA (ringA N c g)) ((r : Nat) : Int) (Sx [c]) = [(dR r g, (((r + 1) % N : Nat) : Int))] := by
  have e : (sortA (ringA N c g)).filter (fun a => decide (a.1 = ((r : Nat) : Int)) && decide (a.2.1 = Sx [c])) = [(((r : Nat) : Int), Sx [c], dR r g, (((r + 1) % N : Nat) : Int))] := by
    have nd : (sortA (ringA N c g)).Nodup := (List.mergeSort_perm ..).nodup_iff.mpr (ring_nd N c g)
    refine one_of (List.Pairwise.filter _ nd) fun x => ?_
    rw [List.mem_filter, mem_sA, ring_mem]
    constructor
    · rintro ⟨⟨k, hk, rfl⟩, h⟩
      simp only [Bool.and_eq_true, decide_eq_true_eq] at h
      have : k = r := by omega
      rw [this]
    · rintro rfl
      exact ⟨⟨r, hr, rfl⟩, by simp⟩
  unfold stepsOf
  rw [e]
  rfl
theorem ring_on {r : Nat} (hr : r < N) : onL (sortA (ringA N c g)) (Sx [c]) [((r : Nat) : Int)] = [(((r + 1) % N : Nat) : Int)] := by
  have hlt : (r + 1) % N < N := Nat.mod_lt _ (by omega)
  refine one_of (List.Pairwise.filter _ (by decide : all8.Nodup)) fun x => ?_
  unfold onL
  rw [List.mem_filter, onB_iff]
  constructor
  · rintro ⟨_, a, ha, h1, _, h3⟩
    obtain ⟨k, hk, rfl⟩ := ring_mem.mp (mem_sA.mp ha)
    have : k = r := Int.ofNat.inj (List.mem_singleton.mp h1)
    rw [← h3, this]
  · rintro rfl
    refine ⟨?_, _, mem_sA.mpr (ring_mem.mpr ⟨r, hr, rfl⟩), List.mem_singleton.mpr rfl, rfl, rfl⟩
    unfold all8
    simp only [List.mem_cons, List.not_mem_nil, or_false]
    omega
theorem ring_nx (hf : f < N) (hg : g < N) (L j : Nat) : nxP (ringM N c g f).srt ((L : Nat) : Int) c (prR N g f j) = if cntR N g f (j + 1) ≤ L then prR N g f (j + 1) else ([((rmR N f (j + 1) : Nat) : Int)], []) := by
  have hr : rmR N f j < N := Nat.mod_lt _ (by omega)
  have e1 : leadsT (sortA (ringA N c g)) (Sx [c]) [(((rmR N f j : Nat) : Int), ((cntR N g f j : Nat) : Int), 0)] = [(((rmR N f (j + 1) : Nat) : Int), ((cntR N g f (j + 1) : Nat) : Int), 0)] := by
    unfold leadsT
    rw [List.flatMap_cons, List.flatMap_nil, List.append_nil, ring_steps h5 h8 hr]
    rw [List.map_singleton, go_dR, ← rm_next h5 h8, ← cnt_next h5 h8 hf hg]
  have e2 : onL (sortA (ringA N c g)) (Sx [c]) [((rmR N f j : Nat) : Int)] = [((rmR N f (j + 1) : Nat) : Int)] := by
    rw [ring_on h5 h8 hr, ← rm_next h5 h8]
  show (onL (sortA (ringA N c g)) (Sx [c]) [((rmR N f j : Nat) : Int)], nxB (sortA (ringA N c g)) ((L : Nat) : Int) c [(((rmR N f j : Nat) : Int), ((cntR N g f j : Nat) : Int), 0)]) = _
  rw [e2]
  by_cases h : cntR N g f (j + 1) ≤ L
  · rw [if_pos h]
    have : capT ((L : Nat) : Int) (leadsT (sortA (ringA N c g)) (Sx [c]) [(((rmR N f j : Nat) : Int), ((cntR N g f j : Nat) : Int), 0)]) = [(((rmR N f (j + 1) : Nat) : Int), ((cntR N g f (j + 1) : Nat) : Int), 0)] := by
      rw [e1]
      unfold capT
      refine List.filter_eq_self.mpr fun t ht => ?_
      rw [List.mem_singleton.mp ht, decide_eq_true_eq]
      dsimp only
      split <;> omega
    rw [nxB_eq (by rw [this]; exact leastR_one _)]
    rfl
  · rw [if_neg h]
    have : capT ((L : Nat) : Int) (leadsT (sortA (ringA N c g)) (Sx [c]) [(((rmR N f j : Nat) : Int), ((cntR N g f j : Nat) : Int), 0)]) = [] := by
      rw [e1]
      unfold capT
      refine List.filter_eq_nil_iff.mpr fun t ht => ?_
      rw [List.mem_singleton.mp ht, decide_eq_true_eq]
      dsimp only
      split <;> omega
    rw [nxB_eq (by rw [this]; exact leastR_nil)]
theorem ring_fl (hf : f < N) (j : Nat) : flP (ringM N c g f).srt (prR N g f j) = false ∧ flP (ringM N c g f).srt ([((rmR N f j : Nat) : Int)], []) = true := by
  have hr : rmR N f j < N := Nat.mod_lt _ (by omega)
  have hm : ((rmR N f j : Nat) : Int) ∈ (ringM N c g f).srt.gs := by
    show _ ∈ sortI _
    exact (List.mergeSort_perm ..).mem_iff.mpr (List.mem_map.mpr ⟨_, List.mem_range.mpr hr, rfl⟩)
  unfold flP hasL wellB prR
  simp [hm]
/-- the search goes round until it fails -/
def rowR (N c g f k : Nat) : List PW' := (List.range (k + 1)).map fun j => (prR N g f j, List.replicate j c)
theorem ring_sr (hf : f < N) (hg : g < N) {L m : Nat} (hm : (g + N - f) % N + 1 + N * L ≤ m) : ∀ k, k < (g + N - f) % N + 1 + N * L → srM (ringM N c g f).srt ((L : Nat) : Int) m k = .go (rowR N c g f k)
  | 0, _ => by
    unfold srM
    show PS.go [(((ringM N c g f).srt.fs, (ringM N c g f).srt.fs.map zr), [])] = _
    rw [show (ringM N c g f).srt.fs = [((f : Nat) : Int)] from List.mergeSort_singleton _]
    have e0 : prR N g f 0 = ([((f : Nat) : Int)], [(((f : Nat) : Int), 0, 0)]) := by
      unfold prR
      rw [cnt_zero h5 h8, show rmR N f 0 = f from Nat.mod_eq_of_lt hf]
      rfl
    show _ = PS.go [(prR N g f 0, [])]
    rw [e0]
    rfl
  | k + 1, hk => by
    have ih := ring_sr hf hg hm k (by omega)
    have hq : (rowR N c g f k)[k]? = some (prR N g f k, List.replicate k c) := by
      unfold rowR
      rw [List.getElem?_map, List.getElem?_range (by omega)]
      rfl
    have e := srP_next ih hq
    have hin : nxP (ringM N c g f).srt ((L : Nat) : Int) c (prR N g f k) = prR N g f (k + 1) := by
      rw [ring_nx h5 h8 hf hg, if_pos ((cnt_le h5 h8 hf hg).mpr hk)]
    have hni : prR N g f (k + 1) ∉ (rowR N c g f k).map (·.1) := fun hx => by
      unfold rowR at hx
      rw [List.map_map] at hx
      obtain ⟨i, hi, e⟩ := List.mem_map.mp hx
      have hi := List.mem_range.mp hi
      have e : prR N g f i = prR N g f (k + 1) := e
      unfold prR at e
      simp only [Prod.mk.injEq, List.cons.injEq, and_true] at e
      have := rm_inj h5 h8 hf hg (i := i) (j := k + 1) (by omega) (by omega)
      omega
    have hl : (rowR N c g f k).length = k + 1 := by
      unfold rowR
      rw [List.length_map, List.length_range]
    show srP _ _ _ _ _ (k + 1) = _
    refine e.trans ?_
    show rowP _ _ _ _ _ [c] _ = _
    have hs : stepP (nxP (ringM N c g f).srt ((L : Nat) : Int)) (flP (ringM N c g f).srt) m (prR N g f k) (List.replicate k c) (rowR N c g f k) c = .go (rowR N c g f (k + 1)) := by
      unfold stepP
      rw [hin, if_neg hni, if_neg (by rw [(ring_fl h5 h8 hf (k + 1)).1]; decide), if_neg (by rw [hl]; omega)]
      congr 1
      unfold rowR
      rw [List.range_succ (n := k + 1), List.map_append]
      congr 1
      rw [List.map_singleton, List.replicate_succ']
    show (match stepP (nxP (ringM N c g f).srt ((L : Nat) : Int)) (flP (ringM N c g f).srt) m (prR N g f k) (List.replicate k c) (rowR N c g f k) c with | .go W' => rowP _ _ _ _ _ [] W' | r => r) = _
    rw [hs]
    rfl
theorem ring_hit (hf : f < N) (hg : g < N) {L m : Nat} (hm : (g + N - f) % N + 1 + N * L ≤ m) : srM (ringM N c g f).srt ((L : Nat) : Int) m ((g + N - f) % N + 1 + N * L) = .hit (List.replicate ((g + N - f) % N + 1 + N * L) c) (rowR N c g f ((g + N - f) % N + N * L)) := by
  obtain ⟨k, ek⟩ : ∃ k, k = (g + N - f) % N + N * L := ⟨_, rfl⟩
  have ek1 : (g + N - f) % N + 1 + N * L = k + 1 := by omega
  have ih := ring_sr h5 h8 (c := c) hf hg hm k (by omega)
  have hq : (rowR N c g f k)[k]? = some (prR N g f k, List.replicate k c) := by
    unfold rowR
    rw [List.getElem?_map, List.getElem?_range (by omega)]
    rfl
  have e := srP_next ih hq
  have hin : nxP (ringM N c g f).srt ((L : Nat) : Int) c (prR N g f k) = ([((rmR N f (k + 1) : Nat) : Int)], []) := by
    rw [ring_nx h5 h8 hf hg, if_neg (fun z => by have := (cnt_le h5 h8 hf hg).mp z; omega)]
  have hni : (([((rmR N f (k + 1) : Nat) : Int)], []) : Pr) ∉ (rowR N c g f k).map (·.1) := fun hx => by
    unfold rowR at hx
    rw [List.map_map] at hx
    obtain ⟨i, hi, e⟩ := List.mem_map.mp hx
    have e : prR N g f i = ([((rmR N f (k + 1) : Nat) : Int)], []) := e
    unfold prR at e
    cases (Prod.mk.inj e).2
  rw [ek1, ← ek]
  show srP _ _ _ _ _ (k + 1) = _
  refine e.trans ?_
  show rowP _ _ _ _ _ [c] _ = _
  have hs : stepP (nxP (ringM N c g f).srt ((L : Nat) : Int)) (flP (ringM N c g f).srt) m (prR N g f k) (List.replicate k c) (rowR N c g f k) c = .hit (List.replicate (k + 1) c) (rowR N c g f k) := by
    unfold stepP
    rw [hin, if_neg hni, if_pos (ring_fl h5 h8 hf (k + 1)).2, List.replicate_succ']
  show (match stepP (nxP (ringM N c g f).srt ((L : Nat) : Int)) (flP (ringM N c g f).srt) m (prR N g f k) (List.replicate k c) (rowR N c g f k) c with | .go W' => rowP _ _ _ _ _ [] W' | r => r) = _
  rw [hs]
end
end Onp
set_option autoImplicit false
/-! the numbers of list(range(n)) -/
namespace Onp
open PySem PySem.Spec PyProof.Rows L2
theorem rgV_at {n i : Nat} {x : V} (h : (rgV 0 (n : Nat))[i]? = some x) : i < n ∧ x = .int (i : Nat) := by
  unfold rgV at h
  rw [List.getElem?_map] at h
  have hi : i < n := by
    rcases Nat.lt_or_ge i n with q | q
    · exact q
    · rw [List.getElem?_eq_none (by rw [List.length_range]; omega)] at h
      cases h
  rw [List.getElem?_range (by omega)] at h
  have e := Option.some.inj h
  exact ⟨hi, by rw [← e]; simp⟩
theorem rgV_len (n : Nat) : (rgV 0 (n : Nat)).length = n := by rw [rgV_length]; omega
def rgI (n : Nat) : List Int := (List.range n).map fun i => ((i : Nat) : Int)
theorem rgI_V (n : Nat) : rgV 0 (n : Nat) = (rgI n).map V.int := by
  refine List.ext_getElem? fun i => ?_
  rcases Nat.lt_or_ge i n with h | h
  · obtain ⟨x, hx⟩ : ∃ x, (rgV 0 (n : Nat))[i]? = some x := ⟨_, List.getElem?_eq_getElem (by rw [rgV_len]; exact h)⟩
    rw [hx, (rgV_at hx).2]
    unfold rgI
    rw [List.getElem?_map, List.getElem?_map, List.getElem?_range h]
    rfl
  · rw [List.getElem?_eq_none (by rw [rgV_len]; exact h), List.getElem?_eq_none (by simp [rgI]; exact h)]
theorem rgI_in {n : Nat} {r : Int} (h : r ∈ rgI n) : 0 ≤ r ∧ r < n := by
  obtain ⟨i, hi, rfl⟩ := List.mem_map.mp h
  have := List.mem_range.mp hi
  omega
theorem rgI_nd (n : Nat) : (rgI n).Nodup := by
  unfold rgI
  refine List.Pairwise.map _ (fun a b h => ?_) (List.nodup_range (n := n))
  intro e
  exact h (by omega)
theorem rgI_len (n : Nat) : (rgI n).length = n := by simp [rgI]
end Onp
set_option maxHeartbeats 16000000
set_option autoImplicit false
namespace Onp
open PySem PySem.Spec PyProof.Rows L2 HotX L2H LamX
abbrev sLaw : Stmt := topS 61
def NL : List Str := ["_law_script", "_law_bag_here", "_law_turn", "_law_rooms", "_law_limit", "_law_at", "_law_first", "_law_letter", "_law_arrows", "_law_m", "_law_word", "_law_rows", "_law_made_here", "_law_found", "_law_k"]
theorem scLaw : FnScope NL ["_law_script"] (defScope sLaw) := ⟨rfl, rfl, rfl, by decide +kernel, rfl, by decide +kernel, by decide +kernel⟩
def spLaw (K : PySem.W.Frag) : Sp := fun vs H Q _ => ∃ (a : Addr) (ns : List Int), vs = [.ref a] ∧ SqL K H a (ns.map V.int) ∧ ∀ H', Q (.bl true) H'
section
variable {P : Program} {w : World} {K : PySem.W.Frag} {mg : Str → Option Value} {base : Heap}
theorem ok_law {f C fI iS iW iT cS cW cT tD fB fPu fSm fLe fMd fAl fIl fIa fNa fNr fSb fNd fSp fSz fLo fFb fLd fEw fLz fLst fLL fLon fLbo fLg fLw fFp fNp fHl fFa fSr fNm fRo fPo fLf fPs fNb fFd fEn fLt fFs fLs fMs fBr : Addr} {fd fdI fdIS fdIW fdIT fdB fdPu fdSm fdLe fdMd fdAl fdIl fdIa fdNa fdNr fdSb fdNd fdSp fdSz fdLo fdFb fdLd fdEw fdLz fdLst fdLL fdLon fdLbo fdLg fdLw fdFp fdNp fdHl fdFa fdSr fdNm fdRo fdPo fdLf fdPs fdNb fdFd fdEn fdLt fdFs fdLs fdMs fdBr : FuncData} {dvs : List V} {kws : List (Str × V)} {tk : Tok}
    (F : Fun K "law" "law" sLaw f fd)
    (B : FnM K mg fB fdB "_law_bag" sBag ["_law_script"])
    (Pu : FnM K mg fPu fdPu "_law_pull" sPull ["_law_bag_here", "_law_many"])
    (Sm : FnM K mg fSm fdSm "_law_same" sSame ["_law_found", "_law_due"])
    (Le : FnM K mg fLe fdLe "_law_letters" sLett ["_law_bag_here", "_law_most_z"])
    (Md : FnM K mg fMd fdMd "_law_made" sMade ["_law_m"])
    (Al : FnM K mg fAl fdAl "are_letters" sAreL ["text"])
    (Il : FnM K mg fIl fdIl "is_letter" sIsL ["text", "letters"])
    (Ia : FnM K mg fIa fdIa "is_arrow" sIsA ["arrow", "rooms", "letters"])
    (Na : FnM K mg fNa fdNa "need_arrows" sNeedA ["arrows", "rooms", "letters"])
    (Nr : FnM K mg fNr fdNr "need_rooms" sNeedR ["some", "rooms"])
    (Sb : FnM K mg fSb fdSb "steps_by_start" sStepsB ["arrows"])
    (Nd : FnM K mg fNd fdNd "need_deed" sNeedD ["deed"])
    (Sp : FnM K mg fSp fdSp "spend" sSpend ["purses", "deed"])
    (Sz : FnM K mg fSz fdSz "need_size" sNeedSz ["size"])
    (Lo : FnM K mg fLo fdLo "least_ones" sLeast ["triples"])
    (Fb : FnM K mg fFb fdFb "first_board" sFirstB ["machine"])
    (Ld : FnM K mg fLd fdLd "leads" sLeads ["machine", "board", "letter"])
    (Ew : FnM K mg fEw fdEw "ends_well" sEnds ["machine", "board"])
    (Lz : FnM K mg fLz fdLz "_law_steps" sLSteps ["_law_m", "_law_room", "_law_letter"])
    (Lst : FnM K mg fLst fdLst "_law_spent" sSpent ["_law_purses", "_law_deed"])
    (LL : FnM K mg fLL fdLL "_law_least" sLLeast ["_law_triples"])
    (Lon : FnM K mg fLon fdLon "_law_on" sLOn psLo)
    (Lbo : FnM K mg fLbo fdLbo "_law_board_on" sLBOn psLbo)
    (Lg : FnM K mg fLg fdLg "_law_begin" sLBegin ["_law_m"])
    (Lw : FnM K mg fLw fdLw "_law_well" sLWell ["_law_m", "_law_board"])
    (Fp : FnM K mg fFp fdFp "first_pair" sFirstP ["machine"])
    (Np : FnM K mg fNp fdNp "next_pair" sNextP psNp)
    (Hl : FnM K mg fHl fdHl "has_last" sHasL ["machine", "rooms"])
    (Fa : FnM K mg fFa fdFa "fails" sFails ["machine", "pair"])
    (Sr : FnM K mg fSr fdSr "searched_pairs" sSrch psSr)
    (Nm : FnM K mg fNm fdNm "need_most" sNeedM ["most"])
    (Ro : FnM K mg fRo fdRo "_law_rooms_on" sLRon psRo)
    (Po : FnM K mg fPo fdPo "_law_pair_on" sLPon NPo)
    (Lf : FnM K mg fLf fdLf "_law_fails" sLFails ["_law_m", "_law_pair"])
    (Ps : FnM K mg fPs fdPs "_law_pairs" sLPs psLps)
    (Nb : FnK K mg fNb fdNb "next_board" sNextB)
    (FFd : FunD K "first_dear" "first_dear" (defArgs sFirstD) (defBody sFirstD) (defScope sFirstD) [] [("most", .int 1000)] fFd fdFd) (gFd : mg "first_dear" = some (.ref fFd))
    (FEn : FunD K "is_enough" "is_enough" (defArgs sIsEn) (defBody sIsEn) (defScope sIsEn) [] [("most", .int 1000)] fEn fdEn) (gEn : mg "is_enough" = some (.ref fEn))
    (T : MkM K mg C fdI fI dvs kws)
    (FLt : Fun K "letters" "Machine.letters" sMLets fLt fdLt) (bLt : Binds K fdLt ["self"] []) (mLt : Meth K C "letters" fLt)
    (FFs : Fun K "firsts" "Machine.firsts" sMFsts fFs fdFs) (bFs : Binds K fdFs ["self"] []) (mFs : Meth K C "firsts" fFs)
    (FLs : Fun K "lasts" "Machine.lasts" sMLsts fLs fdLs) (bLs : Binds K fdLs ["self"] []) (mLs : Meth K C "lasts" fLs)
    (FMs : Fun K "steps" "Machine.steps" sMSteps fMs fdMs) (bMs : Binds K fdMs NSt []) (mMs : Meth K C "steps" fMs)
    (FBr : Fun K "rooms_behind" "Machine.rooms_behind" sBehR fBr fdBr) (bBr : Binds K fdBr psBr []) (mBr : Meth K C "rooms_behind" fBr)
    (SS : MkBadSize K mg cS iS fdIS) (SW : MkBadWord K mg cW iW fdIW) (ST : MkTooWide K mg cT iT fdIT) (gP : mg "MOST_PAIRS" = some (.int 1000 tk))
    (Cs : CsM K mg tD) (Bl : Blt mg) (B1 : Bl1 mg) (B2 : Bl2 mg) (mr : mg "range" = none) (ma : mg "any" = none) (mm : mg "max" = none) :
    FnOk P w K mg base CX0 12 f fd ["_law_script"] (spLaw K) := by
  have GB : FnOk P w K mg base CX0 11 fB fdB ["_law_script"] (spBag K) := ok_bag B.F Bl.list
  have GPu : FnOk P w K mg base CX0 11 fPu fdPu ["_law_bag_here", "_law_many"] (spPull K) := ok_pull Pu.F Bl.len
  have GLe : FnOk P w K mg base CX0 11 fLe fdLe ["_law_bag_here", "_law_most_z"] spLett := ok_lett Le.F Pu Bl.len mr
  have GSm : FnOk P w K mg base CX0 11 fSm fdSm ["_law_found", "_law_due"] (spSame K 3) := ok_same Sm.F Sm.b Sm.g Bl 3 7
  have GI9 : FnOk P w K mg base CX0 9 fI fdI psMI (spMInit K C) := ok_minit T.F Al Il Ia Na Nr Sb B1 B2 Cs T.cl
  have GMd : FnOk P w K mg base CX0 11 fMd fdMd ["_law_m"] (spMade K C) := ok_made Md.F T GI9 Bl.list
  have GNb : FnOk P w K mg base (L2N.CX P w) 4 fNb fdNb psNb (spNextB K C cS cW) := ok_nextB Nb.F T.cl SS SW Sz FLt bLt mLt Ld Lo FMs bMs mMs Sp Nd Nr Il Cs B1 Bl.list B2.sorted Bl.tuple mm
  have GBr : FnOk P w K mg base CX0 4 fBr fdBr psBr (spBehR K C) := ok_behR FBr T.cl FMs bMs mMs Nr Il B1 Bl.list B2.sorted Bl.tuple
  have GNp : FnOk P w K mg base (L2N.CX P w) 5 fNp fdNp psNp (spNextP K C) := ok_nextP Np.F T.cl Nb GNb bBr mBr GBr
  have GFp : FnOk P w K mg base CX0 5 fFp fdFp ["machine"] (spFirstP K C) := ok_firstP Fp.F T.cl Fb FFs bFs mFs Bl.list Bl.tuple
  have GHl : FnOk P w K mg base CX0 4 fHl fdHl ["machine", "rooms"] (spHasL K C) := ok_hasL Hl.F FLs bLs mLs T.cl Bl.list ma
  have GEw : FnOk P w K mg base CX0 4 fEw fdEw ["machine", "board"] (spEnds K C) := ok_ends Ew.F FLs bLs mLs T.cl Bl.list ma
  have GFa : FnOk P w K mg base CX0 5 fFa fdFa ["machine", "pair"] (spFails K C) := ok_fails Fa.F Hl GHl Ew GEw
  have GSr : FnOk P w K mg base (L2N.CX P w) 6 fSr fdSr psSr (spSrch P w K C cT) := ok_srch (k := 3) Sr.F T.cl ST Fp GFp Np GNp Fa GFa FLt bLt mLt Bl.len
  have GFd7 : FnOk P w K mg base (L2N.CX P w) 7 fFd fdFd psFd (spFirstD K C cS cT (fun z => .str (Sx z)) .non) := ok_firstD (k := 3) FFd SS Sz Nm Sr GSr gP
  have GFd : FnOk P w K mg base (L2N.CX P w) 11 fFd fdFd psFd (spFirstD K C cS cT (fun z => .str (Sx z)) .non) := GFd7.mono (by decide)
  have GEn : FnOk P w K mg base (L2N.CX P w) 11 fEn fdEn psFd (spFirstD K C cS cT (fun _ => .bl false) (.bl true)) := (ok_isEn FEn FFd gFd GFd7).mono (by decide)
  have GRo : FnOk P w K mg base CX0 9 fRo fdRo psRo (spLRon K) := ok_lron Ro.F B2.sorted B1.set
  have GLbo : FnOk P w K mg base CX0 9 fLbo fdLbo psLbo (spLBOn K) := ok_lbon Lbo.F Lon Lz Lst LL B2.sorted B1.set Bl.tuple Bl.int
  have GPo : FnOk P w K mg base CX0 10 fPo fdPo NPo (spLPon K) := ok_lpon Po.F Ro GRo Lbo GLbo Bl.tuple
  have GLw : FnOk P w K mg base CX0 9 fLw fdLw ["_law_m", "_law_board"] (spLWell K) := ok_lwell Lw.F ma
  have GLf : FnOk P w K mg base CX0 10 fLf fdLf ["_law_m", "_law_pair"] (spLFails K) := ok_lfails Lf.F Lw GLw ma
  have GLg : FnOk P w K mg base CX0 10 fLg fdLg ["_law_m"] (spLBegin K) := ok_lbegin Lg.F B2.sorted Bl.tuple
  have GPs : FnOk P w K mg base CX0 11 fPs fdPs psLps (spLPs K) := ok_lps Ps.F Lg GLg Po GPo Lf GLf Bl.len B2.sorted Bl.tuple
  obtain ⟨ggF, KBFd⟩ := kb_firstD FFd
  obtain ⟨dsF, vDFd, bDFd⟩ := kb_firstD0 FFd
  obtain ⟨dsE, vDEn, bDEn⟩ := kb_isEn0 FEn
  refine F.ok scLaw (fun vs H Q E h => ?_) (fun cdv A outer s H vs Q E hr h => ?_)
  · obtain ⟨a, ns, rfl, _⟩ := h
    rfl
  · obtain ⟨a, ns, rfl, hS, q⟩ := h
    refine ⟨_, (pss_cons (ps_set (i := 1) scLaw.nd rfl (.inl rfl) (pe_call GB hr (by rfl) B.g B.F.kp B.b .nil pass0 (pa_cons (pv 0) pa_nil)))
      (pss_cons (ps_for PassesOwn.never rfl (pi_range1 (by rfl) mr (pa_cons pe_int pa_nil)) (pg_name (i := 2) scLaw.nd rfl (.inl rfl))
        (pss_cutM (ps_asg (pe_tup (pa_cons (pe_op op_add pe_int (pe_call GPu hr (by rfl) Pu.g Pu.F.kp Pu.b .nil pass0 (pa_cons (pv 1) (pa_cons pe_int pa_nil)))) (pa_cons (pe_op op_add pe_int (pe_call GPu hr (by rfl) Pu.g Pu.F.kp Pu.b .nil pass0 (pa_cons (pv 1) (pa_cons pe_int pa_nil)))) pa_nil))) (pg_tup rfl (pgs_cons (pg_name (i := 3) scLaw.nd rfl (.inr rfl)) (pgs_cons (pg_name (i := 4) scLaw.nd rfl (.inl rfl)) pgs_nil))))
      (pss_cutM (ps_asg (pe_tup (pa_cons (pe_call GPu hr (by rfl) Pu.g Pu.F.kp Pu.b .nil pass0 (pa_cons (pv 1) (pa_cons (pv 3) pa_nil))) (pa_cons (pe_call GPu hr (by rfl) Pu.g Pu.F.kp Pu.b .nil pass0 (pa_cons (pv 1) (pa_cons (pv 3) pa_nil))) (pa_cons (pe_call GLe hr (by rfl) Le.g Le.F.kp Le.b .nil pass0 (pa_cons (pv 1) (pa_cons pe_int pa_nil))) pa_nil)))) (pg_tup rfl (pgs_cons (pg_name (i := 5) scLaw.nd rfl (.inr rfl)) (pgs_cons (pg_name (i := 6) scLaw.nd rfl (.inl rfl)) (pgs_cons (pg_name (i := 7) scLaw.nd rfl (.inr rfl)) pgs_nil)))))
      (pss_cutM (ps_setLc (i := 8) (own := [("_law_k", 14)]) (g := (gName 14)) (tt := tYes) (te := (tTup (tCons (tVar 14) (tCons (tVar 7) (tCons (tIf (tTest (tOp rEq (tVar 14) (tVar 5))) (tC (.str "cent")) (tC (.str "keep"))) (tCons (tOp (rI (fun _ j => 0 < j) fun i j => .int (i % j)) (tOp (rI0 fun i j => .int (i + j)) (tVar 14) (tC (.int 1))) (tVar 3)) tNil)))))) rfl scLaw.nd rfl rfl (sw_true rfl rfl rfl (by decide +kernel))
          (pi_range1 (by rfl) mr (pa_cons (pv 3) pa_nil)) (blkOk_by (own := [("_law_k", 14)]) (N := NL) (sc := defScope sLaw) (by decide +kernel)) (fun _ _ _ _ _ => (pg_name (i := 14) scLaw.nd rfl (.inl rfl)))
          (fun _ _ _ _ _ => pts_nil) (fun _ _ _ _ _ => (pe_tup (pa_cons (pv 14) (pa_cons (pv 7) (pa_cons (pe_ifExp (pt_cmpR op_eq (pv 14) (pv 5) (nomark _)) pe_str pe_str) (pa_cons (pe_op op_mod (pe_op op_add (pv 14) pe_int) (pv 3)) pa_nil)))))))
      (pss_cutM (ps_set (i := 9) scLaw.nd rfl (.inl rfl) (pe_tup (pa_cons (pv 3) (pa_cons (pv 7) (pa_cons (pv 8) (pa_cons (pe_lst (pa_cons (pv 6) pa_nil)) (pa_cons (pe_listRg rfl (by rfl) Bl.list (prg_1 (by rfl) mr (pv 3))) pa_nil)))))))
      (pss_cutM (ps_asg (pe_call GPs hr (by rfl) Ps.g Ps.F.kp Ps.b .nil pass0 (pa_cons (pv 9) (pa_cons (pv 4) (pa_cons pe_int pa_nil)))) (pg_tup rfl (pgs_cons (pg_name (i := 10) scLaw.nd rfl (.inl rfl)) (pgs_cons (pg_name (i := 11) scLaw.nd rfl (.inl rfl)) pgs_nil))))
      (pss_cutM (ps_set (i := 12) scLaw.nd rfl (.inl rfl) (pe_call GMd hr (by rfl) Md.g Md.F.kp Md.b .nil pass0 (pa_cons (pv 9) pa_nil)))
      (pss_cutM (ps_if (pt_cmpR op_ne (pv 10) (pe_op op_mulS (pv 7) (pe_op op_add (pe_op op_add (pe_op op_mod (pe_op op_sub (pv 5) (pv 6)) (pv 3)) pe_int) (pe_op op_mul (pv 3) (pv 4)))) (nomark _)) pss_never pss_nil)
      (pss_cutM (ps_set (i := 13) scLaw.nd rfl (.inl rfl) (pe_lst (pa_cons (pe_call (E := E0) GFd hr (by rfl) gFd FFd.kp bDFd vDFd passN (pa_cons (pv 12) (pa_cons (pv 4) pa_nil))) (pa_cons (pe_callN (E := E0) GFd hr (by rfl) gFd FFd.kp KBFd passN (pa_cons (pv 12) (pa_cons (pv 4) pa_nil)) (pk_cons (pe_callB call_len_seq (by rfl) Bl.len PySem.boot_len (pa_cons (pv 11) pa_nil)) pk_nil)) (pa_cons (pe_call (E := E0) GEn hr (by rfl) gEn FEn.kp bDEn vDEn passN (pa_cons (pv 12) (pa_cons (pv 4) pa_nil))) pa_nil)))))
      (pss_one (ps_if (pt_not (pt_val (pe_call GSm hr (by rfl) Sm.g Sm.F.kp Sm.b .nil pass0 (pa_cons (pv 13) (pa_cons (pe_lst (pa_cons (pv 10) (pa_cons (pv 10) (pa_cons pe_bl pa_nil)))) pa_nil))))) pss_never pss_nil)))))))))))
      (pss_one (ps_ret pe_bl)))), ?_⟩
    have hbig : 50000 ≤ sizeLine := by decide
    refine ⟨_, rfl, a, ns, rfl, hS, fun g H1 nb sm1 Bg1 => ?_⟩
    refine ⟨2, rfl, by decide, by decide, for_range (lo := 0) (n := 2) (fun i σ H' => ∃ y2 y3 y4 y5 y6 y7 y8 y9 y10 y11 y12 y13 : Option V, σ = [some (.ref a), some (.ref g.b), y2, y3, y4, y5, y6, y7, y8, y9, y10, y11, y12, y13, none] ∧ Bg H' g) ⟨_, _, _, _, _, _, _, _, _, _, _, _, rfl, Bg1⟩ ?_ ?_⟩
    · rintro i σ H2 hi ⟨y2, y3, y4, y5, y6, y7, y8, y9, y10, y11, y12, y13, rfl, Bg2⟩
      -- how many rooms, how much
      refine ⟨fun σ' H' => ∃ N L : Nat, σ' = [some (.ref a), some (.ref g.b), some (.int (0 + (i : Int))), some (.int (N : Nat)), some (.int (L : Nat)), y5, y6, y7, y8, y9, y10, y11, y12, y13, none] ∧ (5 ≤ N ∧ N ≤ 8) ∧ (6 ≤ L ∧ L ≤ 12) ∧ Bg H' g, ?_, ?_⟩
      · refine ⟨_, rfl, g, 4, rfl, by decide, by decide, Bg2, fun x H3 x0 x1 k3 Bg3 => ⟨_, _, rfl, rfl, ?_⟩⟩
        refine ⟨_, rfl, g, 7, rfl, by decide, by decide, Bg3, fun y H4 y0 y1 k4 Bg4 => ⟨_, _, rfl, rfl, ?_⟩⟩
        refine ⟨(by decide : 2 ≤ sizeLine), fun p np => ⟨p, _, rfl, SqT.of upd_same, rfl, _, _, rfl, _, _, rfl, rfl, ?_⟩⟩
        have s5 := same_upd (o := .tup [.int (5 + x), .int (6 + y)]) np
        refine ⟨5 + x.toNat, 6 + y.toNat, ?_, by omega, by omega, Bg4.same s5⟩
        rw [show (((5 + x.toNat : Nat) : Nat) : Int) = 5 + x by omega, show (((6 + y.toNat : Nat) : Nat) : Int) = 6 + y by omega]
        rfl
      clear Bg2
      rintro σ' H3 ⟨N, L, rfl, hN, hL, Bg3⟩
      -- where, from where, by which letter
      refine ⟨fun σ' H' => ∃ gg ff c : Nat, σ' = [some (.ref a), some (.ref g.b), some (.int (0 + (i : Int))), some (.int (N : Nat)), some (.int (L : Nat)), some (.int (gg : Nat)), some (.int (ff : Nat)), some (.str (Sx [c])), y8, y9, y10, y11, y12, y13, none] ∧ gg < N ∧ ff < N ∧ c ∈ smallL ∧ Bg H' g, ?_, ?_⟩
      · refine ⟨_, rfl, _, rfl, g, ((N : Nat) : Int), rfl, by omega, by omega, Bg3, fun x H4 x0 x1 k4 Bg4 => ?_⟩
        refine ⟨_, rfl, _, rfl, g, ((N : Nat) : Int), rfl, by omega, by omega, Bg4, fun y H5 y0 y1 k5 Bg5 => ?_⟩
        refine ⟨_, rfl, g, 1, rfl, by decide, by decide, Bg5, fun ls H6 hls hl1 hlow k6 Bg6 => ?_⟩
        refine ⟨(by decide : 3 ≤ sizeLine), fun p np => ⟨p, _, rfl, SqT.of upd_same, rfl, _, _, rfl, _, _, rfl, _, _, rfl, rfl, ?_⟩⟩
        have s7 := same_upd (o := .tup [.int x, .int y, .str (Sx ls)]) np
        obtain ⟨c, rfl⟩ : ∃ c, ls = [c] := by
          have hp := letB_pos hls
          match ls, hp, hl1 with
          | [c], _, _ => exact ⟨c, rfl⟩
          | [], hp, _ => exact absurd hp.1 (by decide)
          | _ :: _ :: _, _, h => exact absurd h (by simp only [List.length_cons]; omega)
        refine ⟨x.toNat, y.toNat, c, ?_, by omega, by omega, letB_small hls c List.mem_cons_self, Bg6.same s7⟩
        rw [show ((x.toNat : Nat) : Int) = x by omega, show ((y.toNat : Nat) : Int) = y by omega]
        rfl
      clear Bg3
      rintro σ' H4 ⟨gg, ff, c, rfl, hg, hf, hc, Bg4⟩
      -- the arrows
      refine ⟨fun σ' H' => ∃ (la : Addr) (ps : List AR), σ' = [some (.ref a), some (.ref g.b), some (.int (0 + (i : Int))), some (.int (N : Nat)), some (.int (L : Nat)), some (.int (gg : Nat)), some (.int (ff : Nat)), some (.str (Sx [c])), some (.ref la), y9, y10, y11, y12, y13, none] ∧ H' la = some (.lst (rfs ps)) ∧ RowAt K H' ps ∧ ps.map (·.2) = ringA N c gg ∧ Bg H' g, ?_, ?_⟩
      · refine ⟨_, rfl, ((N : Nat) : Int), rfl, by omega, by omega, fun D nD => ?_⟩
        rw [show (((N : Nat) : Int)).toNat = N by omega]
        refine lc_range (lo := 0) (n := N) (fun j H' => Same H4 H' ∧ ∃ ps : List AR, H' D = some (.lst (rfs ps)) ∧ RowAt K H' ps ∧ ps.map (·.2) = (List.range j).map fun k => (((k : Nat) : Int), Sx [c], dR k gg, (((k + 1) % N : Nat) : Int))) ⟨same_upd nD, [], upd_same, (fun _ h => nomatch h), rfl⟩ (fun j H' hj ⟨sm, ps, hD, hR, he⟩ => ?_) (fun H5 ⟨s5, ps, hD, hR, he⟩ => ?_)
        · refine ⟨rfl, ?_⟩
          refine yes2 ?_
          have hpl : ps.length = j := by
            have := congrArg List.length he
            rw [List.length_map, List.length_map, List.length_range] at this
            exact this
          have fin : ∀ (t : Addr) (H6 : Hp), Same H' H6 → H6 t = some (.tup (aV (((j : Nat) : Int), Sx [c], dR j gg, (((j + 1) % N : Nat) : Int)))) → ∃ acc, H6 D = some (.lst acc) ∧ acc.length < sizeLine ∧ (Same H4 (upd H6 D (.lst (acc ++ [.ref t]))) ∧ ∃ ps : List AR, (upd H6 D (.lst (acc ++ [.ref t]))) D = some (.lst (rfs ps)) ∧ RowAt K (upd H6 D (.lst (acc ++ [.ref t]))) ps ∧ ps.map (·.2) = (List.range (j + 1)).map fun k => (((k : Nat) : Int), Sx [c], dR k gg, (((k + 1) % N : Nat) : Int))) := fun t H6 st et => by
            have hD6 := st _ _ hD
            have hk : ∀ x xs, SqT K H6 x xs → SqT K (upd H6 D (.lst (rfs ps ++ [.ref t]))) x xs := fun x xs q => sqT_upd hD6 (fun _ z => nomatch z) (fun _ _ z => nomatch z) q
            refine ⟨rfs ps, hD6, by unfold rfs; rw [List.length_map]; omega, same_putD (sm.trans st) nD, ps ++ [(t, (((j : Nat) : Int), Sx [c], dR j gg, (((j + 1) % N : Nat) : Int)))], ?_, fun p hp => ?_, ?_⟩
            · rw [upd_same]
              unfold rfs
              rw [List.map_append]
              rfl
            · rcases List.mem_append.mp hp with hp | hp
              · exact hk _ _ (sqT_same st (hR p hp))
              · rw [List.mem_singleton.mp hp]
                exact hk _ _ (SqT.of et)
            · rw [List.map_append, he, List.range_succ, List.map_append]
              rfl
          refine ⟨_, rfl, _, rfl, _, rfl, _, rfl, rfl, _, rfl, ?_⟩
          by_cases hjg : j = gg
          · refine itT (show V.int (0 + (j : Int)) = V.int ((gg : Nat) : Int) by rw [hjg, Int.zero_add]) ?_
            refine ⟨_, rfl, _, _, rfl, rfl, _, rfl, _, _, rfl, rfl, by omega, (by decide : 4 ≤ sizeLine), fun t nt => ?_⟩
            have ed : dR j gg = "cent" := if_pos hjg
            have ex : (0 + (j : Int) + 1) % ((N : Nat) : Int) = (((j + 1) % N : Nat) : Int) := by rw [Int.natCast_emod, show (0 + (j : Int) + 1) = ((j + 1 : Nat) : Int) by omega]
            have st := same_upd (o := .tup [.int (0 + (j : Int)), .str (Sx [c]), .str "cent", .int ((0 + (j : Int) + 1) % ((N : Nat) : Int))]) nt
            have et : (upd H' t (.tup [.int (0 + (j : Int)), .str (Sx [c]), .str "cent", .int ((0 + (j : Int) + 1) % ((N : Nat) : Int))])) t = some (.tup (aV (((j : Nat) : Int), Sx [c], dR j gg, (((j + 1) % N : Nat) : Int)))) := by
              rw [upd_same, ed, ex, Int.zero_add]
              rfl
            generalize upd H' t (.tup [.int (0 + (j : Int)), .str (Sx [c]), .str "cent", .int ((0 + (j : Int) + 1) % ((N : Nat) : Int))]) = H6 at st et
            exact fin t H6 st et
          · refine itF (fun z => hjg (by have := V.int.inj z; omega)) ?_
            refine ⟨_, rfl, _, _, rfl, rfl, _, rfl, _, _, rfl, rfl, by omega, (by decide : 4 ≤ sizeLine), fun t nt => ?_⟩
            have ed : dR j gg = "keep" := if_neg hjg
            have ex : (0 + (j : Int) + 1) % ((N : Nat) : Int) = (((j + 1) % N : Nat) : Int) := by rw [Int.natCast_emod, show (0 + (j : Int) + 1) = ((j + 1 : Nat) : Int) by omega]
            have st := same_upd (o := .tup [.int (0 + (j : Int)), .str (Sx [c]), .str "keep", .int ((0 + (j : Int) + 1) % ((N : Nat) : Int))]) nt
            have et : (upd H' t (.tup [.int (0 + (j : Int)), .str (Sx [c]), .str "keep", .int ((0 + (j : Int) + 1) % ((N : Nat) : Int))])) t = some (.tup (aV (((j : Nat) : Int), Sx [c], dR j gg, (((j + 1) % N : Nat) : Int)))) := by
              rw [upd_same, ed, ex, Int.zero_add]
              rfl
            generalize upd H' t (.tup [.int (0 + (j : Int)), .str (Sx [c]), .str "keep", .int ((0 + (j : Int) + 1) % ((N : Nat) : Int))]) = H6 at st et
            exact fin t H6 st et
        · exact ⟨D, ps, rfl, hD, hR, he, Bg4.same s5⟩
      clear Bg4
      rintro σ' H5 ⟨la, ps, rfl, hla, hR, he, Bg5⟩
      -- the machine
      obtain ⟨M, eM⟩ : ∃ M, M = ringM N c gg ff := ⟨_, rfl⟩
      have lm : LM M := by rw [eM]; exact ring_LM hN.1 hN.2 hf hc
      refine ⟨fun σ' H' => ∃ t : Addr, σ' = [some (.ref a), some (.ref g.b), some (.int (0 + (i : Int))), some (.int (N : Nat)), some (.int (L : Nat)), some (.int (gg : Nat)), some (.int (ff : Nat)), some (.str (Sx [c])), some (.ref la), some (.ref t), y10, y11, y12, y13, none] ∧ DrawnAt K H' t M ∧ Bg H' g, ?_, ?_⟩
      · refine ⟨_, rfl, _, rfl, _, rfl, _, rfl, (by decide : 1 ≤ sizeLine), fun lf nlf => ?_⟩
        have s1 := same_upd (o := .lst [V.int ((ff : Nat) : Int)]) nlf
        have elf : (upd H5 lf (.lst [V.int ((ff : Nat) : Int)])) lf = some (.lst [V.int ((ff : Nat) : Int)]) := upd_same
        generalize upd H5 lf (.lst [V.int ((ff : Nat) : Int)]) = H6 at s1 elf
        refine ⟨_, rfl, ((N : Nat) : Int), rfl, RgOk.of_le (by omega) (by omega) (by omega) (by omega), fun lg nlg => ?_⟩
        have s2 := same_upd (o := .lst (rgV 0 ((N : Nat) : Int))) nlg
        have elg : (upd H6 lg (.lst (rgV 0 ((N : Nat) : Int)))) lg = some (.lst (((List.range N).map fun k => ((k : Nat) : Int)).map V.int)) := by
          rw [upd_same]
          unfold rgV
          rw [List.map_map, Int.sub_zero, show (((N : Nat) : Int)).toNat = N by omega]
          congr 2
          refine List.map_congr_left fun k _ => ?_
          show V.int ((0 : Int) + (k : Nat)) = V.int ((k : Nat) : Int)
          rw [Int.zero_add]
        generalize upd H6 lg (.lst (rgV 0 ((N : Nat) : Int))) = H7 at s2 elg
        refine ⟨(by decide : 5 ≤ sizeLine), fun t nt => ?_⟩
        have s3 := same_upd (o := .tup [.int (N : Nat), .str (Sx [c]), .ref la, .ref lf, .ref lg]) nt
        have sA := s1.trans (s2.trans s3)
        refine ⟨t, rfl, ?_, Bg5.same sA⟩
        rw [eM]
        exact ⟨la, lf, lg, ps, upd_same, sA _ _ hla, fun p hp => sqT_same sA (hR p hp), he, s3 _ _ (s2 _ _ elf), s3 _ _ elg⟩
      clear hla hR he Bg5 ps
      rintro σ' H6 ⟨t, rfl, dM, Bg6⟩
      -- what the search by hand tells
      obtain ⟨J, eJ⟩ : ∃ J, J = (gg + N - ff) % N + 1 + N * L := ⟨_, rfl⟩
      have hJ : 1 ≤ J ∧ J ≤ 104 := by
        have h1 : (gg + N - ff) % N < N := Nat.mod_lt _ (by omega)
        have h2 : N * L ≤ 8 * 12 := Nat.mul_le_mul hN.2 hL.2
        omega
      have hit : ∀ m, J ≤ m → srM M.srt ((L : Nat) : Int) m J = .hit (List.replicate J c) (rowR N c gg ff ((gg + N - ff) % N + N * L)) := fun m hm => by
        rw [eM, eJ]
        exact ring_hit hN.1 hN.2 hf hg (by omega)
      have uniq : ∀ (m k : Nat) (z : List Nat) (W : List PW'), J ≤ m → srM M.srt ((L : Nat) : Int) m k = .hit z W → z = List.replicate J c ∧ W = rowR N c gg ff ((gg + N - ff) % N + N * L) := fun m k z W hm e => by
        have h1 := srP_stop (r := .hit z W) (fun _ z => nomatch z) e (Nat.le_max_left k J)
        have h2 := srP_stop (r := .hit (List.replicate J c) (rowR N c gg ff ((gg + N - ff) % N + N * L))) (fun _ z => nomatch z) (hit m hm) (Nat.le_max_right k J)
        have h3 := h1.symm.trans h2
        injection h3 with h4 h5
        exact ⟨h4, h5⟩
      have noW : ∀ (m k : Nat) (W : List PW'), J ≤ m → ¬ srM M.srt ((L : Nat) : Int) m k = .wide W := fun m k W hm e => by
        have h1 := srP_stop (r := .wide W) (fun _ z => nomatch z) e (Nat.le_max_left k J)
        have h2 := srP_stop (r := .hit (List.replicate J c) (rowR N c gg ff ((gg + N - ff) % N + N * L))) (fun _ z => nomatch z) (hit m hm) (Nat.le_max_right k J)
        exact nomatch (h1.symm.trans h2)
      have noN : ∀ (m k : Nat) (W : List PW'), J ≤ m → srM M.srt ((L : Nat) : Int) m k = .go W → ¬ W.length ≤ k := fun m k W hm e hk => by
        have h1 := srP_end e hk (Nat.le_max_left k J)
        have h2 := srP_stop (r := .hit (List.replicate J c) (rowR N c gg ff ((gg + N - ff) % N + N * L))) (fun _ z => nomatch z) (hit m hm) (Nat.le_max_right k J)
        exact nomatch (h1.symm.trans h2)
      refine ⟨fun σ' H' => ∃ lr : Addr, σ' = [some (.ref a), some (.ref g.b), some (.int (0 + (i : Int))), some (.int (N : Nat)), some (.int (L : Nat)), some (.int (gg : Nat)), some (.int (ff : Nat)), some (.str (Sx [c])), some (.ref la), some (.ref t), some (.str (Sx (List.replicate J c))), some (.ref lr), y12, y13, none] ∧ DrawnAt K H' t M ∧ PLs H' lr ((rowR N c gg ff ((gg + N - ff) % N + N * L)).map (·.1)) ∧ Bg H' g, ?_, ?_⟩
      · refine ⟨_, rfl, _, rfl, t, M, ((L : Nat) : Int), 150, rfl, dM, lm, ⟨by omega, by omega⟩, ⟨by decide, by decide⟩, fun k z W l r H' e s' hl hr => ?_, fun k W l r H' e => absurd e (noW 150 k W (by omega)), fun k W l r H' e hk => absurd hk (noN 150 k W (by omega) e)⟩
        obtain ⟨rfl, rfl⟩ := uniq 150 k z W (by omega) e
        refine ⟨r, _, rfl, SqT.of hr, rfl, _, _, rfl, _, _, rfl, rfl, ?_⟩
        exact ⟨l, rfl, dM.same s', hl, Bg6.same s'⟩
      clear dM Bg6
      rintro σ' H7 ⟨lr, rfl, dM, hlr, Bg7⟩
      -- made
      refine ⟨fun σ' H' => ∃ mm : Addr, σ' = [some (.ref a), some (.ref g.b), some (.int (0 + (i : Int))), some (.int (N : Nat)), some (.int (L : Nat)), some (.int (gg : Nat)), some (.int (ff : Nat)), some (.str (Sx [c])), some (.ref la), some (.ref t), some (.str (Sx (List.replicate J c))), some (.ref lr), some (.ref mm), y13, none] ∧ MachAt K C H' mm M.srt ∧ PLs H' lr ((rowR N c gg ff ((gg + N - ff) % N + N * L)).map (·.1)) ∧ Bg H' g, ?_, ?_⟩
      · refine ⟨_, rfl, t, M, rfl, dM, lm.ok, fun mm H8 nm s8 mA => ?_⟩
        exact ⟨mm, rfl, mA, hlr.same s8, Bg7.same s8⟩
      clear dM hlr Bg7
      rintro σ' H8 ⟨mm, rfl, mA, hlr, Bg8⟩
      -- the word
      have hJi : (((gg : Nat) : Int) - ((ff : Nat) : Int)) % ((N : Nat) : Int) + 1 + ((N : Nat) : Int) * ((L : Nat) : Int) = ((J : Nat) : Int) := by
        have h1 : (((gg + N - ff) % N : Nat) : Int) = (((gg : Nat) : Int) - ((ff : Nat) : Int)) % ((N : Nat) : Int) := by
          rw [Int.natCast_emod, show ((gg + N - ff : Nat) : Int) = (((gg : Nat) : Int) - ((ff : Nat) : Int)) + ((N : Nat) : Int) by omega, Int.add_emod_right]
        have h2 : ((N * L : Nat) : Int) = ((N : Nat) : Int) * ((L : Nat) : Int) := Int.natCast_mul N L
        rw [← h1, ← h2, eJ]
        omega
      have hrep : ∀ j : Nat, rep j [c] = List.replicate j c := fun j => by
        unfold rep
        induction j with
        | zero => rfl
        | succ j ih => rw [List.replicate_succ, List.flatten_cons, ih, List.replicate_succ]; rfl
      refine ⟨fun σ' H' => σ' = [some (.ref a), some (.ref g.b), some (.int (0 + (i : Int))), some (.int (N : Nat)), some (.int (L : Nat)), some (.int (gg : Nat)), some (.int (ff : Nat)), some (.str (Sx [c])), some (.ref la), some (.ref t), some (.str (Sx (List.replicate J c))), some (.ref lr), some (.ref mm), y13, none] ∧ H8 = H', ?_, ?_⟩
      · refine ⟨_, rfl, _, rfl, _, rfl, _, rfl, _, _, rfl, rfl, _, rfl, _, _, rfl, rfl, by omega, _, _, rfl, rfl, _, rfl, _, rfl, _, _, rfl, rfl, .inl ⟨by omega, by omega⟩, _, _, rfl, rfl, ?_⟩
        refine ⟨[c], J, rfl, congrArg V.int hJi, by omega, by rw [List.length_singleton]; omega, ?_⟩
        rw [hrep]
        exact ⟨rfl, _, rfl, iteNS rfl ⟨rfl, rfl⟩⟩
      rintro σ' H' ⟨rfl, rfl⟩
      -- found
      have hrl : ∀ {H' : Hp}, PLs H' lr ((rowR N c gg ff ((gg + N - ff) % N + N * L)).map (·.1)) → ∃ rs : List PrA, H' lr = some (.lst (prs rs)) ∧ (prs rs).length = J := fun {H'} h => by
        obtain ⟨rs, r1, r2, r3⟩ := h
        refine ⟨rs, r1, ?_⟩
        have := congrArg List.length r3
        unfold rowR at this
        rw [List.length_map, List.length_map, List.length_map, List.length_range] at this
        rw [prs_len]
        omega
      have hls1 : M.srt.ls.length ≤ 3 := (letB_pos lm.ok.2.2.1).2
      refine ⟨fun σ' H' => ∃ lo : Addr, σ' = [some (.ref a), some (.ref g.b), some (.int (0 + (i : Int))), some (.int (N : Nat)), some (.int (L : Nat)), some (.int (gg : Nat)), some (.int (ff : Nat)), some (.str (Sx [c])), some (.ref la), some (.ref t), some (.str (Sx (List.replicate J c))), some (.ref lr), some (.ref mm), some (.ref lo), none] ∧ H' lo = some (.lst [.str (Sx (List.replicate J c)), .str (Sx (List.replicate J c)), .bl false]) ∧ Bg H' g, ?_, ?_⟩
      · refine ⟨_, rfl, _, rfl, mm, M.srt, ((L : Nat) : Int), 1000, rfl, mA, lm.pm, hls1, by omega, fun h => absurd h (by omega), fun _ h => absurd (by decide) h, fun _ m' em hm => ?_⟩
        obtain rfl : m' = 1000 := by omega
        refine ⟨fun k z W H9 e s9 => ?_, fun k W H9 e => absurd e (noW 1000 k W (by omega)), fun k W H9 e hk => absurd hk (noN 1000 k W (by omega) e)⟩
        obtain ⟨rfl, rfl⟩ := uniq 1000 k z W (by omega) e
        obtain ⟨rs, r1, hl⟩ := hrl (hlr.same s9)
        refine ⟨_, rfl, _, rfl, _, rfl, lr, _, rfl, .inl (SqL.of r1), rfl, rfl, mm, M.srt, ((L : Nat) : Int), (((prs rs).length : Nat) : Int), rfl, mA.same s9, lm.pm, hls1, by omega, fun h => absurd h (by omega), fun _ h => absurd (by omega) h, fun _ m' em hm => ?_⟩
        rw [show m' = J by omega]
        refine ⟨fun k z W H10 e s10 => ?_, fun k W H9 e => absurd e (noW _ k W (Nat.le_refl _)), fun k W H9 e hk => absurd hk (noN _ k W (Nat.le_refl _) e)⟩
        obtain ⟨rfl, rfl⟩ := uniq _ k z W (Nat.le_refl _) e
        refine ⟨_, rfl, _, rfl, mm, M.srt, ((L : Nat) : Int), 1000, rfl, mA.same (s9.trans s10), lm.pm, hls1, by omega, fun h => absurd h (by omega), fun _ h => absurd (by decide) h, fun _ m' em hm => ?_⟩
        obtain rfl : m' = 1000 := by omega
        refine ⟨fun k z W H11 e s11 => ?_, fun k W H9 e => absurd e (noW 1000 k W (by omega)), fun k W H9 e hk => absurd hk (noN 1000 k W (by omega) e)⟩
        refine ⟨(by decide : 3 ≤ sizeLine), fun lo nlo => ?_⟩
        have so := same_upd (o := .lst [V.str (Sx (List.replicate J c)), .str (Sx (List.replicate J c)), .bl false]) nlo
        exact ⟨lo, rfl, upd_same, Bg8.same (s9.trans (s10.trans (s11.trans so)))⟩
      clear mA hlr Bg8
      rintro σ' H9 ⟨lo, rfl, elo, Bg9⟩
      refine ⟨_, rfl, _, rfl, _, rfl, (by decide : 3 ≤ sizeLine), fun l2 nl2 => ?_⟩
      have s2 := same_upd (o := .lst [V.str (Sx (List.replicate J c)), .str (Sx (List.replicate J c)), .bl false]) nl2
      refine ⟨_, _, .list [.str (Sx (List.replicate J c)), .str (Sx (List.replicate J c)), .bool false], rfl, .lst (SqL.of (s2 _ _ elo)) (.cons (.str _) (.cons (.str _) (.cons (.bl _) .nil))), .lst (SqL.of upd_same) (.cons (.str _) (.cons (.str _) (.cons (.bl _) .nil))), ⟨(by decide : 3 ≤ 1000), fun x hx => ?_⟩, fun H11 s11 => ⟨_, rfl, iteF ⟨_, _, _, _, _, _, _, _, _, _, _, _, rfl, Bg9.same (s2.trans s11)⟩⟩⟩
      simp only [List.mem_cons, List.not_mem_nil, or_false] at hx
      rcases hx with rfl | rfl | rfl <;> exact True.intro
    · rintro σ H2 ⟨y2, y3, y4, y5, y6, y7, y8, y9, y10, y11, y12, y13, rfl, Bg2⟩
      exact q H2
end
end Onp
set_option maxHeartbeats 8000000
namespace Onp
open PySem PySem.Spec PyProof.Rows L2 HotX L2H LamX
theorem all_mk {l : PySem.W.OpenLaw} {w : World} {K : PySem.W.Frag} {h : Heap} {mg : Str → Option Value} {fa : Addr} (X : K.In h) (G : h.Ns mainGlobals mg) (hfa : mg "law" = some (.ref fa)) (c : He.SaysX fas fns [] tfs exK w h K) :
    LamX.LawAtS l w K CX0 12 63 "_law_script" mg fa h := by
  have cd := c.t.d
  obtain ⟨fdB, DB⟩ := cd.def_ 0 (d := d_B) rfl
  have FB : Fun K "_law_bag" "_law_bag" sBag (He.ga K "_law_bag") fdB := fun_of (kws := []) DB
  have bB := FB.binds (ps := ["_law_script"]) fun _ _ _ _ _ _ us hl => match us, hl with | [_], _ => rfl
  have NB := He.glo_ok X G (cd.fact 0 (f := .glo "_law_bag") rfl)
  obtain ⟨fdPu, DPu⟩ := cd.def_ 1 (d := d_Pu) rfl
  have FPu : Fun K "_law_pull" "_law_pull" sPull (He.ga K "_law_pull") fdPu := fun_of (kws := []) DPu
  have bPu := FPu.binds (ps := ["_law_bag_here", "_law_many"]) fun _ _ _ _ _ _ us hl => match us, hl with | [_, _], _ => rfl
  have NPu := He.glo_ok X G (cd.fact 1 (f := .glo "_law_pull") rfl)
  obtain ⟨fdSm, DSm⟩ := cd.def_ 2 (d := d_Sm) rfl
  have FSm : Fun K "_law_same" "_law_same" sSame (He.ga K "_law_same") fdSm := fun_of (kws := []) DSm
  have bSm := FSm.binds (ps := ["_law_found", "_law_due"]) fun _ _ _ _ _ _ us hl => match us, hl with | [_, _], _ => rfl
  have NSm := He.glo_ok X G (cd.fact 2 (f := .glo "_law_same") rfl)
  obtain ⟨fdLe, DLe⟩ := cd.def_ 3 (d := d_Le) rfl
  have FLe : Fun K "_law_letters" "_law_letters" sLett (He.ga K "_law_letters") fdLe := fun_of (kws := []) DLe
  have bLe := FLe.binds (ps := ["_law_bag_here", "_law_most_z"]) fun _ _ _ _ _ _ us hl => match us, hl with | [_, _], _ => rfl
  have NLe := He.glo_ok X G (cd.fact 3 (f := .glo "_law_letters") rfl)
  obtain ⟨fdMd, DMd⟩ := cd.def_ 4 (d := d_Md) rfl
  have FMd : Fun K "_law_made" "_law_made" sMade (He.ga K "_law_made") fdMd := fun_of (kws := []) DMd
  have bMd := FMd.binds (ps := ["_law_m"]) fun _ _ _ _ _ _ us hl => match us, hl with | [_], _ => rfl
  have NMd := He.glo_ok X G (cd.fact 4 (f := .glo "_law_made") rfl)
  obtain ⟨fdAl, DAl⟩ := cd.def_ 5 (d := d_Al) rfl
  have FAl : Fun K "are_letters" "are_letters" sAreL (He.ga K "are_letters") fdAl := fun_of (kws := []) DAl
  have bAl := FAl.binds (ps := ["text"]) fun _ _ _ _ _ _ us hl => match us, hl with | [_], _ => rfl
  have NAl := He.glo_ok X G (cd.fact 5 (f := .glo "are_letters") rfl)
  obtain ⟨fdIl, DIl⟩ := cd.def_ 6 (d := d_Il) rfl
  have FIl : Fun K "is_letter" "is_letter" sIsL (He.ga K "is_letter") fdIl := fun_of (kws := []) DIl
  have bIl := FIl.binds (ps := ["text", "letters"]) fun _ _ _ _ _ _ us hl => match us, hl with | [_, _], _ => rfl
  have NIl := He.glo_ok X G (cd.fact 6 (f := .glo "is_letter") rfl)
  obtain ⟨fdIa, DIa⟩ := cd.def_ 7 (d := d_Ia) rfl
  have FIa : Fun K "is_arrow" "is_arrow" sIsA (He.ga K "is_arrow") fdIa := fun_of (kws := []) DIa
  have bIa := FIa.binds (ps := ["arrow", "rooms", "letters"]) fun _ _ _ _ _ _ us hl => match us, hl with | [_, _, _], _ => rfl
  have NIa := He.glo_ok X G (cd.fact 7 (f := .glo "is_arrow") rfl)
  obtain ⟨fdNa, DNa⟩ := cd.def_ 8 (d := d_Na) rfl
  have FNa : Fun K "need_arrows" "need_arrows" sNeedA (He.ga K "need_arrows") fdNa := fun_of (kws := []) DNa
  have bNa := FNa.binds (ps := ["arrows", "rooms", "letters"]) fun _ _ _ _ _ _ us hl => match us, hl with | [_, _, _], _ => rfl
  have NNa := He.glo_ok X G (cd.fact 8 (f := .glo "need_arrows") rfl)
  obtain ⟨fdNr, DNr⟩ := cd.def_ 9 (d := d_Nr) rfl
  have FNr : Fun K "need_rooms" "need_rooms" sNeedR (He.ga K "need_rooms") fdNr := fun_of (kws := []) DNr
  have bNr := FNr.binds (ps := ["some", "rooms"]) fun _ _ _ _ _ _ us hl => match us, hl with | [_, _], _ => rfl
  have NNr := He.glo_ok X G (cd.fact 9 (f := .glo "need_rooms") rfl)
  obtain ⟨fdSb, DSb⟩ := cd.def_ 10 (d := d_Sb) rfl
  have FSb : Fun K "steps_by_start" "steps_by_start" sStepsB (He.ga K "steps_by_start") fdSb := fun_of (kws := []) DSb
  have bSb := FSb.binds (ps := ["arrows"]) fun _ _ _ _ _ _ us hl => match us, hl with | [_], _ => rfl
  have NSb := He.glo_ok X G (cd.fact 10 (f := .glo "steps_by_start") rfl)
  obtain ⟨fdNd, DNd⟩ := cd.def_ 11 (d := d_Nd) rfl
  have FNd : Fun K "need_deed" "need_deed" sNeedD (He.ga K "need_deed") fdNd := fun_of (kws := []) DNd
  have bNd := FNd.binds (ps := ["deed"]) fun _ _ _ _ _ _ us hl => match us, hl with | [_], _ => rfl
  have NNd := He.glo_ok X G (cd.fact 11 (f := .glo "need_deed") rfl)
  obtain ⟨fdSp, DSp⟩ := cd.def_ 12 (d := d_Sp) rfl
  have FSp : Fun K "spend" "spend" sSpend (He.ga K "spend") fdSp := fun_of (kws := []) DSp
  have bSp := FSp.binds (ps := ["purses", "deed"]) fun _ _ _ _ _ _ us hl => match us, hl with | [_, _], _ => rfl
  have NSp := He.glo_ok X G (cd.fact 12 (f := .glo "spend") rfl)
  obtain ⟨fdSz, DSz⟩ := cd.def_ 13 (d := d_Sz) rfl
  have FSz : Fun K "need_size" "need_size" sNeedSz (He.ga K "need_size") fdSz := fun_of (kws := []) DSz
  have bSz := FSz.binds (ps := ["size"]) fun _ _ _ _ _ _ us hl => match us, hl with | [_], _ => rfl
  have NSz := He.glo_ok X G (cd.fact 13 (f := .glo "need_size") rfl)
  obtain ⟨fdLo, DLo⟩ := cd.def_ 14 (d := d_Lo) rfl
  have FLo : Fun K "least_ones" "least_ones" sLeast (He.ga K "least_ones") fdLo := fun_of (kws := []) DLo
  have bLo := FLo.binds (ps := ["triples"]) fun _ _ _ _ _ _ us hl => match us, hl with | [_], _ => rfl
  have NLo := He.glo_ok X G (cd.fact 14 (f := .glo "least_ones") rfl)
  obtain ⟨fdFb, DFb⟩ := cd.def_ 15 (d := d_Fb) rfl
  have FFb : Fun K "first_board" "first_board" sFirstB (He.ga K "first_board") fdFb := fun_of (kws := []) DFb
  have bFb := FFb.binds (ps := ["machine"]) fun _ _ _ _ _ _ us hl => match us, hl with | [_], _ => rfl
  have NFb := He.glo_ok X G (cd.fact 15 (f := .glo "first_board") rfl)
  obtain ⟨fdLd, DLd⟩ := cd.def_ 16 (d := d_Ld) rfl
  have FLd : Fun K "leads" "leads" sLeads (He.ga K "leads") fdLd := fun_of (kws := []) DLd
  have bLd := FLd.binds (ps := ["machine", "board", "letter"]) fun _ _ _ _ _ _ us hl => match us, hl with | [_, _, _], _ => rfl
  have NLd := He.glo_ok X G (cd.fact 16 (f := .glo "leads") rfl)
  obtain ⟨fdEw, DEw⟩ := cd.def_ 17 (d := d_Ew) rfl
  have FEw : Fun K "ends_well" "ends_well" sEnds (He.ga K "ends_well") fdEw := fun_of (kws := []) DEw
  have bEw := FEw.binds (ps := ["machine", "board"]) fun _ _ _ _ _ _ us hl => match us, hl with | [_, _], _ => rfl
  have NEw := He.glo_ok X G (cd.fact 17 (f := .glo "ends_well") rfl)
  obtain ⟨fdLz, DLz⟩ := cd.def_ 18 (d := d_Lz) rfl
  have FLz : Fun K "_law_steps" "_law_steps" sLSteps (He.ga K "_law_steps") fdLz := fun_of (kws := []) DLz
  have bLz := FLz.binds (ps := ["_law_m", "_law_room", "_law_letter"]) fun _ _ _ _ _ _ us hl => match us, hl with | [_, _, _], _ => rfl
  have NLz := He.glo_ok X G (cd.fact 18 (f := .glo "_law_steps") rfl)
  obtain ⟨fdLst, DLst⟩ := cd.def_ 19 (d := d_Lst) rfl
  have FLst : Fun K "_law_spent" "_law_spent" sSpent (He.ga K "_law_spent") fdLst := fun_of (kws := []) DLst
  have bLst := FLst.binds (ps := ["_law_purses", "_law_deed"]) fun _ _ _ _ _ _ us hl => match us, hl with | [_, _], _ => rfl
  have NLst := He.glo_ok X G (cd.fact 19 (f := .glo "_law_spent") rfl)
  obtain ⟨fdLL, DLL⟩ := cd.def_ 20 (d := d_LL) rfl
  have FLL : Fun K "_law_least" "_law_least" sLLeast (He.ga K "_law_least") fdLL := fun_of (kws := []) DLL
  have bLL := FLL.binds (ps := ["_law_triples"]) fun _ _ _ _ _ _ us hl => match us, hl with | [_], _ => rfl
  have NLL := He.glo_ok X G (cd.fact 20 (f := .glo "_law_least") rfl)
  obtain ⟨fdLon, DLon⟩ := cd.def_ 21 (d := d_Lon) rfl
  have FLon : Fun K "_law_on" "_law_on" sLOn (He.ga K "_law_on") fdLon := fun_of (kws := []) DLon
  have bLon := FLon.binds (ps := ["_law_m", "_law_triple", "_law_letter", "_law_limit"]) fun _ _ _ _ _ _ us hl => match us, hl with | [_, _, _, _], _ => rfl
  have NLon := He.glo_ok X G (cd.fact 21 (f := .glo "_law_on") rfl)
  obtain ⟨fdLbo, DLbo⟩ := cd.def_ 22 (d := d_Lbo) rfl
  have FLbo : Fun K "_law_board_on" "_law_board_on" sLBOn (He.ga K "_law_board_on") fdLbo := fun_of (kws := []) DLbo
  have bLbo := FLbo.binds (ps := ["_law_m", "_law_board", "_law_letter", "_law_limit"]) fun _ _ _ _ _ _ us hl => match us, hl with | [_, _, _, _], _ => rfl
  have NLbo := He.glo_ok X G (cd.fact 22 (f := .glo "_law_board_on") rfl)
  obtain ⟨fdLg, DLg⟩ := cd.def_ 23 (d := d_Lg) rfl
  have FLg : Fun K "_law_begin" "_law_begin" sLBegin (He.ga K "_law_begin") fdLg := fun_of (kws := []) DLg
  have bLg := FLg.binds (ps := ["_law_m"]) fun _ _ _ _ _ _ us hl => match us, hl with | [_], _ => rfl
  have NLg := He.glo_ok X G (cd.fact 23 (f := .glo "_law_begin") rfl)
  obtain ⟨fdLw, DLw⟩ := cd.def_ 24 (d := d_Lw) rfl
  have FLw : Fun K "_law_well" "_law_well" sLWell (He.ga K "_law_well") fdLw := fun_of (kws := []) DLw
  have bLw := FLw.binds (ps := ["_law_m", "_law_board"]) fun _ _ _ _ _ _ us hl => match us, hl with | [_, _], _ => rfl
  have NLw := He.glo_ok X G (cd.fact 24 (f := .glo "_law_well") rfl)
  obtain ⟨fdFp, DFp⟩ := cd.def_ 25 (d := d_Fp) rfl
  have FFp : Fun K "first_pair" "first_pair" sFirstP (He.ga K "first_pair") fdFp := fun_of (kws := []) DFp
  have bFp := FFp.binds (ps := ["machine"]) fun _ _ _ _ _ _ us hl => match us, hl with | [_], _ => rfl
  have NFp := He.glo_ok X G (cd.fact 25 (f := .glo "first_pair") rfl)
  obtain ⟨fdNp, DNp⟩ := cd.def_ 26 (d := d_Np) rfl
  have FNp : Fun K "next_pair" "next_pair" sNextP (He.ga K "next_pair") fdNp := fun_of (kws := []) DNp
  have bNp := FNp.binds (ps := ["machine", "pair", "letter", "size"]) fun _ _ _ _ _ _ us hl => match us, hl with | [_, _, _, _], _ => rfl
  have NNp := He.glo_ok X G (cd.fact 26 (f := .glo "next_pair") rfl)
  obtain ⟨fdHl, DHl⟩ := cd.def_ 27 (d := d_Hl) rfl
  have FHl : Fun K "has_last" "has_last" sHasL (He.ga K "has_last") fdHl := fun_of (kws := []) DHl
  have bHl := FHl.binds (ps := ["machine", "rooms"]) fun _ _ _ _ _ _ us hl => match us, hl with | [_, _], _ => rfl
  have NHl := He.glo_ok X G (cd.fact 27 (f := .glo "has_last") rfl)
  obtain ⟨fdFa, DFa⟩ := cd.def_ 28 (d := d_Fa) rfl
  have FFa : Fun K "fails" "fails" sFails (He.ga K "fails") fdFa := fun_of (kws := []) DFa
  have bFa := FFa.binds (ps := ["machine", "pair"]) fun _ _ _ _ _ _ us hl => match us, hl with | [_, _], _ => rfl
  have NFa := He.glo_ok X G (cd.fact 28 (f := .glo "fails") rfl)
  obtain ⟨fdSr, DSr⟩ := cd.def_ 29 (d := d_Sr) rfl
  have FSr : Fun K "searched_pairs" "searched_pairs" sSrch (He.ga K "searched_pairs") fdSr := fun_of (kws := []) DSr
  have bSr := FSr.binds (ps := ["machine", "size", "most"]) fun _ _ _ _ _ _ us hl => match us, hl with | [_, _, _], _ => rfl
  have NSr := He.glo_ok X G (cd.fact 29 (f := .glo "searched_pairs") rfl)
  obtain ⟨fdNm, DNm⟩ := cd.def_ 30 (d := d_Nm) rfl
  have FNm : Fun K "need_most" "need_most" sNeedM (He.ga K "need_most") fdNm := fun_of (kws := []) DNm
  have bNm := FNm.binds (ps := ["most"]) fun _ _ _ _ _ _ us hl => match us, hl with | [_], _ => rfl
  have NNm := He.glo_ok X G (cd.fact 30 (f := .glo "need_most") rfl)
  obtain ⟨fdRo, DRo⟩ := cd.def_ 31 (d := d_Ro) rfl
  have FRo : Fun K "_law_rooms_on" "_law_rooms_on" sLRon (He.ga K "_law_rooms_on") fdRo := fun_of (kws := []) DRo
  have bRo := FRo.binds (ps := ["_law_m", "_law_rooms", "_law_letter"]) fun _ _ _ _ _ _ us hl => match us, hl with | [_, _, _], _ => rfl
  have NRo := He.glo_ok X G (cd.fact 31 (f := .glo "_law_rooms_on") rfl)
  obtain ⟨fdPo, DPo⟩ := cd.def_ 32 (d := d_Po) rfl
  have FPo : Fun K "_law_pair_on" "_law_pair_on" sLPon (He.ga K "_law_pair_on") fdPo := fun_of (kws := []) DPo
  have bPo := FPo.binds (ps := ["_law_m", "_law_pair", "_law_letter", "_law_limit"]) fun _ _ _ _ _ _ us hl => match us, hl with | [_, _, _, _], _ => rfl
  have NPo := He.glo_ok X G (cd.fact 32 (f := .glo "_law_pair_on") rfl)
  obtain ⟨fdLf, DLf⟩ := cd.def_ 33 (d := d_Lf) rfl
  have FLf : Fun K "_law_fails" "_law_fails" sLFails (He.ga K "_law_fails") fdLf := fun_of (kws := []) DLf
  have bLf := FLf.binds (ps := ["_law_m", "_law_pair"]) fun _ _ _ _ _ _ us hl => match us, hl with | [_, _], _ => rfl
  have NLf := He.glo_ok X G (cd.fact 33 (f := .glo "_law_fails") rfl)
  obtain ⟨fdPs, DPs⟩ := cd.def_ 34 (d := d_Ps) rfl
  have FPs : Fun K "_law_pairs" "_law_pairs" sLPs (He.ga K "_law_pairs") fdPs := fun_of (kws := []) DPs
  have bPs := FPs.binds (ps := ["_law_m", "_law_limit", "_law_room"]) fun _ _ _ _ _ _ us hl => match us, hl with | [_, _, _], _ => rfl
  have NPs := He.glo_ok X G (cd.fact 34 (f := .glo "_law_pairs") rfl)
  obtain ⟨fdL, DL⟩ := cd.def_ 35 (d := d_L) rfl
  have FL : Fun K "law" "law" sLaw (He.ga K "law") fdL := fun_of (kws := []) DL
  have bL := FL.binds (ps := ["_law_script"]) fun _ _ _ _ _ _ us hl => match us, hl with | [_], _ => rfl
  have NL := He.glo_ok X G (cd.fact 35 (f := .glo "law") rfl)
  obtain ⟨fdNb, DNb⟩ := cd.def_ 36 (d := d_Nb) rfl
  have FNb : Fun K "next_board" "next_board" sNextB (He.ga K "next_board") fdNb := fun_of (kws := []) DNb
  have NNb := He.glo_ok X G (cd.fact 36 (f := .glo "next_board") rfl)
  obtain ⟨fdFd, DFd⟩ := cd.def_ 37 (d := d_Fd) rfl
  have FFd : FunD K "first_dear" "first_dear" (defArgs sFirstD) (defBody sFirstD) (defScope sFirstD) [] [("most", .int 1000)] (He.ga K "first_dear") fdFd := DFd
  have NFd := He.glo_ok X G (cd.fact 37 (f := .glo "first_dear") rfl)
  obtain ⟨fdEn, DEn⟩ := cd.def_ 38 (d := d_En) rfl
  have FEn : FunD K "is_enough" "is_enough" (defArgs sIsEn) (defBody sIsEn) (defScope sIsEn) [] [("most", .int 1000)] (He.ga K "is_enough") fdEn := DEn
  have NEn := He.glo_ok X G (cd.fact 38 (f := .glo "is_enough") rfl)
  have y_isinstance := He.free_ok X G (cd.fact 39 (f := .free "isinstance") rfl)
  have y_list := He.free_ok X G (cd.fact 40 (f := .free "list") rfl)
  have y_tuple := He.free_ok X G (cd.fact 41 (f := .free "tuple") rfl)
  have y_bool := He.free_ok X G (cd.fact 42 (f := .free "bool") rfl)
  have y_int := He.free_ok X G (cd.fact 43 (f := .free "int") rfl)
  have y_str := He.free_ok X G (cd.fact 44 (f := .free "str") rfl)
  have y_len := He.free_ok X G (cd.fact 45 (f := .free "len") rfl)
  have y_all := He.free_ok X G (cd.fact 46 (f := .free "all") rfl)
  have y_zip := He.free_ok X G (cd.fact 47 (f := .free "zip") rfl)
  have y_set := He.free_ok X G (cd.fact 48 (f := .free "set") rfl)
  have y_sorted := He.free_ok X G (cd.fact 49 (f := .free "sorted") rfl)
  have y_range := He.free_ok X G (cd.fact 50 (f := .free "range") rfl)
  have y_any := He.free_ok X G (cd.fact 51 (f := .free "any") rfl)
  have y_max := He.free_ok X G (cd.fact 52 (f := .free "max") rfl)
  obtain ⟨tk0, gk0⟩ := He.str_ok X G (cd.fact 53 (f := .str "SMALL_LETTERS" "abcdefghijklmnopqrstuvwxyz") rfl)
  obtain ⟨tk1, gk1⟩ := He.int_ok X G (cd.fact 54 (f := .int "MOST_LETTERS" 3) rfl)
  obtain ⟨tk2, gk2⟩ := He.int_ok X G (cd.fact 55 (f := .int "MOST_ROOMS" 8) rfl)
  obtain ⟨tk3, gk3⟩ := He.int_ok X G (cd.fact 56 (f := .int "MOST_ARROWS" 40) rfl)
  obtain ⟨tk4, gk4⟩ := He.int_ok X G (cd.fact 57 (f := .int "MOST_PAIRS" 1000) rfl)
  have gC := He.glo_ok X G (cd.fact 58 (f := .glo "Machine") rfl)
  have clC := He.cls_ok (cd.fact 59 (f := .cls "Machine") rfl)
  have n1C := He.noat_ok (cd.fact 60 (f := .noat "Machine" "room_count") rfl)
  have n2C := He.noat_ok (cd.fact 61 (f := .noat "Machine" "letter_text") rfl)
  have n3C := He.noat_ok (cd.fact 62 (f := .noat "Machine" "arrow_row") rfl)
  have n4C := He.noat_ok (cd.fact 63 (f := .noat "Machine" "first_row") rfl)
  have n5C := He.noat_ok (cd.fact 64 (f := .noat "Machine" "last_row") rfl)
  have n6C := He.noat_ok (cd.fact 65 (f := .noat "Machine" "step_rows") rfl)
  have mkC := He.mkr_ok (cd.fact 66 (f := .mkr "Machine") rfl)
  obtain ⟨fdI, FI⟩ := cd.def_ 39 (d := d_I) rfl
  have CM : ClsM K (He.ga K "Machine") := ⟨clC, n1C, n2C, n3C, n4C, n5C, n6C⟩
  have TC : MkM K mg (He.ga K "Machine") fdI (He.ma K (He.ga K "Machine") "__init__") [.ref (He.dflAt ("Machine", some "__init__") 0 K)] [] := ⟨FI, mkC, gC, CM, (fun z => nomatch z), rfl⟩
  have mLt := He.meth_ok (cd.fact 67 (f := .meth "Machine" "letters") rfl)
  obtain ⟨fdLt, DLt⟩ := cd.def_ 40 (d := d_Lt) rfl
  have FLt : Fun K "letters" "Machine.letters" sMLets (He.ma K (He.ga K "Machine") "letters") fdLt := fun_of (kws := []) DLt
  have bLt := FLt.binds (ps := ["self"]) fun _ _ _ _ _ _ us hl => match us, hl with | [_], _ => rfl
  have mFs := He.meth_ok (cd.fact 68 (f := .meth "Machine" "firsts") rfl)
  obtain ⟨fdFs, DFs⟩ := cd.def_ 41 (d := d_Fs) rfl
  have FFs : Fun K "firsts" "Machine.firsts" sMFsts (He.ma K (He.ga K "Machine") "firsts") fdFs := fun_of (kws := []) DFs
  have bFs := FFs.binds (ps := ["self"]) fun _ _ _ _ _ _ us hl => match us, hl with | [_], _ => rfl
  have mLs := He.meth_ok (cd.fact 69 (f := .meth "Machine" "lasts") rfl)
  obtain ⟨fdLs, DLs⟩ := cd.def_ 42 (d := d_Ls) rfl
  have FLs : Fun K "lasts" "Machine.lasts" sMLsts (He.ma K (He.ga K "Machine") "lasts") fdLs := fun_of (kws := []) DLs
  have bLs := FLs.binds (ps := ["self"]) fun _ _ _ _ _ _ us hl => match us, hl with | [_], _ => rfl
  have mMs := He.meth_ok (cd.fact 70 (f := .meth "Machine" "steps") rfl)
  obtain ⟨fdMs, DMs⟩ := cd.def_ 43 (d := d_Ms) rfl
  have FMs : Fun K "steps" "Machine.steps" sMSteps (He.ma K (He.ga K "Machine") "steps") fdMs := fun_of (kws := []) DMs
  have bMs := FMs.binds (ps := ["self", "room", "letter"]) fun _ _ _ _ _ _ us hl => match us, hl with | [_, _, _], _ => rfl
  have mBr := He.meth_ok (cd.fact 71 (f := .meth "Machine" "rooms_behind") rfl)
  obtain ⟨fdBr, DBr⟩ := cd.def_ 44 (d := d_Br) rfl
  have FBr : Fun K "rooms_behind" "Machine.rooms_behind" sBehR (He.ma K (He.ga K "Machine") "rooms_behind") fdBr := fun_of (kws := []) DBr
  have bBr := FBr.binds (ps := ["self", "rooms", "letter"]) fun _ _ _ _ _ _ us hl => match us, hl with | [_, _, _], _ => rfl
  have NDEEDS := He.glo_ok X G (cd.fact 72 (f := .glo "DEEDS") rfl)
  have hx := c.more
  obtain ⟨x0, hx⟩ := He.ba hx
  obtain ⟨x1, hx⟩ := He.ba hx
  obtain ⟨x2, hx⟩ := He.ba hx
  obtain ⟨x3, hx⟩ := He.ba hx
  have x4 := hx
  have SDEEDS : ∀ H, SqT K H (He.ga K "DEEDS") ((["keep", "cent", "fill", "coin", "brim"] : List Str).map V.str) := fun H => He.tupB_ok x1 H
  have ES_ := errQ_ok x2
  obtain ⟨fdIS_, DIS_⟩ := cd.def_ 45 (d := d_IS_) rfl
  have FIS_ : Fun K "__init__" "BadSize.__init__" sInitBadSize (He.ma K (He.ga K "BadSize") "__init__") fdIS_ := fun_of (kws := []) DIS_
  have bIS_ := FIS_.binds (ps := ["self"]) fun _ _ _ _ _ _ us hl => match us, hl with | [_], _ => rfl
  have MS_ : MkBadSize K mg (He.ga K "BadSize") (He.ma K (He.ga K "BadSize") "__init__") fdIS_ := ⟨ES_.oex, ES_.iC, ES_.tI, FIS_, bIS_, He.glo_ok X G (cd.fact 73 (f := .glo "BadSize") rfl), ES_.wd⟩
  have EW_ := errQ_ok x3
  obtain ⟨fdIW_, DIW_⟩ := cd.def_ 46 (d := d_IW_) rfl
  have FIW_ : Fun K "__init__" "BadWord.__init__" sInitBadWord (He.ma K (He.ga K "BadWord") "__init__") fdIW_ := fun_of (kws := []) DIW_
  have bIW_ := FIW_.binds (ps := ["self"]) fun _ _ _ _ _ _ us hl => match us, hl with | [_], _ => rfl
  have MW_ : MkBadWord K mg (He.ga K "BadWord") (He.ma K (He.ga K "BadWord") "__init__") fdIW_ := ⟨EW_.oex, EW_.iC, EW_.tI, FIW_, bIW_, He.glo_ok X G (cd.fact 74 (f := .glo "BadWord") rfl), EW_.wd⟩
  have ET_ := errQ_ok x4
  obtain ⟨fdIT_, DIT_⟩ := cd.def_ 47 (d := d_IT_) rfl
  have FIT_ : Fun K "__init__" "TooWide.__init__" sInitTooWide (He.ma K (He.ga K "TooWide") "__init__") fdIT_ := fun_of (kws := []) DIT_
  have bIT_ := FIT_.binds (ps := ["self", "most"]) fun _ _ _ _ _ _ us hl => match us, hl with | [_, _], _ => rfl
  have MT_ : MkTooWide K mg (He.ga K "TooWide") (He.ma K (He.ga K "TooWide") "__init__") fdIT_ := ⟨ET_.oex, ET_.iC, ET_.tI, FIT_, bIT_, He.glo_ok X G (cd.fact 76 (f := .glo "TooWide") rfl), ET_.wd, cd.fact 75 rfl |> He.noat_ok⟩
  have hT : ∀ p ∈ tfs.map (He.cT K), h.get? p.2 = some { cls := .none, data := .fields #[] } := fun p hp => by
    obtain ⟨z, hz, rfl⟩ := List.mem_map.mp hp
    exact c.empty z hz
  have hO : ∀ p ∈ tfs.map (He.cT K), K.lookup p.2 = none := fun p hp => by
    obtain ⟨z, hz, rfl⟩ := List.mem_map.mp hp
    exact c.out z hz
  have hC : ∀ p ∈ tfs.map (He.cT K), PySem.W.CodeHd h p.1 p.2 := fun p hp => by
    obtain ⟨z, hz, rfl⟩ := List.mem_map.mp hp
    exact PySem.W.codeHd_of_K X (c.hd z hz)
  have e := hfa.symm.trans NL
  cases e
  obtain ⟨oc_, od_, kV_, doc_, pm_, an_, cdv_, ct_, osl_, rfl, lk_, hcd_⟩ := id FL.ex
  have Cs : CsM K mg (He.ga K "DEEDS") := ⟨⟨_, gk0⟩, ⟨_, gk1⟩, ⟨_, gk2⟩, ⟨_, gk3⟩, NDEEDS, SDEEDS⟩
  refine ⟨_, [], spLaw K, (fun _ z => nomatch z), (fun _ z => nomatch z), (fun _ z => nomatch z), fun s v => .of_eq rfl, fun H a ns hl hb hH hS => ⟨a, ns, rfl, hS, fun _ => rfl⟩, fun base KB GB TB =>
    ok_law FL ⟨FB, bB, NB⟩ ⟨FPu, bPu, NPu⟩ ⟨FSm, bSm, NSm⟩ ⟨FLe, bLe, NLe⟩ ⟨FMd, bMd, NMd⟩ ⟨FAl, bAl, NAl⟩ ⟨FIl, bIl, NIl⟩ ⟨FIa, bIa, NIa⟩ ⟨FNa, bNa, NNa⟩ ⟨FNr, bNr, NNr⟩ ⟨FSb, bSb, NSb⟩ ⟨FNd, bNd, NNd⟩ ⟨FSp, bSp, NSp⟩ ⟨FSz, bSz, NSz⟩ ⟨FLo, bLo, NLo⟩ ⟨FFb, bFb, NFb⟩ ⟨FLd, bLd, NLd⟩ ⟨FEw, bEw, NEw⟩ ⟨FLz, bLz, NLz⟩ ⟨FLst, bLst, NLst⟩ ⟨FLL, bLL, NLL⟩ ⟨FLon, bLon, NLon⟩ ⟨FLbo, bLbo, NLbo⟩ ⟨FLg, bLg, NLg⟩ ⟨FLw, bLw, NLw⟩ ⟨FFp, bFp, NFp⟩ ⟨FNp, bNp, NNp⟩ ⟨FHl, bHl, NHl⟩ ⟨FFa, bFa, NFa⟩ ⟨FSr, bSr, NSr⟩ ⟨FNm, bNm, NNm⟩ ⟨FRo, bRo, NRo⟩ ⟨FPo, bPo, NPo⟩ ⟨FLf, bLf, NLf⟩ ⟨FPs, bPs, NPs⟩
      ⟨FNb, NNb⟩ FFd NFd FEn NEn
      TC FLt bLt mLt FFs bFs mFs FLs bLs mLs FMs bMs mMs FBr bBr mBr
      MS_ MW_ MT_ gk4 Cs ⟨y_isinstance, y_list, y_tuple, y_bool, y_int, y_str, y_len, y_all, y_zip⟩ ⟨y_all, y_zip, y_len, y_set⟩ ⟨y_tuple, y_sorted⟩ y_range y_any y_max⟩
end Onp
open PySem PySem.W PySem.Calls PyProof.Rows
set_option maxRecDepth 100000 in
set_option maxHeartbeats 0 in
theorem PySem.Challenge.cw_onepurse_k77_first_dear_words_that_are_l_holds : PySem.Challenge.rw_onepurse_k77_first_dear_words_that_are_l.Holds := by
  w_on; o_law
  refine HandSHeadRun.head_any (r := OpenLaw.row PySem.Challenge.rw_onepurse_k77_first_dear_words_that_are_l) (q := view (OpenLaw.row PySem.Challenge.rw_onepurse_k77_first_dear_words_that_are_l).prog [61]) (H := Onp.hk) (ob := Onp.ob) (M := 9500) (loose := Onp.loose) (d := HandSHeadRun.topDef (OpenLaw.row PySem.Challenge.rw_onepurse_k77_first_dear_words_that_are_l).prog 61) (kwd := []) Onp.ob_eq
    (by kernel_rfl) (fun s => by kernel_rfl) Onp.run (by kernel_rfl) (by kernel_rfl) (by kernel_rfl) (by rfl) (by first | assumption | decide +kernel) (by decide +kernel) ⟨rfl, rfl, rfl, rfl, rfl, by decide +kernel⟩ ?hw ?hc
  case hw => w_witness2
  case hc =>
    refine LamX.walk_ofTsE (l := PySem.Challenge.rw_onepurse_k77_first_dear_words_that_are_l) (n := 63) (k := 12) (x := "_law_script") (CX := fun _ => L2.CX0) rfl (by decide) (by kernel_rfl) ⟨rfl, by decide, by decide⟩ ?F (fun _ _ _ _ _ h => h)
    intro w mg fa h Y G hmg0
    obtain ⟨K, KX, c⟩ := Y
    have en : (HandSHeadRun.topDef (OpenLaw.row PySem.Challenge.rw_onepurse_k77_first_dear_words_that_are_l).prog 61).name = ("law" : PySem.Str) := by kernel_rfl
    rw [en] at hmg0
    exact ⟨K, KX, Onp.all_mk KX G hmg0 c⟩
