import PyProof.Rows.All
import Wide.All
import OpenK.AllK
import Wide.FinOn
import HandS.Head0
import HandS.Head1
import HandS.Head2
import HandS.HeadHook1
import HandS.HeadHook2
import HandS.HeadHook3
import HandS.HeadHook4
import HandS.List
import PyProof.MaxThree
import HandS.Base
import HandS.Call
import HandS.Comp
import HandS.Ends
import HandS.Iter
import HandS.Text
import HandS.Words
import HandS.Wide
import HandS.Codes
import HandS.Strs
import PyProof.ZipIter
import HandS.Exc
import HandS.Hot
import HandS.HotCalls
import KE.KTurns
import HandS.ExcOwn
import HandS.ExcCtx
import HandS.ExcInit
import HandS.ExcIs
import HandS.ExcField
import KE.KExcIs
import KE.KExcInit
import PyProof.ExcBaseAll.LookupError
import PyProof.ExcBaseAll.IndexError
import KE.KStateDown
import PyProof.StrOps2
import PyProof.ListStr
import KE.GoesEnum
import HandS.ForMost
import HandS.Walk
import HandS.TupSets
import HandS.Dict
import HandS.SetKeys
import KE.SortData
import PyProof.ListCopy
import HandS.SortInts
import HandS.Zip
import PyProof.DictMoreH
import HandS.MakeKw
import HandS.Deep
import HandS.Style
import HandS.Conv
import HandS.DictComp
import KE.KDictCopyH
import PyProof.DictUpdate
import HandS.Lambda
import HandS.CallSlots
import HandS.IsInst
import KE.GoesMore
import KE.OsSortAny
import KE.SortLaws
import HandS.MakeKwOnly
import KE.KDflt
import KE.KNestM
import HandS.EndOwn
import HandS.Defaults
import HandS.HeadEnd
import HandS.HeadWalk
import PySem.Challenge.RW_onepurse_k34_machines_within_sieves
set_option Elab.async false
set_option linter.all false
set_option maxRecDepth 100000
set_option maxHeartbeats 4000000
set_option autoImplicit false
/-! the look at what the top has left, in parts: each part runs the top anew, so that none wants much memory -/
namespace Onp
open PySem PySem.Spec PyProof.Rows L2
theorem obs_join {n : Nat} {fa1 fa2 : List He.Fa} {fn1 fn2 : List He.DefD} {tf : List He.Defn} {ex : PySem.W.Frag → Bool} {g : Addr → Option Obj} {w : World} (h1 : He.obsX n fa1 fn1 [] [] (fun _ => true) g = He.valX fn1 [] w) (h2 : He.obsX n fa2 fn2 [] tf ex g = He.valX fn2 [] w) :
    He.obsX n (fa1 ++ fa2) (fn1 ++ fn2) [] tf ex g = He.valX (fn1 ++ fn2) [] w := by
  unfold He.obsX He.valX He.obsT He.valT He.obsD He.valD at *
  simp only [Prod.mk.injEq, List.map_nil, and_true, Bool.and_eq_true] at h1 h2 ⊢
  obtain ⟨⟨a1, a2⟩, _⟩ := h1
  obtain ⟨⟨b1, b2⟩, b3⟩ := h2
  refine ⟨⟨⟨?_, ?_⟩, ?_⟩, b3⟩
  · rw [List.all_append, a1.1, b1.1]
    rfl
  · rw [List.all_append, a1.2, b1.2]
    rfl
  · rw [List.map_append, List.map_append, a2, b2]
theorem map_two {σ α β : Type} {x : Option σ} {f : σ → α} {g : σ → β} {a : α} {b : β} (h : x.map f = some a) (h' : x.map g = some b) : x.map (fun s => (f s, g s)) = some (a, b) := by
  cases x with
  | none => cases h
  | some s => exact congrArg some (Prod.ext (Option.some.inj h) (Option.some.inj h'))
theorem map_three {σ α β γ : Type} {x : Option σ} {f : σ → α} {g : σ → β} {k : σ → γ} {a : α} {b : β} {c : γ} (h : x.map f = some a) (h' : x.map g = some b) (h'' : x.map k = some c) : x.map (fun s => (f s, g s, k s)) = some (a, b, c) :=
  map_two h (map_two h' h'')
theorem map_obs {σ : Type} {x : Option σ} {t : σ → Addr → Option Obj} {n : Nat} {fa1 fa2 : List He.Fa} {fn1 fn2 : List He.DefD} {tf : List He.Defn} {ex : PySem.W.Frag → Bool} {w : World}
    (h1 : x.map (fun s => He.obsX n fa1 fn1 [] [] (fun _ => true) (t s)) = some (He.valX fn1 [] w)) (h2 : x.map (fun s => He.obsX n fa2 fn2 [] tf ex (t s)) = some (He.valX fn2 [] w)) :
    x.map (fun s => He.obsX n (fa1 ++ fa2) (fn1 ++ fn2) [] tf ex (t s)) = some (He.valX (fn1 ++ fn2) [] w) := by
  cases x with
  | none => cases h1
  | some s => exact congrArg some (obs_join (Option.some.inj h1) (Option.some.inj h2))
end Onp
set_option autoImplicit false
/-! the default that a machine's arrows have: a tuple of nothing -/
namespace Onp
open PySem PySem.Spec PyProof.Rows L2
def dflE (K : PySem.W.Frag) : Bool := match K.lookup (He.dflAt ("Machine", some "__init__") 0 K) with
  | some ⟨.type c, _, .seq its _, _⟩ => decide (c = "tuple") && its.toList.isEmpty
  | _ => false
theorem dflE_ok {K : PySem.W.Frag} (h : dflE K = true) (H : Hp) : SqT K H (He.dflAt ("Machine", some "__init__") 0 K) [] := by
  unfold dflE at h
  cases q : K.lookup (He.dflAt ("Machine", some "__init__") 0 K) with
  | none => rw [q] at h; cases h
  | some o =>
    obtain ⟨oc, od, dt, osl⟩ := o
    rw [q] at h
    cases oc <;> try (cases dt <;> cases h)
    rename_i c
    cases dt <;> try cases h
    rename_i its n
    rw [Bool.and_eq_true, decide_eq_true_eq, List.isEmpty_iff] at h
    obtain ⟨rfl, h2⟩ := h
    refine .inr ⟨_, its, n, q, rfl, rfl, ?_, ?_⟩
    · rw [← Array.length_toList, h2]
      exact Nat.zero_le _
    · rw [h2]
      exact .nil
end Onp
set_option autoImplicit false
/-! the defaults that a machine's firsts and lasts have: a tuple of nought -/
namespace Onp
open PySem PySem.Spec PyProof.Rows L2
def kwdAt (x : Str) (K : PySem.W.Frag) : Addr := match K.lookup (He.fAd K ("Machine", some "__init__")) with
  | some ⟨_, _, .func fd, _⟩ => (match fd.kwdefaults with
    | .ref D => (match PySem.W.nsIn K D x with
      | some (some (.ref a)) => a
      | _ => 0)
    | _ => 0)
  | _ => 0
def oneE (K : PySem.W.Frag) (x : Str) : Bool := match K.lookup (kwdAt x K) with
  | some ⟨.type c, _, .seq its _, _⟩ => decide (c = "tuple") && He.relAll [V.int 0] its.toList
  | _ => false
theorem oneE_ok {K : PySem.W.Frag} {x : Str} (h : oneE K x = true) (H : Hp) : SqT K H (kwdAt x K) [.int 0] := by
  unfold oneE at h
  cases q : K.lookup (kwdAt x K) with
  | none => rw [q] at h; cases h
  | some o =>
    obtain ⟨oc, od, dt, osl⟩ := o
    rw [q] at h
    cases oc <;> try (cases dt <;> cases h)
    rename_i c
    cases dt <;> try cases h
    rename_i its n
    rw [Bool.and_eq_true, decide_eq_true_eq] at h
    obtain ⟨rfl, h2⟩ := h
    have hv := He.relAll_ok h2
    refine .inr ⟨_, its, n, q, rfl, rfl, ?_, hv⟩
    have := hv.length
    rw [← Array.length_toList, ← this]
    decide
end Onp
/-! rules of my own: o[i] read by values (for o[i] += e), max of three ints, max of a tuple of ints -/
namespace Onp
open PySem PySem.Spec PyProof.Rows L2
section
variable {X : Cx}
def rGetL (K : PySem.W.Frag) : V → V → Hp → VK → Prop := fun x y H Q => ∃ p xs, ∃ (j : Nat), ∃ v, x = .ref p ∧ y = .int (j : Int) ∧ SqL K H p xs ∧ xs[j]? = some v ∧ Q v H
theorem get_list : PGet X (rGetL X.K) := by
  intro pins s σ H o i ov iv Q I ro ri h
  obtain ⟨p, xs, j, v, rfl, rfl, hq, hx, q⟩ := h
  cases ro
  obtain ⟨t, rfl⟩ := ri
  obtain ⟨its, r, pl, hz⟩ := I.list hq
  obtain ⟨w, ew, rw'⟩ := r.get hx
  have hl := r.length
  have hn := line63
  have hj : j < xs.length := (List.getElem?_eq_some_iff.mp hx).1
  exact wpAny_getItem_list pl.isList (by omega) (by omega) (by simpa using ew) ⟨v, H, I, rw', q⟩
theorem vals3 {x y z : V} {us : List Value} (r : Vals [x, y, z] us) : ∃ u w' v', us = [u, w', v'] ∧ RelV x u ∧ RelV y w' ∧ RelV z v' := by
  cases r with
  | cons r1 r2 =>
    cases r2 with
    | cons r3 r4 =>
      cases r4 with
      | cons r5 r6 =>
        cases r6
        exact ⟨_, _, _, rfl, r1, r3, r5⟩
theorem call_max3 (hc : X.calm = true) : CallR X (.builtin "max") (fun xs H Q => ∃ i j k : Int, xs = [.int i, .int j, .int k] ∧ Q (.int (max (max i j) k)) H) := by
  intro pins s σ H xs us Q I r h
  obtain ⟨i, j, k, rfl, q⟩ := h
  obtain ⟨u, w', v', rfl, ⟨t, rfl⟩, ⟨t', rfl⟩, ⟨t'', rfl⟩⟩ := vals3 r
  refine max_three_ints (I.ok.hd hc) fun h' tk k' => ⟨_, H, I.kept k', ?_, q⟩
  by_cases h1 : j > i
  · rw [if_pos h1]
    by_cases h2 : k > j
    · rw [if_pos h2]
      exact ⟨_, by rw [show max (max i j) k = k by omega]⟩
    · rw [if_neg h2]
      exact ⟨_, by rw [show max (max i j) k = j by omega]⟩
  · rw [if_neg h1]
    by_cases h2 : k > i
    · rw [if_pos h2]
      exact ⟨_, by rw [show max (max i j) k = k by omega]⟩
    · rw [if_neg h2]
      exact ⟨_, by rw [show max (max i j) k = i by omega]⟩
/-- max(t) of a tuple of ints -/
theorem max_tupRaw {prog : Program} {w : World} {A : Around} {E : Value → Shared → Prop} {s : Shared} {l : Addr} {xs : Array (Int × Tok)} {Q : Value → Shared → Prop} (hh : A.handled = none) (hl : s.heap.IsTuple l (intItems xs)) (hne : 0 < xs.size)
    (h : ∀ v h' tk, (intItems xs)[argBest (fun i j => decide (numAt xs i > numAt xs j)) (xs.size - 1)]? = some v → (∀ b o, s.heap.get? b = some o → h'.get? b = some o) → Q v { s with heap := h', toks := tk }) :
    wpAny (model prog w) A (call (.builtin "max") [.ref l]) Q E s := by
  have hlt : l < s.heap.objs.size := by obtain ⟨_, e, _⟩ := hl; exact Heap.lt_size e
  refine call_max_walk (wpAny_pyIter_tuple hl ?_)
  refine ⟨_, [s.heap.objs.size, l], [s.heap.objs.size], _, _, _, _, rfl, Walks.tuple (A := A.in1) hh _ l (Nat.ne_of_lt hlt) (intItems xs), ⟨⟨_, Heap.get?_push_size _ rfl, rfl, rfl⟩, hl.push _⟩, fun b hb => ?_, by simpa [intItems] using hne, CmpOf.ints_gt (numAt xs) (fun _ _ => intItems_at), fun v h' tk hP hk => ?_⟩
  · show b < (s.heap.push _).objs.size
    rw [Heap.size_push]
    rcases List.mem_cons.mp hb with rfl | hb
    · exact Nat.lt_succ_self _
    · rcases List.mem_cons.mp hb with rfl | hb
      · exact Nat.lt_succ_of_lt hlt
      · cases hb
  · refine h v h' tk (by simpa [intItems] using hP) fun b o e => ?_
    refine hk b o (fun hm => ?_) (Heap.get?_push_of_some _ e)
    rcases List.mem_cons.mp hm with e1 | hm
    · exact absurd (e1 ▸ Heap.lt_size e) (Nat.lt_irrefl _)
    · cases hm
def rMaxT (K : PySem.W.Frag) : List V → Hp → VK → Prop := fun vs H Q => ∃ (a : Addr) (ns : List Int), vs = [V.ref a] ∧ SqT K H a (ns.map V.int) ∧ 0 < ns.length ∧ ∀ m, m ∈ ns → (∀ y, y ∈ ns → y ≤ m) → Q (.int m) H
theorem cr_maxT (hc : X.calm = true) : CallR X (.builtin "max") (rMaxT X.K) := by
  intro pins s σ H vs us Q I r h
  obtain ⟨a, ns, rfl, hs, hne, q⟩ := h
  obtain ⟨its, rv, ht, _⟩ := I.tuple hs
  rw [Vals.ref1 r]
  have hi := rv.ints
  obtain ⟨xs, e⟩ := hi.allInts.items
  have hn : numsOf (intItems xs).toList = ns := by rw [← e]; exact hi.numsOf
  rw [nums_intItems] at hn
  subst hn
  have hl : s.heap.IsTuple a its.toArray := ht
  rw [e] at hl
  have hsz : 0 < xs.size := by simpa using hne
  refine max_tupRaw (I.ok.hd hc) hl hsz fun v h' tk hv hk => ?_
  obtain ⟨t, rfl⟩ := intItems_at hv
  obtain ⟨h1, h2⟩ := argBest_gt (numAt xs) (xs.size - 1)
  refine ⟨.int _, H, I.kept hk, ⟨_, rfl⟩, q _ ?_ fun a ha => ?_⟩
  · rw [numAt_eq]; exact PySem.getD_mem (by rw [List.length_map, Array.length_toList]; omega)
  · obtain ⟨j, hj, rfl⟩ := mem_getD ha
    rw [List.length_map, Array.length_toList] at hj
    rw [← numAt_eq]; exact h2 j (by omega)
end
end Onp
set_option maxHeartbeats 4000000
namespace Onp
open PySem PySem.Spec PyProof.Rows L2
def topS (i : Nat) : Stmt := PySem.Challenge.pw_onepurse_k34_machines_within_sieves.main.body.getD i (.Pass ⟨0, 0, 0, 0⟩)
abbrev sBag : Stmt := topS 50
abbrev sPull : Stmt := topS 51
abbrev sOf : Stmt := topS 52
/-! ### heaps: all but b stays -/
def Keep (b : Addr) (H H' : Hp) : Prop := ∀ a o, a ≠ b → H a = some o → H' a = some o
theorem Keep.refl {b : Addr} (H : Hp) : Keep b H H := fun _ _ _ h => h
theorem Keep.trans {b : Addr} {H H1 H2 : Hp} (x : Keep b H H1) (y : Keep b H1 H2) : Keep b H H2 := fun a o n h => y a o n (x a o n h)
theorem Keep.of {b : Addr} {H H' : Hp} (s : Same H H') : Keep b H H' := fun a o _ h => s a o h
theorem Keep.upd {b : Addr} {H : Hp} {o : HO} : Keep b H (upd H b o) := fun a x n h => by rw [upd_ne n]; exact h
theorem same_upd {H : Hp} {p : Addr} {o : HO} (h : H p = none) : Same H (upd H p o) := fun b x e => by
  rw [upd_ne (ne_of_none e h)]
  exact e
theorem Keep.new {b p : Addr} {H : Hp} {o : HO} (h : H p = none) : Keep b H (L2.upd H p o) := .of (same_upd h)
theorem Keep.seqL {K : PySem.W.Frag} {b a : Addr} {H H' : Hp} {xs : List V} (k : Keep b H H') (n : a ≠ b) (h : SqL K H a xs) : SqL K H' a xs := by
  rcases h with (h | ⟨o, h⟩) | h
  · exact .inl (.inl (k _ _ n h))
  · exact .inl (.inr ⟨o, k _ _ n h⟩)
  · exact .inr h
theorem Keep.seqT {K : PySem.W.Frag} {b a : Addr} {H H' : Hp} {xs : List V} (k : Keep b H H') (n : a ≠ b) (h : SqT K H a xs) : SqT K H' a xs := by
  rcases h with (h | ⟨o, h⟩) | h
  · exact .inl (.inl (k _ _ n h))
  · exact .inl (.inr ⟨o, k _ _ n h⟩)
  · exact .inr h
theorem same_seqT {K : PySem.W.Frag} {H H' : Hp} {a : Addr} {xs : List V} (e : Same H H') (h : SqT K H a xs) : SqT K H' a xs := by
  rcases h with (h | ⟨o, h⟩) | h
  · exact .inl (.inl (e _ _ h))
  · exact .inl (.inr ⟨o, e _ _ h⟩)
  · exact .inr h
theorem itT {c A B : Prop} [Decidable c] (hc : c) (h : A) : if decide c = true then A else B := by
  rw [if_pos (decide_eq_true hc)]; exact h
theorem itF {c A B : Prop} [Decidable c] (hc : ¬ c) (h : B) : if decide c = true then A else B := by
  rw [if_neg (by rw [decide_eq_false hc]; decide)]; exact h
/-! ### the bag: where it stands, where its list stands, the list -/
structure Bid where
  b : Addr
  l : Addr
  ns : List Int
def bagV (l : Addr) (i : Nat) (r s c : Int) : HO := .lst [.ref l, .int i, .int r, .int s, .int c]
def Bg (H : Hp) (g : Bid) : Prop := ∃ (i : Nat) (r s c : Int), H g.b = some (bagV g.l i r s c) ∧ H g.l = some (.lst (g.ns.map V.int)) ∧ g.l ≠ g.b
theorem Bg.same {H H' : Hp} {g : Bid} (x : Bg H g) (s : Same H H') : Bg H' g := by
  obtain ⟨i, r, z, c, h1, h2, h3⟩ := x
  exact ⟨i, r, z, c, s _ _ h1, s _ _ h2, h3⟩
theorem Bg.new {H : Hp} {g : Bid} {p : Addr} {o : HO} (x : Bg H g) (h : H p = none) : Bg (upd H p o) g := x.same (same_upd h)
theorem Bg.ne {H : Hp} {g : Bid} {p : Addr} (x : Bg H g) (h : H p = none) : p ≠ g.b := by
  obtain ⟨i, r, z, c, h1, h2, h3⟩ := x
  exact (ne_of_none h1 h).symm
theorem Bg.neL {H : Hp} {g : Bid} {p : Addr} (x : Bg H g) (h : H p = none) : p ≠ g.l := by
  obtain ⟨i, r, z, c, h1, h2, h3⟩ := x
  exact (ne_of_none h2 h).symm
theorem Bg.put {H : Hp} {g : Bid} {p : Addr} {o : HO} (x : Bg H g) (h1 : p ≠ g.b) (h2 : p ≠ g.l) : Bg (upd H p o) g := by
  obtain ⟨i, r, z, c, e1, e2, e3⟩ := x
  exact ⟨i, r, z, c, by rw [upd_ne h1.symm]; exact e1, by rw [upd_ne h2.symm]; exact e2, e3⟩
theorem cut63 (xs : List V) : cutV xs none (some 63) = xs.take 63 := by
  unfold cutV
  rw [HT.sIx_none, show HT.sIx xs.length xs.length (some 63) = min 63 xs.length from HT.sIx_nat xs.length xs.length 63]
  rw [List.drop_zero, Nat.sub_zero]
  by_cases h : xs.length ≤ 63
  · rw [List.take_of_length_le h, List.take_of_length_le (by omega)]
  · rw [show min 63 xs.length = 63 by omega]
section
variable {P : Program} {w : World} {K : PySem.W.Frag} {mg : Str → Option Value} {base : Heap}
def spBag (K : PySem.W.Frag) : Sp := fun vs H Q _ => ∃ (a : Addr) (ns : List Int), vs = [.ref a] ∧ SqL K H a (ns.map V.int) ∧
  ∀ (g : Bid) H', H g.b = none → Same H H' → Bg H' g → Q (.ref g.b) H'
theorem scBag : FnScope ["_law_script", "_law_seed", "_law_cell"] ["_law_script"] (defScope sBag) := ⟨rfl, rfl, rfl, by decide +kernel, rfl, by decide +kernel, by decide +kernel⟩
theorem ok_bag {f : Addr} {fd : FuncData} {k : Nat} (F : Fun K "_law_bag" "_law_bag" sBag f fd) (ml : mg "list" = none) : FnOk P w K mg base CX0 (k + 1) f fd ["_law_script"] (spBag K) := by
  refine F.ok scBag (fun vs H Q E h => ?_) (fun cdv A outer s H vs Q E hr h => ?_)
  · obtain ⟨a, ns, rfl, _⟩ := h
    rfl
  · obtain ⟨a, ns, rfl, hS, q⟩ := h
    refine ⟨_, pss_cons (ps_set (i := 1) scBag.nd rfl (.inl rfl) pe_int)
      (pss_cons (ps_for PassesOwn.never rfl (pi_list (pe_slice sl_list (pv 0) po_none (po_some pe_int))) (pg_name (i := 2) scBag.nd rfl (.inl rfl))
        (pss_one (ps_set (i := 1) scBag.nd rfl (.inl rfl) (pe_op op_mod (pe_op op_add (pe_op op_add (pe_op op_mul (pv 1) pe_int) (pv 2)) pe_int) pe_int))))
      (pss_one (ps_ret (pe_lst (pa_cons (pe_callTy call_list_of (by rfl) ml (by decide +kernel) (pa_cons (pe_slice sl_list (pv 0) po_none (po_some pe_int)) pa_nil))
        (pa_cons pe_int (pa_cons pe_int (pa_cons (pv 1) (pa_cons pe_int pa_nil))))))))), ?_⟩
    refine ⟨.ref a, rfl, 63, rfl, a, ns.map V.int, rfl, hS, fun p np => ?_⟩
    have s1 : Same H (upd H p (.lst (cutV (ns.map V.int) none (some 63)))) := same_upd np
    refine ⟨p, rfl, ⟨_, SqL.of upd_same⟩, for_list (K := K) (a := p) (xs := cutV (ns.map V.int) none (some 63))
      (fun i σ H' => ∃ (z : Int) (y : Option V), σ = [some (.ref a), some (.int z), y] ∧ H' = upd H p (.lst (cutV (ns.map V.int) none (some 63))))
      ⟨37, none, rfl, rfl⟩ (fun i σ H' _ ⟨z, y, _, e⟩ => by rw [e]; exact SqL.of upd_same) ?_ ?_⟩
    · rintro i x σ H' hi ⟨z, y, rfl, rfl⟩
      obtain ⟨n, rfl⟩ : ∃ n, x = V.int n := by
        rw [cut63, ← List.map_take, List.getElem?_map] at hi
        cases e : (ns.take 63)[i]? with
        | none => rw [e] at hi; cases hi
        | some u => rw [e] at hi; exact ⟨u, (Option.some.inj hi).symm⟩
      exact ⟨_, rfl, _, _, rfl, rfl, .inr ⟨by decide, by decide⟩, _, rfl, _, _, rfl, rfl, _, _, rfl, rfl, _, _, rfl, rfl, (by show (0 : Int) < 2147483629; decide), _, _, rfl, rfl⟩
    · rintro σ H' ⟨z, y, rfl, rfl⟩
      refine ⟨.ref a, rfl, 63, rfl, a, ns.map V.int, rfl, s1.seq hS, fun p2 np2 => ?_⟩
      refine ⟨p2, _, rfl, .inl (SqL.of upd_same), fun l nl => ?_⟩
      refine ⟨_, rfl, (by show 5 ≤ sizeLine; decide), fun b nb => ?_⟩
      have s2 := s1.trans (same_upd (o := .lst (cutV (ns.map V.int) none (some 63))) np2)
      have s3 := s2.trans (same_upd (o := .lst (cutV (ns.map V.int) none (some 63))) nl)
      have s4 := s3.trans (same_upd (o := .lst [.ref l, .int 0, .int 0, .int z, .int 0]) nb)
      refine q ⟨b, l, ns.take 63⟩ _ (s3.free nb) s4 ⟨0, 0, z, 0, upd_same, ?_, ?_⟩
      · show upd _ b _ l = _
        rw [upd_ne (ne_of_none upd_same nb), upd_same, cut63, List.map_take]
      · exact ne_of_none upd_same nb
/-! ### pull -/
def spPull (K : PySem.W.Frag) : Sp := fun vs H Q _ => ∃ (g : Bid) (m : Int), vs = [.ref g.b, .int m] ∧ 0 < m ∧ m.natAbs < 2 ^ 200 ∧ Bg H g ∧
  ∀ (z : Int) H', 0 ≤ z → z < m → Keep g.b H H' → Bg H' g → Q (.int z) H'
theorem scPull : FnScope ["_law_bag_here", "_law_many", "_law_rest", "_law_cell", "_law_one", "_law_two"] ["_law_bag_here", "_law_many"] (defScope sPull) := ⟨rfl, rfl, rfl, by decide +kernel, rfl, by decide +kernel, by decide +kernel⟩
theorem upd_bag {H : Hp} {b : Addr} {o o' : HO} : Keep b H (upd (upd H b o) b o') := by
  rw [upd_upd]
  exact Keep.upd
theorem mod_lo {a m : Int} (h : 0 < m) : 0 ≤ a % m := Int.emod_nonneg _ (by omega)
theorem mod_hi {a m : Int} (h : 0 < m) : a % m < m := Int.emod_lt_of_pos _ h
theorem ok_pull {f : Addr} {fd : FuncData} {k : Nat} (F : Fun K "_law_pull" "_law_pull" sPull f fd) (ml : mg "len" = none) : FnOk P w K mg base CX0 (k + 1) f fd ["_law_bag_here", "_law_many"] (spPull K) := by
  refine F.ok scPull (fun vs H Q E h => ?_) (fun cdv A outer s H vs Q E hr h => ?_)
  · obtain ⟨a, ns, rfl, _⟩ := h
    rfl
  · obtain ⟨⟨b, l, ns⟩, m, rfl, m0, m1, ⟨i, r, sd, c, hb, hl0, nlb⟩, q⟩ := h
    have hl : SqL K H l (ns.map V.int) := SqL.of hl0
    refine ⟨_, pss_cons (ps_augS (pv 0) pe_int get_list pe_int ip_add set_list)
      (pss_cons (ps_if (pt_cmpR op_gt (pe_ix ix_list (pv 0) pe_int (fun _ _ => rfl)) pe_int (nomark _))
        (pss_cons (ps_set (i := 2) scPull.nd rfl (.inl rfl) (pe_ix ix_list (pv 0) pe_int (fun _ _ => rfl)))
        (pss_cons (ps_asg (pe_op op_fdivW (pv 2) (pv 1)) (pg_sub (pv 0) pe_int set_list))
        (pss_one (ps_ret (pe_op op_mod (pv 2) (pv 1)))))) pss_nil)
      (pss_cons (ps_set (i := 3) scPull.nd rfl (.inl rfl) (pe_ix ix_list (pv 0) pe_int (fun _ _ => rfl)))
      (C8.pss_cut (ps_if (pt_cmpR op_lt (pe_ix ix_list (pv 0) pe_int (fun _ _ => rfl)) (pe_callB call_len_seq (by rfl) ml PySem.boot_len (pa_cons (pe_ix ix_list (pv 0) pe_int (fun _ _ => rfl)) pa_nil)) (nomark _))
        (pss_cons (ps_set (i := 3) scPull.nd rfl (.inl rfl) (pe_ix ix_list (pe_ix ix_list (pv 0) pe_int (fun _ _ => rfl)) (pe_ix ix_list (pv 0) pe_int (fun _ _ => rfl)) (fun _ _ => rfl)))
        (pss_one (ps_augS (pv 0) pe_int get_list pe_int ip_add set_list))) pss_nil)
      (pss_cons (ps_if (pt_cmpR op_ge (pv 3) (pe_op op_pow pe_int pe_int) (nomark _))
        (pss_cons (ps_asg (pe_op op_fdivW (pv 3) (pv 1)) (pg_sub (pv 0) pe_int set_list))
        (pss_one (ps_ret (pe_op op_mod (pv 3) (pv 1))))) pss_nil)
      (pss_cons (ps_set (i := 4) scPull.nd rfl (.inl rfl) (pe_op op_mod (pe_op op_add (pe_op op_add (pe_op op_add (pe_op op_mul (pv 3) pe_int) (pe_op op_mul (pe_ix ix_list (pv 0) pe_int (fun _ _ => rfl)) pe_int)) (pe_op op_mul (pe_ix ix_list (pv 0) pe_int (fun _ _ => rfl)) pe_int)) pe_int) pe_int))
      (pss_cons (ps_set (i := 5) scPull.nd rfl (.inl rfl) (pe_op op_mod (pe_op op_add (pe_op op_add (pe_op op_mul (pv 4) (pe_op op_add (pe_op op_mod (pv 4) pe_int) pe_int)) (pe_op op_mul (pe_ix ix_list (pv 0) pe_int (fun _ _ => rfl)) pe_int)) (pe_op op_mod (pe_ix ix_list (pv 0) pe_int (fun _ _ => rfl)) pe_int)) pe_int))
      (pss_cons (ps_asg (pe_op op_mod (pe_op op_add (pe_op op_mul (pe_ix ix_list (pv 0) pe_int (fun _ _ => rfl)) pe_int) (pv 5)) pe_int) (pg_sub (pv 0) pe_int set_list))
      (pss_one (ps_ret (pe_op op_mod (pe_op op_fdiv (pv 5) pe_int) (pv 1))))))))))), ?_⟩
    -- bag[4] += 1
    refine ⟨.ref b, rfl, b, _, 4, .int c, rfl, rfl, SqL.of hb, rfl, c, 1, rfl, rfl, b, _, 4, 4, rfl, rfl, hb, rfl, ?_⟩
    -- if bag[2] > 0
    refine ⟨.ref b, rfl, b, _, 2, .int r, rfl, rfl, SqL.of upd_same, rfl, r, 0, rfl, rfl, _, rfl, ite2 (fun _ => ?_) (fun _ => ?_)⟩
    · refine ⟨.ref b, rfl, b, _, 2, .int r, rfl, rfl, SqL.of upd_same, rfl, ?_⟩
      refine ⟨_, rfl, _, rfl, r, m, rfl, rfl, wide_div m0 m1 (by decide) (by decide), .ref b, rfl, b, _, 2, 2, rfl, rfl, upd_same, rfl, ?_⟩
      refine ⟨_, rfl, _, rfl, r, m, rfl, rfl, m0, q _ _ (mod_lo m0) (mod_hi m0) upd_bag ⟨i, r / m, sd, c + 1, upd_same, ?_, nlb⟩⟩
      exact upd_bag _ _ nlb hl0
    · -- cell = bag[3]
      refine ⟨.ref b, rfl, b, _, 3, .int sd, rfl, rfl, SqL.of upd_same, rfl, ?_⟩
      refine ⟨fun σ H1 => ∃ (i' : Nat) (z : Int), σ = [some (.ref b), some (.int m), none, some (.int z), none, none] ∧ H1 = upd H b (bagV l i' r sd (c + 1)), ?_, ?_⟩
      · refine ⟨.ref b, rfl, b, _, 1, .int i, rfl, rfl, SqL.of upd_same, rfl, .ref b, rfl, b, _, 0, .ref l, rfl, rfl, SqL.of upd_same, rfl, l, ns.map V.int, rfl, .inl (Keep.upd.seqL nlb hl), i, ((ns.map V.int).length : Int), rfl, rfl, _, rfl, ite2 (fun hi => ?_) (fun _ => ?_)⟩
        · have hi' : i < ns.length := by
            have := of_decide_eq_true hi
            rw [List.length_map] at this
            omega
          have gi : (ns.map V.int)[i]? = some (.int ns[i]) := by
            rw [List.getElem?_map, List.getElem?_eq_getElem hi']
            rfl
          refine ⟨.ref b, rfl, b, _, 0, .ref l, rfl, rfl, SqL.of upd_same, rfl, .ref b, rfl, b, _, 1, .int i, rfl, rfl, SqL.of upd_same, rfl, l, ns.map V.int, i, .int ns[i], rfl, rfl, Keep.upd.seqL nlb hl, atI_nat gi, ?_⟩
          refine ⟨.ref b, rfl, b, _, 1, .int i, rfl, rfl, SqL.of upd_same, rfl, i, 1, rfl, rfl, b, _, 1, 1, rfl, rfl, upd_same, rfl, i + 1, ns[i], rfl, ?_⟩
          rw [upd_upd]
          rfl
        · exact ⟨i, sd, rfl, rfl⟩
      · rintro σ H1 ⟨i', z, rfl, rfl⟩
        have hb1 : (upd H b (bagV l i' r sd (c + 1))) b = some (bagV l i' r sd (c + 1)) := upd_same
        refine ⟨.int z, rfl, 10, 18, rfl, rfl, ⟨by decide, by decide, by decide⟩, z, _, rfl, rfl, _, rfl, ite2 (fun _ => ?_) (fun _ => ?_)⟩
        · refine ⟨_, rfl, _, rfl, z, m, rfl, rfl, wide_div m0 m1 (by decide) (by decide), .ref b, rfl, b, _, 2, 2, rfl, rfl, upd_same, rfl, ?_⟩
          refine ⟨_, rfl, _, rfl, z, m, rfl, rfl, m0, q _ _ (mod_lo m0) (mod_hi m0) upd_bag ⟨i', z / m, sd, c + 1, upd_same, ?_, nlb⟩⟩
          exact upd_bag _ _ nlb hl0
        · -- one
          refine ⟨_, rfl, _, _, rfl, rfl, .inr ⟨by decide, by decide⟩, .ref b, rfl, b, _, 3, .int sd, rfl, rfl, SqL.of upd_same, rfl, _, _, rfl, rfl, .inr ⟨by decide, by decide⟩, _, _, rfl, rfl, .ref b, rfl, b, _, 4, .int (c + 1), rfl, rfl, SqL.of upd_same, rfl, _, _, rfl, rfl, .inr ⟨by decide, by decide⟩, _, _, rfl, rfl, _, _, rfl, rfl, _, _, rfl, rfl, (by show (0 : Int) < 2147483629; decide), ?_⟩
          have o0 := mod_lo (a := z * 48271 + sd * 40503 + (c + 1) * 69621 + 9176) (m := 2147483629) (by decide)
          have o1 := mod_hi (a := z * 48271 + sd * 40503 + (c + 1) * 69621 + 9176) (m := 2147483629) (by decide)
          generalize hone : (z * 48271 + sd * 40503 + (c + 1) * 69621 + 9176) % 2147483629 = one at o0 o1
          -- two
          refine ⟨_, rfl, _, rfl, _, _, rfl, rfl, (by show (0 : Int) < 65521; decide), _, _, rfl, rfl, _, _, rfl, rfl, .inl ⟨?_, ?_⟩, .ref b, rfl, b, _, 4, .int (c + 1), rfl, rfl, SqL.of upd_same, rfl, _, _, rfl, rfl, .inr ⟨by decide, by decide⟩, _, _, rfl, rfl, .ref b, rfl, b, _, 3, .int sd, rfl, rfl, SqL.of upd_same, rfl, _, _, rfl, rfl, (by show (0 : Int) < 104729; decide), _, _, rfl, rfl, _, _, rfl, rfl, (by show (0 : Int) < 998244353; decide), ?_⟩
          · rw [hone]; omega
          · rw [hone]; omega
          refine ⟨.ref b, rfl, b, _, 3, .int sd, rfl, rfl, SqL.of upd_same, rfl, _, _, rfl, rfl, .inr ⟨by decide, by decide⟩, _, rfl, _, _, rfl, rfl, _, _, rfl, rfl, (by show (0 : Int) < 2147483563; decide), .ref b, rfl, b, _, 3, 3, rfl, rfl, upd_same, rfl, ?_⟩
          refine ⟨_, rfl, _, _, rfl, rfl, ⟨by decide, by decide⟩, _, rfl, _, _, rfl, rfl, m0, q _ _ (mod_lo m0) (mod_hi m0) upd_bag ⟨i', r, _, c + 1, upd_same, ?_, nlb⟩⟩
          exact upd_bag _ _ nlb hl0
/-! ### one of a list -/
def spOf (K : PySem.W.Frag) : Sp := fun vs H Q _ => ∃ (g : Bid) (p : Addr) (xs : List V), vs = [.ref g.b, .ref p] ∧ Bg H g ∧ p ≠ g.b ∧ SqL K H p xs ∧ 0 < xs.length ∧ xs.length < 1000 ∧
  ∀ v H', v ∈ xs → Keep g.b H H' → Bg H' g → Q v H'
theorem scOf : FnScope ["_law_bag_here", "_law_some"] ["_law_bag_here", "_law_some"] (defScope sOf) := ⟨rfl, rfl, rfl, by decide +kernel, rfl, by decide +kernel, by decide +kernel⟩
theorem ok_of {f fP : Addr} {fd fdP : FuncData} {k : Nat} (F : Fun K "_law_of" "_law_of" sOf f fd) (FP : Fun K "_law_pull" "_law_pull" sPull fP fdP) (bP : Binds K fdP ["_law_bag_here", "_law_many"] []) (gP : mg "_law_pull" = some (.ref fP)) (ml : mg "len" = none) : FnOk P w K mg base CX0 (k + 2) f fd ["_law_bag_here", "_law_some"] (spOf K) := by
  have GP : FnOk P w K mg base CX0 (k + 1) fP fdP ["_law_bag_here", "_law_many"] (spPull K) := ok_pull FP ml
  refine F.ok scOf (fun vs H Q E h => ?_) (fun cdv A outer s H vs Q E hr h => ?_)
  · obtain ⟨b, p, xs, rfl, _⟩ := h
    rfl
  · obtain ⟨b, p, xs, rfl, B, npb, hx, h0, hlen, q⟩ := h
    refine ⟨_, pss_one (ps_ret (pe_ix ix_list (pv 1) (pe_call GP hr (by rfl) gP FP.kp bP .nil pass0 (pa_cons (pv 0) (pa_cons (pe_callB call_len_seq (by rfl) ml PySem.boot_len (pa_cons (pv 1) pa_nil)) pa_nil))) (fun _ _ => rfl))), ?_⟩
    refine ⟨.ref p, rfl, .ref b.b, rfl, .ref p, rfl, p, xs, rfl, .inl hx, b, (xs.length : Int), rfl, by omega, ?_, B, fun z H' z0 z1 kp B' => ?_⟩
    · exact Nat.lt_trans (show ((xs.length : Int)).natAbs < 2 ^ 64 by omega) (by decide)
    · have e : z = ((z.toNat : Nat) : Int) := by omega
      have hz1 : z.toNat < xs.length := by omega
      rw [e]
      exact ⟨p, xs, z.toNat, xs[z.toNat], rfl, rfl, kp.seqL npb hx, atI_nat (List.getElem?_eq_getElem hz1), q _ _ (List.getElem_mem hz1) kp B'⟩
end
end Onp
set_option maxHeartbeats 2000000
/-! while an exception is handled: the ends of walks -/
namespace Onp
open PySem PySem.Spec PyProof.Rows L2 HotX L2H
section
variable {prog : Program} {w : World} {A : Around} {E : Value → Shared → Prop} {s : Shared}
/-- a StopIteration raised while x1 is handled -/
theorem stopHot {α : Type} {x1 : Addr} {Q : α → Shared → Prop} (hot : HotAt A x1 s.heap)
    (hE : ∀ h' e, (∀ b o, s.heap.get? b = some o → h'.get? b = some o) → (∃ o, h'.get? e = some o ∧ o.cls = .type "StopIteration") → E (.ref e) { s with heap := h' }) :
    wpAny (model prog w) A ((newExc (.type "StopIteration") [] >>= fun v => raiseNew v) : Sem α) Q E s := by
  obtain ⟨hh, o1, vs1, g1, g2, g3⟩ := hot
  refine wpAny_bind ?_
  simp only [newExc, newTuple]
  refine wpAny_bind (wpAny_newObj_type (wpAny_bind (m := firstArgMember _ _) (wpAny_of_eq (a := Value.none) (by first | rfl | (simp only [firstArgMember]; rfl)) (wpAny_newObj_type ?_ (by size_fits)))) (by size_fits))
  have k1 : (s.heap.push { cls := .type "tuple", data := .seq #[] }).get? x1 = some o1 := Heap.get?_push_of_some _ g1
  refine raiseNew_hot (x1 := x1) ⟨hh, o1, vs1, Heap.get?_push_of_some _ k1, g2, g3⟩ (Nat.ne_of_lt (Heap.lt_size k1)) (Heap.get?_push_size _ rfl) rfl (by first | (simp; done) | (simp; omega)) ?_
  refine hE _ _ (fun b o e => ?_) ⟨_, Heap.get?_update_self _ (Heap.get?_push_size _ rfl) rfl, rfl⟩
  have k2 : (s.heap.push { cls := .type "tuple", data := .seq #[] }).get? b = some o := Heap.get?_push_of_some _ e
  rw [Heap.get?_update_other _ _ (Nat.ne_of_gt (Heap.lt_size k2))]
  exact Heap.get?_push_of_some _ k2
theorem hot_but {x1 a : Addr} {h h' : Heap} (t : HotAt A x1 h) (n : x1 ≠ a) (k : ∀ b o, b ≠ a → h.get? b = some o → h'.get? b = some o) : HotAt A x1 h' := by
  obtain ⟨hh, o1, vs1, g1, g2, g3⟩ := t
  exact ⟨hh, o1, vs1, k _ _ n g1, g2, g3⟩
/-- the end of a list, asked by nextOf -/
theorem listEndHot {x1 it l : Addr} {i : Nat} {items : Array Value} {Q : Value → Shared → Prop} (hot : HotAt A x1 s.heap) (nx : x1 ≠ it) (hit : s.heap.IsListIter it l i) (hl : s.heap.IsList l items) (hx : items[i]? = none)
    (hE : ∀ h' e, Heap.ExtBut it s.heap h' → (∃ o, h'.get? e = some o ∧ o.cls = .type "StopIteration") → E (.ref e) { s with heap := h' }) : wpAny (model prog w) A (Builtin.SmallTypes.nextOf (.ref it)) Q E s := by
  obtain ⟨ob, g1, g2, g3⟩ := id hit
  obtain ⟨lb, k1, _, kn, k3⟩ := hl
  unfold Builtin.SmallTypes.nextOf
  refine wpAny_bind (wpAny_callSpecial?_slot (name := Str.ofString "__next__") hit.typeIs slot_listiter_next (wpAny_call_entry slot_listiter_next hit.typeIs entry_listiter_next ?_ (args_listiter_next _)))
  show wpAny _ _ (field (.ref it) 0 >>= _) _ _ s
  refine wpAny_bind (wpAny_field g1 g3 (x := .ref l) rfl ?_)
  show wpAny _ _ (if (Value.ref l == Value.none) = true then _ else _) _ _ s
  rw [if_neg (by exact Bool.false_ne_true : ¬ ((Value.ref l == Value.none) = true))]
  show wpAny _ _ (field (.ref it) 1 >>= _) _ _ s
  refine wpAny_bind (wpAny_field g1 g3 (x := .int i 0) rfl ?_)
  show wpAny _ _ (seqItems? (.ref l) >>= _) _ _ s
  refine wpAny_bind (wpAny_seqItems k1 k3 ?_)
  simp only [hx, Int.toNat_natCast]
  refine wpAny_bind (wpAny_rule (wpAny_bind (wpAny_setField g1 g3 (by simp) ?_)))
  have sb : Heap.SameBut it s.heap (s.heap.update it (Obj.mapFields (·.setIfInBounds 0 Value.none))) := Heap.SameBut.update ..
  refine stopHot (x1 := x1) (hot_but (A := A.in1) hot nx fun b o n e => sb.extBut b o n e) fun h' e k he => hE h' e (fun b o n q => k b o (sb.extBut b o n q)) he
/-- the end of a tuple -/
theorem tupEndHot {x1 it t : Addr} {i : Nat} {items : Array Value} {Q : Option Value → Shared → Prop} (hot : HotAt A x1 s.heap) (nx : x1 ≠ it) (hit : IsTupIter s.heap it t i) (ht : IsTup s.heap t items) (hx : items[i]? = none)
    (hQ : ∀ h', Heap.ExtBut it s.heap h' → Q none { s with heap := h' }) : wpAny (model prog w) A (pyNext (.ref it)) Q E s := by
  obtain ⟨ob, g1, g2, g3⟩ := id hit
  obtain ⟨lb, k1, _, kn, k3⟩ := ht
  unfold pyNext
  refine wpAny_bind (wpAny_attempt (wpAny_callSpecial?_slot (name := Str.ofString "__next__") hit.typeIs slot_tupleiter_next (wpAny_call_entry slot_tupleiter_next hit.typeIs entry_tupleiter_next ?_ (args_tupleiter_next _))))
  show wpAny _ _ (field (.ref it) 0 >>= _) _ _ s
  refine wpAny_bind (wpAny_field g1 g3 (x := .ref t) rfl ?_)
  show wpAny _ _ (if (Value.ref t == Value.none) = true then _ else _) _ _ s
  rw [if_neg (by exact Bool.false_ne_true : ¬ ((Value.ref t == Value.none) = true))]
  show wpAny _ _ (field (.ref it) 1 >>= _) _ _ s
  refine wpAny_bind (wpAny_field g1 g3 (x := .int i 0) rfl ?_)
  show wpAny _ _ (seqItems? (.ref t) >>= _) _ _ s
  refine wpAny_bind (wpAny_seqItems k1 k3 ?_)
  simp only [hx, Int.toNat_natCast]
  refine wpAny_bind (wpAny_rule (wpAny_bind (wpAny_setField g1 g3 (by simp) ?_)))
  have sb : Heap.SameBut it s.heap (s.heap.update it (Obj.mapFields (·.setIfInBounds 0 Value.none))) := Heap.SameBut.update ..
  refine stopHot (x1 := x1) (hot_but (A := A.in1) hot nx fun b o n e => sb.extBut b o n e) fun h' e k he => ?_
  obtain ⟨oe, q1, q2⟩ := he
  exact wpAny_bind (wpAny_isInstance (T := "StopIteration") (b := true) ⟨oe, q1, q2⟩ isSubtype_stop (wpAny_pure (hQ h' fun b o n q => k b o (sb.extBut b o n q))))
/-- a tuple unpacked -/
theorem unpackHot {x1 t : Addr} {items : Array Value} {Q : List Value → Shared → Prop} (hot : HotAt A x1 s.heap) (ht : IsTup s.heap t items)
    (hQ : ∀ h', Heap.ExtBut s.heap.objs.size s.heap h' → Q items.toList { s with heap := h' }) : wpAny (model prog w) A (unpackItems (.ref t) items.size none) Q E s := by
  have n1 : t ≠ s.heap.objs.size := by
    obtain ⟨o, ho, _⟩ := ht
    exact Nat.ne_of_lt (Heap.lt_size ho)
  have n2 : x1 ≠ s.heap.objs.size := by
    obtain ⟨_, o, _, ho, _⟩ := hot
    exact Nat.ne_of_lt (Heap.lt_size ho)
  unfold unpackItems
  refine wpAny_bind ?_
  unfold notIterableAtAll
  refine wpAny_bind (wpAny_specialOf ht.typeIs slot_tuple_iter.lookup (wpAny_pure ?_))
  simp only [if_false, Bool.false_eq_true]
  refine wpAny_bind (wpAny_holding (iter_tuple ht (wpAny_bind (wpAny_holding (draw_tuple n1 items.size 0 _ _ ⟨_, Heap.get?_push_size _ rfl, rfl, rfl⟩ (ht.push _) (by omega) fun j1 c1 c2 => ?_)))))
  have whole : List.take items.size (List.drop 0 items.toList) = items.toList := by rw [List.drop_zero, List.take_of_length_le (by simp)]
  rw [whole, if_neg (by simp)]
  have tj : IsTup j1 t items := (ht.push _).extBut c2.extBut n1
  have hj : HotAt A x1 j1 := hot_but hot n2 fun b o n e => c2.extBut b o n (Heap.get?_push_of_some _ e)
  refine wpAny_bind (wpAny_holding (tupEndHot hj n2 c1 tj (by simp) fun j2 c3 => ?_))
  simp only [if_false, Option.isSome_none, Bool.false_eq_true]
  exact wpAny_pure (hQ j2 fun b o n e => c3 b o n (c2.extBut b o n (Heap.get?_push_of_some _ e)))
theorem assignTupHot {x1 : Addr} {env : Env} {elts : List Expr} {k} {pos : Pos} {t : Addr} {items : Array Value} {Q : Unit → Shared → Prop} (hot : HotAt A x1 s.heap) (ht : IsTup s.heap t items)
    (hn : (assignEach elts env).length = items.size) (hstar : (assignEach elts env).findIdx? (·.1) = none)
    (h : ∀ h', Heap.ExtBut s.heap.objs.size s.heap h' → wpAny (model prog w) A (assignInOrder ((assignEach elts env).map (·.2)) items.toList) Q E { s with heap := h' }) :
    wpAny (model prog w) A (assign (.Tuple elts k pos) env (.ref t)) Q E s := by
  rw [assign_Tuple]
  refine wpAny_bind (wpAny_standAt ?_)
  unfold unpack
  rw [hn, hstar]
  exact wpAny_bind (wpAny_holding (unpackHot hot ht h))
/-- zip's end: the first list is through -/
theorem zipEndHot {x1 z TI TO i1 i2 l1 l2 : Addr} {k1 : Nat} {xs : Array Value} {a b : Value} {Q : Option Value → Shared → Prop} (hot : HotAt A x1 s.heap) (nx : x1 ≠ z ∧ x1 ≠ i1) (D : ZipApart z TI TO i1 i2 l1 l2)
    (hz : IsZip s.heap z TI TO .none) (hTI : IsPair s.heap TI (.ref i1) (.ref i2)) (hTO : IsPair s.heap TO a b) (h1 : s.heap.IsListIter i1 l1 k1) (hl1 : s.heap.IsList l1 xs) (hx : xs[k1]? = none)
    (hQ : ∀ h', (∀ c o, c ≠ z → c ≠ i1 → s.heap.get? c = some o → h'.get? c = some o) → Q none { s with heap := h' }) : wpAny (model prog w) A (pyNext (.ref z)) Q E s := by
  have hT : s.TypeIs (.ref z) "zip" := ⟨_, hz, rfl⟩
  unfold pyNext
  refine wpAny_bind (wpAny_attempt (wpAny_callSpecial?_slot (name := Str.ofString "__next__") hT F.slot_zip_next (wpAny_call_entry F.slot_zip_next hT F.entry_zip_next ?_ (F.args_zip_next_1 _))))
  show wpAny _ _ (field (.ref z) 2 >>= _) _ _ _
  refine wpAny_bind (wpAny_field hz rfl (x := .bool false) rfl ?_)
  show wpAny _ _ (field (.ref z) 3 >>= _) _ _ _
  refine wpAny_bind (wpAny_field hz rfl (x := .ref TI) rfl (wpAny_bind (wpAny_seqItems hTI rfl ?_)))
  show wpAny _ _ (Builtin.SmallTypes.ownedTupleIsFree (.ref z) >>= _) _ _ _
  refine wpAny_bind ?_
  unfold Builtin.SmallTypes.ownedTupleIsFree
  refine wpAny_bind (wpAny_field hz rfl (x := .none) rfl (wpAny_pure ?_))
  simp only [if_true]
  refine wpAny_bind (wpAny_rule (wpAny_bind (wpAny_field hz rfl (x := .ref TO) rfl (wpAny_bind (wpAny_setField_rec hz (by simp) fun j1 zj sj => ?_)))))
  replace zj : IsZip j1 z TI TO .ellipsis := zj
  refine wpAny_bind ?_
  simp only [List.zipIdx_cons, List.zipIdx_nil, List.forIn_cons, List.forIn_nil]
  refine wpAny_bind (wpAny_bind (wpAny_onRaise ?_))
  show wpAny _ _ (Builtin.SmallTypes.nextOf (.ref i1) >>= _) _ _ _
  refine wpAny_bind (listEndHot (x1 := x1) (hot_but (A := A.in1) hot nx.1 fun b o n e => sj.extBut b o n e) nx.2 (h1.extBut sj.extBut D.i1z) (hl1.extBut sj.extBut D.l1z) hx fun j2 e c2 he => ?_)
  obtain ⟨oe, q1, q2⟩ := he
  have z2 : IsZip j2 z TI TO .ellipsis := c2 _ _ D.i1z.symm zj
  have ez : e ≠ z := fun x => by subst x; rw [z2] at q1; cases q1; simp at q2
  refine wpAny_setField_rec z2 (by simp) fun j3 _ c3 => ?_
  exact wpAny_bind (wpAny_isInstance (T := "StopIteration") (b := true) ⟨oe, c3.extBut _ _ ez q1, q2⟩ isSubtype_stop (wpAny_pure (hQ j3 fun c o n1 n2 q => c3.extBut _ _ n1 (c2 _ _ n2 (sj.extBut _ _ n1 q)))))
end
end Onp
set_option maxHeartbeats 4000000
namespace Onp
open PySem PySem.Spec PyProof.Rows L2 HotX L2H
/-! ### (a, b) = a tuple, while an exception is handled -/
theorem pg_tupH {X : Cx} {es : List Expr} {k : Nat} {t : TGs} {n : Nat} {pos : Pos} (hc : HotC X) (h : PGs X es t) (hn : (assignEach es X.env).length = n := by rfl) (hst : (assignEach es X.env).findIdx? (·.1) = none := by rfl) :
    PG X (.Tuple es k pos) (gTup X.K n t) := by
  refine ⟨fun pins s σ H v u Q I r hw => ?_⟩
  obtain ⟨p, xs, rfl, hq, hl, hw⟩ := hw
  obtain rfl : u = Value.ref p := r
  obtain ⟨its, rv, ht, hz⟩ := I.tuple hq
  obtain ⟨x1, hot⟩ := hc.at I
  refine assignTupHot hot ht (by simp [hn, ← hl, rv.length]) hst fun h' hx => ?_
  exact h.run pins _ σ H xs _ Q (I.kept (t' := s.toks) fun b o e => hx b o (Nat.ne_of_lt (Heap.lt_size e)) e) (by simpa using rv) hw
/-! ### zip of two lists, the first no longer than the second -/
def Itz1 (K : PySem.W.Frag) (a b : Addr) : It := ⟨(Itz K a b).go, (Itz K a b).yld, fun i H => ∃ xs ys : List V, SqL K H a xs ∧ SqL K H b ys ∧ xs.length ≤ i⟩
def zipSt (a b z TI TO i1 i2 : Addr) (i : Nat) (h : Heap) : Prop := IsZip h z TI TO .none ∧ IsPair h TI (.ref i1) (.ref i2) ∧ (∃ x y, IsPair h TO x y) ∧ h.IsListIter i1 a i ∧ h.IsListIter i2 b i
theorem turnZipH {P : Program} {w : World} {K : PySem.W.Frag} {elts : List Expr} {kk : Nat} {tpos : Pos} {a b z TI TO i1 i2 : Addr} (D : ZipApart z TI TO i1 i2 a b) :
    TurnH P w K (.Tuple elts kk tpos) (Itz1 K a b) [z, TI, TO, i1, i2] z (zipSt a b z TI TO i1 i2) where
  mem := List.mem_cons_self
  obj := (turn_zip (P := P) (w := w) (K := K) (elts := elts) (kk := kk) (tpos := tpos) D).obj
  keep := (turn_zip (P := P) (w := w) (K := K) (elts := elts) (kk := kk) (tpos := tpos) D).keep
  self := (turn_zip (P := P) (w := w) (K := K) (elts := elts) (kk := kk) (tpos := tpos) D).self
  item := by
    intro X eP ew eK hc i pins s σ H E I hf st hg
    subst eP ew eK
    obtain ⟨z1, z2, ⟨v1, v2, z3⟩, z4, z5⟩ := st
    obtain ⟨xs, ys, x, y, qx, qy, ex, ey⟩ := hg
    obtain ⟨us, ru, pu, _⟩ := I.list qx
    obtain ⟨ws, rw', pw, _⟩ := I.list qy
    obtain ⟨u1, e1, r1⟩ := ru.get ex
    obtain ⟨u2, e2, r2⟩ := rw'.get ey
    have lz : z < s.heap.objs.size := Heap.lt_size z1
    refine wpAny_pyNext_zip_item D z1 z2 z3 z4 z5 pu.isList pw.isList (x := u1) (y := u2) (by simpa using e1) (by simpa using e2) fun j n1 n2 n3 n4 n5 n6 n7 => ⟨_, rfl, ?_⟩
    refine wpAny_letOwnedTupleGo_zip (s := { s with heap := j }) n1 fun j2 m1 sb => ?_
    have old : ∀ c, c ∈ [z, TI, TO, i1, i2] → c < s.heap.objs.size := fun c hm => by
      have e' : c = z ∨ c = TI ∨ c = TO ∨ c = i1 ∨ c = i2 := by simpa using hm
      obtain ⟨_, q4, _⟩ := z4
      obtain ⟨_, q5, _⟩ := z5
      rcases e' with rfl | rfl | rfl | rfl | rfl
      · exact lz
      · exact Heap.lt_size z2
      · exact Heap.lt_size z3
      · exact Heap.lt_size q4
      · exact Heap.lt_size q5
    have tj : j2.get? s.heap.objs.size = some { cls := .type "tuple", data := .seq #[u1, u2] } := (sb.2 _ (Nat.ne_of_gt lz)).trans n5
    have kp : ∀ c o, c ∉ [z, TI, TO, i1, i2] → s.heap.get? c = some o → j2.get? c = some o := fun c o nm q => by
      have nn : c ≠ z ∧ c ≠ TI ∧ c ≠ TO ∧ c ≠ i1 ∧ c ≠ i2 := by simpa using nm
      exact (sb.2 c nn.1).trans (n7 c o nn.1 nn.2.2.1 nn.2.2.2.1 nn.2.2.2.2 q)
    have J := I.turnedNew (t' := s.toks) (ch := [z, TI, TO, i1, i2]) (ob := .tup [x, y]) kp hf (Nat.le_refl _) ⟨(by decide : 2 ≤ sizeLine), [u1, u2], .cons r1 (.cons r2 .nil), ⟨_, tj, rfl, _, rfl⟩⟩
    refine ⟨.ref s.heap.objs.size, _, J, rfl, ⟨_, x, y, rfl, I.hok.fresh (Nat.le_refl _), rfl, fun l hl => by rw [I.list_inj hl qx]; exact ex, fun l hl => by rw [I.list_inj hl qy]; exact ey⟩, ⟨m1, ?_, ⟨u1, u2, ?_⟩, ?_, ?_⟩, fun c hm => ?_⟩
    · exact (sb.2 _ D.TIz).trans (n7 _ _ D.TIz D.TITO D.TIi1 D.TIi2 z2)
    · exact (sb.2 _ D.TOz).trans n2
    · exact n3.at fun o q => (sb.2 _ D.i1z).trans q
    · exact n4.at fun o q => (sb.2 _ D.i2z).trans q
    · rw [upd_ne (Nat.ne_of_lt (old c hm))]
      exact (hf c hm).1
  done := by
    intro X eP ew eK hc i pins s σ H E I hf st hg
    subst eP ew eK
    obtain ⟨z1, z2, ⟨v1, v2, z3⟩, z4, z5⟩ := st
    obtain ⟨xs, ys, qx, qy, he⟩ := hg
    obtain ⟨us, ru, pu, _⟩ := I.list qx
    have l1 := ru.length
    obtain ⟨p, ⟨hh, v, e1, c1⟩, hp⟩ := hc
    have P1 := (I.pin p (List.mem_append_left _ hp)).1
    have np : ∀ c, c ∈ [z, TI, TO, i1, i2] → p.1 ≠ c := fun c hm => (hf c hm).2.2.2.2.2 p (List.mem_append_left _ hp)
    refine zipEndHot (x1 := p.1) ⟨hh, p.2, v, P1, e1, c1⟩ ⟨np z (by simp), np i1 (by simp)⟩ D z1 z2 z3 z4 pu.isList (by simp; omega) fun j kj => ⟨rfl, I.turnedL (t' := s.toks) (ch := [z, TI, TO, i1, i2]) (fun c o nm q => ?_) hf⟩
    have nn : c ≠ z ∧ c ≠ TI ∧ c ≠ TO ∧ c ≠ i1 ∧ c ≠ i2 := by simpa using nm
    exact kj c o nn.1 nn.2.2.2.1 q
def iZip1 (K : PySem.W.Frag) (ta : TA) : TI := fun σ H R => ta σ H fun vs H1 => ∃ a b xs ys, vs = [.ref a, .ref b] ∧ SqL K H1 a xs ∧ SqL K H1 b ys ∧ R (Itz1 K a b) H1
theorem pi_zipH {X : Cx} {e e2 : Expr} {ta : TA} {p pos tpos : Pos} {elts : List Expr} {kk : Nat} (hg : Gl X "zip") (hm : X.mg "zip" = none) (ha : PA X [e, e2] ta)
    (hs : starEach [e, e2] X.env = (false, eval e X.env) :: starEach [e2] X.env := by rfl) (hpl : (backTo pos (starEach [e2] X.env)).any (·.1) = false := by rfl) : PIH X (.Tuple elts kk tpos) (.Call (.Name "zip" p) [e, e2] [] pos) (iZip1 X.K ta) := by
  refine ⟨fun pins s σ H R I h => Call_ (ld_blt I hg hm PyProof.Rows.boot_zip (PyProof.Rows.callWith_type1 (thn (ha.run pos pins s σ H _ I h) fun us s1 ⟨vs, H1, I1, r1, q1⟩ => ?_) hs hpl))⟩
  obtain ⟨a, b, xs, ys, rfl, qx, qy, q⟩ := q1
  obtain ⟨w1, w2, rfl, ra, rb⟩ := vals2 r1
  cases ra
  cases rb
  obtain ⟨us, ru, pu, _⟩ := I1.list qx
  obtain ⟨ws, rw', pw, _⟩ := I1.list qy
  refine call_zip_2 pu.isList pw.isList fun j y1 y2 y3 y4 y5 y6 y7 => wpAny_pyIter_zip y1 ⟨s1.heap.objs.size + 4, [s1.heap.objs.size + 4, s1.heap.objs.size + 2, s1.heap.objs.size + 3, s1.heap.objs.size, s1.heap.objs.size + 1], _, _, H1, rfl, I1.kept (t' := s1.toks) y7, turnZipH (PySem.W.ktu_apart s1.heap.objs.size a b pu.lt pw.lt), ⟨y1, y2, ⟨_, _, y3⟩, y4, y5⟩, fun c hm => ?_, q⟩
  have hle : s1.heap.objs.size ≤ c := by
    have e' : c = s1.heap.objs.size + 4 ∨ c = s1.heap.objs.size + 2 ∨ c = s1.heap.objs.size + 3 ∨ c = s1.heap.objs.size ∨ c = s1.heap.objs.size + 1 := by simpa using hm
    rcases e' with z | z | z | z | z <;> rw [z] <;> first | exact Nat.le_refl _ | exact Nat.le_add_right _ _
  exact I1.fpOk hle (I1.hok.fresh hle)
/-! ### the block of a comprehension that keeps a pin -/
abbrev blkH (X : Cx) (p : Addr × Obj) (s : Shared) (H : Hp) (scope : Scope) (cenv : Env) (fp : List Addr) : Cx := { X.blk s H scope cenv fp with pn := [p] }
theorem addPn {X : Cx} {p : Addr × Obj} {pins : List (Addr × Obj)} {σ : L2.St} {H : Hp} {s : Shared} (hX : X.pn = []) (I : Inv X pins σ H s) (hp : s.heap.get? p.1 = some p.2 ∧ H p.1 = none ∧ p.1 ≠ X.env.locals ∧ p.1 ∉ X.fs ∧ ∀ v, p.2.data ≠ .cell v) : Inv { X with pn := [p] } pins σ H s := by
  have ok := I.ok
  refine ⟨⟨ok.mod, ok.kind, ok.glob, ok.blt, ok.above, ok.inj, ok.has, ok.cab, ok.hd, ok.frames, ok.stk, ok.exf, ok.bs, ok.bsz, ok.noex, ok.exfs, ok.funs, ok.frf⟩, I.os, I.bare, I.base, I.loc, I.cell, I.free, I.freeC, fun q hq => ?_, I.hok, I.len⟩
  have hq' : q ∈ [p] ++ pins := hq
  rcases List.mem_append.mp hq' with z | z
  · have e : q = p := by simpa using z
    rw [e]
    exact hp
  · exact I.pin q (by rw [hX]; exact z)
theorem hotBlk {X : Cx} {p : Addr × Obj} {s : Shared} {H : Hp} {scope : Scope} {cenv : Env} {fp : List Addr} (h : Hot1 X.A p) : HotC (blkH X p s H scope cenv fp) := ⟨p, h, List.mem_cons_self⟩
theorem lcHot {X : Cx} {p : Addr × Obj} {pins : List (Addr × Obj)} {s : Shared} {σ : L2.St} {H : Hp} {Q : VK} {elt tg iter : Expr} {ifs : List Expr} {scope : Scope} {own : List (Str × Nat)} {pos : Pos} {wi : TI} {g : TG} {tt : TT} {te : TE}
    (hot : Hot1 X.A p) (hp : p ∈ X.pn) (hN : X.N.Nodup) (I : Inv X pins σ H s) (hi : PIH X tg iter wi) (ok : BlkOk X.N X.env.scope scope own)
    (hg : ∀ s H C cl fp, PG (blkH X p s H scope (compEnvC scope cl C X.env) fp) tg g) (ht : ∀ s H C cl fp, PTs (blkH X p s H scope (compEnvC scope cl C X.env) fp) ifs tt) (he : ∀ s H C cl fp, PE (blkH X p s H scope (compEnvC scope cl C X.env) fp) elt te)
    (hs : ∀ x, foldedSetIterable iter X.env x = pure x) (h : tLc wi g tt te (own.map (·.2)) σ H Q) : wpAny (model X.prog X.w) X.A (eval (.ListComp elt [⟨tg, iter, ifs, 0⟩] scope pos) X.env) (EP X pins σ Q) X.xe s := by
  rw [eval_ListComp]
  have caps : ∀ y ∈ scope.names, y.2 = .free → ∃ c, X.env.cells.lookup y.1 = some c := fun y hy e => (ok.free y hy e).elim (fun k => I.ok.has _ (.inl k)) (fun k => I.ok.has _ (.inr k))
  refine wpAny_comprehension_free (use := none) rfl hs (closure_ok caps) ok.kind (fun y hy e => by rw [ok.uniq y hy, e]) (thn (hi.run pins s σ H _ I h) fun xv s1 hx => thn hx fun itv s2 hx2 => ?_)
  obtain ⟨it, fp, tn, J, H2, rfl, I2, T, t2, f2, q⟩ := hx2
  refine wpAny_newObj_type (newEnv_comp ?_) (Nat.zero_le _)
  generalize eD : s2.heap.objs.size = D
  have freeD : H2 D = none := I2.hok.fresh (Nat.le_of_eq eD)
  obtain ⟨W, ⟨m0, w0⟩, turn⟩ := q D freeD
  generalize e3 : ({ s2 with heap := s2.heap.push { cls := .type "list", data := .seq ([] : List Value).toArray } } : Shared) = u3
  have hu3 : u3.heap = s2.heap.push { cls := .type "list", data := .seq ([] : List Value).toArray } := by rw [← e3]
  have I3 : Inv X pins σ (upd H2 D (.lst [])) u3 := by
    rw [← e3]
    exact I2.laid (t' := s2.toks) (fun b o e => Heap.get?_push_of_some _ e) (Nat.le_of_eq eD) ⟨Nat.zero_le _, [], 0, .nil, by rw [← eD]; exact Heap.get?_push_size _ rfl⟩
  have f3 : ∀ b ∈ fp, FpOk X pins (upd H2 D (.lst [])) b ∧ b < u3.heap.objs.size := fun b hb => by
    obtain ⟨o, e, _⟩ := T.obj _ _ t2 b hb
    have lt := Heap.lt_size e
    exact ⟨⟨by rw [upd_ne (by rw [← eD]; exact Nat.ne_of_lt lt)]; exact (f2 b hb).1, (f2 b hb).2⟩, by rw [hu3, Heap.size_push]; exact Nat.lt_succ_of_lt lt⟩
  have I4' := block_start I3 ok hN f3
  generalize eH : upd H2 D (.lst []) = H3 at I3 I4' w0 f3
  generalize ece : compEnvC scope (cellsFrom (u3.heap.objs.size + 1) scope.names (cloFrom X.env.cells scope.names [])) u3.heap.objs.size X.env = ce at I4'
  have cl0 : ce.locals = u3.heap.objs.size := by subst ece; rfl
  generalize e4 : ({ u3 with heap := pushCells (u3.heap.push { cls := .type "dict", data := .dict #[] }) scope.names } : Shared) = u4 at I4'
  have kept4 : ∀ b o, u3.heap.get? b = some o → u4.heap.get? b = some o := fun b o e => by rw [← e4]; exact pushCells_keeps _ _ _ _ (Heap.get?_push_of_some _ e)
  have p3 := I3.pin p (List.mem_append_left _ hp)
  have I4 : Inv (blkH X p u3 H3 scope ce fp) [] (wipe σ (own.map (·.2))) H3 u4 := by
    refine addPn rfl I4' ⟨kept4 _ _ p3.1, p3.2.1, ?_, fun z => ?_, p3.2.2.2.2⟩
    · show p.1 ≠ ce.locals
      rw [cl0]
      exact Nat.ne_of_lt (Heap.lt_size p3.1)
    · rcases List.mem_cons.mp (I3.stkSub p.1 z) with y | y
      · exact p3.2.2.1 y
      · exact p3.2.2.2.1 y
  have pg := hg u3 H3 u3.heap.objs.size (cellsFrom (u3.heap.objs.size + 1) scope.names (cloFrom X.env.cells scope.names [])) fp
  have pt := ht u3 H3 u3.heap.objs.size (cellsFrom (u3.heap.objs.size + 1) scope.names (cloFrom X.env.cells scope.names [])) fp
  have pe := he u3 H3 u3.heap.objs.size (cellsFrom (u3.heap.objs.size + 1) scope.names (cloFrom X.env.cells scope.names [])) fp
  rw [ece] at pg pt pe
  have t4 : tn 0 u4.heap := T.keep _ _ _ t2 fun b _ o e => kept4 b o (by rw [hu3]; exact Heap.get?_push_of_some _ e)
  have hb := hotBlk (X := X) (s := u3) (H := H3) (scope := scope) (cenv := ce) (fp := fp) hot
  have stat : ∀ {σ' : L2.St} {H' : Hp} {s' : Shared}, Inv (blkH X p u3 H3 scope ce fp) [] σ' H' s' → (∀ b ∈ fp, H' b = none) → ∀ b ∈ fp, FpOk (blkH X p u3 H3 scope ce fp) [] H' b := fun {σ' H' s'} I' hn b hb' => by
    refine ⟨hn b hb', (I'.ok.exf b hb').1, I'.ok.exfs b hb', .inl hb', fun x c e => (I'.ok.exf b hb').2 x c e, fun q hq => ?_⟩
    have eq : q = p := by simpa using (show q ∈ [p] ++ ([] : List (Addr × Obj)) from hq)
    rw [eq]
    exact (f3 b hb').1.2.2.2.2.2 p (List.mem_append_left _ hp)
  show codeAny _ _ (.compStart (.ListComp elt [⟨tg, iter, ifs, 0⟩] scope pos) 0 (.ref it) (.ref D) (compEnvC scope (cellsFrom (u3.heap.objs.size + 1) scope.names (cloFrom X.env.cells scope.names [])) u3.heap.objs.size X.env)) (compPost (model X.prog X.w) X.A X.xe none (EP X pins σ Q) (.ref D) u3.heap.objs.size) u4
  rw [ece]
  have loop : codeAny (model X.prog X.w) X.A (.compLoop (.ListComp elt [⟨tg, iter, ifs, 0⟩] scope pos) 0 (.ref it) (.ref D) ce) (compPost (model X.prog X.w) X.A X.xe none (EP X pins σ Q) (.ref D) u3.heap.objs.size) u4 := by
    refine compLoop_any (fun n s' => ∃ i H', Inv (blkH X p u3 H3 scope ce fp) [] (wipe σ (own.map (·.2))) H' s' ∧ tn i s'.heap ∧ (∀ b ∈ fp, H' b = none) ∧ W i n H') (fun n u5 ⟨i, H5, I5, t5, n5, w5⟩ => ?_) m0 ⟨0, H3, I4, t4, fun b hb' => (f3 b hb').1.1, w0⟩
    rcases turn i n H5 w5 with ⟨stop, qq⟩ | ⟨go, Nx, hNx, step⟩
    · refine thnF (T.done (blkH X p u3 H3 scope ce fp) rfl rfl rfl hb i [] u5 _ H5 (fun _ _ => False) I5 (stat I5 n5) t5 stop) fun r u6 ⟨hr, I6⟩ => ?_
      subst hr
      have I7 : Inv X pins σ H5 u6 := I3.call' (ch := fp) I6.os I6.base I6.hok I6.bare fun b hb' => ⟨(f3 b hb').1.2.2.2.1, (f3 b hb').1.2.1, (f3 b hb').1.2.2.2.2.1, (f3 b hb').1.2.2.2.2.2⟩
      obtain ⟨m, hn, _⟩ := I6.loc
      have fr : H5 ce.locals = none := I6.free
      replace hn : u6.heap.Ns ce.locals m := hn
      rw [cl0] at hn fr
      obtain ⟨y0, y1, y2, y3, y4, y5⟩ := I3.fpOk (H' := H5) (Nat.le_refl _) fr
      exact ⟨m, hn, fun h'' sb => ⟨.ref D, H5, I7.turned (t' := u6.toks) (fun b o hb' e => (sb.2 b hb').trans e) y0 y1 y3 y4 y5, rfl, qq⟩⟩
    · refine thnF (T.item (blkH X p u3 H3 scope ce fp) rfl rfl rfl hb i [] u5 _ H5 (fun _ _ => False) I5 (stat I5 n5) t5 go) fun r u6 ⟨v, hr, h6⟩ => ?_
      subst hr
      refine thnF h6 fun _ u7 ⟨x, H7, I7, r7, y7, t7, n7⟩ => ?_
      have J7 := I7.pinned (stat I7 n7) (T.obj _ _ t7)
      refine thnF (pg.run _ u7 _ H7 x v _ J7 r7 (step x H7 y7)) fun _ u8 ⟨σ8, H8, I8, hw8, q8⟩ => ?_
      refine thnF (pt.run _ u8 σ8 H8 _ I8 q8) fun b u9 ⟨H9, I9, q9⟩ => ?_
      have back : ∀ {s' : Shared} {H' : Hp}, Inv (blkH X p u3 H3 scope ce fp) ([] ++ pinsAt fp u7.heap) σ8 H' s' → Nx H' → ∃ m, m < n ∧ ∃ i H', Inv (blkH X p u3 H3 scope ce fp) [] (wipe σ (own.map (·.2))) H' s' ∧ tn i s'.heap ∧ (∀ b ∈ fp, H' b = none) ∧ W i m H' := fun {s' H'} K' nx => by
        obtain ⟨m', hm, w'⟩ := hNx H' nx
        have pin' : ∀ b ∈ fp, ∀ o, u7.heap.get? b = some o → s'.heap.get? b = some o ∧ H' b = none := fun b hb' o e => by
          have z := K'.pin (b, o) (List.mem_append_right _ (List.mem_append_right _ (mem_pinsAt hb' e)))
          exact ⟨z.1, z.2.1⟩
        refine ⟨m', hm, i + 1, H', (K'.unpinned (pins := [])).weak (by rw [← hw8, wipe_length]) (fun j v e => ?_), T.keep _ _ _ t7 fun b hb' o e => (pin' b hb' o e).1, fun b hb' => ?_, w'⟩
        · rw [← hw8] at e
          exact (wipe_some e).1
        · obtain ⟨o, e, _⟩ := T.obj _ _ t7 b hb'
          exact (pin' b hb' o e).2
      cases b with
      | false =>
        simp only [if_false, Bool.false_eq_true] at q9 ⊢
        exact back I9 q9
      | true =>
        simp only [if_true] at q9 ⊢
        refine thnF (pe.run _ u9 σ8 H9 _ I9 q9) fun z u10 ⟨yv, H10, I10, r10, acc, d10, z10, nx⟩ => ?_
        exact app_ok (X := blkH X p u3 H3 scope ce fp) I10 d10 z10 r10 fun u11 I11 => back I11 nx
  exact codeAny_compStart_list loop (T.self X.A 0 _ _ _ t4 loop)
theorem pe_lcH {X : Cx} {p : Addr × Obj} {elt tg iter : Expr} {ifs : List Expr} {scope : Scope} {own : List (Str × Nat)} {pos : Pos} {wi : TI} {g : TG} {tt : TT} {te : TE} (hot : Hot1 X.A p) (hp : p ∈ X.pn) (hN : X.N.Nodup) (hi : PIH X tg iter wi) (ok : BlkOk X.N X.env.scope scope own)
    (hg : ∀ s H C cl fp, PG (blkH X p s H scope (compEnvC scope cl C X.env) fp) tg g) (ht : ∀ s H C cl fp, PTs (blkH X p s H scope (compEnvC scope cl C X.env) fp) ifs tt) (he : ∀ s H C cl fp, PE (blkH X p s H scope (compEnvC scope cl C X.env) fp) elt te)
    (hs : ∀ x, foldedSetIterable iter X.env x = pure x := by intro _; rfl) : PE X (.ListComp elt [⟨tg, iter, ifs, 0⟩] scope pos) (tLc wi g tt te (own.map (·.2))) :=
  ⟨fun pins s σ H Q I h => lcHot hot hp hN I hi ok hg ht he hs h⟩
end Onp
set_option maxHeartbeats 4000000
set_option autoImplicit false
namespace Onp
open PySem PySem.Spec PyProof.Rows L2 HotX L2H
/-! ### try: body, except t1 as n: .. except t2 as n: .. -/
theorem fly_more {B h h' : Heap} {l : List Env} {e : Addr} {Z : Obj → Prop} (x : HandSPX.FlyingZ B l e Z h) (k : ∀ b o, h.get? b = some o → h'.get? b = some o) : HandSPX.FlyingZ B l e Z h' := by
  obtain ⟨x1, x2, x3, oe, vs, T, oT, ts, y1, y2, y3, y4, y5, y6, y7, y8, y9⟩ := x
  exact ⟨fun b o q => k _ _ (x1 b o q), x2, x3.of_keeps fun b o q _ => ⟨o, k b o q, rfl⟩, oe, vs, T, oT, ts, k _ _ y1, y2, y3, y4, y5, y6, k _ _ y7, y8, y9⟩
def TestOk (X : Cx) (t : Expr) (m : Value → Option Bool) : Prop :=
  ∀ (a : Addr) (pn : List (Addr × Obj)) (s : Shared) (σ : L2.St) (H : Hp) (cls : Value) (b : Bool) (Q : Bool → Shared → Prop) (E : Value → Shared → Prop), Inv (X.suite a pn) [] σ H s → PySem.W.Looks (model X.prog X.w) s.heap (typeOf (.ref a)) cls → m cls = some b →
    (∀ h', (∀ c o, s.heap.get? c = some o → h'.get? c = some o) → Q b { s with heap := h' }) →
    wpAny (model X.prog X.w) (X.A.mark (some (.ref a))) (eval t X.env) (fun c s1 => wpAny (model X.prog X.w) (X.A.mark (some (.ref a))) (excMatches (.ref a) c) Q E s1) E s
theorem test_name {X : Cx} {x : Str} {c : Value} {np : Pos} (hg : Gl X x) (hd : (x == ("__debug__" : Str)) = false) (hm : X.mg x = some c) : TestOk X (.Name x np) (fun cls => PySem.W.exmOne X.K cls c) := by
  intro a pn s σ H cls b Q E I LT hb q
  have LM := PySem.W.exm_one (M := model X.prog X.w) I.kIn LT hb
  exact ld_glob (X := X.suite a pn) I hg hm (LM.here (q _ fun _ _ z => z)) hd
theorem test_three {X : Cx} {x y z : Str} {c1 c2 c3 : Addr} {p1 p2 p3 tp : Pos} {k : Nat} (g1 : Gl X x) (g2 : Gl X y) (g3 : Gl X z) (d1 : (x == ("__debug__" : Str)) = false) (d2 : (y == ("__debug__" : Str)) = false) (d3 : (z == ("__debug__" : Str)) = false)
    (m1 : X.mg x = some (.ref c1)) (m2 : X.mg y = some (.ref c2)) (m3 : X.mg z = some (.ref c3)) (hst : starEach [.Name x p1, .Name y p2, .Name z p3] X.env = [(false, eval (.Name x p1) X.env), (false, eval (.Name y p2) X.env), (false, eval (.Name z p3) X.env)] := by rfl) :
    TestOk X (.Tuple [.Name x p1, .Name y p2, .Name z p3] k tp) (fun cls => PySem.W.exmAny X.K cls [.ref c1, .ref c2, .ref c3]) := by
  intro a pn s σ H cls b Q E I LT hb q
  have kp : ∀ c o, s.heap.get? c = some o → (s.heap.push { cls := .type "tuple", data := .seq [Value.ref c1, .ref c2, .ref c3].toArray }).get? c = some o := fun c o e => Heap.get?_push_of_some _ e
  refine wpAny_Tuple_spliced ?_
  rw [hst]
  show wpAny _ _ (spliced ((false, eval (.Name x p1) X.env) :: (false, eval (.Name y p2) X.env) :: (false, eval (.Name z p3) X.env) :: [])) _ _ s
  refine Calls.spliced_cons (ld_glob (X := X.suite a pn) I g1 m1 ?_ d1)
  refine Calls.spliced_cons (ld_glob (X := X.suite a pn) I g2 m2 ?_ d2)
  refine Calls.spliced_cons (ld_glob (X := X.suite a pn) I g3 m3 ?_ d3)
  refine Calls.spliced_nil ⟨(by decide : 3 ≤ sizeLine), ?_⟩
  exact (PySem.W.exm_tup3 (M := model X.prog X.w) (I.kIn.keeps kp) (LT.keeps kp) (Heap.get?_push_size _ rfl) hb).here (q _ kp)
abbrev Clause := (Value → Option Bool) × (Addr → Value → Option Addr → TS)
def clr (i : Nat) (D : Ends) : Ends := { nx := fun σ' H' => D.nx (σ'.set i none) H', rt := D.rt, bk := fun σ' H' => D.bk (σ'.set i none) H', ct := fun σ' H' => D.ct (σ'.set i none) H' }
def wClauses (i : Nat) (Wout : WX) (D : Ends) : List Clause → WX
  | [] => Wout
  | (m, ts) :: r => fun cls d σ H => ∃ b, m cls = some b ∧ (b = true → ∀ a, H a = none → ts a cls d (clr i D) (σ.set i (some (.ref a))) H) ∧ (b = false → wClauses i Wout D r cls d σ H)
inductive Clauses (X : Cx) (n : Str) : List ExceptHandler → List Clause → Prop
  | nil : Clauses X n [] []
  | cons {t : Expr} {m : Value → Option Bool} {ts : Addr → Value → Option Addr → TS} {b₀ : Stmt} {suite : List Stmt} {pos' : Pos} {hds : List ExceptHandler} {l : List Clause} (ht : TestOk X t m)
      (hsu : ∀ (a : Addr) (oe : Obj) (cls : Value) (d : Option Addr) (pn : List (Addr × Obj)), L2N.Zn cls d oe → (∃ vs, oe.data = .fields vs) → PSs (X.suite a ((a, oe) :: pn)) (b₀ :: suite) (ts a cls d)) (r : Clauses X n hds l) :
      Clauses X n (.ExceptHandler (some t) (some n) (b₀ :: suite) pos' :: hds) ((m, ts) :: l)
theorem ps_try_clauses {X : Cx} {n : Str} {i : Nat} {body : List Stmt} {h₀ : ExceptHandler} {hds : List ExceptHandler} {l : List Clause} {pos : Pos} {tb : WX → TS} {Wout : WX} (hs : X.stack = X.env :: X.outer) (hf : X.env.frame = some X.env.locals) (hN : X.N.Nodup) (hi : X.N[i]? = some n)
    (hln : X.env.kindOf n = some .local) (tk : L2N.Takes X Wout)
    (hb : ∀ (W : WX) (pn : List (Addr × Obj)) (xe : Value → Shared → Prop), L2N.Takes (X.tr pn xe) W → PassesOwn (model X.prog X.w) X.A X.env xe → PSs (X.tr pn xe) body (tb W)) (hh : Clauses X n (h₀ :: hds) l) :
    PS X (.Try body (h₀ :: hds) [] [] pos) (fun D σ H => tb (fun cls d σ H => σ.length = X.N.length → wClauses i Wout D l cls d σ H) D σ H) := by
  refine ⟨fun pins s σ H D I h => wpAny_Try_except ?_⟩
  have ok := I.ok
  have efr : X.A.frames = some (X.env :: X.outer) := by rw [ok.frames, hs]
  refine wpAny_mono ((hb (fun cls d σ H => σ.length = X.N.length → wClauses i Wout D l cls d σ H) (X.pn ++ pins) _ (fun u s' xx => ?_) PassesOwn.looking).run [] s σ H D (I.toTry _) h) (fun f s1 hsp => ?_) (fun e s1 he => he)
  · obtain ⟨a, B, sI, pins', σ', H', cls, d, rfl, J', nb, up, sky, na, os, ag, w⟩ := xx
    have J : Inv X pins σ' H' sI := J'.ofTry ok
    rw [hs] at sky
    show wpAny (model X.prog X.w) X.A (noteFrame (.ref a) X.env) _ _ _
    refine L2N.Sky.land L2N.Zn.steady efr hf sky fun h3 fl3 up3 => ?_
    have go : ∀ {hds' : List ExceptHandler} {l' : List Clause}, Clauses X n hds' l' → wClauses i Wout D l' cls d σ' H' → ∀ h4, HandSPX.FlyingZ B (X.env :: X.outer) a (L2N.Zn cls d) h4 → sI.heap.UpToSlots h4 →
        wpAny (model X.prog X.w) X.A (handleBy (.ref a) X.env hds') (SP X pins D) X.xe { s' with heap := h4 } := by
      intro hds' l' hk
      induction hk with
      | nil =>
        intro w h4 fl up4
        refine wpAny_handleBy_nil ?_
        obtain ⟨_, _, _, oe, vs, T, oT, ts', y1, y2, y3, y4, _⟩ := id fl
        unfold PySem.passOn
        refine wpAny_bind (wpAny_field y1 y3 y4 ?_)
        rw [if_neg (by simp : ¬ ((Value.ref T == Value.none) = true))]
        have fin : wpAny (model X.prog X.w) X.A (setFlight (.ref a) X.env.frame) (fun _ s4 => wpAny (model X.prog X.w) X.A (throw (.ref a) : Sem Flow) (SP X pins D) X.xe s4) X.xe { s' with heap := h4 } := by
          rw [hf]
          exact HandSPX.setFlight_upZ fl fun h5 hh5 up5 => wpAny_throw (tk _ _ ⟨a, B, sI, pins, σ', H', cls, d, rfl, J, nb, up4.trans up5, .inr (.inr (by rw [hs]; exact hh5)), na, os, ag, w⟩)
        first
          | exact wpAny_bind (wpAny_pure (wpAny_bind fin))
          | exact wpAny_bind fin
      | @cons t m ts b₀ suite pos' hds2 l2 ht hsu r ih =>
        intro w h4 fl up4
        obtain ⟨b, hb1, hyes, hno⟩ := w
        obtain ⟨oe, vs, ge, gz, gd⟩ := fl.there
        have J4 : Inv X pins σ' H' { s' with heap := h4 } := J.landed nb fl.1 up4 os ag
        have nfr : a ∉ frs (X.env :: X.outer) := fun hm => by
          obtain ⟨_, o', e', hnf⟩ := fl.2.2.1.mem hm
          rw [ge] at e'
          cases e'
          exact hnf _ gd
        have nL : a ≠ X.env.locals := fun z => nfr (List.mem_filterMap.mpr ⟨X.env, List.mem_cons_self, by rw [hf, z]⟩)
        have nF : a ∉ X.fs := fun hm => by
          obtain ⟨e, he, q⟩ := List.mem_filterMap.mp hm
          exact nfr (List.mem_filterMap.mpr ⟨e, List.mem_cons_of_mem _ he, q⟩)
        refine wpAny_handleBy_cons (codeAny_handlers_test ?_) (by intro q; cases q)
        refine ht a _ _ σ' H' cls b _ _ (J4.suite ge gd na nL nF) (fun A Q E s k q => wpAny_typeOf_ref (k _ _ ge) (by rw [gz.1]; exact q)) hb1 fun h5 k5 => ?_
        have fl5 := fly_more fl k5
        have up5 : sI.heap.UpToSlots h5 := up4.trans fun b o e _ => ⟨o.slots, k5 b o e⟩
        cases b with
        | true =>
          refine codeAny_handlers_suite_as (HandSPX.lands_againZ fl5 fun h6 fl6 up6 => ?_)
          have J6 : Inv X pins σ' H' { s' with heap := h6 } := J.landed nb fl6.1 (up5.trans up6) os ag
          obtain ⟨oe6, vs6, ge6, gz6, gd6⟩ := fl6.there
          refine store_ok (X := X.suite a ((a, oe6) :: (X.pn ++ pins))) (v := .ref a) (J6.suite ge6 gd6 na nL nF) hN hi (.inl hln) rfl (fun s7 S7 => ?_) (.inr hln)
          refine wpAny_mono ((hsu a oe6 cls d (X.pn ++ pins) gz6 ⟨_, gd6⟩).run [] s7 _ H' _ S7 (hyes rfl a na)) (fun f s8 hsp => ?_) (fun _ _ z => False.elim z)
          have away : ∀ {σ8 : L2.St} {H8 : Hp} {Q : Shared → Prop}, Inv (X.suite a ((a, oe6) :: (X.pn ++ pins))) [] σ8 H8 s8 → (∀ s9, Inv X pins (σ8.set i none) H8 s9 → Q s9) →
              wpAny (model X.prog X.w) X.A (do bindName X.env n .none; unbindBehindTheSuite X.env n pos') (fun _ s9 => Q s9) X.xe s8 := fun {σ8 H8 Q} S8 hq => gone_ok (S8.unsuite ok) hN hi hln hq
          cases f with
          | next => obtain ⟨σ8, H8, S8, q8⟩ := hsp; exact away S8 fun s9 J9 => ⟨_, _, J9, q8⟩
          | brk => obtain ⟨σ8, H8, S8, q8⟩ := hsp; exact away S8 fun s9 J9 => ⟨_, _, J9, q8⟩
          | cont => obtain ⟨σ8, H8, S8, q8⟩ := hsp; exact away S8 fun s9 J9 => ⟨_, _, J9, q8⟩
          | ret u => obtain ⟨v8, σ8, H8, S8, r8, q8⟩ := hsp; exact away S8 fun s9 J9 => ⟨_, _, _, J9, r8, q8⟩
        | false =>
          show wpAny _ X.A (handleBy (.ref a) X.env hds2) _ _ _
          exact ih (hno rfl) h5 fl5 up5
    exact go hh (w J.len) h3 fl3 (up.trans up3)
  · cases f with
    | next => obtain ⟨σ', H', J', q⟩ := hsp; exact wpAny_execs_nil ⟨σ', H', J'.ofTry ok, q⟩
    | brk => obtain ⟨σ', H', J', q⟩ := hsp; exact ⟨σ', H', J'.ofTry ok, q⟩
    | cont => obtain ⟨σ', H', J', q⟩ := hsp; exact ⟨σ', H', J'.ofTry ok, q⟩
    | ret u => obtain ⟨v, σ', H', J', r, q⟩ := hsp; exact ⟨v, σ', H', J'.ofTry ok, r, q⟩
/-! ### a raise of an own error, made by its __init__ -/
theorem mkRunN {X : Cx} {pins : List (Addr × Obj)} {σ : L2.St} {H1 : Hp} {s1 : Shared} {C fI : Addr} {k : Nat} {fd : FuncData} {ps : List Str} {sp : Sp} {us : List Value} {vs : List V} {Q : XK} (T : OexC X.K C) (iC : PySem.W.findIn X.K (.ref C) "__init__" = some (some (.ref fI)))
    (tI : PySem.W.typeIn X.K (.ref fI) = some (.type "function")) (F1 : FnOk X.prog X.w X.K X.mg X.base CX0 k fI fd ps sp) (hr : Room (k + 1) X.A) (hb : Binds X.K fd ps []) (I1 : Inv X pins σ H1 s1) (r1 : Vals vs us) (hz : vs.length ≤ 1000)
    (q1 : ∀ a, H1 a = none → sp (.ref a :: vs) (upd H1 a (exo a C none)) (fun v H2 => v = .non ∧ ∃ (d : Addr) (fs : List (Str × V)), H2 a = some (exo a C (some d)) ∧ H2 d = some (exd d fs) ∧ H1 d = none ∧ Q (.ref C) (some d) (upd (del H2 a) d (.xd fs))) (fun _ _ _ => False)) :
    wpAny (model X.prog X.w) X.A (call (.ref C) us) (L2N.MkP X pins σ Q) X.xe s1 := by
  obtain ⟨nm, q, N, bs, bm, sn, sub, ab, col, dd, k0, k1, k2, k3, k5, hC, hbm⟩ := T.cls
  obtain ⟨hp, g, dr, tk, os⟩ := s1
  have le1 : hp.objs.size ≤ hp.objs.size + 1 := Nat.le_succ _
  have hq := q1 (hp.objs.size + 1) (I1.hok.fresh le1)
  have kk : ∀ b o, hp.get? b = some o → ((hp.push (PySem.W.kdv_tup us)).push (PySem.HandSPX.excO C hp.objs.size)).get? b = some o := fun b o e => Heap.get?_push_of_some _ (Heap.get?_push_of_some _ e)
  have hget : ((hp.push (PySem.W.kdv_tup us)).push (PySem.HandSPX.excO C hp.objs.size)).get? (hp.objs.size + 1) = some (PySem.HandSPX.excO C hp.objs.size) := by heap_get
  have I2 := I1.laid (t' := tk) (a := hp.objs.size + 1) (o := exo (hp.objs.size + 1) C none) (h' := (hp.push (PySem.W.kdv_tup us)).push (PySem.HandSPX.excO C hp.objs.size)) kk le1 (exo_ok hget)
  have r2 : Vals (V.ref (hp.objs.size + 1) :: vs) (Value.ref (hp.objs.size + 1) :: us) := .cons rfl r1
  have hl : (Value.ref (hp.objs.size + 1) :: us).length = ps.length := by rw [← r2.length]; exact F1.len _ _ _ _ hq
  have hbd := hb ⟨(hp.push (PySem.W.kdv_tup us)).push (PySem.HandSPX.excO C hp.objs.size), g, dr, tk, os⟩ (Value.ref (hp.objs.size + 1) :: us) I2.kIn (by rw [List.append_nil]; exact hl)
  rw [List.append_nil] at hbd
  have hus : us.length ≤ sizeLine := by
    rw [← Paired.length r1, sizeLine_eq]
    omega
  refine wpAny_call (PySem.HandSPX.call_own F.excBase_ValueError (fun Y => PySem.HandSPX.refsVE_contains Y bm hbm) (I1.kIn _ _ hC) (PySem.W.looks_findIn I1.kIn iC) (fun self => PySem.W.bind_fn I1.kIn self tI) hus
    (codeAny_mono (F1.run _ X.stack _ _ ⟨Value.ref (hp.objs.size + 1) :: us, []⟩ (Value.ref (hp.objs.size + 1) :: us) _ _ (fun _ _ _ => False) (hr.make C us []) (I2.env0.make C us []) hbd r2 hq) fun r s' hq' => ?_))
  cases r with
  | error er => exact (show False from hq').elim
  | ok fl =>
    cases fl with
    | ret u =>
      obtain ⟨v, H2, os2, bare2, un2, hok2, rv, ev, d, fs, ea, ed, hd1, q2⟩ := hq'
      subst ev
      obtain ⟨h2, g2, d2, t2, os'⟩ := s'
      obtain ⟨t0, G, J, kG, ge, hoe, na⟩ := mk_end0 (d2 := d2) (t2 := t2) I1 le1 kk un2 hok2 os2 bare2 ea ed hd1
      exact ⟨rv, _, _, _, ⟨G, g2, d2, t2, os'⟩, _, .ref C, some d, rfl, J, kG, ge, hoe, ⟨rfl, rfl, fun vs e => by cases e; rfl⟩, rfl, rfl, na, rfl, bare2, raises_own T.exC T.tyC, q2⟩
    | next => exact False.elim hq'
    | brk => exact False.elim hq'
    | cont => exact False.elim hq'
/-- the heap behind the making: the error's own dict, and nothing else, is new -/
theorem made_heap {H : Hp} {a d : Addr} {o1 : HO} {fs : List (Str × V)} (ha : H a = none) (hd : H d = none) (n : d ≠ a) {o2 : HO} : upd (del (upd (upd (upd H a o1) d (exd d fs)) a o2) a) d (.xd fs) = upd H d (.xd fs) := by
  funext b
  by_cases e1 : b = d
  · rw [e1, upd_same, upd_same]
  · rw [upd_ne e1, upd_ne e1]
    by_cases e2 : b = a
    · rw [e2, del_same, ha]
    · rw [del_ne e2, upd_ne e2, upd_ne e1, upd_ne e2]
/-- the promise of an __init__ that sets word alone -/
def spWord (C : Addr) (wd : Str) : Sp := fun vs H Q _ => ∃ a, vs = [.ref a] ∧ H a = some (exo a C none) ∧ ∀ dx, H dx = none → dx ≠ a → Q .non (upd (upd H dx (exd dx [("word", .str wd)])) a (exo a C (some dx)))
def tRaiseW (C : Addr) (wd : Str) : L2.St → Hp → XK → Prop := fun σ H Q => ∀ d, H d = none → Q (.ref C) (some d) (upd H d (.xd [("word", .str wd)]))
theorem pmk_word {X : Cx} {x wd : Str} {C fI : Addr} {k : Nat} {fd : FuncData} {p pos : Pos} (T : OexC X.K C) (iC : PySem.W.findIn X.K (.ref C) "__init__" = some (some (.ref fI))) (tI : PySem.W.typeIn X.K (.ref fI) = some (.type "function"))
    (F1 : FnOk X.prog X.w X.K X.mg X.base CX0 k fI fd ["self"] (spWord C wd)) (hr : Room (k + 1) X.A) (hb : Binds X.K fd ["self"] []) (hg : Gl X x) (hm : X.mg x = some (.ref C)) (hdb : (x == ("__debug__" : Str)) = false := by decide) :
    L2N.PMk X (.Call (.Name x p) [] [] pos) (tRaiseW C wd) := by
  intro pins s σ H Q I h
  refine wpAny_Call_Name_kw (ld_glob I hg hm ?_ hdb)
  refine PySem.W.callWith_K0 I.kIn T.kC (mkRunN T iC tI F1 hr hb I .nil (Nat.zero_le _) fun a ha => ⟨a, rfl, upd_same, fun dx ndx ne => ⟨rfl, dx, [("word", .str wd)], upd_same, ?_, ?_, ?_⟩⟩)
  · rw [upd_ne ne, upd_same]
  · rw [upd_ne ne] at ndx
    exact ndx
  · rw [upd_ne ne] at ndx
    rw [made_heap ha ndx ne]
    exact h dx ndx
end Onp
set_option maxHeartbeats 4000000
set_option autoImplicit false
/-! own refusals over other built-in ones than ValueError, with one field -/
namespace Onp
open PySem PySem.Spec PyProof.Rows L2 HotX L2H
def isR : Value → Bool
  | .ref _ => true
  | _ => false
theorem isR_ref {v : Value} (h : isR v = true) : ∃ c, v = .ref c := by
  cases v <;> first | exact ⟨_, rfl⟩ | cases h
structure BaseB (B newId initId : String) (tl : List Value) : Prop where
  F : ExcBaseFacts B newId initId tl
  pass : ∀ self : Value, refuseLoop self "__setattr__" tl = pure ()
  ob : tl.contains (.type "object") = true
theorem refsT_pass {tl : List Value} (hp : ∀ self : Value, refuseLoop self "__setattr__" tl = pure ()) (self : Value) : ∀ l : List Value, l.dropWhile isR = tl → refuseLoop self "__setattr__" l = pure ()
  | [], h => by
    have h : [] = tl := h
    rw [h]
    exact hp self
  | v :: r, h => by
    cases e : isR v with
    | true =>
      obtain ⟨c, rfl⟩ := isR_ref e
      rw [refuseLoop_ref]
      exact refsT_pass hp self r (by rw [List.dropWhile_cons_of_pos e] at h; exact h)
    | false =>
      rw [List.dropWhile_cons_of_neg (by rw [e]; decide)] at h
      rw [h]
      exact hp self
theorem refsT_has {tl : List Value} (Y : String) : ∀ l : List Value, l.dropWhile isR = tl → l.contains (.type Y) = tl.contains (.type Y)
  | [], h => by
    have h : [] = tl := h
    rw [h]
  | v :: r, h => by
    cases e : isR v with
    | true =>
      obtain ⟨c, rfl⟩ := isR_ref e
      rw [List.dropWhile_cons_of_pos e] at h
      rw [List.contains_cons, refsT_has Y r h]
      rfl
    | false =>
      rw [List.dropWhile_cons_of_neg (by rw [e]; decide)] at h
      rw [h]
structure OexB (K : PySem.W.Frag) (C : Addr) (newId : String) (tl : List Value) : Prop where
  cls : ∃ nm q N bs bm sn sub ab col dd k0 k1 k2 k3 k5, K.lookup C = some (excClassObj nm q C N bs bm true sn sub ab col dd k0 k1 k2 k3 k5 newId) ∧ bm.dropWhile isR = tl
  sa : PySem.W.findIn K (.ref C) "__setattr__" = some (some (.builtin "object.__setattr__"))
  exC : PySem.W.subIn K (.ref C) (.type "BaseException") = some true
  tyC : PySem.W.typeIn K (.ref C) = some (.type "type")
  kC : PySem.W.keepIn K (.ref C) = true
theorem mkRunB {X : Cx} {B newId initId : String} {tl : List Value} (BB : BaseB B newId initId tl) {pins : List (Addr × Obj)} {σ : L2.St} {H1 : Hp} {s1 : Shared} {C fI : Addr} {k : Nat} {fd : FuncData} {ps : List Str} {sp : Sp} {us : List Value} {vs : List V} {Q : XK} (T : OexB X.K C newId tl) (iC : PySem.W.findIn X.K (.ref C) "__init__" = some (some (.ref fI)))
    (tI : PySem.W.typeIn X.K (.ref fI) = some (.type "function")) (F1 : FnOk X.prog X.w X.K X.mg X.base CX0 k fI fd ps sp) (hr : Room (k + 1) X.A) (hb : Binds X.K fd ps []) (I1 : Inv X pins σ H1 s1) (r1 : Vals vs us) (hz : vs.length ≤ 1000)
    (q1 : ∀ a, H1 a = none → sp (.ref a :: vs) (upd H1 a (exo a C none)) (fun v H2 => v = .non ∧ ∃ (d : Addr) (fs : List (Str × V)), H2 a = some (exo a C (some d)) ∧ H2 d = some (exd d fs) ∧ H1 d = none ∧ Q (.ref C) (some d) (upd (del H2 a) d (.xd fs))) (fun _ _ _ => False)) :
    wpAny (model X.prog X.w) X.A (call (.ref C) us) (L2N.MkP X pins σ Q) X.xe s1 := by
  obtain ⟨nm, q, N, bs, bm, sn, sub, ab, col, dd, k0, k1, k2, k3, k5, hC, hbm⟩ := T.cls
  obtain ⟨hp, g, dr, tk, os⟩ := s1
  have le1 : hp.objs.size ≤ hp.objs.size + 1 := Nat.le_succ _
  have hq := q1 (hp.objs.size + 1) (I1.hok.fresh le1)
  have kk : ∀ b o, hp.get? b = some o → ((hp.push (PySem.W.kdv_tup us)).push (PySem.HandSPX.excO C hp.objs.size)).get? b = some o := fun b o e => Heap.get?_push_of_some _ (Heap.get?_push_of_some _ e)
  have hget : ((hp.push (PySem.W.kdv_tup us)).push (PySem.HandSPX.excO C hp.objs.size)).get? (hp.objs.size + 1) = some (PySem.HandSPX.excO C hp.objs.size) := by heap_get
  have I2 := I1.laid (t' := tk) (a := hp.objs.size + 1) (o := exo (hp.objs.size + 1) C none) (h' := (hp.push (PySem.W.kdv_tup us)).push (PySem.HandSPX.excO C hp.objs.size)) kk le1 (exo_ok hget)
  have r2 : Vals (V.ref (hp.objs.size + 1) :: vs) (Value.ref (hp.objs.size + 1) :: us) := .cons rfl r1
  have hl : (Value.ref (hp.objs.size + 1) :: us).length = ps.length := by rw [← r2.length]; exact F1.len _ _ _ _ hq
  have hbd := hb ⟨(hp.push (PySem.W.kdv_tup us)).push (PySem.HandSPX.excO C hp.objs.size), g, dr, tk, os⟩ (Value.ref (hp.objs.size + 1) :: us) I2.kIn (by rw [List.append_nil]; exact hl)
  rw [List.append_nil] at hbd
  have hus : us.length ≤ sizeLine := by
    rw [← Paired.length r1, sizeLine_eq]
    omega
  refine wpAny_call (PySem.HandSPX.call_own BB.F (fun Y => refsT_has Y bm hbm) (I1.kIn _ _ hC) (PySem.W.looks_findIn I1.kIn iC) (fun self => PySem.W.bind_fn I1.kIn self tI) hus
    (codeAny_mono (F1.run _ X.stack _ _ ⟨Value.ref (hp.objs.size + 1) :: us, []⟩ (Value.ref (hp.objs.size + 1) :: us) _ _ (fun _ _ _ => False) (hr.make C us []) (I2.env0.make C us []) hbd r2 hq) fun r s' hq' => ?_))
  cases r with
  | error er => exact (show False from hq').elim
  | ok fl =>
    cases fl with
    | ret u =>
      obtain ⟨v, H2, os2, bare2, un2, hok2, rv, ev, d, fs, ea, ed, hd1, q2⟩ := hq'
      subst ev
      obtain ⟨h2, g2, d2, t2, os'⟩ := s'
      obtain ⟨t0, G, J, kG, ge, hoe, na⟩ := mk_end0 (d2 := d2) (t2 := t2) I1 le1 kk un2 hok2 os2 bare2 ea ed hd1
      exact ⟨rv, _, _, _, ⟨G, g2, d2, t2, os'⟩, _, .ref C, some d, rfl, J, kG, ge, hoe, ⟨rfl, rfl, fun vs e => by cases e; rfl⟩, rfl, rfl, na, rfl, bare2, raises_own T.exC T.tyC, q2⟩
    | next => exact False.elim hq'
    | brk => exact False.elim hq'
    | cont => exact False.elim hq'
theorem pmk_wordB {X : Cx} {B newId initId : String} {tl : List Value} (BB : BaseB B newId initId tl) {x wd : Str} {C fI : Addr} {k : Nat} {fd : FuncData} {p pos : Pos} (T : OexB X.K C newId tl) (iC : PySem.W.findIn X.K (.ref C) "__init__" = some (some (.ref fI))) (tI : PySem.W.typeIn X.K (.ref fI) = some (.type "function"))
    (F1 : FnOk X.prog X.w X.K X.mg X.base CX0 k fI fd ["self"] (spWord C wd)) (hr : Room (k + 1) X.A) (hb : Binds X.K fd ["self"] []) (hg : Gl X x) (hm : X.mg x = some (.ref C)) (hdb : (x == ("__debug__" : Str)) = false := by decide) :
    L2N.PMk X (.Call (.Name x p) [] [] pos) (tRaiseW C wd) := by
  intro pins s σ H Q I h
  refine wpAny_Call_Name_kw (ld_glob I hg hm ?_ hdb)
  refine PySem.W.callWith_K0 I.kIn T.kC (mkRunB BB T iC tI F1 hr hb I .nil (Nat.zero_le _) fun a ha => ⟨a, rfl, upd_same, fun dx ndx ne => ⟨rfl, dx, [("word", .str wd)], upd_same, ?_, ?_, ?_⟩⟩)
  · rw [upd_ne ne, upd_same]
  · rw [upd_ne ne] at ndx
    exact ndx
  · rw [upd_ne ne] at ndx
    rw [made_heap ha ndx ne]
    exact h dx ndx
/-! ### the first field of such a refusal -/
section
open PySem.W PySem.Calls PySem.HandSPX Builtin Builtin.ObjectAttr
theorem osaB {prog : Program} {w : World} {A : Around} {R : Result → Shared → Prop} {hp : Heap} {g : Array GenState} {d : Drawn} {t : Nat} {os : OsState} {K : PySem.W.Frag} {name : Str} {tk : Tok} {v : Value} {x C : Addr} {fv : Array Value} {cd : ClassData} {B newId initId : String} {tl : List Value} (BB : BaseB B newId initId tl)
    (X : K.In hp) (hx : hp.get? x = some { cls := .ref C, data := .fields fv }) (hcd : PySem.W.clsIn K C = some cd) (hm : cd.mro.dropWhile isR = tl) (hne : cd.mro ≠ []) (hh : cd.hasDict = true) (ha : PySem.W.findIn K (.ref C) name = some none)
    (hq : ∀ h' tk' dx, (∀ b o, b ≠ x → hp.get? b = some o → h'.get? b = some o) → hp.objs.size ≤ dx → dx ≠ x → h'.get? x = some { cls := .ref C, dict := some dx, data := .fields fv } →
      h'.Ns1 dx (fun y => if y = name then some v else none) → R (.ok (.ret .none)) ⟨h', g, d, tk', os⟩) :
    codeAny (model prog w) A (.call (.builtin "object.__setattr__") ⟨[.ref x, .str name tk, v], []⟩) R ⟨hp, g, d, t, os⟩ := by
  have mroOb : cd.mro.contains (.type "object") = true := (refsT_has "object" _ hm).trans BB.ob
  have xNew : x ≠ hp.objs.size := Nat.ne_of_lt (Heap.lt_size hx)
  have J : PySem.W.InstAt hp x { cls := .ref C, data := .fields fv } C none := ⟨hx, rfl, rfl, trivial⟩
  have isOb : PySem.W.Looks (model prog w) hp (isInstance (.ref x) (.type "object")) true := by
    refine J.type.andThen (PySem.W.looks_mroIn X ?_)
    unfold PySem.W.mroIn
    rw [hcd, Option.bind_some, if_neg (by rw [List.isEmpty_iff]; exact hne), mroOb]
  have S := PySem.F.store_object
  refine codeAny_call_builtin S.slot.plain S.entry (@PySem.W.check_slot (model prog w) _ _ ⟨hp, g, d, t, os⟩ "object.__setattr__" "object" "__setattr__" (.ref x) [.str name tk, v] [] _ S.kind S.split isOb (S.args (.ref x) (.str name tk) v) ?_)
  have mroL : PySem.W.Looks (model prog w) hp (mroOf (.ref C)) cd.mro := (PySem.W.looks_clsIn X hcd).andThen .now
  have clsL : PySem.W.Looks (model prog w) hp (classData C) cd := PySem.W.looks_clsIn X hcd
  have noTaker : PySem.W.Looks (model prog w) hp (storeTaker? none) none := .now
  rw [PySem.W.osa_eq, refuse_eq]
  refine wpAny_bind (wpAny_bind (J.type.at (wpAny_bind (mroL.at ?_))))
  rw [refsT_pass BB.pass _ _ hm]
  refine wpAny_pure (wpAny_bind (J.type.at (wpAny_bind ((PySem.W.looks_findIn X ha).at (wpAny_bind (noTaker.at ?_))))))
  show wpAny _ _ (storeInOwnDict (.ref x) (.ref C) (.str name tk) name v false) _ _ _
  cases cd with
  | mk nm bs mro ns qn hd sn sb ab col del =>
    have hd1 : hd = true := hh
    rw [hd1] at clsL
    unfold storeInOwnDict ownDictForStores
    repeat (first | with_reducible refine store_in_new ?_ ?_ | with_reducible refine wpAny_loadPart_at hx ?_ | with_reducible refine clsL.at ?_ | wp_step)
    · exact ⟨_, #[], _, (Heap.get?_update_ne _ _ _ _ xNew.symm).trans (Heap.get?_push_at rfl rfl), rfl, fun e he => absurd he (by simp), fun _ => rfl⟩
    · intro h' tk' nsN but
      have hx1 : (hp.push { cls := .type "dict", data := .dict #[] }).get? x = some { cls := .ref C, data := .fields fv } := Heap.get?_push_of_some _ hx
      refine hq h' tk' hp.objs.size (fun b o hb ho => ?_) (Nat.le_refl _) xNew.symm ((but.2 x xNew).trans (Heap.get?_update_self _ hx1 rfl)) nsN
      rw [but.2 b (Nat.ne_of_lt (Heap.lt_size ho)), Heap.get?_update_ne _ _ _ _ hb]
      exact Heap.get?_push_of_some _ ho
end
section
variable {X : Cx} {pins : List (Addr × Obj)} {σ : L2.St} {H : Hp} {s : Shared} {a C : Addr} {f : Str} {y : V} {u : Value} {Q : Unit → Shared → Prop} {E : Value → Shared → Prop} {A : Around} {B newId initId : String} {tl : List Value}
theorem ost_newB (BB : BaseB B newId initId tl) (T : OexB X.K C newId tl) (I : Inv X pins σ H s) (e : H a = some (exo a C none)) (hno : PySem.W.findIn X.K (.ref C) f = some none) (ry : RelV y u)
    (h : ∀ dx s', H dx = none → dx ≠ a → Inv X pins σ (upd (upd H dx (exd dx [(f, y)])) a (exo a C (some dx))) s' → Q () s') : wpAny (model X.prog X.w) A (setAttr (.ref a) f u) Q E s := by
  obtain ⟨nm, q, N, bs, bm, sn, sub, ab, col, dd, k0, k1, k2, k3, k5, hC, hbm⟩ := T.cls
  have clsA : PySem.W.clsIn X.K C = some { name := nm, bases := bs, mro := .ref C :: bm, ns := N, qualname := q, hasDict := true, slotNames := sn, subclasses := sub, abstract := ab, collection := col, hasDel := false } := by
    unfold PySem.W.clsIn
    rw [hC] <;> rfl
  obtain ⟨t1, objA⟩ := exo_at I.hok e
  obtain ⟨hp, g, d, t, os⟩ := s
  refine PySem.W.set_plain I.kIn (ox := { cls := .ref C, dict := none, data := .fields #[.ref t1, .none, .none, .none, .bool false, .none] }) (od := none) ⟨objA, rfl, rfl, trivial⟩ T.sa (osaB BB I.kIn objA clsA (by rw [List.dropWhile_cons_of_pos rfl]; exact hbm) (fun z => nomatch z) rfl hno fun h' tk' dx kept far ne objB nsB => ?_)
  have free : H dx = none := I.hok.fresh far
  have old : ∀ {b : Addr} {o : Obj}, hp.get? b = some o → b ≠ dx := fun hb => Nat.ne_of_lt (Nat.lt_of_lt_of_le (Heap.lt_size hb) far)
  have own : ∀ {b : Addr}, H b = none → b ≠ a := fun hb z => by
    rw [z, e] at hb
    exact nomatch hb
  have look : ∀ {b : Addr} {o : HO}, H b = some o → exo a C none ≠ o → upd (upd H dx (exd dx [(f, y)])) a (exo a C (some dx)) b = some o := fun hb d => by
    rw [upd_ne (at_ne e hb d), upd_ne (ne_of_none hb free)]
    exact hb
  have U : Un X.fs [] H (upd (upd H dx (exd dx [(f, y)])) a (exo a C (some dx))) hp h' := {
    keep := fun b o q n _ _ => kept b o (own n) q
    slot := fun b o q n _ _ => ⟨o.slots, kept b o (own n) q⟩
    free := fun b o q n _ => by
      rw [upd_ne (own n), upd_ne (old q)]
      exact n
    there := fun b o q _ => by
      rcases Classical.em (b = a) with z | z
      · subst z
        exact ⟨_, objB⟩
      · exact ⟨o, kept b o z q⟩
    tups := fun b xs q => look q exo_tup
    frzs := fun b o v q => look q exo_frz
    tbls := fun b ps q => ⟨#[], by rw [look q exo_tbl]; simp⟩ }
  refine h dx _ free ne (I.un (t' := tk') U fun b o q => ?_)
  by_cases z1 : b = a
  · subst z1
    rw [upd_same] at q
    cases q
    exact exo_ok objB
  rw [upd_ne z1] at q
  by_cases z2 : b = dx
  · subst z2
    rw [upd_same] at q
    cases q
    exact exd_ok nsB (relO_put (fs := []) ry fun g => True.intro)
  rw [upd_ne z2] at q
  refine (I.hok b o q).stay (fun c v hc z => kept c v ?_ z) (fun c hc => look hc exo_own) (fun c xs hc => look hc exo_tup)
  rcases hc with hc | hc
  · rw [hc]
    exact z1
  · exact at_ne e hc exo_own
/-- self.f = e, the first field -/
def tOstB (K : PySem.W.Frag) (newId : String) (tl : List Value) (f : Str) (to te : TE) : TS := fun D σ H => te σ H fun y H1 => to σ H1 fun x H2 => ∃ a C : Addr, x = .ref a ∧ OexB K C newId tl ∧ PySem.W.findIn K (.ref C) f = some none ∧
  H2 a = some (exo a C none) ∧ ∀ dx, H2 dx = none → dx ≠ a → D.nx σ (upd (upd H2 dx (exd dx [(f, y)])) a (exo a C (some dx)))
theorem ps_ostB (BB : BaseB B newId initId tl) {o e : Expr} {to te : TE} {p' pos : Pos} (ho : PE X o to) (he : PE X e te) (hs : swapsWith e (some (.Attribute o f p')) pos.line X.env = pure false := by rfl) : PS X (.Assign [.Attribute o f p'] e pos) (tOstB X.K newId tl f to te) := by
  refine ⟨fun pins s σ H D I h => plainObj_wpAny_Assign_Attribute (thn (he.run pins s σ H _ I h) fun v s1 ⟨y, H1, I1, r1, q1⟩ => thn (ho.run pins s1 σ H1 _ I1 q1) fun u s2 ⟨x, H2, I2, r2, a, C, ex, T, hno, ea, q⟩ => ?_) hs⟩
  subst ex
  cases r2
  exact ost_newB BB T I2 ea hno r1 fun dx s' n ne J => ⟨σ, _, J, q dx n ne⟩
end
abbrev leTail : List Value := [.type "LookupError", .type "Exception", .type "BaseException", .type "object"]
abbrev ieTail : List Value := [.type "IndexError", .type "LookupError", .type "Exception", .type "BaseException", .type "object"]
theorem baseL : BaseB "LookupError" "LookupError.__new__" "LookupError.__init__" leTail := ⟨PySem.F.excBase_LookupError, fun self => PySem.F.store_LookupError.passes self, by decide +kernel⟩
theorem baseI : BaseB "IndexError" "IndexError.__new__" "IndexError.__init__" ieTail := ⟨PySem.F.excBase_IndexError, fun self => PySem.F.store_IndexError.passes self, by decide +kernel⟩
end Onp
set_option maxHeartbeats 4000000
set_option autoImplicit false
/-! what is asked of the top, by names -/
namespace Onp
open PySem PySem.Spec PyProof.Rows L2
open He (ga ma eqO eqO_ok ba)
def errNs : List Str := ["BadMark", "BadLetters", "BadRoom", "BadArrow", "BadWord", "BadSize", "BadPattern", "BadTable", "BadTree", "BadText", "BadName", "BadDeed", "BadPage", "Taken", "Full", "Unlike", "NotDear", "InUse", "TooWide", "NoArrow", "NoName", "NoTraveller", "NothingLeft"]
def slB : List (Option Value) → Bool
  | [_, _, _, _, some (.builtin n), _] => n == "ValueError.__new__"
  | _ => false
/-- a refusal's class, as it is laid -/
def oexB (K : PySem.W.Frag) (C : Addr) : Bool := match K.lookup C with
  | some ⟨.type t, _, .cls cd, sl⟩ => t == "type" && (match cd.mro with
    | .ref D :: bm => D == C && (cd.hasDel == false && (cd.hasDict && PySem.HandSPX.refsVE bm))
    | _ => false) && slB sl.toList
  | _ => false
/-- all that is asked of a refusal's class -/
def errB (K : PySem.W.Frag) (x : Str) : Bool :=
  (oexB K (ga K x) && (eqO (PySem.W.findIn K (.ref (ga K x)) "__setattr__") (some (some (.builtin "object.__setattr__"))) && (decide (PySem.W.subIn K (.ref (ga K x)) (.type "BaseException") = some true) && (decide (PySem.W.typeIn K (.ref (ga K x)) = some (.type "type")) && PySem.W.keepIn K (.ref (ga K x))))))
  && ((eqO (PySem.W.findIn K (.ref (ga K x)) "__init__") (some (some (.ref (ma K (ga K x) "__init__")))) && (decide (PySem.W.typeIn K (.ref (ma K (ga K x) "__init__")) = some (.type "function")) && eqO (PySem.W.findIn K (.ref (ga K x)) "word") (some none)))
  && (((PySem.W.clsIn K (ga K x)).isSome && (eqO (PySem.W.findIn K (.ref (ga K x)) "__getattribute__") (some (some (.builtin "BaseException.__getattribute__"))) && (eqO (PySem.W.findIn K (.ref (ga K x)) "__getattr__") (some none) && (eqO (PySem.W.findIn K (.ref (ga K x)) "__class__") (some (some (.builtin "object.__class__"))) && (decide (PySem.W.mroIn K (ga K x) (.type "object") = some true) && PySem.W.hasDictIn K (ga K x))))))
  && ((errNs.all fun y => decide (PySem.W.subIn K (.ref (ga K x)) (.ref (ga K y)) = some (y == x))) && decide (PySem.W.exmAny K (.ref (ga K x)) [.ref (ga K "PurseError"), .ref (ga K "Missing"), .ref (ga K "NothingLeft")] = some true))))
def slLB (newId : String) : List (Option Value) → Bool
  | [_, _, _, _, some (.builtin n), _] => n == newId
  | _ => false
def oexLB (newId : String) (tl : List Value) (K : PySem.W.Frag) (C : Addr) : Bool := match K.lookup C with
  | some ⟨.type t, _, .cls cd, sl⟩ => t == "type" && (match cd.mro with
    | .ref D :: bm => D == C && (cd.hasDel == false && (cd.hasDict && (bm.dropWhile isR == tl)))
    | _ => false) && slLB newId sl.toList
  | _ => false
/-- the same, over another built-in one -/
def errLB (newId : String) (tl : List Value) (K : PySem.W.Frag) (x : Str) : Bool :=
  (oexLB newId tl K (ga K x) && (eqO (PySem.W.findIn K (.ref (ga K x)) "__setattr__") (some (some (.builtin "object.__setattr__"))) && (decide (PySem.W.subIn K (.ref (ga K x)) (.type "BaseException") = some true) && (decide (PySem.W.typeIn K (.ref (ga K x)) = some (.type "type")) && PySem.W.keepIn K (.ref (ga K x))))))
  && ((eqO (PySem.W.findIn K (.ref (ga K x)) "__init__") (some (some (.ref (ma K (ga K x) "__init__")))) && (decide (PySem.W.typeIn K (.ref (ma K (ga K x) "__init__")) = some (.type "function")) && eqO (PySem.W.findIn K (.ref (ga K x)) "word") (some none)))
  && (((PySem.W.clsIn K (ga K x)).isSome && (eqO (PySem.W.findIn K (.ref (ga K x)) "__getattribute__") (some (some (.builtin "BaseException.__getattribute__"))) && (eqO (PySem.W.findIn K (.ref (ga K x)) "__getattr__") (some none) && (eqO (PySem.W.findIn K (.ref (ga K x)) "__class__") (some (some (.builtin "object.__class__"))) && (decide (PySem.W.mroIn K (ga K x) (.type "object") = some true) && PySem.W.hasDictIn K (ga K x))))))
  && ((errNs.all fun y => decide (PySem.W.subIn K (.ref (ga K x)) (.ref (ga K y)) = some (y == x))) && decide (PySem.W.exmAny K (.ref (ga K x)) [.ref (ga K "PurseError"), .ref (ga K "Missing"), .ref (ga K "NothingLeft")] = some true))))
/-- of object.__class__, and of every refusal's name -/
def allB (K : PySem.W.Frag) : Bool := decide (PySem.W.specialIn K (.builtin "object.__class__") "__get__" = some (some (.builtin "getset_descriptor.__get__"))) && (decide (PySem.W.takesIn K (.builtin "object.__class__") = some true)
  && ((errNs.all fun y => decide (PySem.W.typeIn K (.ref (ga K y)) = some (.type "type")) && PySem.W.isClsIn K (ga K y)) && ((["BadText", "BadPage", "TooWide"] : List Str).all fun y => decide (PySem.W.subIn K (.ref (ga K y)) (.type "BaseException") = some true))))
end Onp
set_option maxHeartbeats 0
namespace Onp
open PySem PySem.Spec PyProof.Rows L2
def fa0 : List He.Fa := [.glo "_law_bag", .glo "_law_pull", .glo "_law_of", .glo "_law_same", .glo "_law_kind", .glo "_law_told", .glo "_law_deed", .glo "_law_letters", .glo "_law_rooms_some", .glo "_law_arrow", .glo "_law_drawn", .glo "_law_full_one", .glo "_law_known", .glo "_law_machine", .glo "_law_made"]
def fa1 : List He.Fa := [.glo "_law_tells", .glo "_law_sorted", .glo "are_letters", .glo "is_letter", .glo "is_arrow", .glo "need_arrows", .glo "need_rooms", .glo "steps_by_start", .glo "made", .glo "once_each", .glo "need_like", .glo "_law_pairs_of", .glo "_law_product", .glo "all_pairs", .glo "come_to"]
def fa2 : List He.Fa := [.glo "numbered", .glo "within", .glo "law", .glo "_law_wide_pair", .free "isinstance", .free "list", .free "tuple", .free "bool", .free "int", .free "str", .free "len", .free "all", .free "zip", .free "set", .free "sorted"]
def fa3 : List He.Fa := [.free "range", .free "enumerate", .str "SMALL_LETTERS" "abcdefghijklmnopqrstuvwxyz", .int "MOST_LETTERS" 3, .int "MOST_ROOMS" 8, .int "MOST_ARROWS" 40, .glo "Machine", .cls "Machine", .noat "Machine" "room_count", .noat "Machine" "letter_text", .noat "Machine" "arrow_row", .noat "Machine" "first_row", .noat "Machine" "last_row", .noat "Machine" "step_rows", .mkr "Machine"]
def fa4 : List He.Fa := [.meth "Machine" "rooms", .meth "Machine" "letters", .meth "Machine" "arrows", .meth "Machine" "firsts", .meth "Machine" "lasts", .glo "DEEDS", .glo "PurseError", .glo "Missing"]
def fasA : List He.Fa := errNs.map He.Fa.glo ++ (fa0 ++ (fa1))
def fasB : List He.Fa := fa2 ++ (fa3 ++ (fa4))
def fas : List He.Fa := fasA ++ fasB
def d_B : He.DefD := ⟨("_law_bag", none), "_law_bag", "_law_bag", defArgs (topS 50), defBody (topS 50), defScope (topS 50), [], []⟩
def d_Pu : He.DefD := ⟨("_law_pull", none), "_law_pull", "_law_pull", defArgs (topS 51), defBody (topS 51), defScope (topS 51), [], []⟩
def d_O : He.DefD := ⟨("_law_of", none), "_law_of", "_law_of", defArgs (topS 52), defBody (topS 52), defScope (topS 52), [], []⟩
def d_Sm : He.DefD := ⟨("_law_same", none), "_law_same", "_law_same", defArgs (topS 53), defBody (topS 53), defScope (topS 53), [], []⟩
def d_Kn : He.DefD := ⟨("_law_kind", none), "_law_kind", "_law_kind", defArgs (topS 54), defBody (topS 54), defScope (topS 54), [], []⟩
def d_To : He.DefD := ⟨("_law_told", none), "_law_told", "_law_told", defArgs (topS 55), defBody (topS 55), defScope (topS 55), [], []⟩
def d_De : He.DefD := ⟨("_law_deed", none), "_law_deed", "_law_deed", defArgs (topS 56), defBody (topS 56), defScope (topS 56), [], []⟩
def d_Le : He.DefD := ⟨("_law_letters", none), "_law_letters", "_law_letters", defArgs (topS 57), defBody (topS 57), defScope (topS 57), [], []⟩
def d_Ro : He.DefD := ⟨("_law_rooms_some", none), "_law_rooms_some", "_law_rooms_some", defArgs (topS 58), defBody (topS 58), defScope (topS 58), [], []⟩
def d_Ar : He.DefD := ⟨("_law_arrow", none), "_law_arrow", "_law_arrow", defArgs (topS 59), defBody (topS 59), defScope (topS 59), [], []⟩
def d_Dr : He.DefD := ⟨("_law_drawn", none), "_law_drawn", "_law_drawn", defArgs (topS 60), defBody (topS 60), defScope (topS 60), [], []⟩
def d_Fu : He.DefD := ⟨("_law_full_one", none), "_law_full_one", "_law_full_one", defArgs (topS 61), defBody (topS 61), defScope (topS 61), [], []⟩
def d_Kw : He.DefD := ⟨("_law_known", none), "_law_known", "_law_known", defArgs (topS 62), defBody (topS 62), defScope (topS 62), [], []⟩
def d_Ml : He.DefD := ⟨("_law_machine", none), "_law_machine", "_law_machine", defArgs (topS 63), defBody (topS 63), defScope (topS 63), [], []⟩
def d_Md : He.DefD := ⟨("_law_made", none), "_law_made", "_law_made", defArgs (topS 64), defBody (topS 64), defScope (topS 64), [], []⟩
def d_Te : He.DefD := ⟨("_law_tells", none), "_law_tells", "_law_tells", defArgs (topS 65), defBody (topS 65), defScope (topS 65), [], []⟩
def d_So : He.DefD := ⟨("_law_sorted", none), "_law_sorted", "_law_sorted", defArgs (topS 66), defBody (topS 66), defScope (topS 66), [], []⟩
def d_Al : He.DefD := ⟨("are_letters", none), "are_letters", "are_letters", defArgs (topS 34), defBody (topS 34), defScope (topS 34), [], []⟩
def d_Il : He.DefD := ⟨("is_letter", none), "is_letter", "is_letter", defArgs (topS 35), defBody (topS 35), defScope (topS 35), [], []⟩
def d_Ia : He.DefD := ⟨("is_arrow", none), "is_arrow", "is_arrow", defArgs (topS 36), defBody (topS 36), defScope (topS 36), [], []⟩
def d_Na : He.DefD := ⟨("need_arrows", none), "need_arrows", "need_arrows", defArgs (topS 37), defBody (topS 37), defScope (topS 37), [], []⟩
def d_Nr : He.DefD := ⟨("need_rooms", none), "need_rooms", "need_rooms", defArgs (topS 38), defBody (topS 38), defScope (topS 38), [], []⟩
def d_Sb : He.DefD := ⟨("steps_by_start", none), "steps_by_start", "steps_by_start", defArgs (topS 39), defBody (topS 39), defScope (topS 39), [], []⟩
def d_Mp : He.DefD := ⟨("made", none), "made", "made", defArgs (topS 43), defBody (topS 43), defScope (topS 43), [], []⟩
def d_On : He.DefD := ⟨("once_each", none), "once_each", "once_each", defArgs (topS 42), defBody (topS 42), defScope (topS 42), [], []⟩
def d_Lk : He.DefD := ⟨("need_like", none), "need_like", "need_like", defArgs (topS 46), defBody (topS 46), defScope (topS 46), [], []⟩
def d_Pr : He.DefD := ⟨("_law_pairs_of", none), "_law_pairs_of", "_law_pairs_of", defArgs (topS 67), defBody (topS 67), defScope (topS 67), [], []⟩
def d_Pd : He.DefD := ⟨("_law_product", none), "_law_product", "_law_product", defArgs (topS 68), defBody (topS 68), defScope (topS 68), [], []⟩
def d_Ap : He.DefD := ⟨("all_pairs", none), "all_pairs", "all_pairs", defArgs (topS 47), defBody (topS 47), defScope (topS 47), [], []⟩
def d_Ct : He.DefD := ⟨("come_to", none), "come_to", "come_to", defArgs (topS 45), defBody (topS 45), defScope (topS 45), [], []⟩
def d_Nu : He.DefD := ⟨("numbered", none), "numbered", "numbered", defArgs (topS 44), defBody (topS 44), defScope (topS 44), [], []⟩
def d_Wn : He.DefD := ⟨("within", none), "within", "within", defArgs (topS 48), defBody (topS 48), defScope (topS 48), [], []⟩
def d_L : He.DefD := ⟨("law", none), "law", "law", defArgs (topS 70), defBody (topS 70), defScope (topS 70), [], []⟩
def d_Wp : He.DefD := ⟨("_law_wide_pair", none), "_law_wide_pair", "_law_wide_pair", defArgs (topS 69), defBody (topS 69), defScope (topS 69), [], []⟩
def d_I : He.DefD := ⟨("Machine", some "__init__"), "__init__", "Machine.__init__", defArgs (inClass (topS 40) 0), defBody (inClass (topS 40) 0), defScope (inClass (topS 40) 0), [.adr (He.dflAt ("Machine", some "__init__") 0)], [("firsts", .adr (kwdAt "firsts")), ("lasts", .adr (kwdAt "lasts"))]⟩
def d_Rm : He.DefD := ⟨("Machine", some "rooms"), "rooms", "Machine.rooms", defArgs (inClass (topS 40) 1), defBody (inClass (topS 40) 1), defScope (inClass (topS 40) 1), [], []⟩
def d_Lt : He.DefD := ⟨("Machine", some "letters"), "letters", "Machine.letters", defArgs (inClass (topS 40) 2), defBody (inClass (topS 40) 2), defScope (inClass (topS 40) 2), [], []⟩
def d_Aw : He.DefD := ⟨("Machine", some "arrows"), "arrows", "Machine.arrows", defArgs (inClass (topS 40) 3), defBody (inClass (topS 40) 3), defScope (inClass (topS 40) 3), [], []⟩
def d_Fs : He.DefD := ⟨("Machine", some "firsts"), "firsts", "Machine.firsts", defArgs (inClass (topS 40) 4), defBody (inClass (topS 40) 4), defScope (inClass (topS 40) 4), [], []⟩
def d_Ls : He.DefD := ⟨("Machine", some "lasts"), "lasts", "Machine.lasts", defArgs (inClass (topS 40) 5), defBody (inClass (topS 40) 5), defScope (inClass (topS 40) 5), [], []⟩
def d_IS_ : He.DefD := ⟨("BadSize", some "__init__"), "__init__", "BadSize.__init__", defArgs (inClass (topS 9) 0), defBody (inClass (topS 9) 0), defScope (inClass (topS 9) 0), [], []⟩
def d_IL_ : He.DefD := ⟨("BadLetters", some "__init__"), "__init__", "BadLetters.__init__", defArgs (inClass (topS 5) 0), defBody (inClass (topS 5) 0), defScope (inClass (topS 5) 0), [], []⟩
def d_IA_ : He.DefD := ⟨("BadArrow", some "__init__"), "__init__", "BadArrow.__init__", defArgs (inClass (topS 7) 0), defBody (inClass (topS 7) 0), defScope (inClass (topS 7) 0), [], []⟩
def d_IR_ : He.DefD := ⟨("BadRoom", some "__init__"), "__init__", "BadRoom.__init__", defArgs (inClass (topS 6) 0), defBody (inClass (topS 6) 0), defScope (inClass (topS 6) 0), [], []⟩
def d_IF_ : He.DefD := ⟨("Full", some "__init__"), "__init__", "Full.__init__", defArgs (inClass (topS 18) 0), defBody (inClass (topS 18) 0), defScope (inClass (topS 18) 0), [], []⟩
def d_IU_ : He.DefD := ⟨("Unlike", some "__init__"), "__init__", "Unlike.__init__", defArgs (inClass (topS 19) 0), defBody (inClass (topS 19) 0), defScope (inClass (topS 19) 0), [], []⟩
def fn0 : List He.DefD := [d_B, d_Pu, d_O, d_Sm, d_Kn, d_To, d_De, d_Le, d_Ro, d_Ar, d_Dr, d_Fu, d_Kw, d_Ml, d_Md]
def fn1 : List He.DefD := [d_Te, d_So, d_Al, d_Il, d_Ia, d_Na, d_Nr, d_Sb, d_Mp, d_On, d_Lk, d_Pr, d_Pd, d_Ap, d_Ct]
def fn2 : List He.DefD := [d_Nu, d_Wn, d_L, d_Wp, d_I, d_Rm, d_Lt, d_Aw, d_Fs, d_Ls, d_IS_, d_IL_, d_IA_, d_IR_, d_IF_]
def fn3 : List He.DefD := [d_IU_]
def fnsA : List He.DefD := fn0 ++ (fn1)
def fnsB : List He.DefD := fn2 ++ (fn3)
def fns : List He.DefD := fnsA ++ fnsB
def tfs : List He.Defn := [("law", none), ("_law_wide_pair", none)]
def exK (K : PySem.W.Frag) : Bool := allB K && (He.tupB K "DEEDS" [.str "keep", .str "cent", .str "fill", .str "coin", .str "brim"] && (errB K "BadSize" && (errB K "BadLetters" && (errB K "BadArrow" && (errB K "BadRoom" && (errB K "Full" && (errB K "Unlike" && (decide ((He.cT K ("_law_wide_pair", none)).2 ≠ (He.cT K ("law", none)).2) && (dflE K && (oneE K "firsts" && (oneE K "lasts")))))))))))
def nm0 : List PySem.Str := ["_wall", "PurseError", "Missing", "BadMark", "BadLetters", "BadRoom", "BadArrow", "BadWord", "BadSize", "BadPattern", "BadTable", "BadTree", "BadText", "BadName", "BadDeed"]
def nm1 : List PySem.Str := ["BadPage", "Taken", "Full", "Unlike", "NotDear", "InUse", "TooWide", "NoArrow", "NoName", "NoTraveller", "NothingLeft", "DEEDS", "SMALL_LETTERS", "MOST_ROOMS", "MOST_LETTERS"]
def nm2 : List PySem.Str := ["MOST_ARROWS", "MOST_WORD", "are_letters", "is_letter", "is_arrow", "need_arrows", "need_rooms", "steps_by_start", "Machine", "once_each", "made", "numbered", "come_to", "need_like", "all_pairs"]
def nm3 : List PySem.Str := ["within", "_law_bag", "_law_pull", "_law_of", "_law_same", "_law_kind", "_law_told", "_law_deed", "_law_letters", "_law_rooms_some", "_law_arrow", "_law_drawn", "_law_full_one", "_law_known", "_law_machine"]
def nm4 : List PySem.Str := ["_law_made", "_law_tells", "_law_sorted", "_law_pairs_of", "_law_product", "_law_wide_pair"]
def loose : List PySem.Str := nm0 ++ (nm1 ++ (nm2 ++ (nm3 ++ (nm4))))
abbrev R : PySem.W.OpenRow := PySem.W.OpenLaw.row PySem.Challenge.rw_onepurse_k34_machines_within_sieves
abbrev hk : PySem.W.Hook := He.hookX 5 fas fns [] tfs exK
noncomputable def ob (s : PySem.W.SharedT) : He.AlX := He.obsX 5 fas fns [] tfs exK (HandSHeadRun.getT s)
theorem ob_eq (s : PySem.W.SharedT) : ob s = hk.obs s.abs := He.obsX_eq (HandSHeadRun.getT_eq s)
noncomputable def XR (w : World) (os : OsState) := HandSHeadRun.endF (HandSHeadRun.stepQ (HandSHeadRun.denQ HandSHeadRun.tabQ) R.prog w) 9500 R.prog w os
theorem runA (w : World) (os : OsState) : (XR w os).map (fun s => HandSHeadRun.looksF R.prog (PySem.W.boot_heap w.params) s.abs) = some true := by
  kernel_rfl
theorem runB (w : World) (os : OsState) : (XR w os).map (fun s => HandSHeadRun.seenQ (PySem.W.view R.prog [70]) loose (PySem.importedModules R.prog.main.body) (fun s => PySem.W.xlAt (PySem.W.view R.prog [70]) [] s && PySem.W.recOk R.toRowW.records s) s.abs) = some (PySem.W.openGood (PySem.W.view R.prog [70]) loose) := by
  kernel_rfl
theorem runC (w : World) (os : OsState) : (XR w os).map (fun s => He.obsX 5 fasA fnsA [] [] (fun _ => true) (HandSHeadRun.getT s)) = some (He.valX fnsA [] w) := by
  kernel_rfl
theorem runD (w : World) (os : OsState) : (XR w os).map (fun s => He.obsX 5 fasB fnsB [] tfs exK (HandSHeadRun.getT s)) = some (He.valX fnsB [] w) := by
  kernel_rfl
theorem run (w : World) : HandSHeadRun.RunEq R (PySem.W.view R.prog [70]) hk ob 9500 loose w := by
  intro os
  show (XR w os).map (fun s => (HandSHeadRun.looksF R.prog (PySem.W.boot_heap w.params) s.abs, HandSHeadRun.seenQ (PySem.W.view R.prog [70]) loose (PySem.importedModules R.prog.main.body) (fun s => PySem.W.xlAt (PySem.W.view R.prog [70]) [] s && PySem.W.recOk R.toRowW.records s) s.abs, He.obsX 5 (fasA ++ fasB) (fnsA ++ fnsB) [] tfs exK (HandSHeadRun.getT s))) = some (true, PySem.W.openGood (PySem.W.view R.prog [70]) loose, He.valX (fnsA ++ fnsB) [] w)
  exact map_three (runA w os) (runB w os) (map_obs (runC w os) (runD w os))
end Onp
set_option maxHeartbeats 4000000
set_option autoImplicit false
namespace Onp
open PySem PySem.Spec PyProof.Rows L2
/-! ### texts as lists of code points -/
def Sx (xs : List Nat) : Str := ⟨xs.toArray⟩
theorem sx_len (xs : List Nat) : (Sx xs).length = xs.length := by simp [Sx, Str.length]
theorem sx_cps (xs : List Nat) : (Sx xs).cps.toList = xs := rfl
theorem sx_app (xs ys : List Nat) : Sx xs ++ Sx ys = Sx (xs ++ ys) := by
  show Str.mk (xs.toArray ++ ys.toArray) = Str.mk (xs ++ ys).toArray
  rw [List.append_toArray]
theorem sx_of (z : Str) : z = Sx z.cps.toList := rfl
theorem sx_inj {xs ys : List Nat} (h : Sx xs = Sx ys) : xs = ys := by
  have := congrArg (fun z : Str => z.cps.toList) h
  simpa [Sx] using this
def rep {α : Type} (n : Nat) (xs : List α) : List α := (List.replicate n xs).flatten
theorem rep_len {α : Type} (n : Nat) (xs : List α) : (rep n xs).length = n * xs.length := by
  unfold rep
  induction n with
  | zero => simp
  | succ n ih =>
    rw [List.replicate_succ, List.flatten_cons, List.length_append, ih, Nat.succ_mul]
    omega
theorem foldl_cps (n : Nat) (xs : List Nat) (a : List Nat) : ((List.replicate n xs.toArray).foldl (· ++ ·) a.toArray) = (a ++ rep n xs).toArray := by
  induction n generalizing a with
  | zero => simp [rep]
  | succ n ih =>
    rw [List.replicate_succ, List.foldl_cons, List.append_toArray, ih]
    unfold rep
    rw [List.replicate_succ, List.flatten_cons, List.append_assoc]
section
variable {X : Cx}
/-- text * int -/
def rMulS : R2 := fun x y H Q => ∃ (xs : List Nat) (n : Nat), x = .str (Sx xs) ∧ y = .int (n : Int) ∧ n ≤ 1000 ∧ n * xs.length ≤ sizeLine ∧ Q (.str (Sx (rep n xs))) H
theorem op_mulS : OpR X (binaryOp .Mult) rMulS := by
  intro pins s σ H x y v u Q I rx ry h
  obtain ⟨xs, n, rfl, rfl, hn, hz, q⟩ := h
  obtain ⟨t, rfl⟩ := rx
  obtain ⟨t', rfl⟩ := ry
  have hl : (Sx xs).length = xs.length := sx_len xs
  refine P.mul_str ?_ (fun h1 h2 => ?_) (fun h1 h2 => ?_) ?_
  · have h1 : ¬ ((n : Int) < -(2 ^ 63 : Int)) := by omega
    have h2 : ¬ ((n : Int) ≥ 2 ^ 63) := by omega
    rw [decide_eq_false h1, decide_eq_false h2]
    rfl
  · rw [hl]
    have hs := sizeLine_eq
    have q1 : ((xs.length : Int) * (n : Int)) ≤ 2 ^ 63 - 1 := by
      have q2 : n * xs.length ≤ 9223372036854775807 := by omega
      have q3 : ((n * xs.length : Nat) : Int) ≤ ((9223372036854775807 : Nat) : Int) := Int.ofNat_le.mpr q2
      rw [Int.mul_comm, ← Int.natCast_mul]
      exact q3
    have q3 := Int.le_ediv_of_mul_le (show (0 : Int) < n by omega) q1
    omega
  · rw [hl]
    unfold Builtin.Str.tooLong
    rw [Int.toNat_natCast, Nat.mul_comm]
    exact decide_eq_false (by omega)
  · by_cases h1 : (n : Int) < 1
    · rw [if_pos h1]
      have e : n = 0 := by omega
      subst e
      exact ⟨by decide, .str (Sx (rep 0 xs)), H, I.tok _, ⟨_, rfl⟩, q⟩
    · rw [if_neg h1]
      by_cases h2 : ((n : Int) == 1 || (Sx xs).length == 0) = true
      · rw [if_pos h2]
        have e : rep n xs = xs := by
          rcases Bool.or_eq_true_iff.mp h2 with h | h
          · have : n = 1 := by have := beq_iff_eq.mp h; omega
            subst this
            simp [rep]
          · rw [hl] at h
            have : xs = [] := List.length_eq_zero_iff.mp (beq_iff_eq.mp h)
            subst this
            simp [rep]
        rw [e] at q
        exact ⟨.str (Sx xs), H, I, ⟨_, rfl⟩, q⟩
      · rw [if_neg h2, Int.toNat_natCast]
        have e : (List.replicate n (Sx xs).cps).foldl (· ++ ·) #[] = (rep n xs).toArray := foldl_cps n xs []
        rw [e]
        refine ⟨?_, .str (Sx (rep n xs)), H, I.tok _, ⟨_, rfl⟩, q⟩
        show (Sx (rep n xs)).length ≤ sizeLine
        rw [sx_len, rep_len]
        exact hz
/-- list(text) -/
def signsV (xs : List Nat) : List V := xs.map fun c => V.str (Sx [c])
theorem call_list_s (hc : X.calm = true) : CallR X (.type "list") (fun vs H Q => ∃ xs : List Nat, vs = [.str (Sx xs)] ∧ xs.length ≤ sizeLine ∧ ∀ l, H l = none → Q (.ref l) (upd H l (.lst (signsV xs)))) := by
  intro pins s σ H vs us Q I r h
  obtain ⟨xs, rfl, hz, q⟩ := h
  obtain ⟨u, rfl, t, rfl⟩ := vals1 r
  refine call_list_str (I.ok.hd hc) (Sx xs) t (hn := by show (Sx xs).length ≤ sizeLine; rw [sx_len]; exact hz) fun h' tk acc c hk hS ha => ?_
  refine ⟨.ref s.heap.objs.size, upd H s.heap.objs.size (.lst (signsV xs)), I.laid (t' := tk) hk (Nat.le_refl _) ?_, rfl, q _ (I.hok.fresh (Nat.le_refl _))⟩
  have e : acc = acc.toList.toArray := by simp
  refine ⟨by unfold signsV; rw [List.length_map]; exact hz, acc.toList, c, ?_, by rw [← e]; exact hS⟩
  have hsz : acc.toList.length = xs.length := by
    rw [Array.length_toList, ha.1]
    exact sx_len xs
  have key : ∀ (ys : List Nat) (vs : List Value) (k : Nat), vs.length = ys.length → (∀ (j : Nat) (v : Value), vs[j]? = some v → ∃ cc uu, ys[j]? = some cc ∧ v = Value.str ⟨#[cc]⟩ uu) → Vals (signsV ys) vs := by
    intro ys
    induction ys with
    | nil =>
      intro vs _ hl _
      rw [List.length_eq_zero_iff.mp hl]
      exact .nil
    | cons y ys ih =>
      intro vs k hl hv
      cases vs with
      | nil => simp at hl
      | cons v vs =>
        obtain ⟨cc, uu, e1, e2⟩ := hv 0 v rfl
        cases e1
        subst e2
        exact .cons ⟨uu, rfl⟩ (ih vs k (by simpa using hl) fun j v hj => hv (j + 1) v hj)
  refine key xs acc.toList 0 hsz fun j v hj => ?_
  obtain ⟨cc, uu, e1, e2⟩ := ha.2 j v (by simpa using hj)
  refine ⟨cc, uu, ?_, e2⟩
  have e1 : xs.toArray[j]? = some cc := e1
  simpa using e1
end
end Onp
set_option maxHeartbeats 4000000
set_option autoImplicit false
/-! zip(text, text) -/
namespace Onp
open PySem PySem.Spec PyProof.Rows L2
abbrev sgn (c : Nat) : V := .str ⟨#[c]⟩
def ItzS (x y : Str) : It :=
  ⟨fun i _ => i < min x.cps.size y.cps.size, fun i H v H' => ∃ T c d, v = .ref T ∧ H T = none ∧ H' = upd H T (.tup [sgn c, sgn d]) ∧ x.cps[i]? = some c ∧ y.cps[i]? = some d, fun i _ => i = min x.cps.size y.cps.size⟩
abbrev stS2 (x y : Str) (t u : Tok) (z TI TO i1 i2 : Addr) : Nat → Heap → Prop := fun i h => IsZip h z TI TO .none ∧ IsTupOf2 h TI (.ref i1) (.ref i2) ∧ (∃ a1 a2, IsTupOf2 h TO a1 a2) ∧ h.IsStrIter i1 (strIterType x) x t i ∧ h.IsStrIter i2 (strIterType y) y u i
theorem zipS_obj {x y : Str} {t u : Tok} {z TI TO i1 i2 : Addr} {i : Nat} {h : Heap} (st : stS2 x y t u z TI TO i1 i2 i h) : ∀ c ∈ z :: TI :: TO :: ([i1] ++ [i2]), ∃ o, h.get? c = some o ∧ ∀ v, o.data ≠ .cell v := fun c hc => by
    obtain ⟨g1, g2, ⟨_, _, g3⟩, ⟨o1, e1, _, d1⟩, ⟨o2, e2, _, d2⟩⟩ := st
    have hc' : c = z ∨ c = TI ∨ c = TO ∨ c = i1 ∨ c = i2 := by simpa using hc
    rcases hc' with rfl | rfl | rfl | rfl | rfl
    · exact ⟨_, g1, fun v q => nomatch q⟩
    · exact ⟨_, g2, fun v q => nomatch q⟩
    · exact ⟨_, g3, fun v q => nomatch q⟩
    · exact ⟨o1, e1, fun v q => by rw [d1] at q; cases q⟩
    · exact ⟨o2, e2, fun v q => by rw [d2] at q; cases q⟩
theorem turn_zipS {P : Program} {w : World} {K : PySem.W.Frag} {elts : List Expr} {kk : Nat} {tpos : Pos} {x y : Str} {t u : Tok} {z TI TO i1 i2 : Addr} (S : ZipSep2 z TI TO i1 i2 [i1] [i2]) :
    Turn P w K (.Tuple elts kk tpos) (ItzS x y) (z :: TI :: TO :: ([i1] ++ [i2])) z (stS2 x y t u z TI TO i1 i2) where
  mem := List.mem_cons_self
  obj := fun i h st => zipS_obj st
  keep := fun i h h' st k => by
    obtain ⟨g1, g2, ⟨a1, a2, g3⟩, ⟨o1, e1, r1⟩, ⟨o2, e2, r2⟩⟩ := st
    exact ⟨k z (by simp) _ g1, k TI (by simp) _ g2, ⟨a1, a2, k TO (by simp) _ g3⟩, ⟨o1, k i1 (by simp) _ e1, r1⟩, ⟨o2, k i2 (by simp) _ e2, r2⟩⟩
  item := by
    intro X hP hw hK hc i pins s σ H E I hf st go
    subst hP hw hK
    have W := WalksT.zipD2 (A := X.A) S (Draws.text (prog := X.prog) (w := X.w) (A := X.A.in1) (by simp [I.ok.hd hc]) i1 x t) (Draws.text (prog := X.prog) (w := X.w) (A := X.A.in1) (by simp [I.ok.hd hc]) i2 y u)
    refine W.item i s _ _ go st fun T vals h' tk pv hT isT mid kp => ?_
    obtain ⟨x1, x2, ⟨c, u1, hc1, rfl⟩, ⟨d, u2, hd1, rfl⟩, rfl⟩ := pv
    refine ⟨_, rfl, W.go elts kk tpos i T { s with heap := h', toks := tk } _ _ mid fun h2 st2 kp2 => ?_⟩
    obtain ⟨o, ho, r⟩ := isT
    have hoT : h2.IsTuple T #[.str ⟨#[c]⟩ u1, .str ⟨#[d]⟩ u2] := ⟨o, kp2 _ _ (W.apart i T _ mid) ho, r⟩
    have new : ObjOk X.prog X.w (upd H T (.tup [sgn c, sgn d])) h2 T (.tup [sgn c, sgn d]) := ⟨by show 2 ≤ sizeLine; decide, [.str ⟨#[c]⟩ u1, .str ⟨#[d]⟩ u2], .cons ⟨_, rfl⟩ (.cons ⟨_, rfl⟩ .nil), hoT⟩
    have I1 : Inv X pins σ (upd H T (.tup [sgn c, sgn d])) { s with heap := h2, toks := tk } := I.turnedNew (t' := tk) (ch := z :: TI :: TO :: ([i1] ++ [i2])) (fun b o hb q => kp2 b o (fun z => hb (W.sub b z)) (kp b o (fun z => hb (W.sub b z)) q)) hf hT new
    refine ⟨.ref T, _, I1, rfl, ⟨T, c, d, rfl, I.hok.fresh hT, rfl, hc1, hd1⟩, st2, fun b hb => ?_⟩
    have ne : b ≠ T := fun e => by
      obtain ⟨o', eo', _⟩ := (zipS_obj st b hb)
      exact absurd (Heap.lt_size eo') (Nat.not_lt_of_le (e ▸ hT))
    rw [upd_ne ne]
    exact (hf b hb).1
  done := by
    intro X hP hw hK hc i pins s σ H E I hf st go
    subst hP hw hK
    have W := WalksT.zipD2 (A := X.A) S (Draws.text (prog := X.prog) (w := X.w) (A := X.A.in1) (by simp [I.ok.hd hc]) i1 x t) (Draws.text (prog := X.prog) (w := X.w) (A := X.A.in1) (by simp [I.ok.hd hc]) i2 y u)
    rw [show i = min x.cps.size y.cps.size from go] at st
    exact W.done s _ _ st fun h' tk kp => ⟨rfl, I.turnedL (t' := tk) (ch := z :: TI :: TO :: ([i1] ++ [i2])) (fun b o hb q => kp b o (fun z => hb (W.sub b z)) q) hf⟩
  self := fun A i s Q E st h => wpAny_pyIter_zip st.1 h
def iZipS (ta : TA) : TI := fun σ H R => ta σ H fun vs H1 => ∃ x y, vs = [.str x, .str y] ∧ R (ItzS x y) H1
theorem pi_zipS {X : Cx} {e e2 : Expr} {ta : TA} {p pos tpos : Pos} {elts : List Expr} {kk : Nat} (hg : Gl X "zip") (hm : X.mg "zip" = none) (ha : PA X [e, e2] ta)
    (hs : starEach [e, e2] X.env = (false, eval e X.env) :: starEach [e2] X.env := by rfl) (hpl : (backTo pos (starEach [e2] X.env)).any (·.1) = false := by rfl) :
    PI X (.Tuple elts kk tpos) (.Call (.Name "zip" p) [e, e2] [] pos) (iZipS ta) := by
  refine ⟨fun pins s σ H R I h => ?_⟩
  refine Call_ (ld_blt I hg hm PyProof.Rows.boot_zip (PyProof.Rows.callWith_type1 (thn (ha.run pos pins s σ H _ I h) fun us s1 ⟨vs, H1, I1, r1, q1⟩ => ?_) hs hpl))
  obtain ⟨x, y, ex, q⟩ := q1
  subst ex
  cases r1 with
  | cons r rr =>
    cases rr with
    | cons r' rr =>
      cases rr
      obtain ⟨t, rfl⟩ := r
      obtain ⟨u, rfl⟩ := r'
      refine zip_begins2 (begins_text x t) (begins_text y u) trivial trivial fun h' g1 g2 g3 g4 g5 sz kp => wpAny_pyIter_zip g1 ?_
      have I2 : Inv X pins σ H1 { s1 with heap := h' } := I1.kept (t' := s1.toks) kp
      refine ⟨s1.heap.objs.size + 4, _, _, _, H1, rfl, I2, turn_zipS (x := x) (y := y) (t := t) (u := u) (zip_sep2 (N := s1.heap.objs.size) (fp1 := []) (fp2 := []) (fun _ h => nomatch h) (fun _ h => nomatch h)), ⟨g1, g2, ⟨_, _, g3⟩, ⟨_, g4, rfl, rfl⟩, ⟨_, g5, rfl, rfl⟩⟩, fun c hc => ?_, q⟩
      have hc' : c = s1.heap.objs.size + 4 ∨ c = s1.heap.objs.size + 2 ∨ c = s1.heap.objs.size + 3 ∨ c = s1.heap.objs.size ∨ c = s1.heap.objs.size + 1 := by simpa using hc
      have le : s1.heap.objs.size ≤ c := by
        rcases hc' with rfl | rfl | rfl | rfl | rfl <;> first | exact Nat.le_refl _ | exact Nat.le_add_right _ _
      exact I1.fpOk le (I1.hok.fresh le)
theorem walk_zipS (x y : Str) : Walk (ItzS x y) (min x.cps.size y.cps.size) (fun _ => True) (fun i H v H' => ∃ T c d, v = .ref T ∧ H T = none ∧ H' = upd H T (.tup [sgn c, sgn d]) ∧ x.cps[i]? = some c ∧ y.cps[i]? = some d) :=
  ⟨fun _ _ h _ => h, fun _ _ => rfl, fun _ _ _ _ _ _ y => y⟩
end Onp
set_option maxHeartbeats 4000000
set_option autoImplicit false
/-! sets of tuples of ints and texts (fewer than 64) -/
namespace Onp
open PySem PySem.Spec PyProof.Rows L2
abbrev hM (P : Program) (w : World) (k : List Key) : Int := tupleKeyHash (mixKind P w) k
abbrev IsM (P : Program) (w : World) (h : Heap) (k : List Key) (a : Addr) : Prop := IsTupleKey (mixKind P w) h k a
abbrev AK : Type := Addr × List Key
section
variable {P : Program} {w : World} {A : Around} {E : Value → Shared → Prop} {s : Shared}
def Flat (v : Value) : Prop := (∃ i t, v = Value.int i t) ∨ ∃ x t, v = Value.str x t
theorem flat_of {k : List Key} {vs : List Value} (h : ItemsAre (mixKind P w) k vs) : ∀ v ∈ vs, Flat v := by
  induction h with
  | nil => exact fun v hv => nomatch hv
  | cons h1 _ ih =>
    intro v hv
    rcases List.mem_cons.mp hv with rfl | hv
    · rcases keyIs_shape h1 with ⟨i, t, _, e⟩ | ⟨x, t, _, e⟩
      · exact .inl ⟨_, _, e⟩
      · exact .inr ⟨_, _, e⟩
    · exact ih v hv
theorem flat_cls (n : Nat) {v : Value} (h : Flat v) : ofAClassStatement n v = pure false := by
  rcases h with ⟨i, t, rfl⟩ | ⟨x, t, rfl⟩ <;> cases n <;> rfl
theorem clsM {k : List Key} {b : Addr} {Q : Bool → Shared → Prop} (hk : IsM P w s.heap k b) (h : Q false s) : wpAny (model P w) A (ofAClassStatement 8 (.ref b)) Q E s := by
  have tT := hk.typeIs
  obtain ⟨ob, its, n, g1, _, g2, g3⟩ := hk
  unfold ofAClassStatement
  refine wpAny_bind (wpAny_typeOf tT ?_)
  dsimp only
  have e : (("tuple" : String) == "tuple") = true := by decide
  simp only [e, if_true, Bool.not_true, Bool.false_eq_true, if_false]
  try refine wpAny_bind (wpAny_pure ?_)
  try simp only [Bool.not_true, Bool.false_eq_true, if_false]
  show wpAny _ _ (seqItems? (.ref b) >>= _) _ _ s
  refine wpAny_bind (wpAny_seqItems g1 g2 ?_)
  dsimp only
  refine wpAny_bind ?_
  show wpAny _ _ (forIn its _ _) _ _ s
  rw [← Array.forIn_toList]
  refine wpAny_forIn_list _ (fun rest r s' => r.1 = none ∧ s' = s ∧ ∀ v ∈ rest, Flat v) _ ?_ ?_ _ _ ⟨rfl, rfl, flat_of g3⟩
  · rintro v rest r s' ⟨_, rfl, al⟩
    rw [flat_cls _ (al v List.mem_cons_self)]
    refine wpAny_bind (wpAny_pure ?_)
    simp only [Bool.false_eq_true, if_false]
    exact wpAny_pure ⟨rfl, rfl, fun u z => al u (List.mem_cons_of_mem _ z)⟩
  · rintro ⟨r1, r2⟩ s' ⟨er, rfl, _⟩
    simp only at er
    subst er
    exact wpAny_pure h
theorem flat_hash (n : Nat) {v : Value} (h : Flat v) : ∃ b, hashByValue n v = pure b := by
  rcases h with ⟨i, t, rfl⟩ | ⟨x, t, rfl⟩
  · exact ⟨true, by cases n <;> rfl⟩
  · exact ⟨false, by cases n <;> rfl⟩
theorem hashM {k : List Key} {b : Addr} {Q : Bool → Shared → Prop} (hk : IsM P w s.heap k b) (h : ∀ y, Q y s) : wpAny (model P w) A (hashByValue 8 (.ref b)) Q E s := by
  have tT := hk.typeIs
  obtain ⟨ob, its, n, g1, _, g2, g3⟩ := hk
  unfold hashByValue
  refine wpAny_bind (wpAny_specialOf tT F.slot_tuple_hash.lookup ?_)
  show wpAny _ _ (seqItems? (.ref b) >>= _) _ _ s
  refine wpAny_bind (wpAny_seqItems g1 g2 ?_)
  refine wpAny_bind ?_
  show wpAny _ _ (forIn its _ _) _ _ s
  rw [← Array.forIn_toList]
  refine wpAny_forIn_list _ (fun rest r s' => s' = s ∧ ∀ v ∈ rest, Flat v) _ ?_ ?_ _ _ ⟨rfl, flat_of g3⟩
  · rintro v rest r s' ⟨rfl, al⟩
    obtain ⟨y, ey⟩ := flat_hash 7 (al v List.mem_cons_self)
    rw [ey]
    refine wpAny_bind (wpAny_pure ?_)
    cases y with
    | true =>
      simp only [Bool.not_true, Bool.false_eq_true, if_false]
      exact wpAny_pure ⟨rfl, fun u z => al u (List.mem_cons_of_mem _ z)⟩
    | false =>
      simp only [Bool.not_false, if_true]
      exact wpAny_pure (wpAny_pure (h false))
  · rintro ⟨r1, r2⟩ s' ⟨rfl, _⟩
    cases r1 with
    | none => exact wpAny_pure (h _)
    | some y => exact wpAny_pure (h _)
theorem seenM {k : List Key} {b : Addr} {Q : Bool → Shared → Prop} (hk : IsM P w s.heap k b) {ys : List Value} (hy : ∀ y ∈ ys, ∃ k' c, y = Value.ref c ∧ IsM P w s.heap k' c) (h : Q false s) :
    wpAny (model P w) A (searchCouldBeSeen (.ref b) ys) Q E s := by
  unfold searchCouldBeSeen
  refine wpAny_bind ?_
  refine wpAny_forIn_list _ (fun rest r s' => r.1 = none ∧ s' = s ∧ ∀ y ∈ rest, ∃ k' c, y = Value.ref c ∧ IsM P w s.heap k' c) _ ?_ ?_ _ _ ⟨rfl, rfl, hy⟩
  · rintro v rest r s' ⟨_, rfl, al⟩
    obtain ⟨k', c, rfl, ic⟩ := al v List.mem_cons_self
    have more : ∀ y ∈ rest, ∃ k' c, y = Value.ref c ∧ IsM P w s'.heap k' c := fun u z => al u (List.mem_cons_of_mem _ z)
    dsimp only
    by_cases hv : (b == c || (carriedByValue (.ref b) && carriedByValue (.ref c))) = true
    · exact wp_if_pos hv (wpAny_pure ⟨rfl, rfl, more⟩)
    · refine wp_if_neg hv (wpAny_bind (wpAny_eqIsQuiet_tuple hk ?_))
      simp only [Bool.not_true, Bool.false_eq_true, if_false]
      refine wpAny_bind (wpAny_eqIsQuiet_tuple ic ?_)
      simp only [Bool.not_true, Bool.false_eq_true, if_false]
      refine wpAny_bind (clsM hk ?_)
      simp only [Bool.false_eq_true, if_false]
      refine wpAny_bind (clsM ic ?_)
      simp only [Bool.false_eq_true, if_false]
      exact wpAny_pure ⟨rfl, rfl, more⟩
  · rintro ⟨r1, r2⟩ s' ⟨er, rfl, _⟩
    simp only at er
    subst er
    exact wpAny_pure h
/-! ### the set -/
def rowsM (P : Program) (w : World) (L : List AK) : List (Int × Value) := L.map fun p => (hM P w p.2, Value.ref p.1)
structure SetM (P : Program) (w : World) (h : Heap) (a : Addr) (L : List AK) (es : Array (Int × Value)) (ep : Nat) (t : SetTable) : Prop where
  ob : ∃ o, h.get? a = some o ∧ o.ExactSet ∧ o.data = .set es ep t
  rows : es.toList = rowsM P w L
  tab : TabOk t (L.map fun p => hM P w p.2)
  nd : (L.map (·.2)).Nodup
  tup : ∀ p ∈ L, IsM P w h p.2 p.1
  led : w.params.followText "set-order" = true ∨ t.led = true
  room : L.length * 5 < t.mask * 3
  few : L.length < 64
variable {a : Addr} {L : List AK} {es : Array (Int × Value)} {ep : Nat} {t : SetTable}
theorem rowsM_len {L : List AK} {es : Array (Int × Value)} (e : es.toList = rowsM P w L) : es.size = L.length := by
  have q := congrArg List.length e
  simpa [rowsM] using q
theorem fitsM {n : Nat} (hd : t.dummies = #[]) (h1 : t.place.size = n) (h2 : n ≤ t.mask) : t.fits n = true := by
  unfold SetTable.fits SetTable.fill
  rw [hd, Bool.and_eq_true, beq_iff_eq, decide_eq_true_eq]
  show t.place.size = n ∧ t.place.size + 0 ≤ t.mask
  omega
theorem SetM.fits (R : SetM P w s.heap a L es ep t) : t.fits es.size = true := by
  have z1 := R.tab.sz
  rw [List.length_map] at z1
  have z2 := rowsM_len R.rows
  have z3 := R.room
  exact fitsM R.tab.dm (by omega) (by omega)
theorem SetM.entry (R : SetM P w s.heap a L es ep t) {i : Nat} {p : AK} (h : L[i]? = some p) : es[i]? = some (hM P w p.2, Value.ref p.1) := by
  rw [← Array.getElem?_toList, R.rows]
  unfold rowsM
  rw [List.getElem?_map, h]
  rfl
theorem SetM.gw (R : SetM P w s.heap a L es ep t) : ¬ t.gaveWay = true := by
  unfold SetTable.gaveWay
  rw [mask_odd R.tab.mok]
  decide
abbrev str0 (t : SetTable) (h : Int) : SetTable.Probe := runAt t.mask (SetTable.bits h % (t.mask + 1)) (SetTable.bits h)
theorem nth_dummy (m : Nat) : ∀ (n : Nat) (p : SetTable.Probe), p.dummy = none → (nth m p n).dummy = none
  | 0, _, h => h
  | n + 1, p, h => nth_dummy m n (adv m p) (by unfold adv; split <;> exact h)
theorem searchM (R : SetM P w s.heap a L es ep t) {x : Addr} {k : List Key} (hx : IsM P w s.heap k x) (hu : A.units < cLine) {K : Nat} (kf : K < 10 * SetTable.turns t.mask)
    (k1 : way t.mask (hM P w k) K ∉ t.place.toList) (k2 : ∀ c, c < K → way t.mask (hM P w k) c ∈ t.place.toList) {Q : SetFound → Shared → Prop}
    (yes : k ∈ L.map (·.2) → Q (.there none) s) (no : k ∉ L.map (·.2) → Q (.free (way t.mask (hM P w k) K) false) s) :
    ∀ (f c : Nat) (stand : Option SetTable.Probe), stand.getD (t.probeStart (hM P w k)) = nth t.mask (str0 t (hM P w k)) c → c ≤ K → K - c < f →
      (∀ (i : Nat) p, L[i]? = some p → p.2 = k → ∃ c', c ≤ c' ∧ c' < K ∧ t.place.toList[i]? = some (way t.mask (hM P w k) c')) →
      wpAny (model P w) A (setSearchFrom a (.ref x) (hM P w k) true f stand) Q E s
  | 0, c, stand, _, _, bad, _ => absurd bad (Nat.not_lt_zero _)
  | f + 1, c, stand, es0, hcK, hf, hre => by
    obtain ⟨ob, g1, gx, g2⟩ := R.ob
    rw [setSearchFrom_succ]
    refine wpAny_bind (wpAny_setState_of g1 g2 R.fits ?_)
    dsimp only
    refine wp_if_neg R.gw ?_
    try refine wpAny_bind (wpAny_pure ?_)
    have nd0 := nth_dummy t.mask c (str0 t (hM P w k)) rfl
    have sh : ∀ q, nth t.mask (nth t.mask (str0 t (hM P w k)) c) q = nth t.mask (str0 t (hM P w k)) (c + q) := fun q => (nth_add t.mask c _ q).symm
    have e1 : ∀ q, (nth t.mask (nth t.mask (str0 t (hM P w k)) c) q).j = way t.mask (hM P w k) (c + q) := fun q => congrArg SetTable.Probe.j (sh q)
    have hat : ∀ (i : Nat) p, L[i]? = some p → (fun i => (es[i]?.map (·.1)).getD 0) i = hM P w p.2 := fun i p hp => by
      show (es[i]?.map (·.1)).getD 0 = _
      rw [R.entry hp]
      rfl
    rcases go_spec t R.tab.ris R.tab.dm (fun i => (es[i]?.map (·.1)).getD 0) (hM P w k) (10 * SetTable.turns t.mask) (K - c) _ nd0 (by omega)
      (fun q hq => by rw [e1]; exact k2 (c + q) (by omega)) (by rw [e1, show c + (K - c) = K by omega]; exact k1) with ⟨q, i, hq, hi, hh, hno, hpr⟩ | ⟨hno, hpr⟩
    · have hpr' : t.probe (fun i => (es[i]?.map (·.1)).getD 0) (hM P w k) (stand.getD (t.probeStart (hM P w k))) = some (.candidate (way t.mask (hM P w k) (c + q)) i (nth t.mask (str0 t (hM P w k)) (c + (q + 1)))) := by
        rw [es0, ← e1, ← sh]
        exact hpr
      rw [hpr']
      dsimp only
      rw [e1] at hi
      have hil : i < L.length := by
        have z1 : i < t.place.toList.length := (List.getElem?_eq_some_iff.mp hi).1
        have z2 := R.tab.sz
        rw [List.length_map] at z2
        rw [Array.length_toList] at z1
        omega
      obtain ⟨p, hp⟩ : ∃ p, L[i]? = some p := ⟨_, List.getElem?_eq_getElem hil⟩
      have pm : p ∈ L := List.mem_of_getElem? hp
      have pt := R.tup p pm
      have rest : wpAny (model P w) A (searchRest a (.ref x) (hM P w k) true f es t (way t.mask (hM P w k) (c + q)) i (nth t.mask (str0 t (hM P w k)) (c + (q + 1)))) Q E s := by
        unfold searchRest
        rw [R.entry hp]
        dsimp only
        refine wpAny_bind (wpAny_holding (wpAny_eqBool_tuple hu pt hx ?_))
        refine wpAny_bind (wpAny_setState_of g1 g2 R.fits ?_)
        dsimp only
        by_cases kk : p.2 = k
        · refine wp_if_pos (by simp [kk]) ?_
          exact wpAny_pure (yes (List.mem_map.mpr ⟨p, pm, kk⟩))
        · refine wp_if_neg (by simp [kk]) ?_
          try refine wpAny_bind (wpAny_pure ?_)
          rw [sameMem]
          dsimp only
          have sl : t.slot (way t.mask (hM P w k) (c + q)) = .live i := slot_live R.tab.ris hi
          simp only [if_true, sl, R.entry hp]
          refine wpAny_bind (wpAny_isSame_ref_self (wpAny_bind (wpAny_pure ?_)))
          simp only [if_true]
          refine wp_if_neg (by simp [kk]) ?_
          refine searchM R hx hu kf k1 k2 yes no f (c + (q + 1)) _ rfl (by omega) (by omega) fun i0 p0 z0 hk0 => ?_
          obtain ⟨c', a1, a2, a3⟩ := hre i0 p0 z0 hk0
          refine ⟨c', ?_, a2, a3⟩
          by_cases y1 : c' < c + q
          · exfalso
            refine hno (c' - c) i0 (by omega) (by rw [e1, show c + (c' - c) = c' by omega]; exact a3) ?_
            exact (hat i0 p0 z0).trans (congrArg (hM P w) hk0)
          · by_cases y2 : c + q < c'
            · omega
            · exfalso
              have ec : c' = c + q := by omega
              rw [ec] at a3
              have s0 := slot_live R.tab.ris a3
              rw [sl] at s0
              injection s0 with s0
              rw [← s0, hp] at z0
              rw [← Option.some.inj z0] at hk0
              exact kk hk0
      by_cases hl : t.led = true
      · refine wp_if_neg (by simp [hl]) ?_
        try refine wpAny_bind (wpAny_pure ?_)
        exact rest
      · refine wp_if_pos (by simp [hl]) (wpAny_bind (seenM hx (fun y hy => ?_) ?_))
        · obtain ⟨e, he, ee⟩ := List.mem_map.mp hy
          have he1 : e ∈ es ∧ e.1 = hM P w k := by simpa using he
          have he2 : e ∈ es.toList := by simpa using he1.1
          rw [R.rows] at he2
          obtain ⟨p2, m2, q2⟩ := List.mem_map.mp he2
          exact ⟨p2.2, p2.1, by rw [← ee, ← q2], R.tup p2 m2⟩
        · refine wp_if_neg (by decide) ?_
          try refine wpAny_bind (wpAny_pure ?_)
          exact rest
    · have hpr' : t.probe (fun i => (es[i]?.map (·.1)).getD 0) (hM P w k) (stand.getD (t.probeStart (hM P w k))) = some (.empty (way t.mask (hM P w k) K) none) := by
        have e2 : way t.mask (hM P w k) K = (nth t.mask (nth t.mask (str0 t (hM P w k)) c) (K - c)).j := by
          rw [e1, show c + (K - c) = K by omega]
        rw [es0, e2]
        exact hpr
      rw [hpr']
      dsimp only
      refine wpAny_pure (no fun hm => ?_)
      obtain ⟨p0, z0, hk0⟩ := List.mem_map.mp hm
      obtain ⟨i0, hi0⟩ := List.mem_iff_getElem?.mp z0
      obtain ⟨c', a1, a2, a3⟩ := hre i0 p0 hi0 hk0
      refine hno (c' - c) i0 (by omega) (by rw [e1, show c + (c' - c) = c' by omega]; exact a3) ?_
      exact (hat i0 p0 hi0).trans (congrArg (hM P w) hk0)
theorem searchM0 (R : SetM P w s.heap a L es ep t) {x : Addr} {k : List Key} (hx : IsM P w s.heap k x) (hu : A.units < cLine) {Q : SetFound → Shared → Prop}
    (yes : k ∈ L.map (·.2) → Q (.there none) s)
    (no : ∀ K, k ∉ L.map (·.2) → way t.mask (hM P w k) K ∉ t.place.toList → (∀ c, c < K → way t.mask (hM P w k) c ∈ t.place.toList) → Q (.free (way t.mask (hM P w k) K) false) s) :
    wpAny (model P w) A (setSearch a (.ref x) (hM P w k) true) Q E s := by
  have z3 := R.room
  obtain ⟨K, kf, k1, k2⟩ := R.tab.first (by rw [List.length_map]; omega) (hM P w k)
  have big : K < 100000 := by
    have : 10 * SetTable.turns t.mask ≤ 1420 := by
      unfold SetTable.turns
      rcases R.tab.mok with e | e | e <;> omega
    omega
  unfold setSearch
  refine searchM R hx hu kf k1 k2 yes (fun z => no K z k1 k2) 100000 0 none rfl (Nat.zero_le _) (by omega) fun i p hp hk => ?_
  have hi : (L.map fun p => hM P w p.2)[i]? = some (hM P w k) := by
    rw [List.getElem?_map, hp, ← hk]
    rfl
  have hil : i < t.place.toList.length := by
    have z1 : i < L.length := (List.getElem?_eq_some_iff.mp hp).1
    have z2 := R.tab.sz
    rw [List.length_map] at z2
    rw [Array.length_toList]
    omega
  obtain ⟨c, hc, e⟩ := R.tab.before k1 hi (List.getElem?_eq_getElem hil)
  exact ⟨c, Nat.zero_le _, hc, by rw [List.getElem?_eq_getElem hil, e]⟩
theorem isM_but {h h' : Heap} {k : List Key} {a b : Addr} {o : Obj} {es : Array (Int × Value)} {ep : Nat} {t : SetTable} (hb : IsM P w h k b) (g1 : h.get? a = some o) (g2 : o.data = .set es ep t) (sb : Heap.SameBut a h h') : IsM P w h' k b := by
  obtain ⟨o', its, n, z1, z2, z3, z4⟩ := hb
  have ne : b ≠ a := by
    rintro rfl
    obtain rfl : o' = o := Option.some.inj (z1.symm.trans g1)
    rw [g2] at z3
    exact nomatch z3
  exact ⟨o', its, n, (sb.2 b ne).trans z1, z2, z3, z4⟩
theorem orderM (L : List AK) (es : Array (Int × Value)) (order : Array Nat) (hr : es.toList = rowsM P w L) (hp : order.toList.Perm (List.range L.length)) :
    ∃ L2, (order.filterMap (es[·]?)).toList = rowsM P w L2 ∧ L2.Perm L ∧ (L2.map fun p => hM P w p.2) = order.toList.map fun i => (es.map (·.1)).getD i 0 := by
  have sz := rowsM_len hr
  have ent : ∀ i, es[i]? = (L[i]?).map fun (p : AK) => (hM P w p.2, Value.ref p.1) := fun i => by
    rw [← Array.getElem?_toList, hr]
    unfold rowsM
    rw [List.getElem?_map]
  have key : ∀ l : List Nat, (∀ i ∈ l, i < L.length) → l.filterMap (fun i => es[i]?) = rowsM P w (l.filterMap fun i => L[i]?) ∧ ((l.filterMap fun i => L[i]?).map fun p => hM P w p.2) = l.map fun i => (es.map (·.1)).getD i 0 := by
    intro l
    induction l with
    | nil => exact fun _ => ⟨rfl, rfl⟩
    | cons i l ih =>
      intro hl
      have hi := hl i List.mem_cons_self
      obtain ⟨q1, q2⟩ := ih fun j hj => hl j (List.mem_cons_of_mem _ hj)
      have g : L[i]? = some L[i] := List.getElem?_eq_getElem hi
      have g' : es[i]? = some (hM P w L[i].2, Value.ref L[i].1) := by rw [ent, g]; rfl
      refine ⟨?_, ?_⟩
      · rw [List.filterMap_cons_some g', List.filterMap_cons_some g, q1]
        rfl
      · rw [List.filterMap_cons_some g, List.map_cons, List.map_cons, q2]
        congr 1
        have q5 : (es.map (·.1))[i]? = some (hM P w L[i].2) := by rw [Array.getElem?_map, g']; rfl
        simp [Array.getD_eq_getD_getElem?, q5]
  obtain ⟨q1, q2⟩ := key order.toList fun i hi => List.mem_range.mp (hp.mem_iff.mp hi)
  refine ⟨_, by first | (rw [Array.toList_filterMap]; exact q1) | simpa using q1, ?_, q2⟩
  have m1 : (order.toList.filterMap fun i => L[i]?).Perm ((List.range L.length).filterMap fun i => L[i]?) := hp.filterMap _
  have m2 : (List.range L.length).filterMap (fun i => L[i]?) = L := by
    have key2 : ∀ n, n ≤ L.length → (List.range n).filterMap (fun i => L[i]?) = L.take n := by
      intro n
      induction n with
      | zero => exact fun _ => rfl
      | succ n ih =>
        intro hn
        rw [List.range_succ, List.filterMap_append, ih (by omega), List.take_succ, List.getElem?_eq_getElem hn, List.filterMap_cons_some (List.getElem?_eq_getElem hn)]
        rfl
    rw [key2 L.length (Nat.le_refl _), List.take_length]
  rw [m2] at m1
  exact m1
theorem relayM {o : Obj} (g1 : s.heap.get? a = some o) (gx : o.ExactSet) (g2 : o.data = .set es ep t) (hr : es.toList = rowsM P w L) (z1 : t.place.size = es.size) (z2 : t.dummies = #[]) (z3 : es.size ≤ t.mask)
    (nd : (L.map (·.2)).Nodup) (tup : ∀ p ∈ L, IsM P w s.heap p.2 p.1) (ld : w.params.followText "set-order" = true ∨ t.led = true) (few : L.length < 64) {wanted M : Nat}
    (w1 : SetTable.sizeAbove wanted - 1 = M) (w2 : MaskOk M) (w3 : SetTable.sizeAbove wanted ≤ 128) (w4 : L.length * 5 < M * 3) {Q : Unit → Shared → Prop}
    (q : ∀ h' L' es' ep' t', Heap.SameBut a s.heap h' → SetM P w h' a L' es' ep' t' → L'.Perm L → Q () { s with heap := h' }) : wpAny (model P w) A (setRelay a wanted) Q E s := by
  have sz := rowsM_len hr
  obtain ⟨t', order, e, hp, T, em, el, ep2, ed⟩ := relaid_ok t (hs := es.map (·.1)) (wanted := wanted) w1 w2 (by rw [Array.size_map, sz]; omega)
  rw [Array.size_map, sz] at hp
  obtain ⟨L2, r1, r2, r3⟩ := orderM L es order hr hp
  rw [← r3] at T
  have sz2 : (order.filterMap (es[·]?)).size = es.size := by
    rw [rowsM_len r1, r2.length_eq, sz]
  rw [setRelay_eq]
  refine wpAny_bind (wpAny_setState_of g1 g2 (fitsM z2 z1 z3) ?_)
  dsimp only
  refine wp_if_neg (by rw [sizeLine_eq]; omega) ?_
  try refine wpAny_bind (wpAny_pure ?_)
  rw [e]
  dsimp only
  refine wpAny_bind (wp_if_neg (by rw [sz2]; simp) ?_)
  try refine wpAny_bind (wpAny_pure ?_)
  refine wpAny_pure ?_
  dsimp only
  refine wpAny_storeSet_of g1 g2 ?_ (by rw [sz2, sz, sizeLine_eq]; omega)
  have sb : Heap.SameBut a s.heap (s.heap.update a (Obj.putSet (order.filterMap (es[·]?)) t')) := Heap.SameBut.update ..
  refine q _ L2 (order.filterMap (es[·]?)) (ep + 1) t' sb ⟨⟨_, store_at g1 g2, ⟨gx.1, gx.2.1, gx.2.2⟩, rfl⟩, r1, T, (r2.map (·.2)).nodup_iff.mpr nd, fun p z => isM_but (tup p (r2.mem_iff.mp z)) g1 g2 sb, by rw [el]; exact ld, ?_, by rw [r2.length_eq]; exact few⟩ r2
  rw [r2.length_eq, em]
  exact w4
theorem addM (R : SetM P w s.heap a L es ep t) {x : Addr} {k : List Key} (hx : IsM P w s.heap k x) (hu : A.units < cLine) (few : L.length + 1 < 64) {Q : Bool → Shared → Prop}
    (q : ∀ b h' L' es' ep' t', Heap.SameBut a s.heap h' → SetM P w h' a L' es' ep' t' → (k ∈ L.map (·.2) → L' = L) → (k ∉ L.map (·.2) → L'.Perm ((x, k) :: L)) → Q b { s with heap := h' }) :
    wpAny (model P w) A (setAddHashed a (.ref x) (hM P w k)) Q E s := by
  obtain ⟨ob, g1, gx, g2⟩ := R.ob
  have sz := rowsM_len R.rows
  have z3 := R.room
  unfold setAddHashed
  refine wpAny_holding ?_
  rw [show (100000 : Nat) = 99999 + 1 from rfl, setAddHashedIn_succ]
  refine wpAny_bind (wpAny_setState_of g1 g2 R.fits ?_)
  dsimp only
  refine wp_if_neg (by simp [byScan, Value.scannable]) ?_
  try refine wpAny_bind (wpAny_pure ?_)
  refine wpAny_bind (searchM0 R hx hu (fun hm => ?_) fun K hm k1 k2 => ?_)
  · dsimp only
    exact wpAny_pure (q false s.heap L es ep t (Heap.SameBut.refl a s.heap) R (fun _ => rfl) fun z => absurd hm z)
  · dsimp only
    refine wpAny_bind (wpAny_setState_of g1 g2 R.fits ?_)
    dsimp only
    obtain ⟨q1, q2, q3, q4, q5, q6, q7, q8, q9⟩ := R.tab.put k1 k2
    generalize t.put (way t.mask (hM P w k) K) = pt at q1 q3 q4 q5 q6 q7 q8 q9 ⊢
    obtain ⟨t1, p⟩ := pt
    dsimp only at q1 q3 q4 q5 q6 q7 q8 q9 ⊢
    subst q1
    have put : ∀ t2 : SetTable, TabOk t2 ((L.map fun p => hM P w p.2).take (SetTable.below t.place (way t.mask (hM P w k) K)) ++ hM P w k :: (L.map fun p => hM P w p.2).drop (SetTable.below t.place (way t.mask (hM P w k) K))) → t2.mask = t.mask → t2.led = t.led → t2.fill = (L.map fun p => hM P w p.2).length + 1 →
        wpAny (model P w) A (do
          storeSet a (SetTable.insertAt es (SetTable.below t.place (way t.mask (hM P w k) K)) (hM P w k, Value.ref x)) t2
          if (!false && t2.tooFull) = true then do
            setRelay a (SetTable.grown (es.size + 1))
            pure true
          else pure true) Q E s := fun t1 q3 q4 q5 q9 => by
      generalize epp : SetTable.below t.place (way t.mask (hM P w k) K) = p at q2 q3 ⊢
      have pm := put_perm L p (x, k)
      have hin : (SetTable.insertAt es p (hM P w k, Value.ref x)).toList = rowsM P w (L.take p ++ (x, k) :: L.drop p) := by
        rw [SetTable.toList_insertAt, R.rows]
        unfold rowsM
        rw [List.map_append, List.map_cons, List.map_take, List.map_drop]
      have hhs : (L.take p ++ (x, k) :: L.drop p).map (fun p => hM P w p.2) = (L.map fun p => hM P w p.2).take p ++ hM P w k :: (L.map fun p => hM P w p.2).drop p := by
        rw [List.map_append, List.map_cons, List.map_take, List.map_drop]
      rw [← hhs] at q3
      have sz1 := rowsM_len hin
      generalize SetTable.insertAt es p (hM P w k, Value.ref x) = es1 at hin sz1 ⊢
      generalize L.take p ++ (x, k) :: L.drop p = L1 at pm q3 hin sz1
      have len1 : L1.length = L.length + 1 := pm.length_eq
      have nd1 : (L1.map (·.2)).Nodup := by
        refine (pm.map (·.2)).nodup_iff.mpr ?_
        rw [List.map_cons]
        exact List.nodup_cons.mpr ⟨hm, R.nd⟩
      refine wpAny_bind (wpAny_storeSet_of g1 g2 ?_ (by rw [sz1, len1, sizeLine_eq]; omega))
      have sb : Heap.SameBut a s.heap (s.heap.update a (Obj.putSet es1 t1)) := Heap.SameBut.update ..
      have o1 := store_at (es' := es1) (t' := t1) g1 g2
      generalize s.heap.update a (Obj.putSet es1 t1) = h1 at sb o1 ⊢
      have tup1 : ∀ p ∈ L1, IsM P w h1 p.2 p.1 := fun p hp => by
        rcases List.mem_cons.mp (pm.mem_iff.mp hp) with e | hp
        · rw [e]
          exact isM_but hx g1 g2 sb
        · exact isM_but (R.tup p hp) g1 g2 sb
      have ld1 : w.params.followText "set-order" = true ∨ t1.led = true := by rw [q5]; exact R.led
      have hfull : t1.tooFull = decide ((L.length + 1) * 5 ≥ t1.mask * 3) := by
        unfold SetTable.tooFull
        rw [q9, List.length_map]
      by_cases hf : (L.length + 1) * 5 ≥ t1.mask * 3
      · have hf' : t1.tooFull = true := by rw [hfull, decide_eq_true hf]
        first
          | (refine wpAny_bind ?_; refine wp_if_pos (by simp [hf']) ?_)
          | (refine wp_if_pos (by simp [hf']) ?_; refine wpAny_bind ?_)
        rw [sz]
        have y1 : t1.place.size = es1.size := by
          have z := q3.sz
          rw [List.length_map] at z
          rw [z, sz1]
        have two : (t.mask = 7 ∧ L.length = 4) ∨ (t.mask = 31 ∧ L.length = 18) := by
          rw [q4] at hf
          rcases R.tab.mok with e | e | e <;> rw [e] at hf z3
          · exact .inl ⟨e, by omega⟩
          · exact .inr ⟨e, by omega⟩
          · omega
        have go : ∀ M, SetTable.sizeAbove (SetTable.grown (L.length + 1)) - 1 = M → MaskOk M → SetTable.sizeAbove (SetTable.grown (L.length + 1)) ≤ 128 → (L.length + 1) * 5 < M * 3 →
            wpAny (model P w) A (setRelay a (SetTable.grown (L.length + 1))) (fun _ s' => wpAny (model P w) A (pure true) Q E s') E { s with heap := h1 } := fun M m1 m2 m3 m4 => by
          refine relayM (s := { s with heap := h1 }) o1 ⟨gx.1, gx.2.1, gx.2.2⟩ rfl hin y1 q3.dm (by rw [sz1, len1, q4]; rcases two with ⟨e, e2⟩ | ⟨e, e2⟩ <;> omega) nd1 tup1 ld1 (by rw [len1]; exact few) m1 m2 m3 (by rw [len1]; exact m4) ?_
          exact fun h2 L2 es2 ep2 t2 sb2 R2 pm2 => wpAny_pure (q true h2 L2 es2 ep2 t2 (sb.trans sb2) R2 (fun z => absurd z hm) fun _ => pm2.trans pm)
        rcases two with ⟨_, e2⟩ | ⟨_, e2⟩
        · exact go 31 (by rw [e2, size_20]) (.inr (.inl rfl)) (by rw [e2, size_20]; decide) (by omega)
        · exact go 127 (by rw [e2, size_76]) (.inr (.inr rfl)) (by rw [e2, size_76]; decide) (by omega)
      · have hf' : ¬ t1.tooFull = true := by
          rw [hfull, decide_eq_false hf]
          decide
        first
          | refine wp_if_neg (by simp [hf']) ?_
          | (refine wpAny_bind ?_; refine wp_if_neg (by simp [hf']) ?_; refine wpAny_pure ?_)
        exact wpAny_pure (q true h1 L1 es1 (ep + 1) t1 sb ⟨⟨_, o1, ⟨gx.1, gx.2.1, gx.2.2⟩, rfl⟩, hin, q3, nd1, tup1, ld1, by rw [len1]; omega, by rw [len1]; exact few⟩ (fun z => absurd z hm) fun _ => pm)
    have any := fun y : Bool => put (if y = true then t1 else { t1 with plain := false })
      (by cases y; exact ⟨q3.ris, q3.dm, q3.sz, q3.mok, q3.bd, q3.reach⟩; exact q3) (by cases y <;> exact q4) (by cases y <;> exact q5) (by cases y <;> exact q9)
    first
      | (refine wpAny_bind ?_; by_cases pl : t1.plain = true; exact wp_if_pos pl (hashM hx any); exact wp_if_neg pl (wpAny_pure (any true)))
      | (by_cases pl : t1.plain = true; exact wp_if_pos pl (wpAny_bind (hashM hx any)); exact wp_if_neg pl (wpAny_bind (wpAny_pure (any true))))
end
end Onp
set_option maxHeartbeats 4000000
set_option autoImplicit false
/-! set(list), set(tuple) by an invariant; of tuples of ints and texts -/
namespace Onp
open PySem PySem.Spec PyProof.Rows L2
section
variable {P : Program} {w : World} {A : Around} {E : Value → Shared → Prop} {s : Shared}
abbrev set0 (w : World) : Obj := { cls := .type "set", dict := none, data := .set #[] 0 (.fresh 0 0 (!w.params.followText "set-order")) }
/-- one more item is put in -/
def AddsTo (P : Program) (w : World) (A : Around) (S : Addr) (h0 : Heap) (Pv : Nat → Value → Prop) (G : Nat → Heap → Prop) : Prop :=
  ∀ (i : Nat) (v : Value) (s : Shared) (E : Value → Shared → Prop), Pv i v → G i s.heap → (∀ b o, h0.get? b = some o → s.heap.get? b = some o) →
    wpAny (model P w) A (setAdd S v) (fun _ s' => ∃ h' tk, s' = { s with heap := h', toks := tk } ∧ s.toks ≤ tk ∧ Heap.SameBut S s.heap h' ∧ G (i + 1) h') E s
def KeepsSet (S : Addr) (h0 : Heap) (G : Nat → Heap → Prop) : Prop :=
  ∀ (i : Nat) (h h' : Heap), G i h → (∀ o, h.get? S = some o → h'.get? S = some o) → (∀ b o, h0.get? b = some o → h'.get? b = some o) → G i h'
theorem setLoop {I : Addr} {fp wr : List Addr} {GG : Array GenState → Array GenState → Prop} {n : Nat} {Pv : Nat → Value → Prop} {St : Nat → Shared → Prop} {R : Result → Shared → Prop}
    (W : WalksS P w A.in1 I fp wr GG n Pv St) (S : Addr) (hSf : S ∉ fp) (h0 : Heap) (G : Nat → Heap → Prop) (ad : AddsTo P w A.in1 S h0 Pv G) (kp : KeepsSet S h0 G) (n0 : h0.get? S = none) (nw : ∀ b ∈ wr, h0.get? b = none) :
    ∀ (k i : Nat) (s : Shared), n - i = k → i ≤ n → St i s → (∀ b o, h0.get? b = some o → s.heap.get? b = some o) → G i s.heap →
      (∀ s', Moved (S :: wr) GG s s' → G n s'.heap → (∀ b o, h0.get? b = some o → s'.heap.get? b = some o) → R (.ok (.ret .none)) s') →
      codeAny (model P w) A (.builtin "set.update.loop" ⟨[.ref S, .ref I], []⟩) R s := by
  have Sw : S ∉ wr := fun z => hSf (W.sub _ z)
  have wide : ∀ b ∈ wr, b ∈ S :: wr := fun b hb => List.mem_cons_of_mem _ hb
  have mv : ∀ {s s' : Shared}, Moved wr GG s s' → (∀ b o, h0.get? b = some o → s.heap.get? b = some o) → ∀ b o, h0.get? b = some o → s'.heap.get? b = some o := fun m z b o e =>
    m.heap b o (fun hb => by rw [nw b hb] at e; cases e) (z b o e)
  intro k
  induction k with
  | zero =>
    intro i s ek hi hst stays g fin
    obtain rfl : i = n := by omega
    refine codeAny_builtin F.entry_set_update_loop ?_
    rw [Around.under_plainId F.plain_set_update_loop _]
    show wpAny _ A.in1 (pyNext (.ref I) >>= _) _ _ s
    refine wpAny_bind (W.done s _ _ hst fun s' m => ?_)
    show wpAny _ A.in1 (ret Value.none) _ _ s'
    have stays' := mv m stays
    exact wpAny_pure (fin s' (m.mono wide) (kp _ _ _ g (fun o e => m.heap S o Sw e) stays') stays')
  | succ k ih =>
    intro i s ek hi hst stays g fin
    have lt : i < n := by omega
    refine codeAny_builtin F.entry_set_update_loop ?_
    rw [Around.under_plainId F.plain_set_update_loop _]
    show wpAny _ A.in1 (pyNext (.ref I) >>= _) _ _ s
    refine wpAny_bind (W.item i s _ _ lt hst fun v s' pv hst' m => ?_)
    have stays' := mv m stays
    have g' := kp _ _ _ g (fun o e => m.heap S o Sw e) stays'
    show wpAny _ A.in1 (holding [v] (setAdd S v) >>= _) _ _ s'
    refine wpAny_bind (wpAny_holding (wpAny_mono (ad i v s' _ pv g' stays') (fun _ s2 q => ?_) fun _ _ z => z))
    obtain ⟨h', tk, rfl, ht, sb, g2⟩ := q
    have stays2 : ∀ b o, h0.get? b = some o → h'.get? b = some o := fun b o e => (sb.2 b (fun z => by rw [z, n0] at e; cases e)).trans (stays' b o e)
    refine wpAny_pure ⟨plainId_quiet F.plain_set_update_loop _, ih (i + 1) _ (by omega) lt (W.frame _ s' _ _ hst' ht fun b hb o e => ?_) stays2 g2 fun s'' m2 g3 z3 => ?_⟩
    · rw [sb.2 b (fun z : b = S => hSf (by rw [← z]; exact hb))]
      exact e
    · refine fin s'' (Moved.trans W.gtrans ((m.mono wide).then_heap ht fun b o hb e => ?_) m2) g3 z3
      rw [sb.2 b (fun z : b = S => hb (by rw [z]; exact List.mem_cons_self))]
      exact e
set_option maxHeartbeats 6400000 in
theorem callSet_list {l : Addr} {its : Array Value} {Q : Value → Shared → Prop} (hh : A.handled = none) (hl : s.heap.IsList l its) (G : Nat → Heap → Prop)
    (ad : AddsTo P w A.in1.in1.in1 s.heap.objs.size s.heap (fun i v => its[i]? = some v) G) (kp : KeepsSet s.heap.objs.size s.heap G) (g0 : ∀ h, h.get? s.heap.objs.size = some (set0 w) → G 0 h)
    (q : ∀ (h' : Heap) (tk : Nat), G its.size h' → (∀ b o, s.heap.get? b = some o → h'.get? b = some o) → Q (.ref s.heap.objs.size) { s with heap := h', toks := tk }) :
    wpAny (model P w) A (call (.type "set") [.ref l]) Q E s := by
  obtain ⟨cc, tl, c1⟩ := F.called_set.mro
  have c2 := F.called_set.made
  have c3 := F.called_set.sub
  refine wpAny_call (codeAny_of_tree ?_)
  show wpAny _ _ (callAny (.type "set") _) _ _ _
  refine wpAny_pure ⟨Code.quiet_builtin _ (by decide +kernel), codeAny_builtin F.entry_type_call ?_⟩
  rw [Around.under_plain (weight_type_call_type "set" [.ref l] []) rfl]
  have c4 := F.called_set.notType
  have c5 := F.called_set.canCreate
  have c6 := F.typeCall_set_1 (.ref l)
  repeat (any_goals (first | assumption | wp_step))
  refine codeAny_mono (code_set_led1 (.ref l) (E := E) (Q₁ := fun obj s₁ => obj = .ref s.heap.objs.size ∧ s₁ = { s with heap := s.heap.push (set0 w) }) ⟨rfl, rfl⟩) fun r s₁ hr => ?_
  cases r with
  | error e => exact hr
  | ok fl =>
    cases fl with
    | ret obj =>
      obtain ⟨rfl, rfl⟩ := hr
      have nS : (s.heap.push (set0 w)).get? s.heap.objs.size = some (set0 w) := Heap.get?_push_size _ rfl
      have tS : Shared.TypeIs { s with heap := s.heap.push (set0 w) } (.ref s.heap.objs.size) "set" := ⟨_, nS, rfl⟩
      have c7 := F.called_set.init.lookup
      have c8 := F.called_set.init.bind (.ref s.heap.objs.size)
      repeat (any_goals (first | assumption | wp_step))
      refine codeAny_mono (codeAny_call_builtin (R := wants (fun r s₂ => r = .none ∧ ∃ h' tk, s₂ = { s with heap := h', toks := tk } ∧ G its.size h' ∧ (∀ b o, s.heap.get? b = some o → h'.get? b = some o)) E) F.called_set.init.plain F.entry_set_init (check_set_init_1 tS ?_)) fun r₂ s₂ hr₂ => ?_
      · obtain ⟨ol, ol1, ol2, nl, ol3⟩ := hl
        obtain ⟨ocls, odict, odata, oslots⟩ := ol
        simp only at ol2 ol3
        subst ol2; subst ol3
        have ol4 : (s.heap.push (set0 w)).get? l = some { cls := .type "list", dict := odict, data := .seq its nl, slots := oslots } := Heap.get?_push_of_some _ ol1
        have d1 := F.sub_list_set
        have d2 := F.sub_list_frozenset
        have d3 : (Value.type "list" == Value.type "dict") = false := by decide
        have hl1 : (s.heap.push (set0 w)).IsList l its := ⟨_, ol4, rfl, nl, rfl⟩
        unfold Builtin.«set.__init__» noKeywords Builtin.Frozenset.updateFrom
        generalize ePI : pyIter = PI
        wp_walk
        subst ePI
        refine wpAny_pyIter_list hl1 ?_
        refine wpAny_bind (wpAny_runValue ?_)
        have ll : l < s.heap.objs.size := Heap.lt_size ol1
        have h3 : A.in1.in1.in1.handled = none := by simp [hh]
        have ne1 : l ≠ (s.heap.push (set0 w)).objs.size := fun z => by
          rw [Heap.size_push] at z
          exact absurd (z ▸ ll) (Nat.not_lt_of_le (Nat.le_succ _))
        have ne2 : s.heap.objs.size ∉ [(s.heap.push (set0 w)).objs.size, l] := by
          rw [Heap.size_push]
          exact fun z => (List.mem_cons.mp z).elim (fun y => absurd y (Nat.ne_of_lt (Nat.lt_succ_self _))) fun y => absurd (List.mem_singleton.mp y) (Nat.ne_of_gt ll)
        have none_of : ∀ b, s.heap.objs.size ≤ b → s.heap.get? b = none := fun b hb => by
          cases z : s.heap.get? b with
          | none => rfl
          | some o => exact absurd (Heap.lt_size z) (Nat.not_lt_of_le hb)
        refine setLoop ((Walks.list h3 _ l ne1 its).toS) s.heap.objs.size ne2 s.heap G ad kp (none_of _ (Nat.le_refl _)) (fun b hb => none_of b (by
            rw [List.mem_singleton.mp hb, Heap.size_push]
            exact Nat.le_succ _)) (its.size - 0) 0 _ (by omega) (Nat.zero_le _)
          ⟨⟨_, Heap.get?_push_size _ rfl, rfl, rfl⟩, (hl1.push _)⟩ (fun b o e => Heap.get?_push_of_some _ (Heap.get?_push_of_some _ e)) (g0 _ (Heap.get?_push_of_some _ nS)) ?hR
        case hR =>
          intro s' m g' z'
          obtain ⟨h', g2, d', tk', os'⟩ := s'
          have eg : g2 = s.gens := m.gens
          have ed : d' = s.drawn := m.drawn
          have eo : os' = s.os := m.os
          subst eg; subst ed; subst eo
          show wpAny _ _ _ _ _ _
          refine wpAny_pure ?_
          show wpAny _ _ (ret Value.none) _ _ _
          exact wpAny_pure ⟨rfl, h', tk', rfl, g', z'⟩
      · cases r₂ with
        | error e => exact hr₂
        | ok fl₂ =>
          cases fl₂ with
          | ret r =>
            obtain ⟨rfl, h', tk, rfl, g', z'⟩ := hr₂
            repeat (any_goals (first | assumption | wp_step))
            exact q _ _ g' z'
          | _ => exact hr₂.elim
    | _ => exact hr.elim
set_option maxHeartbeats 6400000 in
theorem callSet_tuple {l : Addr} {its : Array Value} {Q : Value → Shared → Prop} (hh : A.handled = none) (hl : s.heap.IsTuple l its) (G : Nat → Heap → Prop)
    (ad : AddsTo P w A.in1.in1.in1 s.heap.objs.size s.heap (fun i v => its[i]? = some v) G) (kp : KeepsSet s.heap.objs.size s.heap G) (g0 : ∀ h, h.get? s.heap.objs.size = some (set0 w) → G 0 h)
    (q : ∀ (h' : Heap) (tk : Nat), G its.size h' → (∀ b o, s.heap.get? b = some o → h'.get? b = some o) → Q (.ref s.heap.objs.size) { s with heap := h', toks := tk }) :
    wpAny (model P w) A (call (.type "set") [.ref l]) Q E s := by
  obtain ⟨cc, tl, c1⟩ := F.called_set.mro
  have c2 := F.called_set.made
  have c3 := F.called_set.sub
  refine wpAny_call (codeAny_of_tree ?_)
  show wpAny _ _ (callAny (.type "set") _) _ _ _
  refine wpAny_pure ⟨Code.quiet_builtin _ (by decide +kernel), codeAny_builtin F.entry_type_call ?_⟩
  rw [Around.under_plain (weight_type_call_type "set" [.ref l] []) rfl]
  have c4 := F.called_set.notType
  have c5 := F.called_set.canCreate
  have c6 := F.typeCall_set_1 (.ref l)
  repeat (any_goals (first | assumption | wp_step))
  refine codeAny_mono (code_set_led1 (.ref l) (E := E) (Q₁ := fun obj s₁ => obj = .ref s.heap.objs.size ∧ s₁ = { s with heap := s.heap.push (set0 w) }) ⟨rfl, rfl⟩) fun r s₁ hr => ?_
  cases r with
  | error e => exact hr
  | ok fl =>
    cases fl with
    | ret obj =>
      obtain ⟨rfl, rfl⟩ := hr
      have nS : (s.heap.push (set0 w)).get? s.heap.objs.size = some (set0 w) := Heap.get?_push_size _ rfl
      have tS : Shared.TypeIs { s with heap := s.heap.push (set0 w) } (.ref s.heap.objs.size) "set" := ⟨_, nS, rfl⟩
      have c7 := F.called_set.init.lookup
      have c8 := F.called_set.init.bind (.ref s.heap.objs.size)
      repeat (any_goals (first | assumption | wp_step))
      refine codeAny_mono (codeAny_call_builtin (R := wants (fun r s₂ => r = .none ∧ ∃ h' tk, s₂ = { s with heap := h', toks := tk } ∧ G its.size h' ∧ (∀ b o, s.heap.get? b = some o → h'.get? b = some o)) E) F.called_set.init.plain F.entry_set_init (check_set_init_1 tS ?_)) fun r₂ s₂ hr₂ => ?_
      · obtain ⟨ol, ol1, ol2, nl, ol3⟩ := hl
        obtain ⟨ocls, odict, odata, oslots⟩ := ol
        simp only at ol2 ol3
        subst ol2; subst ol3
        have ol4 : (s.heap.push (set0 w)).get? l = some { cls := .type "tuple", dict := odict, data := .seq its nl, slots := oslots } := Heap.get?_push_of_some _ ol1
        have d1 := F.sub_tuple_set
        have d2 := F.sub_tuple_frozenset
        have d3 : (Value.type "tuple" == Value.type "dict") = false := by decide
        have hl1 : (s.heap.push (set0 w)).IsTuple l its := ⟨_, ol4, rfl, nl, rfl⟩
        unfold Builtin.«set.__init__» noKeywords Builtin.Frozenset.updateFrom
        generalize ePI : pyIter = PI
        wp_walk
        subst ePI
        refine wpAny_pyIter_tuple hl1 ?_
        refine wpAny_bind (wpAny_runValue ?_)
        have ll : l < s.heap.objs.size := Heap.lt_size ol1
        have h3 : A.in1.in1.in1.handled = none := by simp [hh]
        have ne1 : l ≠ (s.heap.push (set0 w)).objs.size := fun z => by
          rw [Heap.size_push] at z
          exact absurd (z ▸ ll) (Nat.not_lt_of_le (Nat.le_succ _))
        have ne2 : s.heap.objs.size ∉ [(s.heap.push (set0 w)).objs.size, l] := by
          rw [Heap.size_push]
          exact fun z => (List.mem_cons.mp z).elim (fun y => absurd y (Nat.ne_of_lt (Nat.lt_succ_self _))) fun y => absurd (List.mem_singleton.mp y) (Nat.ne_of_gt ll)
        have none_of : ∀ b, s.heap.objs.size ≤ b → s.heap.get? b = none := fun b hb => by
          cases z : s.heap.get? b with
          | none => rfl
          | some o => exact absurd (Heap.lt_size z) (Nat.not_lt_of_le hb)
        refine setLoop ((Walks.tuple h3 _ l ne1 its).toS) s.heap.objs.size ne2 s.heap G ad kp (none_of _ (Nat.le_refl _)) (fun b hb => none_of b (by
            rw [List.mem_singleton.mp hb, Heap.size_push]
            exact Nat.le_succ _)) (its.size - 0) 0 _ (by omega) (Nat.zero_le _)
          ⟨⟨_, Heap.get?_push_size _ rfl, rfl, rfl⟩, (hl1.push _)⟩ (fun b o e => Heap.get?_push_of_some _ (Heap.get?_push_of_some _ e)) (g0 _ (Heap.get?_push_of_some _ nS)) ?hR
        case hR =>
          intro s' m g' z'
          obtain ⟨h', g2, d', tk', os'⟩ := s'
          have eg : g2 = s.gens := m.gens
          have ed : d' = s.drawn := m.drawn
          have eo : os' = s.os := m.os
          subst eg; subst ed; subst eo
          show wpAny _ _ _ _ _ _
          refine wpAny_pure ?_
          show wpAny _ _ (ret Value.none) _ _ _
          exact wpAny_pure ⟨rfl, h', tk', rfl, g', z'⟩
      · cases r₂ with
        | error e => exact hr₂
        | ok fl₂ =>
          cases fl₂ with
          | ret r =>
            obtain ⟨rfl, h', tk, rfl, g', z'⟩ := hr₂
            repeat (any_goals (first | assumption | wp_step))
            exact q _ _ g' z'
          | _ => exact hr₂.elim
    | _ => exact hr.elim
/-! ### of tuples of ints and texts -/
structure GotM (ks : List AK) (i : Nat) (L : List AK) : Prop where
  sub : ∀ p ∈ L, p ∈ ks.take i
  all : ∀ p ∈ ks.take i, p.2 ∈ L.map (·.2)
  len : L.length ≤ i
theorem GotM.same {ks L : List AK} {i : Nat} {x : AK} (g : GotM ks i L) (h : ks[i]? = some x) (hm : x.2 ∈ L.map (·.2)) : GotM ks (i + 1) L := by
  have e : ks.take (i + 1) = ks.take i ++ [x] := by rw [List.take_add_one, h]; rfl
  refine ⟨fun p hp => ?_, fun p hp => ?_, Nat.le_succ_of_le g.len⟩
  · rw [e]
    exact List.mem_append_left _ (g.sub p hp)
  · rw [e] at hp
    rcases List.mem_append.mp hp with z | z
    · exact g.all p z
    · rw [List.mem_singleton.mp z]
      exact hm
theorem GotM.more {ks L L' : List AK} {i : Nat} {x : AK} (g : GotM ks i L) (h : ks[i]? = some x) (pm : L'.Perm (x :: L)) : GotM ks (i + 1) L' := by
  have e : ks.take (i + 1) = ks.take i ++ [x] := by rw [List.take_add_one, h]; rfl
  refine ⟨fun p hp => ?_, fun p hp => ?_, ?_⟩
  · rw [e]
    rcases List.mem_cons.mp (pm.mem_iff.mp hp) with y | z
    · rw [y]
      exact List.mem_append_right _ List.mem_cons_self
    · exact List.mem_append_left _ (g.sub p z)
  · rw [(pm.map (·.2)).mem_iff, List.map_cons]
    rw [e] at hp
    rcases List.mem_append.mp hp with z | z
    · exact List.mem_cons_of_mem _ (g.all p z)
    · rw [List.mem_singleton.mp z]
      exact List.mem_cons_self
  · rw [pm.length_eq]
    exact Nat.succ_le_succ g.len
def GM (P : Program) (w : World) (S : Addr) (ks : List AK) (i : Nat) (h : Heap) : Prop := ∃ L es ep t, SetM P w h S L es ep t ∧ GotM ks i L
theorem keepsM {S : Addr} {h0 : Heap} {ks : List AK} (hk : ∀ p ∈ ks, IsM P w h0 p.2 p.1) : KeepsSet S h0 (GM P w S ks) := fun i h h' ⟨L, es, ep, t, R, g⟩ z1 z2 => by
  obtain ⟨o, ho, r⟩ := R.ob
  refine ⟨L, es, ep, t, ⟨⟨o, z1 o ho, r⟩, R.rows, R.tab, R.nd, fun p hp => ?_, R.led, R.room, R.few⟩, g⟩
  obtain ⟨o2, its, n, y1, y2⟩ := hk p (List.mem_of_mem_take (g.sub p hp))
  exact ⟨o2, its, n, z2 _ _ y1, y2⟩
theorem addsM {S : Addr} {h0 : Heap} {ks : List AK} {its : Array Value} (hu : A.units < cLine) (hit : its.toList = ks.map fun p => Value.ref p.1) (hk : ∀ p ∈ ks, IsM P w h0 p.2 p.1) (few : ks.length < 64) : AddsTo P w A S h0 (fun i v => its[i]? = some v) (GM P w S ks) := by
  intro i v s E pv ⟨L, es, ep, t, R, g⟩ z
  obtain ⟨p, hp, rfl⟩ : ∃ p, ks[i]? = some p ∧ v = .ref p.1 := by
    have e : its.toList[i]? = some v := by rw [Array.getElem?_toList]; exact pv
    rw [hit, List.getElem?_map] at e
    cases y : ks[i]? with
    | none => rw [y] at e; cases e
    | some p => rw [y] at e; exact ⟨p, rfl, (Option.some.inj e).symm⟩
  have hlt : i < ks.length := (List.getElem?_eq_some_iff.mp hp).1
  have hx : IsM P w s.heap p.2 p.1 := by
    obtain ⟨o2, its, n, y1, y2⟩ := hk p (List.mem_of_getElem? hp)
    exact ⟨o2, its, n, z _ _ y1, y2⟩
  unfold setAdd
  refine wpAny_holding (wpAny_bind (wpAny_pyHash_tuple hu hx ?_))
  refine addM (s := { s with toks := s.toks + (p.2.length + 1) }) R hx hu (by have := g.len; omega) fun b h' L' es' ep' t' sb R' c1 c2 => ?_
  refine ⟨h', s.toks + (p.2.length + 1), rfl, Nat.le_add_right _ _, sb, L', es', ep', t', R', ?_⟩
  by_cases c : p.2 ∈ L.map (·.2)
  · rw [c1 c]
    exact g.same hp c
  · exact g.more hp (c2 c)
theorem freshM {h : Heap} {S : Addr} {ks : List AK} (e : h.get? S = some (set0 w)) : GM P w S ks 0 h := by
  refine ⟨[], #[], 0, .fresh 0 0 (!w.params.followText "set-order"), ⟨⟨_, e, ⟨rfl, rfl, rfl⟩, rfl⟩, rfl, ⟨List.Pairwise.nil, rfl, rfl, .inl rfl, fun x hx => (by cases hx), fun i h j hi => (by simp at hi)⟩, List.nodup_nil, fun p hp => (by cases hp), ?_, by show 0 * 5 < 7 * 3; decide, by show 0 < 64; decide⟩, ⟨fun p hp => (by cases hp), fun p hp => (by simp at hp), Nat.le_refl _⟩⟩
  show _ ∨ (!w.params.followText "set-order") = true
  cases w.params.followText "set-order"
  · exact .inr rfl
  · exact .inl rfl
/-! ### how many -/
theorem nd_le {α : Type} [DecidableEq α] : ∀ (l D : List α), l.Nodup → (∀ x ∈ l, x ∈ D) → l.length ≤ D.length
  | [], _, _, _ => Nat.zero_le _
  | a :: l, D, hn, hs => by
    have n1 := List.nodup_cons.mp hn
    have ha : a ∈ D := hs a List.mem_cons_self
    have ih := nd_le l (D.erase a) n1.2 fun x hx => (List.mem_erase_of_ne (fun (e : x = a) => n1.1 (e ▸ hx))).mpr (hs x (List.mem_cons_of_mem _ hx))
    rw [List.length_erase_of_mem ha] at ih
    have : 0 < D.length := List.length_pos_of_mem ha
    simp only [List.length_cons]
    omega
theorem nd_lt {α : Type} [DecidableEq α] : ∀ (D : List α), ¬ D.Nodup → ∃ (x : α) (D' : List α), D.length = D'.length + 1 ∧ ∀ y, y ∈ D → y ∈ D'
  | [], h => absurd List.nodup_nil h
  | a :: D, h => by
    by_cases ha : a ∈ D
    · exact ⟨a, D, rfl, fun y hy => by
        rcases List.mem_cons.mp hy with rfl | hy
        · exact ha
        · exact hy⟩
    · have hD : ¬ D.Nodup := fun z => h (List.nodup_cons.mpr ⟨ha, z⟩)
      obtain ⟨x, D', e, hs⟩ := nd_lt D hD
      refine ⟨x, a :: D', by simp [e], fun y hy => ?_⟩
      rcases List.mem_cons.mp hy with rfl | hy
      · exact List.mem_cons_self
      · exact List.mem_cons_of_mem _ (hs y hy)
theorem count_nd {α : Type} [DecidableEq α] {l D : List α} (hn : l.Nodup) (h1 : ∀ x ∈ l, x ∈ D) (h2 : ∀ x ∈ D, x ∈ l) : l.length ≤ D.length ∧ (l.length < D.length ↔ ¬ D.Nodup) := by
  refine ⟨nd_le l D hn h1, fun lt hd => ?_, fun hd => ?_⟩
  · have := nd_le D l hd h2
    omega
  · obtain ⟨x, D', e, hs⟩ := nd_lt D hd
    have := nd_le l D' hn fun y hy => hs y (h1 y hy)
    omega
end
/-! ### len(set(..)) over the layer -/
section
variable {X : Cx}
theorem itemsM {P : Program} {w : World} : ∀ {k : List Key} {us : List Value}, Vals (k.map kV) us → ItemsAre (mixKind P w) k us
  | [], _, .nil => .nil
  | _ :: k, _, .cons r t => .cons (kV_is r) (itemsM t)
theorem refsM : ∀ {ks : List AK} {us : List Value}, Vals (ks.map fun p => V.ref p.1) us → us = ks.map fun p => Value.ref p.1
  | [], _, .nil => rfl
  | p :: ks, _, .cons r t => by
    cases r
    rw [refsM t]
    rfl
theorem inv_isM {pins : List (Addr × Obj)} {σ : L2.St} {H : Hp} {s : Shared} {b : Addr} {k : List Key} (I : Inv X pins σ H s) (h : SqT X.K H b (k.map kV)) : IsM X.prog X.w s.heap k b := by
  obtain ⟨its, r, ⟨o, ho, hc, n, hd⟩, _⟩ := I.tuple h
  exact ⟨o, its.toArray, n, ho, hc, hd, by simpa using itemsM r⟩
def tLenSetM (K : PySem.W.Frag) (ta : TE) : TE := fun σ H Q => ta σ H fun x H1 => ∃ (l : Addr) (ks : List AK), x = .ref l ∧ (SqL K H1 l (ks.map fun p => V.ref p.1) ∨ SqT K H1 l (ks.map fun p => V.ref p.1)) ∧ (∀ p ∈ ks, SqT K H1 p.1 (p.2.map kV)) ∧ ks.length < 64 ∧
  ∀ n : Nat, n ≤ ks.length → (n < ks.length ↔ ¬ (ks.map (·.2)).Nodup) → Q (.int n) H1
theorem pe_lenSetM {a : Expr} {ta : TE} {p p2 q pos : Pos} (hc : X.calm = true) (hu : X.A.units + 64 < cLine) (hg : Gl X "len") (hm : X.mg "len" = none) (hg2 : Gl X "set") (hm2 : X.mg "set" = none) (ha : PE X a ta)
    (na : starEach [a] X.env = (false, eval a X.env) :: starEach [] X.env := by rfl) : PE X (.Call (.Name "len" p) [.Call (.Name "set" p2) [a] [] q] [] pos) (tLenSetM X.K ta) := by
  refine ⟨fun pins s σ H Q I h => ?_⟩
  refine Call_ (ld_blt I hg hm PySem.boot_len (PyProof.Rows.callWith_builtin1 (PyProof.Rows.args_cons ?_ rfl) rfl rfl))
  refine Call_ (ld_blt I hg2 hm2 PyProof.Rows.boot_set (PyProof.Rows.callWith_type1 (PyProof.Rows.args_cons (thn (ha.run pins s σ H _ I h) fun v s1 ⟨x, H1, I1, r1, q1⟩ => PyProof.Rows.args_nil ?_) na) na rfl))
  obtain ⟨l, ks, rfl, hq, hk, few, q1⟩ := q1
  cases r1
  have tu : ∀ p ∈ ks, IsM X.prog X.w s1.heap p.2 p.1 := fun p hp => inv_isM I1 (hk p hp)
  have fin : ∀ (its : Array Value), its.size = ks.length → ∀ (h' : Heap) (tk : Nat), GM X.prog X.w s1.heap.objs.size ks its.size h' → (∀ b o, s1.heap.get? b = some o → h'.get? b = some o) →
      wpAny (model X.prog X.w) X.A (spliced (backTo pos (starEach [] X.env))) (fun vs s₂ => wpAny (model X.prog X.w) X.A (call (.builtin "len") (Value.ref s1.heap.objs.size :: vs)) (EP X pins σ Q) X.xe s₂) X.xe { s1 with heap := h', toks := tk } := fun its sz h' tk g kp => by
    refine PyProof.Rows.args_nil ?_
    obtain ⟨L, es, ep, t, R, g⟩ := g
    rw [sz, ] at g
    have I2 : Inv X pins σ H1 { s1 with heap := h', toks := tk } := I1.kept fun b o e => kp b o e
    obtain ⟨o, ho, hex, hd⟩ := R.ob
    have ez := rowsM_len R.rows
    have cn := count_nd (l := L.map (·.2)) (D := ks.map (·.2)) R.nd (fun x hx => by
      obtain ⟨p, hp, rfl⟩ := List.mem_map.mp hx
      exact List.mem_map_of_mem (List.mem_of_mem_take (g.sub p hp))) (fun x hx => by
      obtain ⟨p, hp, rfl⟩ := List.mem_map.mp hx
      exact g.all p (by rw [List.take_length]; exact hp))
    simp only [List.length_map] at cn
    refine call_len_set ho hex hd (R.fits (s := { s1 with heap := h', toks := tk })) (by rw [ez]; omega) ⟨.int L.length, H1, I2.tok _, ⟨_, by rw [ez]⟩, q1 L.length cn.1 cn.2⟩
  rcases hq with hq | hq
  · obtain ⟨its, r, pl, hz⟩ := I1.list hq
    have sz : its.toArray.size = ks.length := by rw [List.size_toArray, ← r.length, List.length_map]
    exact callSet_list (I1.ok.hd hc) pl.isList (GM X.prog X.w s1.heap.objs.size ks) (addsM (by show X.A.in1.in1.in1.units < cLine; simp; omega) (by simpa using refsM r) tu few) (keepsM tu) (fun h e => freshM e) fun h' tk g kp => fin its.toArray sz h' tk g kp
  · obtain ⟨its, r, pl, hz⟩ := I1.tuple hq
    have sz : its.toArray.size = ks.length := by rw [List.size_toArray, ← r.length, List.length_map]
    exact callSet_tuple (I1.ok.hd hc) pl (GM X.prog X.w s1.heap.objs.size ks) (addsM (by show X.A.in1.in1.in1.units < cLine; simp; omega) (by simpa using refsM r) tu few) (keepsM tu) (fun h e => freshM e) fun h' tk g kp => fin its.toArray sz h' tk g kp
end
end Onp
set_option maxHeartbeats 4000000
set_option autoImplicit false
/-! len(set(list or tuple of ints and texts)) -/
namespace Onp
open PySem PySem.Spec PyProof.Rows L2
section
variable {P : Program} {w : World} {A : Around} {E : Value → Shared → Prop} {s : Shared}
def memK (l : List L2.Key) (k : L2.Key) : Bool := l.any fun x => decide (x = k)
theorem memK_iff {l : List L2.Key} {k : L2.Key} : memK l k = true ↔ k ∈ l := by
  unfold memK
  rw [List.any_eq_true]
  exact ⟨fun ⟨x, h1, h2⟩ => of_decide_eq_true h2 ▸ h1, fun h => ⟨k, h, decide_eq_true rfl⟩⟩
theorem setOf_as {h : Heap} {a : Addr} {S S' : L2.Key → Bool} {n n' : Nat} (hS : h.SetOf (mixKind P w) a S n) (e : ∀ k, S k = S' k) (en : n = n') : h.SetOf (mixKind P w) a S' n' := by
  have : S = S' := funext e
  subst this
  subst en
  exact hS
def GK (P : Program) (w : World) (S : Addr) (ks : List L2.Key) (i : Nat) (h : Heap) : Prop := ∃ l : List L2.Key, l.Nodup ∧ (∀ k, k ∈ l ↔ k ∈ ks.take i) ∧ h.SetOf (mixKind P w) S (memK l) l.length
theorem keepsK {S : Addr} {h0 : Heap} {ks : List L2.Key} : KeepsSet S h0 (GK P w S ks) := fun i h h' ⟨l, n, e, R⟩ z1 _ => ⟨l, n, e, setOf_at R z1⟩
theorem keys_at : ∀ {ks : List L2.Key} {us : List Value}, Vals (ks.map kV) us → ∀ {i : Nat} {v : Value}, us[i]? = some v → ∃ k, ks[i]? = some k ∧ RelV (kV k) v
  | [], _, .nil, i, v, h => by simp at h
  | k :: ks, _, .cons r t, i, v, h => by
    cases i with
    | zero =>
      obtain rfl := Option.some.inj h
      exact ⟨k, rfl, r⟩
    | succ i => exact keys_at t h
theorem addsK {S : Addr} {h0 : Heap} {ks : List L2.Key} {its : Array Value} (r : Vals (ks.map kV) its.toList) (few : ks.length < 1000) : AddsTo P w A S h0 (fun i v => its[i]? = some v) (GK P w S ks) := by
  intro i v s E pv ⟨l, nd, e, R⟩ z
  obtain ⟨k, hk, rk⟩ := keys_at r (i := i) (v := v) (by rw [Array.getElem?_toList]; exact pv)
  have hlt : i < ks.length := (List.getElem?_eq_some_iff.mp hk).1
  have hll : l.length ≤ i := by
    have q := nd_le l (ks.take i) nd fun x hx => (e x).mp hx
    rw [List.length_take] at q
    omega
  have et : ks.take (i + 1) = ks.take i ++ [k] := by rw [List.take_add_one, hk]; rfl
  have ik : (mixKind P w).is k v = true := kV_is rk
  unfold setAdd
  refine wpAny_holding (wpAny_bind ((mixKind P w).pyHash ik ?_))
  refine wpAny_setAddHashed_of (s := { s with toks := s.toks + 1 }) ik (key_scan rk) R (by unfold scanBound; omega) fun h' sb R' => ?_
  refine ⟨h', s.toks + 1, rfl, Nat.le_succ _, sb, ?_⟩
  by_cases c : k ∈ l
  · refine ⟨l, nd, fun x => ?_, setOf_as R' (fun x => ?_) ?_⟩
    · rw [et, List.mem_append, ← e x]
      exact ⟨.inl, fun y => y.elim id fun y => by rw [List.mem_singleton.mp y]; exact c⟩
    · by_cases x1 : x = k
      · rw [decide_eq_true x1, Bool.or_true, x1]
        exact (memK_iff.mpr c).symm
      · rw [decide_eq_false x1, Bool.or_false]
    · rw [if_pos (memK_iff.mpr c)]
  · refine ⟨k :: l, List.nodup_cons.mpr ⟨c, nd⟩, fun x => ?_, setOf_as R' (fun x => ?_) ?_⟩
    · rw [et, List.mem_append, ← e x, List.mem_cons, List.mem_singleton]
      exact or_comm
    · rw [Bool.eq_iff_iff, Bool.or_eq_true, memK_iff, memK_iff, decide_eq_true_eq, List.mem_cons]
      exact or_comm
    · rw [if_neg (fun y => c (memK_iff.mp y))]
      rfl
theorem freshK {h : Heap} {S : Addr} {ks : List L2.Key} (e : h.get? S = some (set0 w)) : GK P w S ks 0 h :=
  ⟨[], List.nodup_nil, fun k => by simp, _, #[], 0, _, e, ⟨rfl, rfl, rfl⟩, rfl, fun x hx => by simp at hx, fun k => by simp [memK], by unfold scanBound; decide, rfl, rfl⟩
end
section
variable {X : Cx}
def tLenSetK (K : PySem.W.Frag) (ta : TE) : TE := fun σ H Q => ta σ H fun x H1 => ∃ (l : Addr) (ks : List L2.Key), x = .ref l ∧ (SqL K H1 l (ks.map kV) ∨ SqT K H1 l (ks.map kV)) ∧ ks.length < 1000 ∧ ∀ n : Nat, n ≤ ks.length → (n < ks.length ↔ ¬ ks.Nodup) → Q (.int n) H1
theorem pe_lenSetK {a : Expr} {ta : TE} {p p2 q pos : Pos} (hc : X.calm = true) (hg : Gl X "len") (hm : X.mg "len" = none) (hg2 : Gl X "set") (hm2 : X.mg "set" = none) (ha : PE X a ta)
    (na : starEach [a] X.env = (false, eval a X.env) :: starEach [] X.env := by rfl) : PE X (.Call (.Name "len" p) [.Call (.Name "set" p2) [a] [] q] [] pos) (tLenSetK X.K ta) := by
  refine ⟨fun pins s σ H Q I h => ?_⟩
  refine Call_ (ld_blt I hg hm PySem.boot_len (PyProof.Rows.callWith_builtin1 (PyProof.Rows.args_cons ?_ rfl) rfl rfl))
  refine Call_ (ld_blt I hg2 hm2 PyProof.Rows.boot_set (PyProof.Rows.callWith_type1 (PyProof.Rows.args_cons (thn (ha.run pins s σ H _ I h) fun v s1 ⟨x, H1, I1, r1, q1⟩ => PyProof.Rows.args_nil ?_) na) na rfl))
  obtain ⟨l, ks, rfl, hq, few, q1⟩ := q1
  cases r1
  have fin : ∀ (its : Array Value), its.size = ks.length → ∀ (h' : Heap) (tk : Nat), GK X.prog X.w s1.heap.objs.size ks its.size h' → (∀ b o, s1.heap.get? b = some o → h'.get? b = some o) →
      wpAny (model X.prog X.w) X.A (spliced (backTo pos (starEach [] X.env))) (fun vs s₂ => wpAny (model X.prog X.w) X.A (call (.builtin "len") (Value.ref s1.heap.objs.size :: vs)) (EP X pins σ Q) X.xe s₂) X.xe { s1 with heap := h', toks := tk } := fun its sz h' tk g kp => by
    refine PyProof.Rows.args_nil ?_
    obtain ⟨m, nd, e, R⟩ := g
    rw [sz, List.take_length] at e
    have I2 : Inv X pins σ H1 { s1 with heap := h', toks := tk } := I1.kept fun b o e => kp b o e
    obtain ⟨o, es, ep, t, ho, hex, hd, _, _, _, hf, hn⟩ := R
    have cn := count_nd (l := m) (D := ks) nd (fun x hx => (e x).mp hx) (fun x hx => (e x).mpr hx)
    exact call_len_set ho hex hd hf (by rw [hn]; omega) ⟨.int m.length, H1, I2.tok _, ⟨_, by rw [hn]⟩, q1 m.length cn.1 cn.2⟩
  rcases hq with hq | hq
  · obtain ⟨its, r, pl, hz⟩ := I1.list hq
    have sz : its.toArray.size = ks.length := by rw [List.size_toArray, ← r.length, List.length_map]
    exact callSet_list (I1.ok.hd hc) pl.isList (GK X.prog X.w s1.heap.objs.size ks) (addsK (by simpa using r) few) keepsK (fun h e => freshK e) fun h' tk g kp => fin its.toArray sz h' tk g kp
  · obtain ⟨its, r, pl, hz⟩ := I1.tuple hq
    have sz : its.toArray.size = ks.length := by rw [List.size_toArray, ← r.length, List.length_map]
    exact callSet_tuple (I1.ok.hd hc) pl (GK X.prog X.w s1.heap.objs.size ks) (addsK (by simpa using r) few) keepsK (fun h e => freshK e) fun h' tk g kp => fin its.toArray sz h' tk g kp
/-! ### for over a list or a tuple -/
def iAny (K : PySem.W.Frag) (te : TE) : TI := fun σ H R => te σ H fun v H1 => ∃ (a : Addr) (xs : List V), v = .ref a ∧ (SqL K H1 a xs ∨ SqT K H1 a xs) ∧ ∀ (J : It) (G : Hp → Prop), Walk J xs.length G (YAt xs) → (∀ H', Same H1 H' → G H') → R J H1
theorem pi_any {tg l : Expr} {tl : TE} (hl : PE X l tl) : PI X tg l (iAny X.K tl) := by
  refine ⟨fun pins s σ H R I h => ?_⟩
  refine thn (hl.run pins s σ H _ I h) fun v s1 ⟨x, H1, I1, r1, q1⟩ => ?_
  obtain ⟨a, xs, rfl, hq, q⟩ := q1
  cases r1
  have fp : ∀ b ∈ [s1.heap.objs.size], FpOk X pins H1 b := fun b hb => by
    rw [List.mem_singleton.mp hb]
    exact I1.fpOk (Nat.le_refl _) (I1.hok.fresh (Nat.le_refl _))
  rcases hq with hq | hq
  · obtain ⟨its, rv, p, hz⟩ := I1.list hq
    exact wpAny_pyIter_list p.isList ⟨s1.heap.objs.size, [s1.heap.objs.size], _, _, H1, rfl, I1.kept (t' := s1.toks) fun b o e => Heap.get?_push_of_some _ e, turn_list a _, ⟨_, Heap.get?_push_size _ rfl, rfl, rfl⟩, fp, q _ _ walk_list fun H' sm => sm.seq hq⟩
  · obtain ⟨its, rv, p, hz⟩ := I1.tuple hq
    refine wpAny_pyIter_tuple (show s1.heap.IsTuple a its.toArray from p) ⟨s1.heap.objs.size, [s1.heap.objs.size], _, _, H1, rfl, I1.kept (t' := s1.toks) fun b o e => Heap.get?_push_of_some _ e, turn_tuple a _, ⟨_, Heap.get?_push_size _ rfl, rfl, rfl⟩, fp, q _ _ walk_tup fun H' sm => ?_⟩
    rcases hq with (h | ⟨o, h⟩) | h
    · exact .inl (.inl (sm _ _ h))
    · exact .inl (.inr ⟨o, sm _ _ h⟩)
    · exact .inr h
end
end Onp
set_option autoImplicit false
namespace Onp
open PySem PySem.Spec PyProof.Rows L2
/-! ### deeds and marks -/
inductive Dd where
  | keep | cent | fill | coin | brim
  deriving DecidableEq
def Dd.nm : Dd → Str
  | .keep => "keep" | .cent => "cent" | .fill => "fill" | .coin => "coin" | .brim => "brim"
def Dd.rk : Dd → Nat
  | .keep => 0 | .cent => 1 | .fill => 2 | .coin => 3 | .brim => 4
def deedsL : List Str := ["keep", "cent", "fill", "coin", "brim"]
def marksL : List Str := ["brim", "fill", "keep", "cent", "coin", "dear", "shut"]
def makingL : List Str := ["keep", "cent", "fill", "coin", "brim", "dear", "shut"]
def mkn (i : Nat) : Str := makingL.getD i "shut"
theorem nm_mkn (d : Dd) : d.nm = mkn d.rk := by cases d <;> rfl
theorem rk_lt (d : Dd) : d.rk < 5 := by cases d <;> decide
theorem nm_in (d : Dd) : d.nm ∈ deedsL := by cases d <;> decide +kernel
theorem in_nm : ∀ z ∈ deedsL, ∃ d : Dd, z = d.nm := fun z h => by
  rcases List.mem_cons.mp h with rfl | h
  · exact ⟨.keep, rfl⟩
  rcases List.mem_cons.mp h with rfl | h
  · exact ⟨.cent, rfl⟩
  rcases List.mem_cons.mp h with rfl | h
  · exact ⟨.fill, rfl⟩
  rcases List.mem_cons.mp h with rfl | h
  · exact ⟨.coin, rfl⟩
  rcases List.mem_cons.mp h with rfl | h
  · exact ⟨.brim, rfl⟩
  cases h
def dv (d : Dd) : V := .str d.nm
def stp (p : Int × Int) : Dd → Int × Int
  | .keep => p
  | .cent => (p.1 + 1, p.2)
  | .fill => (0, p.2)
  | .coin => (0, p.2 + 1)
  | .brim => (0, 0)
theorem flatStrs (ys : List Str) : (ys.map V.str).all flatV = true := by
  rw [List.all_map]
  exact List.all_eq_true.mpr fun _ _ => rfl
theorem inV_strs (z : Str) : ∀ ys : List Str, inV (.str z) (ys.map V.str) = decide (z ∈ ys)
  | [] => by rfl
  | y :: r => by
    have ih := inV_strs z r
    unfold inV at ih ⊢
    rw [List.map_cons, List.any_cons, ih]
    show ((y == z) || decide (z ∈ r)) = decide (z ∈ y :: r)
    by_cases e : z = y
    · subst e
      rw [beq_self_eq_true, decide_eq_true List.mem_cons_self]
      rfl
    · have e1 : (y == z) = false := beq_eq_false_iff_ne.mpr (Ne.symm e)
      rw [e1, Bool.false_or]
      by_cases h : z ∈ r
      · rw [decide_eq_true h, decide_eq_true (List.mem_cons_of_mem _ h)]
      · rw [decide_eq_false h, decide_eq_false (fun q => (List.mem_cons.mp q).elim e h)]
end Onp
set_option maxHeartbeats 4000000
set_option autoImplicit false
/-! sorted(list or tuple) of data -/
namespace Onp
open PySem PySem.Spec PyProof.Rows L2 PySem.W
section
variable {prog : Program} {w : World} {A : Around} {E : Value → Shared → Prop} {s : Shared}
theorem collect_seq {l : Addr} {T : String} {o : Obj} {vs : List Value} {n : Nat} {Q : List Value → Shared → Prop} (hT : T = "list" ∨ T = "tuple") (g1 : s.heap.get? l = some o) (g2 : o.cls = .type T) (g3 : o.data = .seq vs.toArray n) (hz : vs.length ≤ sizeLine)
    (h : Q vs { s with heap := (s.heap.push (seqObj "list" #[] 0)).update s.heap.objs.size (Obj.mapSeq (· ++ vs.toArray)) }) : wpAny (model prog w) A (collect (.ref l)) Q E s := by
  unfold collect
  refine wpAny_bind (wpAny_runValue (codeAny_builtin entry_proto_collect' ?_))
  show wpAny _ _ (do again (.builtin "list.__iadd__" ⟨[← newList [], .ref l], []⟩)) _ _ s
  refine wpAny_bind (wpAny_newList (wpAny_pure ⟨Code.quiet_builtin _ (by decide +kernel), codeAny_builtin entry_list_iadd' ?_⟩))
  show wpAny _ _ (Builtin.List.listExtendWith (.ref s.heap.objs.size) (.ref l) (.ref s.heap.objs.size)) _ _ { s with heap := s.heap.push (seqObj "list" #[] 0) }
  unfold Builtin.List.listExtendWith
  have g1' : (s.heap.push (seqObj "list" #[] 0)).get? l = some o := Heap.get?_push_of_some _ g1
  refine wpAny_bind (wpAny_typeOf (T := T) ⟨o, g1', g2⟩ ?_)
  have tt : (Builtin.List.listSameRef (.ref s.heap.objs.size) (.ref l) || Value.type T == Value.type "list" || Value.type T == Value.type "tuple") = true := by
    rcases hT with rfl | rfl <;> simp
  rw [if_pos tt]
  refine wpAny_bind (listItems_at g1' g3 (wpAny_bind (listItems_at (xs := #[]) (n := 0) (Heap.get?_push_size _ rfl) rfl ?_)))
  rw [if_neg (by simp)]
  refine wpAny_bind (listUpdate_at (xs := #[]) (n := 0) (Heap.get?_push_size _ rfl) rfl (wpAny_pure ?_) (Nat.zero_le _) (by show (#[] ++ vs.toArray).size ≤ sizeLine + 1; simp only [Array.size_append, List.size_toArray, List.length_nil]; omega))
  show wpAny (model prog w) A (do
      let o ← load s.heap.objs.size
      match o.data with
      | .seq xs _ => pure xs.toList
      | _ => unsupported "internal:collect") Q E { s with heap := (s.heap.push (seqObj "list" #[] 0)).update s.heap.objs.size (Obj.mapSeq (· ++ vs.toArray)) }
  refine wpAny_bind (wpAny_load (get?_update_seq (Heap.get?_push_size _ rfl) _) ?_)
  show wpAny _ _ (pure ((#[] : Array Value) ++ vs.toArray).toList) Q E _
  rw [show ((#[] : Array Value) ++ vs.toArray).toList = vs by simp]
  exact wpAny_pure h
theorem sorted_seq {β : Type} {vs : List Value} {bs : List β} {enc : β → PyData} {R : Value → β → Prop} {l : Addr} {T : String} {o : Obj} {n : Nat} {Q : Value → Shared → Prop} (hT : T = "list" ∨ T = "tuple") (g1 : s.heap.get? l = some o) (g2 : o.cls = .type T) (g3 : o.data = .seq vs.toArray n)
    (e : EachIs R vs bs) (er : EachIs (fun v b => ∃ as, Reads s.heap v (enc b) as) vs bs) (al : AllAlike (bs.map enc)) (so : Sortable (bs.map enc)) (hz : bs.length ≤ sizeLine) (hu : ∀ b, b ∈ bs → A.units + 2 + (enc b).depth < cLine)
    (h : ∀ out, out.length = bs.length → EachIs R out (bs.mergeSort (dataLe false enc)) → Q (.ref (s.heap.objs.size + 1)) { s with heap := sortedAll s.heap vs (List.toArray out) }) : wpAny (model prog w) A (call (.builtin "sorted") [.ref l]) Q E s := by
  have hv : vs.length ≤ sizeLine := by rw [e.length]; exact hz
  have er' : EachIs (fun v b => ∃ as, Reads (sortingHeap (copyHeap s.heap vs) (s.heap.objs.size + 1) vs) v (enc b) as) vs bs := er.mono fun _ _ ⟨as, r⟩ => ⟨as, PyProof.Rows.Reads.keeps (fun _ _ => sorting_copy_old) r⟩
  refine call_function_entry_kw kind_sorted plain_sorted entry_sorted (args_sorted1 _) ?_
  unfold Builtin.«sorted»
  refine wpAny_bind (m := checkCount "sorted" 1 1 _) (wpAny_pure ?_)
  refine wpAny_bind (collect_seq hT g1 g2 g3 hv ?_)
  refine wpAny_bind (wpAny_newList ?_ hv)
  have sz : ((s.heap.push (seqObj "list" #[] 0)).update s.heap.objs.size (Obj.mapSeq (· ++ vs.toArray))).objs.size = s.heap.objs.size + 1 := by
    rw [Heap.size_update, size_push']
  show wpAny _ _ _ _ _ { s with heap := copyHeap s.heap vs }
  rw [sz]
  refine wpAny_bind (wpAny_holding (wpAny_call_entry_kw slot_list_sort ⟨_, copyHeap_at s.heap vs, rfl⟩ entry_list_sort ?body (args_list_sort _)))
  case body =>
    show wpAny (model prog w) A.in1.in1 (Builtin.«list.sort» ⟨[.ref (s.heap.objs.size + 1)], []⟩) _ _ _
    refine list_sort_vals (s := { s with heap := copyHeap s.heap vs }) (κ := dataKind (sortingHeap (copyHeap s.heap vs) (s.heap.objs.size + 1) vs) (bs.map enc)) (copyHeap_at s.heap vs)
      (SortsAt.data (s := { s with heap := sortingHeap (copyHeap s.heap vs) (s.heap.objs.size + 1) vs }) (each_map (R := fun v d => ∃ as, Reads (sortingHeap (copyHeap s.heap vs) (s.heap.objs.size + 1) vs) v d as) enc er') al so (bound_map hu)) hv ?_
    exact ⟨_, rfl, wpAny_pure ⟨_, rfl, h _ (by rw [sortVals_length false rfl]; exact e.length) (sortVals_data false e er' al)⟩⟩
end
/-! ### over the layer -/
abbrev VD : Type := V × PyData
def srtD (xs : List VD) : List VD := xs.mergeSort (dataLe false (·.2))
theorem each_vals {X : Cx} {pins : List (Addr × Obj)} {σ : L2.St} {H : Hp} {s : Shared} (I : L2.Inv X pins σ H s) : ∀ (xs : List VD) (us : List Value), Vals (xs.map (·.1)) us → (∀ p ∈ xs, Dp X.K H p.1 p.2) →
    EachIs (fun v (b : VD) => RelV b.1 v) us xs ∧ EachIs (fun v (b : VD) => ∃ as, Reads s.heap v b.2 as) us xs
  | [], _, .nil, _ => ⟨.nil, .nil⟩
  | p :: xs, _, .cons r t, hd => by
    obtain ⟨q1, q2⟩ := each_vals I xs _ t fun x hx => hd x (List.mem_cons_of_mem _ hx)
    exact ⟨.cons r q1, .cons (Dp.reads I p.2 p.1 _ (hd p List.mem_cons_self) r) q2⟩
theorem vals_each : ∀ (xs : List VD) (us : List Value), EachIs (fun v (b : VD) => RelV b.1 v) us xs → Vals (xs.map (·.1)) us
  | [], _, .nil => .nil
  | _ :: xs, _, .cons r t => .cons r (vals_each xs _ t)
def rSortD (K : PySem.W.Frag) : List V → Hp → VK → Prop := fun vs H Q => ∃ (a : Addr) (xs : List VD), vs = [.ref a] ∧ (SqL K H a (xs.map (·.1)) ∨ SqT K H a (xs.map (·.1))) ∧ (∀ p ∈ xs, Dp K H p.1 p.2) ∧ AllAlike (xs.map (·.2)) ∧ Sortable (xs.map (·.2)) ∧ (∀ p ∈ xs, p.2.depth ≤ 8) ∧
  ∀ p, H p = none → Q (.ref p) (upd H p (.lst ((srtD xs).map (·.1))))
theorem cr_sortD {X : Cx} (hu : X.A.units + 64 < cLine) : CallR X (.builtin "sorted") (rSortD X.K) := by
  intro pins s σ H vs us Q I r h
  obtain ⟨a, xs, rfl, hs, hd, al, so, dp, q⟩ := h
  rw [Vals.ref1 r]
  have fin : ∀ (T : String) (its : List Value) (o : Obj) (n : Nat), (T = "list" ∨ T = "tuple") → s.heap.get? a = some o → o.cls = .type T → o.data = .seq its.toArray n → Vals (xs.map (·.1)) its → (xs.map (·.1)).length ≤ sizeLine →
      wpAny (model X.prog X.w) X.A (call (.builtin "sorted") [.ref a]) (EP X pins σ Q) X.xe s := fun T its o n hT g1 g2 g3 rv hz => by
    obtain ⟨e, er⟩ := each_vals I xs its rv hd
    rw [List.length_map] at hz
    refine sorted_seq (enc := fun b : VD => b.2) (R := fun v b => RelV b.1 v) hT g1 g2 g3 e er al so hz (fun b hb => by have := dp b hb; omega) fun out ol eo => ?_
    obtain ⟨ep, he⟩ := PyProof.Rows.sortedAll_at s.heap its out.toArray
    have hl : ((srtD xs).map (·.1)).length ≤ sizeLine := by
      unfold srtD
      rw [List.length_map, List.length_mergeSort]
      exact hz
    exact ⟨.ref _, upd H (s.heap.objs.size + 1) (.lst ((srtD xs).map (·.1))), I.laid (t' := s.toks) (fun _ _ => PyProof.Rows.sortedAll_old) (Nat.le_succ _) ⟨hl, out, ep, vals_each _ _ eo, he⟩, rfl, q _ (I.hok.fresh (Nat.le_succ _))⟩
  rcases hs with hs | hs
  · obtain ⟨its, rv, pl, hz⟩ := I.list hs
    obtain ⟨o, g1, g2, n, g3⟩ := pl.isList
    exact fin "list" its o n (.inl rfl) g1 g2 g3 rv hz
  · obtain ⟨its, rv, pl, hz⟩ := I.tuple hs
    obtain ⟨o, g1, g2, n, g3⟩ := pl
    exact fin "tuple" its o n (.inr rfl) g1 g2 g3 rv hz
end Onp
set_option maxHeartbeats 4000000
set_option autoImplicit false
/-! machines: letters, arrows, rows of them -/
namespace Onp
open PySem PySem.Spec PyProof.Rows L2
def smallL : List Nat := [97, 98, 99, 100, 101, 102, 103, 104, 105, 106, 107, 108, 109, 110, 111, 112, 113, 114, 115, 116, 117, 118, 119, 120, 121, 122]
theorem small_eq : ("abcdefghijklmnopqrstuvwxyz" : Str) = Sx smallL := by decide +kernel
theorem em_eq : ("" : Str) = Sx [] := by decide +kernel
theorem cut_to (xs : List Nat) (n : Nat) (h : n ≤ xs.length) : cutS (Sx xs) none (some (n : Int)) = Sx (xs.take n) := by
  unfold cutS
  rw [HT.sIx_none, HT.sIx_nat, sx_cps, sx_len, List.drop_zero, Nat.sub_zero, Nat.min_eq_left h]
  rfl
theorem cut_from (xs : List Nat) (n : Nat) : cutS (Sx xs) (some (n : Int)) none = Sx (xs.drop n) := by
  unfold cutS
  rw [HT.sIx_none, HT.sIx_nat, sx_cps, sx_len]
  by_cases h : n ≤ xs.length
  · rw [Nat.min_eq_left h, List.take_of_length_le (by rw [List.length_drop]; omega)]
    rfl
  · rw [Nat.min_eq_right (by omega), List.drop_length, List.drop_eq_nil_of_le (by omega), List.take_nil]
    rfl
/-! ### letters -/
def risB (xs : List Nat) : Bool := (xs.zip (xs.drop 1)).all fun p => decide (p.1 < p.2)
def smaB (xs : List Nat) : Bool := xs.all fun c => decide (c ∈ smallL)
def letB (xs : List Nat) : Bool := risB xs && (smaB xs && (decide (1 ≤ xs.length) && decide (xs.length ≤ 3)))
theorem one_lt (c d : Nat) : decide (([c] : List Nat) < [d]) = decide (c < d) := by
  by_cases h : c < d
  · rw [decide_eq_true h, decide_eq_true]
    exact List.Lex.rel h
  · rw [decide_eq_false h, decide_eq_false]
    intro z
    cases z with
    | rel z => exact h z
    | cons z => cases z
/-! ### arrows -/
abbrev Arw : Type := Int × Str × Str × Int
def akey (a : Arw) : List Key := [.inl a.1, .inr a.2.1, .inr a.2.2.1, .inl a.2.2.2]
def aV (a : Arw) : List V := [.int a.1, .str a.2.1, .str a.2.2.1, .int a.2.2.2]
theorem akey_V (a : Arw) : (akey a).map kV = aV a := rfl
theorem akey_inj {a b : Arw} (h : akey a = akey b) : a = b := by
  obtain ⟨a1, a2, a3, a4⟩ := a
  obtain ⟨b1, b2, b3, b4⟩ := b
  simp only [akey, List.cons.injEq, Sum.inl.injEq, Sum.inr.injEq, and_true] at h
  obtain ⟨rfl, rfl, rfl, rfl⟩ := h
  rfl
def adat (a : Arw) : PyData := .tuple [.int a.1, .str a.2.1, .str a.2.2.1, .int a.2.2.2]
abbrev AR : Type := Addr × Arw
def rfs (ps : List AR) : List V := ps.map fun p => V.ref p.1
def RowAt (K : PySem.W.Frag) (H : Hp) (ps : List AR) : Prop := ∀ p ∈ ps, SqT K H p.1 (aV p.2)
theorem sameT {K : PySem.W.Frag} {H H' : Hp} {a : Addr} {xs : List V} (e : Same H H') (h : SqT K H a xs) : SqT K H' a xs := by
  rcases h with (h | ⟨o, h⟩) | h
  · exact .inl (.inl (e _ _ h))
  · exact .inl (.inr ⟨o, e _ _ h⟩)
  · exact .inr h
theorem RowAt.same {K : PySem.W.Frag} {H H' : Hp} {ps : List AR} (r : RowAt K H ps) (s : Same H H') : RowAt K H' ps := fun p hp => sameT s (r p hp)
theorem dp_arw {K : PySem.W.Frag} {H : Hp} {p : AR} (h : SqT K H p.1 (aV p.2)) : Dp K H (.ref p.1) (adat p.2) := .tup h (.cons (.int _) (.cons (.str _) (.cons (.str _) (.cons (.int _) .nil))))
/-- whether a tuple of four is an arrow -/
def arrB (n : Int) (ls : List Nat) (a : Arw) : Bool := decide (0 ≤ a.1) && decide (a.1 < n) && (decide (0 ≤ a.2.2.2) && decide (a.2.2.2 < n)) && (ls.any fun c => decide (a.2.1 = Sx [c])) && decide (a.2.2.1 ∈ deedsL)
def rooB (n : Int) (r : Int) : Bool := decide (0 ≤ r) && decide (r < n)
/-! ### sorted -/
def sortA (as : List Arw) : List Arw := as.mergeSort (PySem.W.dataLe false adat)
def sortI (ns : List Int) : List Int := ns.mergeSort fun a b => decide (a ≤ b)
end Onp
set_option maxHeartbeats 8000000
set_option autoImplicit false
namespace Onp
open PySem PySem.Spec PyProof.Rows L2
abbrev sAreL : Stmt := topS 34
abbrev sIsL : Stmt := topS 35
abbrev sIsA : Stmt := topS 36
abbrev sNeedA : Stmt := topS 37
abbrev sNeedR : Stmt := topS 38
abbrev sStepsB : Stmt := topS 39
structure FnM (K : PySem.W.Frag) (mg : Str → Option Value) (f : Addr) (fd : FuncData) (x : Str) (st : Stmt) (ps : List Str) : Prop where
  F : Fun K x x st f fd
  b : Binds K fd ps []
  g : mg x = some (.ref f)
structure Bl1 (mg : Str → Option Value) : Prop where
  all : mg "all" = none
  zip : mg "zip" = none
  len : mg "len" = none
  set : mg "set" = none
structure CsM (K : PySem.W.Frag) (mg : Str → Option Value) (tD : Addr) : Prop where
  small : ∃ t, mg "SMALL_LETTERS" = some (.str "abcdefghijklmnopqrstuvwxyz" t)
  letters : ∃ t, mg "MOST_LETTERS" = some (.int 3 t)
  rooms : ∃ t, mg "MOST_ROOMS" = some (.int 8 t)
  arrows : ∃ t, mg "MOST_ARROWS" = some (.int 40 t)
  deeds : mg "DEEDS" = some (.ref tD)
  deedsT : ∀ H, SqT K H tD (deedsL.map V.str)
section
variable {P : Program} {w : World} {K : PySem.W.Frag} {mg : Str → Option Value} {base : Heap}
/-! ### are_letters -/
def NAl : List Str := ["text", "rising", "small", "one", "other", "sign"]
theorem scAreL : FnScope NAl ["text"] (defScope sAreL) := ⟨rfl, rfl, rfl, by decide +kernel, rfl, by decide +kernel, by decide +kernel⟩
def spAreL : Sp := fun vs H Q _ => ∃ xs : List Nat, vs = [.str (Sx xs)] ∧ xs.length ≤ 1000 ∧ ∀ H', Same H H' → Q (.bl (letB xs)) H'
theorem ok_areL {f tD : Addr} {fd : FuncData} {k : Nat} (F : Fun K "are_letters" "are_letters" sAreL f fd) (B : Bl1 mg) (C : CsM K mg tD) : FnOk P w K mg base CX0 (k + 1) f fd ["text"] spAreL := by
  obtain ⟨t1, gS⟩ := C.small
  obtain ⟨t2, gL⟩ := C.letters
  refine F.ok scAreL (fun vs H Q E h => ?_) (fun cdv A outer s H vs Q E hr h => ?_)
  · obtain ⟨xs, rfl, _⟩ := h
    rfl
  · obtain ⟨xs, rfl, hlen, q⟩ := h
    refine ⟨_, pss_cons (ps_set (i := 1) scAreL.nd rfl (.inl rfl) (pe_callB (cr_all rfl) (by rfl) B.all (by decide +kernel) (pa_cons (pe_lc (own := [("one", 3), ("other", 4)]) (g := gTup K 2 (gCons (gName 3) (gCons (gName 4) gNil))) (tt := tYes) rfl scAreL.nd
          (pi_zipS (by rfl) B.zip (pa_cons (pv 0) (pa_cons (pe_slice sl_str (pv 0) (po_some pe_int) po_none) pa_nil)))
          (blkOk_by (own := [("one", 3), ("other", 4)]) (N := NAl) (sc := defScope sAreL) (by decide +kernel))
          (fun _ _ _ _ _ => pg_tup rfl (pgs_cons (pg_name (i := 3) scAreL.nd rfl (.inl rfl)) (pgs_cons (pg_name (i := 4) scAreL.nd rfl (.inl rfl)) pgs_nil)))
          (fun _ _ _ _ _ => pts_nil) (fun _ _ _ _ _ => pe_cmpR op_lt_str (pv 3) (pv 4) (nomark _))) pa_nil)))
      (pss_cons (ps_set (i := 2) scAreL.nd rfl (.inl rfl) (pe_callB (cr_all rfl) (by rfl) B.all (by decide +kernel) (pa_cons (pe_lc (own := [("sign", 5)]) (g := gName 5) (tt := tYes) rfl scAreL.nd
          (pi_str (pv 0)) (blkOk_by (own := [("sign", 5)]) (N := NAl) (sc := defScope sAreL) (by decide +kernel))
          (fun _ _ _ _ _ => pg_name (i := 5) scAreL.nd rfl (.inl rfl)) (fun _ _ _ _ _ => pts_nil) (fun _ _ _ _ _ => pe_cmpR op_in_sign (pv 5) (pe_glob (v := .str "abcdefghijklmnopqrstuvwxyz") rfl gS ⟨_, rfl⟩) (by rfl))) pa_nil)))
      (pss_one (ps_ret (pe_and (pv 1) (pe_and (pv 2) (pe_one (pe_chain op_le op_le pe_int (pe_callB call_len_str (by rfl) B.len PySem.boot_len (pa_cons (pv 0) pa_nil)) (pe_glob (v := .int 3) rfl gL ⟨_, rfl⟩)))))))), ?_⟩
    have hbig : 5000 ≤ sizeLine := by decide
    refine ⟨_, rfl, _, rfl, 1, rfl, Sx xs, rfl, by rw [sx_len]; omega, ?_⟩
    rw [show (some (1 : Int)) = some ((1 : Nat) : Int) from rfl, cut_from]
    refine ⟨Sx xs, Sx (xs.drop 1), rfl, fun D nD => ?_⟩
    have hn : min (Sx xs).cps.size (Sx (xs.drop 1)).cps.size = (xs.zip (xs.drop 1)).length := by
      rw [List.length_zip]
      rfl
    refine lc_it (walk_zipS (Sx xs) (Sx (xs.drop 1))) (fun i H' => Same H H' ∧ H D = none ∧ H' D = some (.lst ((((xs.zip (xs.drop 1)).take i).map fun p => decide (p.1 < p.2)).map V.bl)))
      ⟨same_upd nD, nD, upd_same⟩ (fun _ _ _ _ => True.intro) ?_ ?_
    · rintro i v H1 H2 hi ⟨sm, fD, hD⟩ ⟨T, c, d, rfl, nT, rfl, hc, hd⟩
      have hc : xs[i]? = some c := by
        have : xs.toArray[i]? = some c := hc
        simpa using this
      have hd : (xs.drop 1)[i]? = some d := by
        have : (xs.drop 1).toArray[i]? = some d := hd
        simpa using this
      have ez : (xs.zip (xs.drop 1))[i]? = some (c, d) := by
        rw [List.getElem?_zip_eq_some]
        exact ⟨hc, hd⟩
      have et : (xs.zip (xs.drop 1)).take (i + 1) = (xs.zip (xs.drop 1)).take i ++ [(c, d)] := by rw [List.take_add_one, ez]; rfl
      have st : Same H1 (upd H1 T (.tup [sgn c, sgn d])) := same_upd nT
      refine ⟨T, _, rfl, SqT.of upd_same, rfl, _, _, rfl, _, _, rfl, rfl, rfl, ?_⟩
      unfold tYes
      dsimp only
      rw [if_pos rfl]
      refine ⟨_, rfl, _, rfl, ⟨#[c]⟩, ⟨#[d]⟩, rfl, rfl, _, st _ _ hD, ?_, fun b o e => ?_, fD, ?_⟩
      · rw [List.length_map, List.length_map, List.length_take]
        rw [hn] at hi
        rw [List.length_zip] at hi ⊢
        omega
      · rw [upd_ne (ne_of_none e fD)]
        exact st _ _ (sm _ _ e)
      · rw [upd_same, et, List.map_append, List.map_append]
        show some (HO.lst (_ ++ [V.bl (decide (([c] : List Nat) < [d]))])) = _
        rw [one_lt]
        rfl
    · rintro H1 ⟨s1, fD, hD⟩
      rw [hn, List.take_length] at hD
      refine ⟨D, _, rfl, SqL.of hD, ?_⟩
      have er : ((xs.zip (xs.drop 1)).map fun p => decide (p.1 < p.2)).all id = risB xs := by
        unfold risB
        rw [List.all_map]
        rfl
      rw [er]
      refine ⟨_, rfl, Sx xs, rfl, fun D2 nD2 => ?_⟩
      refine lc_it walk_str (fun i H' => Same H1 H' ∧ H1 D2 = none ∧ H' D2 = some (.lst (((xs.take i).map fun c => decide (c ∈ smallL)).map V.bl))) ⟨same_upd nD2, nD2, upd_same⟩ (fun _ _ _ _ => True.intro) ?_ ?_
      · rintro i v H2 H3 hi ⟨sm, fD2, hD2⟩ ⟨rfl, c, hc, rfl⟩
        have hc : xs[i]? = some c := by
          have : xs.toArray[i]? = some c := hc
          simpa using this
        have et : xs.take (i + 1) = xs.take i ++ [c] := by rw [List.take_add_one, hc]; rfl
        refine ⟨rfl, ?_⟩
        unfold tYes
        dsimp only
        rw [if_pos rfl]
        refine ⟨_, rfl, c, "abcdefghijklmnopqrstuvwxyz", rfl, rfl, _, hD2, ?_, fun b o e => ?_, fD2, ?_⟩
        · rw [List.length_map, List.length_map, List.length_take]
          omega
        · rw [upd_ne (ne_of_none e fD2)]
          exact sm _ _ e
        · rw [upd_same, et, List.map_append, List.map_append, small_eq, sx_cps]
          rfl
      · rintro H2 ⟨s2, fD2, hD2⟩
        have hsz : (Sx xs).cps.size = xs.length := sx_len xs
        rw [hsz, List.take_length] at hD2
        refine ⟨D2, _, rfl, SqL.of hD2, ?_⟩
        have es : (xs.map fun c => decide (c ∈ smallL)).all id = smaB xs := by
          unfold smaB
          rw [List.all_map]
          rfl
        rw [es]
        have q1 := q H2 (s1.trans s2)
        unfold letB at q1
        refine ⟨_, rfl, _, rfl, ?_⟩
        cases hr1 : risB xs with
        | false =>
          rw [hr1] at q1
          exact iteF q1
        | true =>
          rw [hr1, Bool.true_and] at q1
          refine iteT ⟨_, rfl, _, rfl, ?_⟩
          cases hs1 : smaB xs with
          | false =>
            rw [hs1] at q1
            exact iteF q1
          | true =>
            rw [hs1, Bool.true_and] at q1
            refine iteT ⟨_, rfl, Sx xs, rfl, by rw [sx_len]; omega, _, _, rfl, rfl, _, rfl, ?_⟩
            rw [sx_len]
            by_cases h1 : 1 ≤ xs.length
            · rw [decide_eq_true h1, Bool.true_and] at q1
              refine itT (by omega) ⟨_, _, rfl, rfl, ?_⟩
              have e : decide ((xs.length : Int) ≤ 3) = decide (xs.length ≤ 3) := by
                by_cases h : xs.length ≤ 3
                · rw [decide_eq_true h, decide_eq_true (by omega)]
                · rw [decide_eq_false h, decide_eq_false (by omega)]
              rw [← e] at q1
              exact q1
            · rw [decide_eq_false h1, Bool.false_and] at q1
              rw [decide_eq_false (by omega)]
              exact iteF q1
end
end Onp
set_option maxHeartbeats 8000000
set_option autoImplicit false
namespace Onp
open PySem PySem.Spec PyProof.Rows L2
theorem in_one (xs : List Nat) (c : Nat) : (!(Builtin.Str.occurrences (Sx xs) (Sx [c]) 0 (Sx xs).length 1).isEmpty) = decide (c ∈ xs) := PySem.StrLaws.found_one (Sx xs) c
theorem any_one (ls : List Nat) (c : Nat) : (ls.any fun d => decide (Sx [c] = Sx [d])) = decide (c ∈ ls) := by
  rw [Bool.eq_iff_iff, List.any_eq_true, decide_eq_true_eq]
  constructor
  · rintro ⟨d, h1, h2⟩
    have := sx_inj (of_decide_eq_true h2)
    rw [(List.cons.inj this).1]
    exact h1
  · exact fun h => ⟨c, h, decide_eq_true rfl⟩
theorem any_not (ls : List Nat) {z : Str} (h : z.length ≠ 1) : (ls.any fun d => decide (z = Sx [d])) = false := by
  rw [Bool.eq_false_iff]
  intro e
  obtain ⟨d, _, h2⟩ := List.any_eq_true.mp e
  rw [of_decide_eq_true h2] at h
  exact h rfl
theorem len_one {z : Str} (h : z.length = 1) : ∃ c, z = Sx [c] := by
  have h1 : z.cps.toList.length = 1 := by simpa [Str.length] using h
  obtain ⟨c, hc⟩ := List.length_eq_one_iff.mp h1
  exact ⟨c, by rw [sx_of z, hc]⟩
section
variable {P : Program} {w : World} {K : PySem.W.Frag} {mg : Str → Option Value} {base : Heap}
/-! ### is_letter -/
theorem scIsL : FnScope ["text", "letters"] ["text", "letters"] (defScope sIsL) := ⟨rfl, rfl, rfl, by decide +kernel, rfl, by decide +kernel, by decide +kernel⟩
def spIsL : Sp := fun vs H Q _ => ∃ (z : Str) (ls : List Nat), vs = [.str z, .str (Sx ls)] ∧ z.length ≤ sizeLine ∧ Q (.bl (ls.any fun c => decide (z = Sx [c]))) H
theorem ok_isL {f : Addr} {fd : FuncData} {k : Nat} (F : Fun K "is_letter" "is_letter" sIsL f fd) (B : Bl1 mg) : FnOk P w K mg base CX0 (k + 1) f fd ["text", "letters"] spIsL := by
  refine F.ok scIsL (fun vs H Q E h => ?_) (fun cdv A outer s H vs Q E hr h => ?_)
  · obtain ⟨z, ls, rfl, _⟩ := h
    rfl
  · obtain ⟨z, ls, rfl, hz, q⟩ := h
    refine ⟨_, pss_one (ps_ret (pe_and (pe_cmpR op_eq (pe_callB call_len_str (by rfl) B.len PySem.boot_len (pa_cons (pv 0) pa_nil)) pe_int (nomark _)) (pe_one (pe_cmpR op_in_str (pv 0) (pv 1) (by rfl))))), ?_⟩
    refine ⟨_, rfl, z, rfl, hz, rfl, _, rfl, ?_⟩
    by_cases h1 : z.length = 1
    · obtain ⟨c, rfl⟩ := len_one h1
      rw [any_one] at q
      refine itT (by rw [h1]; rfl) ⟨_, rfl, _, rfl, Sx [c], Sx ls, rfl, rfl, ?_⟩
      rw [in_one]
      exact q
    · rw [any_not ls h1] at q
      exact itF (fun e => h1 (Int.ofNat.inj (V.int.inj e))) q
/-! ### is_arrow -/
def NIa : List Str := ["arrow", "rooms", "letters", "start", "letter", "deed", "end"]
theorem scIsA : FnScope NIa ["arrow", "rooms", "letters"] (defScope sIsA) := ⟨rfl, rfl, rfl, by decide +kernel, rfl, by decide +kernel, by decide +kernel⟩
def spIsA (K : PySem.W.Frag) : Sp := fun vs H Q _ => ∃ (t : Addr) (a : Arw) (n : Int) (ls : List Nat), vs = [.ref t, .int n, .str (Sx ls)] ∧ SqT K H t (aV a) ∧ a.2.1.length ≤ sizeLine ∧ Q (.bl (arrB n ls a)) H
theorem ok_isA {f fL tD : Addr} {fd fdL : FuncData} {k : Nat} (F : Fun K "is_arrow" "is_arrow" sIsA f fd) (Il : FnM K mg fL fdL "is_letter" sIsL ["text", "letters"]) (B : Bl1 mg) (C : CsM K mg tD) : FnOk P w K mg base CX0 (k + 2) f fd ["arrow", "rooms", "letters"] (spIsA K) := by
  have GL : FnOk P w K mg base CX0 (k + 1) fL fdL ["text", "letters"] spIsL := ok_isL Il.F B
  refine F.ok scIsA (fun vs H Q E h => ?_) (fun cdv A outer s H vs Q E hr h => ?_)
  · obtain ⟨t, a, n, ls, rfl, _⟩ := h
    rfl
  · obtain ⟨t, ⟨a1, a2, a3, a4⟩, n, ls, rfl, hT, hz, q⟩ := h
    refine ⟨_, pss_cons (ps_asg (pv 0) (pg_tup rfl (pgs_cons (pg_name (i := 3) scIsA.nd rfl (.inl rfl)) (pgs_cons (pg_name (i := 4) scIsA.nd rfl (.inl rfl)) (pgs_cons (pg_name (i := 5) scIsA.nd rfl (.inl rfl)) (pgs_cons (pg_name (i := 6) scIsA.nd rfl (.inl rfl)) pgs_nil))))))
      (pss_one (ps_ret (pe_and (pe_chain op_le op_lt pe_int (pv 3) (pv 1)) (pe_and (pe_chain op_le op_lt pe_int (pv 6) (pv 1)) (pe_and (pe_call GL hr (by rfl) Il.g Il.F.kp Il.b .nil pass0 (pa_cons (pv 4) (pa_cons (pv 2) pa_nil)))
        (pe_one (pe_cmpR op_in_seq (pv 5) (pe_glob (v := .ref tD) rfl C.deeds rfl) (by rfl)))))))), ?_⟩
    refine ⟨_, rfl, t, _, rfl, hT, rfl, _, _, rfl, _, _, rfl, _, _, rfl, _, _, rfl, rfl, ?_⟩
    unfold arrB at q
    dsimp only at q
    refine ⟨_, rfl, _, _, rfl, rfl, _, rfl, ?_⟩
    by_cases h1 : 0 ≤ a1
    · rw [decide_eq_true h1, Bool.true_and] at q
      refine itT h1 ⟨_, rfl, _, _, rfl, rfl, _, rfl, ?_⟩
      by_cases h2 : a1 < n
      · rw [decide_eq_true h2, Bool.true_and] at q
        rw [decide_eq_true h2]
        refine iteT ⟨_, rfl, _, _, rfl, rfl, _, rfl, ?_⟩
        by_cases h3 : 0 ≤ a4
        · rw [decide_eq_true h3, Bool.true_and] at q
          refine itT h3 ⟨_, rfl, _, _, rfl, rfl, _, rfl, ?_⟩
          by_cases h4 : a4 < n
          · rw [decide_eq_true h4, Bool.true_and] at q
            rw [decide_eq_true h4]
            refine iteT ⟨_, rfl, _, rfl, a2, ls, rfl, hz, _, rfl, ?_⟩
            cases h5 : (ls.any fun c => decide (a2 = Sx [c])) with
            | true =>
              rw [h5, Bool.true_and] at q
              refine iteT ⟨_, rfl, tD, deedsL.map V.str, rfl, .inr (C.deedsT _), rfl, by decide +kernel, ?_⟩
              show Q (.bl (inV (.str a3) (deedsL.map V.str))) H
              rw [inV_strs]
              exact q
            | false =>
              rw [h5, Bool.false_and] at q
              exact iteF q
          · rw [decide_eq_false h4, Bool.false_and, Bool.false_and] at q
            rw [decide_eq_false h4]
            exact iteF q
        · rw [decide_eq_false h3, Bool.false_and, Bool.false_and, Bool.false_and] at q
          exact itF h3 ⟨_, rfl, iteF q⟩
      · rw [decide_eq_false h2, Bool.false_and, Bool.false_and, Bool.false_and] at q
        rw [decide_eq_false h2]
        exact iteF q
    · rw [decide_eq_false h1, Bool.false_and, Bool.false_and, Bool.false_and, Bool.false_and] at q
      exact itF h1 ⟨_, rfl, iteF q⟩
end
end Onp
set_option maxHeartbeats 8000000
set_option autoImplicit false
namespace Onp
open PySem PySem.Spec PyProof.Rows L2
theorem arrB_len {n : Int} {ls : List Nat} {a : Arw} (h : arrB n ls a = true) : a.2.1.length ≤ sizeLine := by
  unfold arrB at h
  simp only [Bool.and_eq_true] at h
  obtain ⟨d, _, e⟩ := List.any_eq_true.mp h.1.2
  rw [of_decide_eq_true e]
  exact (by decide : 1 ≤ sizeLine)
theorem nodup_map_inj {α β : Type} {f : α → β} (hf : ∀ a b, f a = f b → a = b) {l : List α} (h : l.Nodup) : (l.map f).Nodup := List.pairwise_map.mpr (h.imp fun n e => n (hf _ _ e))
section
variable {P : Program} {w : World} {K : PySem.W.Frag} {mg : Str → Option Value} {base : Heap}
/-! ### need_arrows, need_rooms, of what they let pass -/
def NNa : List Str := ["arrows", "rooms", "letters", "arrow"]
theorem scNeedA : FnScope NNa ["arrows", "rooms", "letters"] (defScope sNeedA) := ⟨rfl, rfl, rfl, by decide +kernel, rfl, by decide +kernel, by decide +kernel⟩
def spNeedA (K : PySem.W.Frag) : Sp := fun vs H Q _ => ∃ (l : Addr) (ps : List AR) (n : Int) (ls : List Nat), vs = [.ref l, .int n, .str (Sx ls)] ∧ (SqL K H l (rfs ps) ∨ SqT K H l (rfs ps)) ∧ RowAt K H ps ∧ (∀ p ∈ ps, arrB n ls p.2 = true) ∧ (ps.map (·.2)).Nodup ∧ ps.length ≤ 40 ∧
  ∀ H', Same H H' → Q .non H'
theorem ok_needA {f fA fL tD : Addr} {fd fdA fdL : FuncData} {k : Nat} (F : Fun K "need_arrows" "need_arrows" sNeedA f fd) (Ia : FnM K mg fA fdA "is_arrow" sIsA ["arrow", "rooms", "letters"]) (Il : FnM K mg fL fdL "is_letter" sIsL ["text", "letters"]) (B : Bl1 mg) (C : CsM K mg tD) :
    FnOk P w K mg base CX0 (k + 3) f fd ["arrows", "rooms", "letters"] (spNeedA K) := by
  have GA : FnOk P w K mg base CX0 (k + 2) fA fdA ["arrow", "rooms", "letters"] (spIsA K) := ok_isA Ia.F Il B C
  obtain ⟨t1, gA⟩ := C.arrows
  refine F.ok scNeedA (fun vs H Q E h => ?_) (fun cdv A outer s H vs Q E hr h => ?_)
  · obtain ⟨l, ps, n, ls, rfl, _⟩ := h
    rfl
  · obtain ⟨l, ps, n, ls, rfl, hl, hR, hA, hnd, hfew, q⟩ := h
    refine ⟨_, pss_cons (ps_if (PW.pt (pw_or (pt_not (pt_val (pe_callB (cr_all rfl) (by rfl) B.all (by decide +kernel) (pa_cons (pe_lc (own := [("arrow", 3)]) (g := gName 3) (tt := tYes) (te := tCall (spIsA K) [] E0 (tCons (tVar 3) (tCons (tVar 1) (tCons (tVar 2) tNil)))) rfl scNeedA.nd
          (pi_any (pv 0)) (blkOk_by (own := [("arrow", 3)]) (N := NNa) (sc := defScope sNeedA) (by decide +kernel)) (fun _ _ _ _ _ => pg_name (i := 3) scNeedA.nd rfl (.inl rfl)) (fun _ _ _ _ _ => pts_nil)
          (fun _ _ _ _ _ => pe_call GA hr (by rfl) Ia.g Ia.F.kp Ia.b .nil pass0 (pa_cons (pv 3) (pa_cons (pv 1) (pa_cons (pv 2) pa_nil))))) pa_nil))))
          (pw_or1 (pt_cmpR op_lt (pe_lenSetM rfl hr.units (by rfl) B.len (by rfl) B.set (pv 0)) (pe_callB call_len_seq (by rfl) B.len PySem.boot_len (pa_cons (pv 0) pa_nil)) (nomark _))))) pss_never pss_nil)
      (pss_one (ps_if (pt_cmpR op_gt (pe_callB call_len_seq (by rfl) B.len PySem.boot_len (pa_cons (pv 0) pa_nil)) (pe_glob (v := .int 40) rfl gA ⟨_, rfl⟩) (nomark _)) pss_never pss_nil)), ?_⟩
    refine ⟨_, rfl, l, rfs ps, rfl, hl, fun J G W hG D nD => ?_⟩
    have hlen : (rfs ps).length = ps.length := List.length_map ..
    have hbig : 5000 ≤ sizeLine := by decide
    refine lc_it W (fun i H' => Same H H' ∧ H D = none ∧ H' D = some (.lst ((List.replicate i true).map V.bl))) ⟨same_upd nD, nD, upd_same⟩ (fun i H' _ ⟨sm, _, _⟩ => hG H' sm) ?_ ?_
    · rintro i v H1 H2 hi ⟨sm, fD, hD⟩ ⟨rfl, hv⟩
      rw [hlen] at hi
      have hp : ps[i]? = some ps[i] := List.getElem?_eq_getElem hi
      have ev : v = .ref ps[i].1 := by
        unfold rfs at hv
        rw [List.getElem?_map, hp] at hv
        exact (Option.some.inj hv).symm
      subst ev
      refine ⟨rfl, ?_⟩
      unfold tYes
      dsimp only
      rw [if_pos rfl]
      refine ⟨_, rfl, _, rfl, _, rfl, ps[i].1, ps[i].2, n, ls, rfl, same_seqT sm (hR _ (List.getElem_mem hi)), arrB_len (hA _ (List.getElem_mem hi)), ?_⟩
      rw [hA _ (List.getElem_mem hi)]
      refine ⟨_, hD, ?_, fun b o e => ?_, fD, ?_⟩
      · rw [List.length_map, List.length_replicate]
        omega
      · rw [upd_ne (ne_of_none e fD)]
        exact sm _ _ e
      · rw [upd_same, List.replicate_succ', List.map_append]
        rfl
    · rintro H1 ⟨s1, fD, hD⟩
      refine ⟨D, _, rfl, SqL.of hD, _, rfl, ?_⟩
      have ea : (List.replicate (rfs ps).length true).all id = true := List.all_eq_true.mpr fun b hb => by rw [(List.mem_replicate.mp hb).2]; rfl
      rw [ea]
      refine iteF ⟨_, rfl, l, ps.map fun p => (p.1, akey p.2), rfl, ?_, ?_, by rw [List.length_map]; omega, fun m m1 m2 => ?_⟩
      · have e : ((ps.map fun p => (p.1, akey p.2)).map fun p => V.ref p.1) = rfs ps := by
          unfold rfs
          rw [List.map_map]
          rfl
        rw [e]
        exact hl.elim (fun h => .inl (s1.seq h)) (fun h => .inr (same_seqT s1 h))
      · intro p hp
        obtain ⟨a, ha, rfl⟩ := List.mem_map.mp hp
        exact same_seqT s1 (hR a ha)
      · have em : m = ps.length := by
          rw [List.length_map] at m1 m2
          have nd2 : ((ps.map fun p => (p.1, akey p.2)).map (·.2)).Nodup := by
            rw [List.map_map]
            have e : ((fun p : AK => p.2) ∘ fun p : AR => (p.1, akey p.2)) = akey ∘ (fun p : AR => p.2) := rfl
            rw [e, ← List.map_map]
            exact nodup_map_inj (fun _ _ => akey_inj) hnd
          by_cases h : m < ps.length
          · exact absurd nd2 (m2.mp h)
          · omega
        subst em
        refine ⟨_, rfl, l, rfs ps, rfl, hl.elim (fun h => .inl (s1.seq h)) (fun h => .inr (same_seqT s1 h)), _, _, rfl, rfl, _, rfl, itF (by rw [hlen]; omega) ?_⟩
        refine ⟨_, rfl, l, rfs ps, rfl, hl.elim (fun h => .inl (s1.seq h)) (fun h => .inr (same_seqT s1 h)), _, _, rfl, rfl, _, rfl, itF (by rw [hlen]; omega) (q H1 s1)⟩
def NNr : List Str := ["some", "rooms", "room"]
theorem scNeedR : FnScope NNr ["some", "rooms"] (defScope sNeedR) := ⟨rfl, rfl, rfl, by decide +kernel, rfl, by decide +kernel, by decide +kernel⟩
def spNeedR (K : PySem.W.Frag) : Sp := fun vs H Q _ => ∃ (l : Addr) (ns : List Int) (n : Int), vs = [.ref l, .int n] ∧ (SqL K H l (ns.map V.int) ∨ SqT K H l (ns.map V.int)) ∧ (∀ r ∈ ns, rooB n r = true) ∧ ns.Nodup ∧ ns.length ≤ 100 ∧ ∀ H', Same H H' → Q .non H'
theorem ok_needR {f : Addr} {fd : FuncData} {k : Nat} (F : Fun K "need_rooms" "need_rooms" sNeedR f fd) (B : Bl1 mg) : FnOk P w K mg base CX0 (k + 1) f fd ["some", "rooms"] (spNeedR K) := by
  refine F.ok scNeedR (fun vs H Q E h => ?_) (fun cdv A outer s H vs Q E hr h => ?_)
  · obtain ⟨l, ns, n, rfl, _⟩ := h
    rfl
  · obtain ⟨l, ns, n, rfl, hl, hA, hnd, hfew, q⟩ := h
    refine ⟨_, pss_one (ps_if (PW.pt (pw_or (pt_not (pt_val (pe_callB (cr_all rfl) (by rfl) B.all (by decide +kernel) (pa_cons (pe_lc (own := [("room", 2)]) (g := gName 2) (tt := tYes) rfl scNeedR.nd
          (pi_any (pv 0)) (blkOk_by (own := [("room", 2)]) (N := NNr) (sc := defScope sNeedR) (by decide +kernel)) (fun _ _ _ _ _ => pg_name (i := 2) scNeedR.nd rfl (.inl rfl)) (fun _ _ _ _ _ => pts_nil)
          (fun _ _ _ _ _ => pe_chain op_le op_lt pe_int (pv 2) (pv 1))) pa_nil))))
          (pw_or1 (pt_cmpR op_lt (pe_lenSetK rfl (by rfl) B.len (by rfl) B.set (pv 0)) (pe_callB call_len_seq (by rfl) B.len PySem.boot_len (pa_cons (pv 0) pa_nil)) (nomark _))))) pss_never pss_nil), ?_⟩
    have hlen : (ns.map V.int).length = ns.length := List.length_map ..
    have hbig : 5000 ≤ sizeLine := by decide
    refine ⟨_, rfl, l, ns.map V.int, rfl, hl, fun J G W hG D nD => ?_⟩
    refine lc_it W (fun i H' => Same H H' ∧ H D = none ∧ H' D = some (.lst ((List.replicate i true).map V.bl))) ⟨same_upd nD, nD, upd_same⟩ (fun i H' _ ⟨sm, _, _⟩ => hG H' sm) ?_ ?_
    · rintro i v H1 H2 hi ⟨sm, fD, hD⟩ ⟨rfl, hv⟩
      rw [hlen] at hi
      rw [List.getElem?_map, List.getElem?_eq_getElem hi] at hv
      obtain rfl := Option.some.inj hv
      have hr1 := hA _ (List.getElem_mem hi)
      unfold rooB at hr1
      rw [Bool.and_eq_true, decide_eq_true_eq, decide_eq_true_eq] at hr1
      refine ⟨rfl, ?_⟩
      unfold tYes
      dsimp only
      rw [if_pos rfl]
      have fin : ∃ acc, H2 D = some (.lst acc) ∧ acc.length < sizeLine ∧ Same H (upd H2 D (.lst (acc ++ [V.bl true]))) ∧ H D = none ∧ (upd H2 D (.lst (acc ++ [V.bl true]))) D = some (.lst ((List.replicate (i + 1) true).map V.bl)) := by
        refine ⟨_, hD, ?_, fun b o e => ?_, fD, ?_⟩
        · rw [List.length_map, List.length_replicate]
          omega
        · rw [upd_ne (ne_of_none e fD)]
          exact sm _ _ e
        · rw [upd_same, List.replicate_succ', List.map_append]
          rfl
      refine ⟨_, rfl, _, _, rfl, rfl, _, rfl, itT hr1.1 ⟨_, rfl, _, _, rfl, rfl, ?_⟩⟩
      show ∃ acc, _ ∧ _ ∧ Same H (upd H2 D (.lst (acc ++ [V.bl (decide (ns[i] < n))]))) ∧ _ ∧ (upd H2 D (.lst (acc ++ [V.bl (decide (ns[i] < n))]))) D = _
      rw [decide_eq_true hr1.2]
      exact fin
    · rintro H1 ⟨s1, fD, hD⟩
      refine ⟨D, _, rfl, SqL.of hD, _, rfl, ?_⟩
      have ea : (List.replicate (ns.map V.int).length true).all id = true := List.all_eq_true.mpr fun b hb => by rw [(List.mem_replicate.mp hb).2]; rfl
      rw [ea]
      refine iteF ⟨_, rfl, l, ns.map Sum.inl, rfl, ?_, by rw [List.length_map]; omega, fun m m1 m2 => ?_⟩
      · have e : (ns.map Sum.inl).map kV = ns.map V.int := by
          rw [List.map_map]
          rfl
        rw [e]
        exact hl.elim (fun h => .inl (s1.seq h)) (fun h => .inr (same_seqT s1 h))
      · have em : m = ns.length := by
          rw [List.length_map] at m1 m2
          by_cases h : m < ns.length
          · exact absurd (nodup_map_inj (fun _ _ e => Sum.inl.inj e) hnd) (m2.mp h)
          · omega
        subst em
        exact ⟨_, rfl, l, ns.map V.int, rfl, hl.elim (fun h => .inl (s1.seq h)) (fun h => .inr (same_seqT s1 h)), _, _, rfl, rfl, _, rfl, itF (by rw [hlen]; omega) (q H1 s1)⟩
end
end Onp
set_option maxHeartbeats 4000000
set_option autoImplicit false
/-! d.setdefault(key, z), the key a tuple of ints and texts -/
namespace Onp
open PySem PySem.Spec PyProof.Rows L2
section
variable {X : Cx} {pins : List (Addr × Obj)} {σ : L2.St} {H : Hp} {s : Shared} {a b : Addr} {r : Value} {d : V} {k : List L2.Key} {A : Around} {E : Value → Shared → Prop}
theorem d_setdT {kvs : List (List L2.Key × V)} {Q : Value → Shared → Prop} (hu : A.units + 1 < cLine) (I : Inv X pins σ H s) (e : H a = some (.dT kvs)) (eb : H b = some (.tup (k.map kV))) (rd : RelV d r) (hl : kvs.length < sizeLine)
    (h1 : ∀ v, valV kvs k = some v → ∀ (w' : Value) (s' : Shared), Inv X pins σ H s' → RelV v w' → Q w' s') (h2 : valV kvs k = none → ∀ (w' : Value) (s' : Shared), Inv X pins σ (upd H a (.dT (putK kvs k d))) s' → RelV d w' → Q w' s') :
    wpAny (model X.prog X.w) A (call (.builtin "dict.setdefault") [.ref a, .ref b, r]) Q E s := by
  obtain ⟨z, hd, xs, rel, dd⟩ := dt_of I.hok e
  have hz : xs.length ≤ sizeLine := by rw [← Paired.length rel]; exact z
  have rk := rel.val k
  refine call_setdefault_heap (hsz := hz) (tupleKind_room_in1 hu) (key_of I.hok eb) hd dd (fun p hp => ?_) fun hn h' dd' hs => ?_
  · rw [hp] at rk
    cases ev : valV kvs k with
    | none =>
      rw [ev] at rk
      exact (show False from rk).elim
    | some v0 =>
      rw [ev] at rk
      exact h1 v0 ev _ _ (I.tok _) rk
  · rw [hn] at rk
    cases ev : valV kvs k with
    | some v0 =>
      rw [ev] at rk
      exact (show False from rk).elim
    | none =>
      have hl2 : (putK kvs k d).length ≤ sizeLine := by
        have := length_putK kvs k d
        omega
      obtain ⟨q, es, ep, hq, c2, c3, c4, _, c5⟩ := dd'
      refine h2 ev _ _ (d_write I (by rw [e]; exact True.intro) hs ⟨q, hq⟩ ⟨hl2, hd, _, (rel.put k eb rd).keeps fun c ys ec => ?_, q, es, ep, hq, c2, c3, c4, c5⟩) rd
      rw [upd_ne (ne_of ec e (fun z => nomatch z))]
      exact ec
end
def tDSetT (td ty tx : TE) : TE := fun σ H Q => td σ H fun x H1 => ∃ a, x = .ref a ∧ (∃ kvs, H1 a = some (.dT kvs)) ∧ ty σ H1 fun y H2 => tx σ H2 fun z H3 => ∃ (kvs : List (List L2.Key × V)) (k : List L2.Key) (b : Addr), H3 a = some (.dT kvs) ∧ y = .ref b ∧ H3 b = some (.tup (k.map kV)) ∧ kvs.length < sizeLine ∧
  (∀ v, valV kvs k = some v → Q v H3) ∧ (valV kvs k = none → Q z (upd H3 a (.dT (putK kvs k z))))
section
variable {X : Cx} {o e f : Expr} {td ty tx : TE} {apos cpos : Pos}
theorem pe_dsetT (hu : X.A.units + 64 < cLine) (ho : PE X o td) (he : PE X e ty) (hf : PE X f tx) (m : M2 X o "setdefault" apos e f cpos) : PE X (.Call (.Attribute o "setdefault" apos) [e, f] [] cpos) (tDSetT td ty tx) := by
  refine ⟨fun pins s σ H Q I h => ?_⟩
  refine wpAny_Call_method m.base m.few m.line PySem.F.plainAttrs_dict PySem.F.slot_dict_setdefault PySem.F.type_dict_setdefault (thn (ho.run pins s σ H _ I h) fun u s1 ⟨x, H1, I1, rx, a, ex, ⟨kv0, d⟩, q1⟩ => ?_)
  subst ex
  obtain rfl : u = Value.ref a := rx
  obtain ⟨t1, t2, _⟩ := isD_at I1 (.inr ⟨kv0, .inl d⟩)
  refine ⟨t1, t2, ?_⟩
  rw [m.trees]
  refine Calls.callWith_builtin rfl (Calls.evalArgs_plain (Calls.spliced_cons (thn (he.run pins s1 σ H1 _ I1 q1) fun iv s2 ⟨y, H2, I2, ry, q2⟩ =>
    Calls.spliced_cons (thn (hf.run pins s2 σ H2 _ I2 q2) fun fv s3 ⟨z, H3, I3, rz, kvs, k, b, ea, ey, eb, hl, q3, q4⟩ => Calls.spliced_nil ?_))))
  subst ey
  obtain rfl : iv = Value.ref b := ry
  exact d_setdT (by omega) I3 ea eb rz hl (fun v hv w' s4 I4 rw' => ⟨v, _, I4, rw', q3 v hv⟩) fun hn w' s4 I4 rw' => ⟨z, _, I4, rw', q4 hn⟩
end
end Onp
set_option maxHeartbeats 4000000
set_option autoImplicit false
namespace Onp
open PySem PySem.Spec PyProof.Rows L2
/-! ### the steps of each room and letter -/
def stepsOf (as : List Arw) (r : Int) (l : Str) : List (Str × Int) := (as.filter fun a => decide (a.1 = r) && decide (a.2.1 = l)).map fun a => (a.2.2.1, a.2.2.2)
theorem stepsOf_snoc (as : List Arw) (a : Arw) (r : Int) (l : Str) : stepsOf (as ++ [a]) r l = stepsOf as r l ++ (if (decide (a.1 = r) && decide (a.2.1 = l)) = true then [(a.2.2.1, a.2.2.2)] else []) := by
  unfold stepsOf
  rw [List.filter_append, List.map_append]
  congr 1
  by_cases h : (decide (a.1 = r) && decide (a.2.1 = l)) = true
  · rw [if_pos h, List.filter_cons_of_pos (p := fun a : Arw => decide (a.1 = r) && decide (a.2.1 = l)) h]
    rfl
  · rw [if_neg h, List.filter_cons_of_neg (p := fun a : Arw => decide (a.1 = r) && decide (a.2.1 = l)) h]
    rfl
abbrev ST : Type := Addr × Str × Int
def skey (r : Int) (l : Str) : List L2.Key := [.inl r, .inr l]
theorem skey_inj {r r' : Int} {l l' : Str} (h : skey r l = skey r' l') : r = r' ∧ l = l' := by
  simp only [skey, List.cons.injEq, Sum.inl.injEq, Sum.inr.injEq, and_true] at h
  exact h
/-- one key's list, new since H0 -/
structure OneS (H0 H : Hp) (at_ : Addr) (ys : List (Str × Int)) : Prop where
  fr : H0 at_ = none
  ex : ∃ xs : List ST, H at_ = some (.lst (xs.map fun x => V.ref x.1)) ∧ (∀ x ∈ xs, H x.1 = some (.tup [.str x.2.1, .int x.2.2])) ∧ xs.map (·.2) = ys
structure StepsK (H0 H : Hp) (D : Addr) (as : List Arw) (kvs : List (List L2.Key × V)) : Prop where
  at' : H D = some (.dT kvs)
  len : kvs.length ≤ as.length
  no : ∀ r l, stepsOf as r l = [] → valV kvs (skey r l) = none
  yes : ∀ r l, stepsOf as r l ≠ [] → ∃ a, valV kvs (skey r l) = some (.ref a) ∧ OneS H0 H a (stepsOf as r l)
  inj : ∀ r l r' l' a, valV kvs (skey r l) = some (.ref a) → valV kvs (skey r' l') = some (.ref a) → r = r' ∧ l = l'
def StepsAt (H0 H : Hp) (D : Addr) (as : List Arw) : Prop := ∃ kvs, StepsK H0 H D as kvs
theorem cond_iff {r r' : Int} {l l' : Str} : (decide (r' = r) && decide (l' = l)) = true ↔ r' = r ∧ l' = l := by
  rw [Bool.and_eq_true, decide_eq_true_eq, decide_eq_true_eq]
/-- a step more for a key that is there -/
theorem stepOld {H H2 H' : Hp} {D at_ p3 : Addr} {as : List Arw} {kvs : List (List L2.Key × V)} {a1 a4 : Int} {a2 a3 : Str} {xs : List ST} (S : StepsK H H2 D as kvs) (hv : valV kvs (skey a1 a2) = some (.ref at_)) (fr : H at_ = none) (x1 : H2 at_ = some (.lst (xs.map fun x => V.ref x.1))) (x2 : ∀ x ∈ xs, H2 x.1 = some (.tup [.str x.2.1, .int x.2.2])) (x3 : xs.map (·.2) = stepsOf as a1 a2)
    (kp : ∀ b o, b ≠ at_ → H2 b = some o → H' b = some o) (n1 : H' at_ = some (.lst ((xs.map fun x => V.ref x.1) ++ [.ref p3]))) (n3 : H' p3 = some (.tup [.str a3, .int a4])) : StepsAt H H' D (as ++ [(a1, a2, a3, a4)]) := by
  have hx : ∀ {b : Addr} {ys : List V}, H2 b = some (.tup ys) → H' b = some (.tup ys) := fun e => kp _ _ (ne_of e x1 (fun z => nomatch z)) e
  refine ⟨kvs, kp _ _ (ne_of S.at' x1 (fun z => nomatch z)) S.at', by rw [List.length_append]; have := S.len; omega, fun r l h => ?_, fun r l h => ?_, S.inj⟩
  · rw [stepsOf_snoc] at h
    exact S.no r l (List.append_eq_nil_iff.mp h).1
  · rw [stepsOf_snoc] at h ⊢
    by_cases c : a1 = r ∧ a2 = l
    · obtain ⟨rfl, rfl⟩ := c
      rw [if_pos (cond_iff.mpr ⟨rfl, rfl⟩)]
      refine ⟨at_, hv, fr, xs ++ [(p3, a3, a4)], by rw [n1, List.map_append]; rfl, fun x hx' => ?_, by rw [List.map_append, x3]; rfl⟩
      rcases List.mem_append.mp hx' with y | y
      · exact hx (x2 x y)
      · rw [List.mem_singleton.mp y]
        exact n3
    · rw [if_neg (fun z => c (cond_iff.mp z)), List.append_nil] at h ⊢
      obtain ⟨a, ea, O⟩ := S.yes r l h
      obtain ⟨ys, y1, y2, y3⟩ := O.ex
      have ne : a ≠ at_ := fun z => by
        rw [z] at ea
        exact c (S.inj _ _ _ _ _ hv ea)
      exact ⟨a, ea, O.fr, ys, kp _ _ ne y1, fun x hx' => hx (y2 x hx'), y3⟩
/-- a step for a new key -/
theorem stepNew {H H2 H' : Hp} {D p2 p3 : Addr} {as : List Arw} {kvs : List (List L2.Key × V)} {a1 a4 : Int} {a2 a3 : Str} (S : StepsK H H2 D as kvs) (hv : valV kvs (skey a1 a2) = none) (fr : H p2 = none) (fr2 : H2 p2 = none)
    (kp : ∀ b o, b ≠ D → H2 b = some o → H' b = some o) (n0 : H' D = some (.dT (putK kvs (skey a1 a2) (.ref p2)))) (n1 : H' p2 = some (.lst [.ref p3])) (n3 : H' p3 = some (.tup [.str a3, .int a4])) : StepsAt H H' D (as ++ [(a1, a2, a3, a4)]) := by
  have e0 : stepsOf as a1 a2 = [] := by
    by_cases z : stepsOf as a1 a2 = []
    · exact z
    · obtain ⟨a, ea, _⟩ := S.yes a1 a2 z
      rw [hv] at ea
      cases ea
  have hx : ∀ {b : Addr} {ys : List V}, H2 b = some (.tup ys) → H' b = some (.tup ys) := fun e => kp _ _ (ne_of e S.at' (fun z => nomatch z)) e
  have hl : ∀ {b : Addr} {ys : List V}, H2 b = some (.lst ys) → H' b = some (.lst ys) := fun e => kp _ _ (ne_of e S.at' (fun z => nomatch z)) e
  have np : ∀ {r : Int} {l : Str} {a : Addr}, valV kvs (skey r l) = some (.ref a) → a ≠ p2 := fun {r l a} ea z => by
    have h : stepsOf as r l ≠ [] := fun y => by
      rw [S.no r l y] at ea
      cases ea
    obtain ⟨a', ea', O⟩ := S.yes r l h
    rw [ea] at ea'
    cases ea'
    obtain ⟨ys, y1, _⟩ := O.ex
    rw [z, fr2] at y1
    cases y1
  have vp : ∀ r l, valV (putK kvs (skey a1 a2) (.ref p2)) (skey r l) = if skey r l = skey a1 a2 then some (.ref p2) else valV kvs (skey r l) := fun r l => valV_put kvs _ _ _
  refine ⟨_, n0, ?_, fun r l h => ?_, fun r l h => ?_, fun r l r' l' a h1 h2 => ?_⟩
  · rw [List.length_append]
    have := S.len
    have := length_putK kvs (skey a1 a2) (V.ref p2)
    simp only [List.length_cons, List.length_nil]
    omega
  · rw [stepsOf_snoc] at h
    have h3 := List.append_eq_nil_iff.mp h
    rw [vp, if_neg (fun z => ?_)]
    · exact S.no r l h3.1
    · obtain ⟨rfl, rfl⟩ := skey_inj z
      rw [if_pos (cond_iff.mpr ⟨rfl, rfl⟩)] at h3
      exact absurd h3.2 (by simp)
  · rw [stepsOf_snoc] at h ⊢
    rw [vp]
    by_cases c : a1 = r ∧ a2 = l
    · obtain ⟨rfl, rfl⟩ := c
      rw [if_pos rfl, if_pos (cond_iff.mpr ⟨rfl, rfl⟩), e0]
      refine ⟨p2, rfl, fr, [(p3, a3, a4)], n1, fun x hx' => ?_, rfl⟩
      rw [List.mem_singleton.mp hx']
      exact n3
    · rw [if_neg (fun z => c (cond_iff.mp z)), List.append_nil] at h ⊢
      rw [if_neg (fun z => c ⟨(skey_inj z).1.symm, (skey_inj z).2.symm⟩)]
      obtain ⟨a, ea, O⟩ := S.yes r l h
      obtain ⟨ys, y1, y2, y3⟩ := O.ex
      exact ⟨a, ea, O.fr, ys, hl y1, fun x hx' => hx (y2 x hx'), y3⟩
  · rw [vp] at h1 h2
    by_cases c1 : skey r l = skey a1 a2
    · by_cases c2 : skey r' l' = skey a1 a2
      · exact skey_inj (c1.trans c2.symm)
      · rw [if_pos c1] at h1
        rw [if_neg c2] at h2
        cases h1
        exact absurd rfl (np h2)
    · by_cases c2 : skey r' l' = skey a1 a2
      · rw [if_neg c1] at h1
        rw [if_pos c2] at h2
        cases h2
        exact absurd rfl (np h1)
      · rw [if_neg c1] at h1
        rw [if_neg c2] at h2
        exact S.inj _ _ _ _ _ h1 h2
end Onp
set_option maxHeartbeats 8000000
set_option autoImplicit false
namespace Onp
open PySem PySem.Spec PyProof.Rows L2
section
variable {P : Program} {w : World} {K : PySem.W.Frag} {mg : Str → Option Value} {base : Heap}
def NSb : List Str := ["arrows", "found", "start", "letter", "deed", "end"]
theorem scStepsB : FnScope NSb ["arrows"] (defScope sStepsB) := ⟨rfl, rfl, rfl, by decide +kernel, rfl, by decide +kernel, by decide +kernel⟩
def spStepsB (K : PySem.W.Frag) : Sp := fun vs H Q _ => ∃ (t : Addr) (ps : List AR), vs = [.ref t] ∧ SqT K H t (rfs ps) ∧ RowAt K H ps ∧ ps.length ≤ 100 ∧ ∀ D H', H D = none → Same H H' → StepsAt H H' D (ps.map (·.2)) → Q (.ref D) H'
theorem ok_stepsB {f : Addr} {fd : FuncData} {k : Nat} (F : Fun K "steps_by_start" "steps_by_start" sStepsB f fd) : FnOk P w K mg base CX0 (k + 1) f fd ["arrows"] (spStepsB K) := by
  refine F.ok scStepsB (fun vs H Q E h => ?_) (fun cdv A outer s H vs Q E hr h => ?_)
  · obtain ⟨t, ps, rfl, _⟩ := h
    rfl
  · obtain ⟨t, ps, rfl, hT, hR, hfew, q⟩ := h
    have hu : (cxOf CX0 P w K mg base NSb "steps_by_start" (defScope sStepsB) f cdv A outer s H E).A.units + 64 < cLine := hr.units
    refine ⟨_, pss_cons (ps_set (i := 1) scStepsB.nd rfl (.inl rfl) pe_dnewT)
      (pss_cons (ps_for PassesOwn.never rfl (pi_tup (pv 0)) (pg_tup rfl (pgs_cons (pg_name (i := 2) scStepsB.nd rfl (.inl rfl)) (pgs_cons (pg_name (i := 3) scStepsB.nd rfl (.inl rfl)) (pgs_cons (pg_name (i := 4) scStepsB.nd rfl (.inl rfl)) (pgs_cons (pg_name (i := 5) scStepsB.nd rfl (.inl rfl)) pgs_nil)))))
        (pss_one (ps_expr (pe_bm PySem.F.plainAttrs_list PySem.F.slot_list_append PySem.F.type_list_append mt_append (pe_dsetT hu (pv 1) (pe_tup (pa_cons (pv 2) (pa_cons (pv 3) pa_nil))) (pe_lst pa_nil) ⟨rfl, rfl, rfl, rfl⟩) (pa_cons (pe_tup (pa_cons (pv 4) (pa_cons (pv 5) pa_nil))) pa_nil)))))
      (pss_one (ps_ret (pv 1)))), ?_⟩
    refine fun D nD => ?_
    have hbig : 5000 ≤ sizeLine := by decide
    have hlen : (rfs ps).length = ps.length := List.length_map ..
    refine ⟨_, rfl, t, rfl, ⟨_, same_seqT (same_upd nD) hT⟩, for_it (walk_tup (xs := rfs ps)) (fun i σ H' => ∃ y2 y3 y4 y5 : Option V, σ = [some (.ref t), some (.ref D), y2, y3, y4, y5] ∧ Same H H' ∧ StepsAt H H' D ((ps.map (·.2)).take i))
      ⟨none, none, none, none, rfl, same_upd nD, [], upd_same, Nat.le_refl _, fun _ _ _ => rfl, fun r l h => absurd rfl h, fun r l r' l' a h => nomatch h⟩ (fun i σ H' _ ⟨_, _, _, _, _, sm, _⟩ => same_seqT sm hT) ?_ ?_⟩
    · rintro i v σ H1 H2 hi ⟨y2, y3, y4, y5, rfl, sm, ⟨kvs, S⟩⟩ ⟨rfl, hv⟩
      have hD := S.at'
      have hkl := S.len
      rw [hlen] at hi
      have hp : ps[i]? = some ps[i] := List.getElem?_eq_getElem hi
      have hT1 := hR _ (List.getElem_mem hi)
      have ev : v = .ref ps[i].1 := by
        unfold rfs at hv
        rw [List.getElem?_map, hp] at hv
        exact (Option.some.inj hv).symm
      subst ev
      have et : (ps.map (·.2)).take (i + 1) = (ps.map (·.2)).take i ++ [ps[i].2] := by
        rw [List.take_add_one, List.getElem?_map, hp]
        rfl
      have hkl' : kvs.length ≤ i := by
        rw [List.length_take] at hkl
        omega
      generalize ps[i] = p at hT1 et
      obtain ⟨pa, a1, a2, a3, a4⟩ := p
      refine ⟨pa, _, rfl, same_seqT sm hT1, rfl, _, _, rfl, _, _, rfl, _, _, rfl, _, _, rfl, rfl, ?_⟩
      refine ⟨_, rfl, D, rfl, ⟨_, hD⟩, _, rfl, _, rfl, (by decide : 2 ≤ sizeLine), fun p1 n1 => ⟨(by decide : 0 ≤ sizeLine), fun p2 n2 => ?_⟩⟩
      have e1 := same_upd (o := .tup [.int a1, .str a2]) n1
      have e2 := e1.trans (same_upd (o := .lst []) n2)
      have g1 : (upd (upd H2 p1 (.tup [.int a1, .str a2])) p2 (.lst [])) p1 = some (.tup ((skey a1 a2).map kV)) := Eq.trans (upd_ne (ne_of_none upd_same n2)) upd_same
      refine ⟨kvs, skey a1 a2, p1, e2 _ _ hD, rfl, g1, by omega, ?_, ?_⟩
      · intro v hval
        have hne : stepsOf ((ps.map (·.2)).take i) a1 a2 ≠ [] := fun z => by
          rw [S.no a1 a2 z] at hval
          cases hval
        obtain ⟨at_, ea, O⟩ := S.yes a1 a2 hne
        rw [hval] at ea
        obtain rfl := Option.some.inj ea
        obtain ⟨xs, x1, x2, x3⟩ := O.ex
        refine ⟨.inl ⟨rfl, _, SqL.of (e2 _ _ x1)⟩, _, rfl, _, rfl, (by decide : 2 ≤ sizeLine), fun p3 n3 => ?_⟩
        have e3 := e2.trans (same_upd (o := .tup [.str a3, .int a4]) n3)
        have nat3 : p3 ≠ at_ := (ne_of_none (e2 _ _ x1) n3).symm
        have hxl : xs.length ≤ i := by
          have z := congrArg List.length x3
          have z2 : (stepsOf ((ps.map (·.2)).take i) a1 a2).length ≤ ((ps.map (·.2)).take i).length := by
            unfold stepsOf
            rw [List.length_map]
            exact List.length_filter_le _ _
          rw [List.length_map] at z
          rw [List.length_take] at z2
          omega
        refine ⟨at_, _, _, rfl, rfl, e3 _ _ x1, by rw [List.length_map]; omega, _, _, _, _, rfl, fun b o e => ?_, ?_⟩
        · rw [upd_ne (fun z => by rw [z, O.fr] at e; cases e)]
          exact e3 _ _ (sm _ _ e)
        · rw [et]
          refine stepOld S hval O.fr x1 x2 x3 (fun b o n e => ?_) upd_same ?_
          · rw [upd_ne n]
            exact e3 _ _ e
          · rw [upd_ne nat3]
            exact upd_same
      · intro hval
        have n2' : H2 p2 = none := e1.free n2
        have nD2 : p2 ≠ D := (ne_of_none (e1 _ _ hD) n2).symm
        refine ⟨.inl ⟨rfl, _, SqL.of ((upd_ne nD2).trans upd_same)⟩, _, rfl, _, rfl, (by decide : 2 ≤ sizeLine), fun p3 n3 => ?_⟩
        have hp2 : (upd (upd (upd H2 p1 (.tup [.int a1, .str a2])) p2 (.lst [])) D (.dT (putK kvs (skey a1 a2) (.ref p2)))) p2 = some (.lst []) := (upd_ne nD2).trans upd_same
        have hDD : (upd (upd (upd H2 p1 (.tup [.int a1, .str a2])) p2 (.lst [])) D (.dT (putK kvs (skey a1 a2) (.ref p2)))) D = some (.dT (putK kvs (skey a1 a2) (.ref p2))) := upd_same
        have keep : ∀ b o, b ≠ D → H2 b = some o → (upd (upd (upd H2 p1 (.tup [.int a1, .str a2])) p2 (.lst [])) D (.dT (putK kvs (skey a1 a2) (.ref p2)))) b = some o := fun b o n e => by
          rw [upd_ne n]
          exact e2 _ _ e
        generalize upd (upd (upd H2 p1 (.tup [.int a1, .str a2])) p2 (.lst [])) D (.dT (putK kvs (skey a1 a2) (.ref p2))) = H3 at hp2 hDD keep n3
        have e3 := same_upd (o := .tup [.str a3, .int a4]) n3
        have n32 : p3 ≠ p2 := (ne_of_none hp2 n3).symm
        have nDp : D ≠ p2 := nD2.symm
        refine ⟨p2, _, _, rfl, rfl, e3 _ _ hp2, (by decide : 0 < sizeLine), _, _, _, _, rfl, fun b o e => ?_, ?_⟩
        · have b1 : b ≠ p2 := fun z => by rw [z, sm.free n2'] at e; cases e
          have b2 : b ≠ D := fun z => by rw [z, nD] at e; cases e
          rw [upd_ne b1]
          exact e3 _ _ (keep _ _ b2 (sm _ _ e))
        · rw [et]
          refine stepNew (p2 := p2) (p3 := p3) S hval (sm.free n2') n2' (fun b o n e => ?_) ?_ upd_same ?_
          · have b1 : b ≠ p2 := fun z => by rw [z, n2'] at e; cases e
            rw [upd_ne b1]
            exact e3 _ _ (keep _ _ n e)
          · rw [upd_ne nDp]
            exact e3 _ _ hDD
          · rw [upd_ne n32]
            exact upd_same
    · rintro σ H1 ⟨y2, y3, y4, y5, rfl, sm, S⟩
      rw [hlen, List.take_of_length_le (by rw [List.length_map]; exact Nat.le_refl _)] at S
      exact ⟨_, rfl, q D H1 nD sm S⟩
end
end Onp
set_option maxHeartbeats 4000000
set_option autoImplicit false
/-! a machine as an object -/
namespace Onp
open PySem PySem.Spec PyProof.Rows L2
/-! ### sorted rows -/
def vdA (p : AR) : VD := (.ref p.1, adat p.2)
def vdI (r : Int) : VD := (.int r, .int r)
def srtR (ps : List AR) : List AR := ps.mergeSort fun p q => PySem.W.dataLe false adat p.2 q.2
theorem srtD_A (ps : List AR) : srtD (ps.map vdA) = (srtR ps).map vdA := (PySem.W.sort_maps vdA (fun _ _ _ _ => rfl)).symm
theorem srtR_as (ps : List AR) : (srtR ps).map (·.2) = sortA (ps.map (·.2)) := PySem.W.sort_maps (fun p : AR => p.2) (fun _ _ _ _ => rfl)
theorem srtR_mem {ps : List AR} {p : AR} : p ∈ srtR ps ↔ p ∈ ps := List.mem_mergeSort
theorem srtR_len (ps : List AR) : (srtR ps).length = ps.length := List.length_mergeSort ..
theorem srtD_I (ns : List Int) : srtD (ns.map vdI) = (sortI ns).map vdI := by
  refine (PySem.W.sort_maps vdI (fun a _ b _ => ?_)).symm
  have e := congrFun (congrFun (PySem.W.dataLe_int (fun b : Int => b)) a) b
  exact e.symm
theorem al_I (ns : List Int) : PySem.W.AllAlike ((ns.map vdI).map (·.2)) := fun d hd d' hd' => by
  obtain ⟨p, hp, rfl⟩ := List.mem_map.mp hd
  obtain ⟨r, _, rfl⟩ := List.mem_map.mp hp
  obtain ⟨p', hp', rfl⟩ := List.mem_map.mp hd'
  obtain ⟨r', _, rfl⟩ := List.mem_map.mp hp'
  rfl
theorem so_I (ns : List Int) : PySem.W.Sortable ((ns.map vdI).map (·.2)) := .inr fun d hd => by
  obtain ⟨p, hp, rfl⟩ := List.mem_map.mp hd
  obtain ⟨r, _, rfl⟩ := List.mem_map.mp hp
  exact ⟨(fun z => nomatch z), (fun _ z => nomatch z)⟩
theorem al_A (ps : List AR) : PySem.W.AllAlike ((ps.map vdA).map (·.2)) := fun d hd d' hd' => by
  obtain ⟨p, hp, rfl⟩ := List.mem_map.mp hd
  obtain ⟨r, _, rfl⟩ := List.mem_map.mp hp
  obtain ⟨p', hp', rfl⟩ := List.mem_map.mp hd'
  obtain ⟨r', _, rfl⟩ := List.mem_map.mp hp'
  rfl
theorem so_A (ps : List AR) : PySem.W.Sortable ((ps.map vdA).map (·.2)) := .inl fun d hd => by
  obtain ⟨p, hp, rfl⟩ := List.mem_map.mp hd
  obtain ⟨r, _, rfl⟩ := List.mem_map.mp hp
  exact ⟨_, _, rfl⟩
theorem vdA_fst (ps : List AR) : (ps.map vdA).map (·.1) = rfs ps := by
  rw [List.map_map]
  rfl
theorem vdI_fst (ns : List Int) : (ns.map vdI).map (·.1) = ns.map V.int := by
  rw [List.map_map]
  rfl
theorem dep_A (ps : List AR) : ∀ p ∈ ps.map vdA, p.2.depth ≤ 8 := fun p hp => by
  obtain ⟨r, _, rfl⟩ := List.mem_map.mp hp
  show (adat r.2).depth ≤ 8
  unfold adat
  simp [PyData.depth, PyData.depthAll]
theorem dep_I (ns : List Int) : ∀ p ∈ ns.map vdI, p.2.depth ≤ 8 := fun p hp => by
  obtain ⟨r, _, rfl⟩ := List.mem_map.mp hp
  show (PyData.int r).depth ≤ 8
  simp [PyData.depth]
/-! ### the object -/
structure AM where
  n : Int
  ls : List Nat
  as : List Arw
  fs : List Int
  gs : List Int
def AM.ok (M : AM) : Prop := 1 ≤ M.n ∧ M.n ≤ 8 ∧ letB M.ls = true ∧ (∀ a ∈ M.as, arrB M.n M.ls a = true) ∧ M.as.Nodup ∧ M.as.length ≤ 40 ∧ (∀ r ∈ M.fs, rooB M.n r = true) ∧ M.fs.Nodup ∧ (∀ r ∈ M.gs, rooB M.n r = true) ∧ M.gs.Nodup ∧ M.fs.length ≤ 100 ∧ M.gs.length ≤ 100
/-- as it is kept: rising -/
def AM.srt (M : AM) : AM := ⟨M.n, M.ls, sortA M.as, sortI M.fs, sortI M.gs⟩
def mfl (n : Int) (ls : List Nat) (ta tf tg D : Addr) : List (Str × V) :=
  putF "step_rows" (.ref D) (putF "last_row" (.ref tg) (putF "first_row" (.ref tf) (putF "arrow_row" (.ref ta) (putF "letter_text" (.str (Sx ls)) (putF "room_count" (.int n) [])))))
section
variable {n : Int} {ls : List Nat} {ta tf tg D : Addr}
theorem mfl_rooms : (mfl n ls ta tf tg D).lookup ("room_count" : Str) = some (.int n) := by
  unfold mfl
  rw [lookup_putF, if_neg (by decide +kernel), lookup_putF, if_neg (by decide +kernel), lookup_putF, if_neg (by decide +kernel), lookup_putF, if_neg (by decide +kernel), lookup_putF, if_neg (by decide +kernel), lookup_putF, if_pos rfl]
theorem mfl_letters : (mfl n ls ta tf tg D).lookup ("letter_text" : Str) = some (.str (Sx ls)) := by
  unfold mfl
  rw [lookup_putF, if_neg (by decide +kernel), lookup_putF, if_neg (by decide +kernel), lookup_putF, if_neg (by decide +kernel), lookup_putF, if_neg (by decide +kernel), lookup_putF, if_pos rfl]
theorem mfl_arrows : (mfl n ls ta tf tg D).lookup ("arrow_row" : Str) = some (.ref ta) := by
  unfold mfl
  rw [lookup_putF, if_neg (by decide +kernel), lookup_putF, if_neg (by decide +kernel), lookup_putF, if_neg (by decide +kernel), lookup_putF, if_pos rfl]
theorem mfl_firsts : (mfl n ls ta tf tg D).lookup ("first_row" : Str) = some (.ref tf) := by
  unfold mfl
  rw [lookup_putF, if_neg (by decide +kernel), lookup_putF, if_neg (by decide +kernel), lookup_putF, if_pos rfl]
theorem mfl_lasts : (mfl n ls ta tf tg D).lookup ("last_row" : Str) = some (.ref tg) := by
  unfold mfl
  rw [lookup_putF, if_neg (by decide +kernel), lookup_putF, if_pos rfl]
theorem mfl_steps : (mfl n ls ta tf tg D).lookup ("step_rows" : Str) = some (.ref D) := by
  unfold mfl
  rw [lookup_putF, if_pos rfl]
def mnames : List Str := ["step_rows", "last_row", "first_row", "arrow_row", "letter_text", "room_count"]
theorem mfl_none {f : Str} (h : f ∉ mnames) : (mfl n ls ta tf tg D).lookup f = none := by
  unfold mnames at h
  simp only [List.mem_cons, List.not_mem_nil, or_false, not_or] at h
  unfold mfl
  rw [lookup_putF, if_neg h.1, lookup_putF, if_neg h.2.1, lookup_putF, if_neg h.2.2.1, lookup_putF, if_neg h.2.2.2.1, lookup_putF, if_neg h.2.2.2.2.1, lookup_putF, if_neg h.2.2.2.2.2]
  rfl
end
theorem putF_len (f : Str) (v : V) : ∀ fs : List (Str × V), (putF f v fs).length ≤ fs.length + 1
  | [] => Nat.le_refl _
  | (g, x) :: r => by
    unfold putF
    by_cases h : g = f
    · rw [if_pos h]
      exact Nat.le_succ _
    · rw [if_neg h]
      exact Nat.succ_le_succ (putF_len f v r)
/-- the steps, to be read -/
def StepsR (H : Hp) (D : Addr) (as : List Arw) : Prop := ∃ kvs : List (List L2.Key × V), H D = some (.dT kvs) ∧ (∀ r l, stepsOf as r l = [] → valV kvs (skey r l) = none) ∧
  (∀ r l, stepsOf as r l ≠ [] → ∃ (a : Addr) (xs : List ST), valV kvs (skey r l) = some (.ref a) ∧ H a = some (.lst (xs.map fun x => V.ref x.1)) ∧ (∀ x ∈ xs, H x.1 = some (.tup [.str x.2.1, .int x.2.2])) ∧ xs.map (·.2) = stepsOf as r l)
theorem StepsAt.rd {H0 H : Hp} {D : Addr} {as : List Arw} (S : StepsAt H0 H D as) : StepsR H D as := by
  obtain ⟨kvs, S⟩ := S
  refine ⟨kvs, S.at', S.no, fun r l h => ?_⟩
  obtain ⟨a, ea, O⟩ := S.yes r l h
  obtain ⟨xs, x1, x2, x3⟩ := O.ex
  exact ⟨a, xs, ea, x1, x2, x3⟩
theorem StepsR.same {H H' : Hp} {D : Addr} {as : List Arw} (S : StepsR H D as) (s : Same H H') : StepsR H' D as := by
  obtain ⟨kvs, h1, h2, h3⟩ := S
  refine ⟨kvs, s _ _ h1, h2, fun r l h => ?_⟩
  obtain ⟨a, xs, ea, x1, x2, x3⟩ := h3 r l h
  exact ⟨a, xs, ea, s _ _ x1, fun x hx => s _ _ (x2 x hx), x3⟩
/-- a machine stands at m -/
def MachAt (K : PySem.W.Frag) (C : Addr) (H : Hp) (m : Addr) (M : AM) : Prop := ∃ (dx ta tf tg D : Addr) (ps : List AR), H m = some (.ins C dx (mfl M.n M.ls ta tf tg D)) ∧ H ta = some (.tup (rfs ps)) ∧ RowAt K H ps ∧ ps.map (·.2) = M.as ∧
  H tf = some (.tup (M.fs.map V.int)) ∧ H tg = some (.tup (M.gs.map V.int)) ∧ StepsR H D M.as
theorem MachAt.same {K : PySem.W.Frag} {C : Addr} {H H' : Hp} {m : Addr} {M : AM} (h : MachAt K C H m M) (s : Same H H') : MachAt K C H' m M := by
  obtain ⟨dx, ta, tf, tg, D, ps, h1, h2, h3, h4, h5, h6, h7⟩ := h
  exact ⟨dx, ta, tf, tg, D, ps, s _ _ h1, s _ _ h2, h3.same s, h4, s _ _ h5, s _ _ h6, h7.same s⟩
end Onp
set_option maxHeartbeats 8000000
set_option autoImplicit false
namespace Onp
open PySem PySem.Spec PyProof.Rows L2
abbrev sMach : Stmt := topS 40
abbrev sMInit : Stmt := inClass sMach 0
structure Bl2 (mg : Str → Option Value) : Prop where
  tuple : mg "tuple" = none
  sorted : mg "sorted" = none
structure ClsM (K : PySem.W.Frag) (C : Addr) : Prop where
  cl : Cls K C
  n1 : NoAttr K C "room_count"
  n2 : NoAttr K C "letter_text"
  n3 : NoAttr K C "arrow_row"
  n4 : NoAttr K C "first_row"
  n5 : NoAttr K C "last_row"
  n6 : NoAttr K C "step_rows"
section
variable {P : Program} {w : World} {K : PySem.W.Frag} {mg : Str → Option Value} {base : Heap}
def psMI : List Str := ["self", "rooms", "letters", "arrows", "firsts", "lasts"]
theorem scMInit : FnScope psMI psMI (defScope sMInit) := ⟨rfl, rfl, rfl, by decide +kernel, rfl, by decide +kernel, by decide +kernel⟩
abbrev SqA (K : PySem.W.Frag) (H : Hp) (l : Addr) (xs : List V) : Prop := SqL K H l xs ∨ SqT K H l xs
theorem sqA_same {K : PySem.W.Frag} {H H' : Hp} {l : Addr} {xs : List V} (s : Same H H') (h : SqA K H l xs) : SqA K H' l xs := h.elim (fun h => .inl (s.seq h)) (fun h => .inr (same_seqT s h))
theorem sqA_keep {K : PySem.W.Frag} {b l : Addr} {H H' : Hp} {xs : List V} (k : Keep b H H') (n : l ≠ b) (h : SqA K H l xs) : SqA K H' l xs := h.elim (fun h => .inl (k.seqL n h)) (fun h => .inr (k.seqT n h))
theorem keepI_T {C x dx a : Addr} {fs : List (Str × V)} {H H' : Hp} {xs : List V} (hx : H x = some (.ins C dx fs)) (k : Keep x H H') (h : SqT K H a xs) : SqT K H' a xs := by
  by_cases e : a = x
  · subst e
    rcases h with (h | ⟨o, h⟩) | h
    · rw [hx] at h
      cases h
    · rw [hx] at h
      cases h
    · exact .inr h
  · exact k.seqT e h
theorem keepI_A {C x dx a : Addr} {fs : List (Str × V)} {H H' : Hp} {xs : List V} (hx : H x = some (.ins C dx fs)) (k : Keep x H H') (h : SqA K H a xs) : SqA K H' a xs := by
  rcases h with h | h
  · by_cases e : a = x
    · subst e
      rcases h with (h | ⟨o, h⟩) | h
      · rw [hx] at h
        cases h
      · rw [hx] at h
        cases h
      · exact .inl (.inr h)
    · exact .inl (k.seqL e h)
  · exact .inr (keepI_T hx k h)
/-- what is handed to Machine(..), of a machine that there is -/
def spMInit (K : PySem.W.Frag) (C : Addr) : Sp := fun vs H Q _ => ∃ (x dx la lf lg : Addr) (ps : List AR) (M : AM), vs = [.ref x, .int M.n, .str (Sx M.ls), .ref la, .ref lf, .ref lg] ∧ H x = some (.ins C dx []) ∧ SqA K H la (rfs ps) ∧ RowAt K H ps ∧ ps.map (·.2) = M.as ∧ SqA K H lf (M.fs.map V.int) ∧ SqA K H lg (M.gs.map V.int) ∧ M.ok ∧
  ∀ H', Keep x H H' → MachAt K C H' x M.srt → Q .non H'
theorem mlen {f : Str} {v : V} {fs : List (Str × V)} {k : Nat} (h : fs.length ≤ k) : (putF f v fs).length ≤ k + 1 := Nat.le_trans (putF_len f v fs) (Nat.succ_le_succ h)
theorem letB_len {xs : List Nat} (h : letB xs = true) : xs.length ≤ 3 := by
  unfold letB at h
  simp only [Bool.and_eq_true, decide_eq_true_eq] at h
  exact h.2.2.2
theorem ok_minit {f C fAl fIl fIa fNa fNr fSb tD : Addr} {fd fdAl fdIl fdIa fdNa fdNr fdSb : FuncData} {k : Nat} {dvs : List V} {kws : List (Str × V)} (F : FunD K "__init__" "Machine.__init__" (defArgs sMInit) (defBody sMInit) (defScope sMInit) dvs kws f fd)
    (Al : FnM K mg fAl fdAl "are_letters" sAreL ["text"]) (Il : FnM K mg fIl fdIl "is_letter" sIsL ["text", "letters"]) (Ia : FnM K mg fIa fdIa "is_arrow" sIsA ["arrow", "rooms", "letters"]) (Na : FnM K mg fNa fdNa "need_arrows" sNeedA ["arrows", "rooms", "letters"]) (Nr : FnM K mg fNr fdNr "need_rooms" sNeedR ["some", "rooms"]) (Sb : FnM K mg fSb fdSb "steps_by_start" sStepsB ["arrows"])
    (B : Bl1 mg) (B2 : Bl2 mg) (Cs : CsM K mg tD) (T : ClsM K C) : FnOk P w K mg base CX0 (k + 4) f fd psMI (spMInit K C) := by
  have GAl : FnOk P w K mg base CX0 (k + 3) fAl fdAl ["text"] spAreL := ok_areL Al.F B Cs
  have GNa : FnOk P w K mg base CX0 (k + 3) fNa fdNa ["arrows", "rooms", "letters"] (spNeedA K) := ok_needA Na.F Ia Il B Cs
  have GNr : FnOk P w K mg base CX0 (k + 3) fNr fdNr ["some", "rooms"] (spNeedR K) := ok_needR Nr.F B
  have GSb : FnOk P w K mg base CX0 (k + 3) fSb fdSb ["arrows"] (spStepsB K) := ok_stepsB Sb.F
  obtain ⟨t1, gR⟩ := Cs.rooms
  refine F.ok scMInit (fun vs H Q E h => ?_) (fun cdv A outer s H vs Q E hr h => ?_)
  · obtain ⟨x, dx, la, lf, lg, ps, M, rfl, _⟩ := h
    rfl
  · obtain ⟨x, dx, la, lf, lg, ps, M, rfl, hx, hla, hR, eas, hlf, hlg, ok, q⟩ := h
    obtain ⟨o1, o2, o3, o4, o5, o6, o7, o8, o9, o10, o11, o12⟩ := ok
    have hu : (cxOf CX0 P w K mg base psMI "Machine.__init__" (defScope sMInit) f cdv A outer s H E).A.units + 64 < cLine := hr.units
    refine ⟨_, pss_cons (ps_if (pt_not (pt_chain op_le op_le pe_int (pv 1) (pe_glob (v := .int 8) rfl gR ⟨_, rfl⟩))) pss_never pss_nil)
      (pss_cons (ps_if (pt_not (pt_val (pe_call GAl hr (by rfl) Al.g Al.F.kp Al.b .nil pass0 (pa_cons (pv 2) pa_nil)))) pss_never pss_nil)
      (pss_cons (ps_expr (pe_call GNa hr (by rfl) Na.g Na.F.kp Na.b .nil pass0 (pa_cons (pv 3) (pa_cons (pv 1) (pa_cons (pv 2) pa_nil)))))
      (pss_cons (ps_expr (pe_call GNr hr (by rfl) Nr.g Nr.F.kp Nr.b .nil pass0 (pa_cons (pv 4) (pa_cons (pv 1) pa_nil))))
      (pss_cons (ps_expr (pe_call GNr hr (by rfl) Nr.g Nr.F.kp Nr.b .nil pass0 (pa_cons (pv 5) (pa_cons (pv 1) pa_nil))))
      (pss_cons (ps_fld (pv 0) (pv 1) rfl)
      (pss_cons (ps_fld (pv 0) (pv 2) rfl)
      (pss_cons (ps_fld (pv 0) (pe_callTy call_tuple_of (by rfl) B2.tuple (by decide +kernel) (pa_cons (pe_callB (cr_sortD hu) (by rfl) B2.sorted (by decide +kernel) (pa_cons (pv 3) pa_nil)) pa_nil)) rfl)
      (pss_cons (ps_fld (pv 0) (pe_callTy call_tuple_of (by rfl) B2.tuple (by decide +kernel) (pa_cons (pe_callB (cr_sortD hu) (by rfl) B2.sorted (by decide +kernel) (pa_cons (pv 4) pa_nil)) pa_nil)) rfl)
      (pss_cons (ps_fld (pv 0) (pe_callTy call_tuple_of (by rfl) B2.tuple (by decide +kernel) (pa_cons (pe_callB (cr_sortD hu) (by rfl) B2.sorted (by decide +kernel) (pa_cons (pv 5) pa_nil)) pa_nil)) rfl)
      (pss_one (ps_fld (pv 0) (pe_call GSb hr (by rfl) Sb.g Sb.F.kp Sb.b .nil pass0 (pa_cons (pe_fld (pv 0) rfl) pa_nil)) rfl))))))))))), ?_⟩
    refine ⟨_, rfl, _, _, rfl, rfl, _, rfl, itT o1 ⟨_, _, rfl, rfl, _, rfl, ?_⟩⟩
    rw [decide_eq_true o2]
    refine iteF ⟨_, rfl, M.ls, rfl, by have := letB_len o3; omega, fun H1 s1 => ⟨_, rfl, ?_⟩⟩
    rw [o3]
    have oa : ∀ p ∈ ps, arrB M.n M.ls p.2 = true := fun p hp => o4 p.2 (by rw [← eas]; exact List.mem_map_of_mem hp)
    have on : (ps.map (·.2)).Nodup := by rw [eas]; exact o5
    have ol : ps.length ≤ 40 := by
      have := congrArg List.length eas
      rw [List.length_map] at this
      omega
    refine iteF ⟨_, rfl, _, rfl, _, rfl, la, ps, M.n, M.ls, rfl, sqA_same s1 hla, hR.same s1, oa, on, ol, fun H2 s2 => ?_⟩
    refine ⟨_, rfl, _, rfl, lf, M.fs, M.n, rfl, sqA_same (s1.trans s2) hlf, o7, o8, o11, fun H3 s3 => ?_⟩
    refine ⟨_, rfl, _, rfl, lg, M.gs, M.n, rfl, sqA_same (s1.trans (s2.trans s3)) hlg, o9, o10, o12, fun H4 s4 => ?_⟩
    have s14 : Same H H4 := s1.trans (s2.trans (s3.trans s4))
    have hx4 := s14 _ _ hx
    -- rooms, letters
    refine ⟨_, rfl, _, rfl, x, C, dx, _, rfl, hx4, T.cl, T.n1, (by decide : 0 < 1000), ?_⟩
    refine ⟨_, rfl, _, rfl, x, C, dx, _, rfl, upd_same, T.cl, T.n2, Nat.lt_of_le_of_lt (mlen (Nat.le_refl 0)) (by decide), ?_⟩
    have k6 : Keep x H4 (upd (upd H4 x (.ins C dx (putF "room_count" (.int M.n) []))) x (.ins C dx (putF "letter_text" (.str (Sx M.ls)) (putF "room_count" (.int M.n) [])))) := Keep.upd.trans Keep.upd
    have hx6 : (upd (upd H4 x (.ins C dx (putF "room_count" (.int M.n) []))) x (.ins C dx (putF "letter_text" (.str (Sx M.ls)) (putF "room_count" (.int M.n) [])))) x = some (.ins C dx (putF "letter_text" (.str (Sx M.ls)) (putF "room_count" (.int M.n) []))) := upd_same
    generalize upd (upd H4 x (.ins C dx (putF "room_count" (.int M.n) []))) x (.ins C dx (putF "letter_text" (.str (Sx M.ls)) (putF "room_count" (.int M.n) []))) = H6 at k6 hx6
    have kx6 : Keep x H H6 := (Keep.of s14).trans k6
    -- arrows
    refine ⟨_, rfl, la, ps.map vdA, rfl, ?_, ?_, al_A ps, so_A ps, dep_A ps, fun p1 np1 => ?_⟩
    · rw [vdA_fst]
      exact keepI_A hx kx6 hla
    · intro p hp
      obtain ⟨a, ha, rfl⟩ := List.mem_map.mp hp
      exact dp_arw (keepI_T hx kx6 (hR a ha))
    rw [srtD_A, vdA_fst]
    refine ⟨p1, _, rfl, .inl ⟨SqL.of upd_same, fun ta nta => ?_⟩⟩
    have e7 := (same_upd (o := .lst (rfs (srtR ps))) np1).trans (same_upd (o := .tup (rfs (srtR ps))) nta)
    have hta : (upd (upd H6 p1 (.lst (rfs (srtR ps)))) ta (.tup (rfs (srtR ps)))) ta = some (.tup (rfs (srtR ps))) := upd_same
    generalize upd (upd H6 p1 (.lst (rfs (srtR ps)))) ta (.tup (rfs (srtR ps))) = H7 at e7 hta
    have hx7 := e7 _ _ hx6
    have kx7 : Keep x H H7 := kx6.trans (Keep.of e7)
    have nta : ta ≠ x := ne_of hta hx7 (fun z => nomatch z)
    refine ⟨_, rfl, x, C, dx, _, rfl, hx7, T.cl, T.n3, Nat.lt_of_le_of_lt (mlen (mlen (Nat.le_refl 0))) (by decide), ?_⟩
    have k8 : Keep x H7 (upd H7 x (.ins C dx (putF "arrow_row" (.ref ta) (putF "letter_text" (.str (Sx M.ls)) (putF "room_count" (.int M.n) []))))) := Keep.upd
    have hx8 : (upd H7 x (.ins C dx (putF "arrow_row" (.ref ta) (putF "letter_text" (.str (Sx M.ls)) (putF "room_count" (.int M.n) []))))) x = some (.ins C dx (putF "arrow_row" (.ref ta) (putF "letter_text" (.str (Sx M.ls)) (putF "room_count" (.int M.n) [])))) := upd_same
    generalize upd H7 x (.ins C dx (putF "arrow_row" (.ref ta) (putF "letter_text" (.str (Sx M.ls)) (putF "room_count" (.int M.n) [])))) = H8 at k8 hx8
    have kx8 : Keep x H H8 := kx7.trans k8
    have hta8 := k8 _ _ nta hta
    -- firsts
    refine ⟨_, rfl, lf, M.fs.map vdI, rfl, ?_, ?_, al_I _, so_I _, dep_I _, fun p2 np2 => ?_⟩
    · rw [vdI_fst]
      exact keepI_A hx kx8 hlf
    · intro p hp
      obtain ⟨a, ha, rfl⟩ := List.mem_map.mp hp
      exact .int a
    rw [srtD_I, vdI_fst]
    refine ⟨p2, _, rfl, .inl ⟨SqL.of upd_same, fun tf ntf => ?_⟩⟩
    have e9 := (same_upd (o := .lst ((sortI M.fs).map V.int)) np2).trans (same_upd (o := .tup ((sortI M.fs).map V.int)) ntf)
    have htf : (upd (upd H8 p2 (.lst ((sortI M.fs).map V.int))) tf (.tup ((sortI M.fs).map V.int))) tf = some (.tup ((sortI M.fs).map V.int)) := upd_same
    generalize upd (upd H8 p2 (.lst ((sortI M.fs).map V.int))) tf (.tup ((sortI M.fs).map V.int)) = H9 at e9 htf
    have hx9 := e9 _ _ hx8
    have kx9 : Keep x H H9 := kx8.trans (Keep.of e9)
    have ntf : tf ≠ x := ne_of htf hx9 (fun z => nomatch z)
    refine ⟨_, rfl, x, C, dx, _, rfl, hx9, T.cl, T.n4, Nat.lt_of_le_of_lt (mlen (mlen (mlen (Nat.le_refl 0)))) (by decide), ?_⟩
    have k10 : Keep x H9 (upd H9 x (.ins C dx (putF "first_row" (.ref tf) (putF "arrow_row" (.ref ta) (putF "letter_text" (.str (Sx M.ls)) (putF "room_count" (.int M.n) [])))))) := Keep.upd
    have hx10 : (upd H9 x (.ins C dx (putF "first_row" (.ref tf) (putF "arrow_row" (.ref ta) (putF "letter_text" (.str (Sx M.ls)) (putF "room_count" (.int M.n) [])))))) x = some (.ins C dx (putF "first_row" (.ref tf) (putF "arrow_row" (.ref ta) (putF "letter_text" (.str (Sx M.ls)) (putF "room_count" (.int M.n) []))))) := upd_same
    generalize upd H9 x (.ins C dx (putF "first_row" (.ref tf) (putF "arrow_row" (.ref ta) (putF "letter_text" (.str (Sx M.ls)) (putF "room_count" (.int M.n) []))))) = H10 at k10 hx10
    have kx10 : Keep x H H10 := kx9.trans k10
    have hta10 := k10 _ _ nta (e9 _ _ hta8)
    have htf10 := k10 _ _ ntf htf
    -- lasts
    refine ⟨_, rfl, lg, M.gs.map vdI, rfl, ?_, ?_, al_I _, so_I _, dep_I _, fun p3 np3 => ?_⟩
    · rw [vdI_fst]
      exact keepI_A hx kx10 hlg
    · intro p hp
      obtain ⟨a, ha, rfl⟩ := List.mem_map.mp hp
      exact .int a
    rw [srtD_I, vdI_fst]
    refine ⟨p3, _, rfl, .inl ⟨SqL.of upd_same, fun tg ntg => ?_⟩⟩
    have e11 := (same_upd (o := .lst ((sortI M.gs).map V.int)) np3).trans (same_upd (o := .tup ((sortI M.gs).map V.int)) ntg)
    have htg : (upd (upd H10 p3 (.lst ((sortI M.gs).map V.int))) tg (.tup ((sortI M.gs).map V.int))) tg = some (.tup ((sortI M.gs).map V.int)) := upd_same
    generalize upd (upd H10 p3 (.lst ((sortI M.gs).map V.int))) tg (.tup ((sortI M.gs).map V.int)) = H11 at e11 htg
    have hx11 := e11 _ _ hx10
    have kx11 : Keep x H H11 := kx10.trans (Keep.of e11)
    have ntg : tg ≠ x := ne_of htg hx11 (fun z => nomatch z)
    refine ⟨_, rfl, x, C, dx, _, rfl, hx11, T.cl, T.n5, Nat.lt_of_le_of_lt (mlen (mlen (mlen (mlen (Nat.le_refl 0))))) (by decide), ?_⟩
    have k12 : Keep x H11 (upd H11 x (.ins C dx (putF "last_row" (.ref tg) (putF "first_row" (.ref tf) (putF "arrow_row" (.ref ta) (putF "letter_text" (.str (Sx M.ls)) (putF "room_count" (.int M.n) []))))))) := Keep.upd
    have hx12 : (upd H11 x (.ins C dx (putF "last_row" (.ref tg) (putF "first_row" (.ref tf) (putF "arrow_row" (.ref ta) (putF "letter_text" (.str (Sx M.ls)) (putF "room_count" (.int M.n) []))))))) x = some (.ins C dx (putF "last_row" (.ref tg) (putF "first_row" (.ref tf) (putF "arrow_row" (.ref ta) (putF "letter_text" (.str (Sx M.ls)) (putF "room_count" (.int M.n) [])))))) := upd_same
    generalize upd H11 x (.ins C dx (putF "last_row" (.ref tg) (putF "first_row" (.ref tf) (putF "arrow_row" (.ref ta) (putF "letter_text" (.str (Sx M.ls)) (putF "room_count" (.int M.n) [])))))) = H12 at k12 hx12
    have kx12 : Keep x H H12 := kx11.trans k12
    have hta12 := k12 _ _ nta (e11 _ _ hta10)
    have htf12 := k12 _ _ ntf (e11 _ _ htf10)
    have htg12 := k12 _ _ ntg htg
    have hR12 : RowAt K H12 (srtR ps) := fun p hp => keepI_T hx kx12 (hR p (srtR_mem.mp hp))
    -- the steps
    have lk : (putF "last_row" (.ref tg) (putF "first_row" (.ref tf) (putF "arrow_row" (.ref ta) (putF "letter_text" (.str (Sx M.ls)) (putF "room_count" (.int M.n) []))))).lookup ("arrow_row" : Str) = some (V.ref ta) := by
      rw [lookup_putF, if_neg (by decide +kernel), lookup_putF, if_neg (by decide +kernel), lookup_putF, if_pos rfl]
    refine ⟨_, rfl, x, C, dx, _, _, rfl, hx12, T.cl, T.n3, lk, ta, srtR ps, rfl, SqT.of hta12, hR12, by rw [srtR_len]; omega, fun D H13 nD s13 S13 => ?_⟩
    have hx13 := s13 _ _ hx12
    refine ⟨_, rfl, x, C, dx, _, rfl, hx13, T.cl, T.n6, Nat.lt_of_le_of_lt (mlen (mlen (mlen (mlen (mlen (Nat.le_refl 0)))))) (by decide), q _ (kx12.trans ((Keep.of s13).trans Keep.upd)) ?_⟩
    have S14 := S13.rd
    have hk : ∀ b o, b ≠ x → H13 b = some o → (upd H13 x (.ins C dx (mfl M.n M.ls ta tf tg D))) b = some o := fun b o n e => by rw [upd_ne n]; exact e
    refine ⟨dx, ta, tf, tg, D, srtR ps, upd_same, hk _ _ nta (s13 _ _ hta12), fun p hp => ?_, ?_, hk _ _ ntf (s13 _ _ htf12), hk _ _ ntg (s13 _ _ htg12), ?_⟩
    · exact keepI_T hx13 Keep.upd (same_seqT s13 (hR12 p hp))
    · rw [srtR_as, eas]
      rfl
    · rw [srtR_as, eas] at S14
      obtain ⟨kvs, h1, h2, h3⟩ := S14
      refine ⟨kvs, hk _ _ (ne_of h1 hx13 (fun z => nomatch z)) h1, h2, fun r l h => ?_⟩
      obtain ⟨a, xs, ea, x1, x2, x3⟩ := h3 r l h
      exact ⟨a, xs, ea, hk _ _ (ne_of x1 hx13 (fun z => nomatch z)) x1, fun y hy => hk _ _ (ne_of (x2 y hy) hx13 (fun z => nomatch z)) (x2 y hy), x3⟩
end
end Onp
set_option maxHeartbeats 8000000
set_option autoImplicit false
namespace Onp
open PySem PySem.Spec PyProof.Rows L2
abbrev sDeed : Stmt := topS 56
abbrev sLett : Stmt := topS 57
abbrev sRooms : Stmt := topS 58
abbrev sArrow : Stmt := topS 59
abbrev sDrawn : Stmt := topS 60
theorem join_signs : ∀ cs : List Nat, Str.join (Sx []) (cs.map fun c => Sx [c]) = Sx cs
  | [] => rfl
  | [c] => rfl
  | c :: d :: r => by
    show Sx [c] ++ Sx [] ++ Str.join (Sx []) ((d :: r).map fun c => Sx [c]) = _
    rw [join_signs (d :: r), sx_app, sx_app]
    rfl
theorem sum_ones : ∀ cs : List Nat, ((cs.map fun c => Sx [c]).map (·.length)).sum = cs.length
  | [] => rfl
  | c :: r => by
    have h := sum_ones r
    rw [List.map_cons, List.map_cons, List.sum_cons, h, List.length_cons, sx_len]
    simp only [List.length_cons, List.length_nil]
    omega
theorem signs_map (cs : List Nat) : signsV cs = (cs.map fun c => Sx [c]).map V.str := by
  unfold signsV
  rw [List.map_map]
  rfl

section
variable {P : Program} {w : World} {K : PySem.W.Frag} {mg : Str → Option Value} {base : Heap}
/-! ### one sign of a text -/
def spOfS : Sp := fun vs H Q _ => ∃ (g : Bid) (ls : List Nat), vs = [.ref g.b, .str (Sx ls)] ∧ Bg H g ∧ 0 < ls.length ∧ ls.length < 1000 ∧ ∀ c H', c ∈ ls → Keep g.b H H' → Bg H' g → Q (.str (Sx [c])) H'
theorem ok_ofS {f fP : Addr} {fd fdP : FuncData} {k : Nat} (F : Fun K "_law_of" "_law_of" sOf f fd) (FP : Fun K "_law_pull" "_law_pull" sPull fP fdP) (bP : Binds K fdP ["_law_bag_here", "_law_many"] []) (gP : mg "_law_pull" = some (.ref fP)) (ml : mg "len" = none) : FnOk P w K mg base CX0 (k + 2) f fd ["_law_bag_here", "_law_some"] spOfS := by
  have GP : FnOk P w K mg base CX0 (k + 1) fP fdP ["_law_bag_here", "_law_many"] (spPull K) := ok_pull FP ml
  refine F.ok scOf (fun vs H Q E h => ?_) (fun cdv A outer s H vs Q E hr h => ?_)
  · obtain ⟨g, ls, rfl, _⟩ := h
    rfl
  · obtain ⟨b, ls, rfl, B, h0, hlen, q⟩ := h
    refine ⟨_, pss_one (ps_ret (pe_ix ix_str (pv 1) (pe_call GP hr (by rfl) gP FP.kp bP .nil pass0 (pa_cons (pv 0) (pa_cons (pe_callB call_len_str (by rfl) ml PySem.boot_len (pa_cons (pv 1) pa_nil)) pa_nil))) (fun _ _ => rfl))), ?_⟩
    have hz : (Sx ls).length ≤ sizeLine := by
      rw [sx_len]
      exact Nat.le_trans (Nat.le_of_lt hlen) (by decide)
    refine ⟨_, rfl, _, rfl, _, rfl, Sx ls, rfl, hz, b, _, rfl, ?_, ?_, B, fun z H' z0 z1 kp B' => ?_⟩
    · rw [sx_len]
      omega
    · rw [sx_len]
      exact Nat.lt_trans (show ((ls.length : Nat) : Int).natAbs < 2 ^ 64 by omega) (by decide)
    · rw [sx_len] at z1
      have e : z = ((z.toNat : Nat) : Int) := by omega
      have hz1 : z.toNat < ls.length := by omega
      rw [e]
      refine ⟨Sx ls, z.toNat, ls[z.toNat], rfl, rfl, hz, ?_, q _ _ (List.getElem_mem hz1) kp B'⟩
      rw [sx_cps]
      exact atI_nat (List.getElem?_eq_getElem hz1)

/-! ### _law_deed -/
def tenD : List Str := ["keep", "cent", "fill", "coin", "brim", "keep", "cent", "cent", "coin", "fill"]
theorem tenD_in : ∀ d ∈ tenD, d ∈ deedsL := by decide +kernel
theorem scDeed : FnScope ["_law_bag_here"] ["_law_bag_here"] (defScope sDeed) := ⟨rfl, rfl, rfl, by decide +kernel, rfl, by decide +kernel, by decide +kernel⟩
def spDeed : Sp := fun vs H Q _ => ∃ g : Bid, vs = [.ref g.b] ∧ Bg H g ∧ ∀ d H', d ∈ deedsL → Keep g.b H H' → Bg H' g → Q (.str d) H'
theorem ok_deed {f fO fP : Addr} {fd fdO fdP : FuncData} {k : Nat} (F : Fun K "_law_deed" "_law_deed" sDeed f fd) (O : FnM K mg fO fdO "_law_of" sOf ["_law_bag_here", "_law_some"]) (Pu : FnM K mg fP fdP "_law_pull" sPull ["_law_bag_here", "_law_many"]) (ml : mg "len" = none) : FnOk P w K mg base CX0 (k + 3) f fd ["_law_bag_here"] spDeed := by
  have GO : FnOk P w K mg base CX0 (k + 2) fO fdO ["_law_bag_here", "_law_some"] (spOf K) := ok_of O.F Pu.F Pu.b Pu.g ml
  refine F.ok scDeed (fun vs H Q E h => ?_) (fun cdv A outer s H vs Q E hr h => ?_)
  · obtain ⟨g, rfl, _⟩ := h
    rfl
  · obtain ⟨g, rfl, B, q⟩ := h
    refine ⟨_, pss_one (ps_ret (pe_call GO hr (by rfl) O.g O.F.kp O.b .nil pass0 (pa_cons (pv 0) (pa_cons (pe_lst (pa_cons pe_str (pa_cons pe_str (pa_cons pe_str (pa_cons pe_str (pa_cons pe_str (pa_cons pe_str (pa_cons pe_str (pa_cons pe_str (pa_cons pe_str (pa_cons pe_str pa_nil))))))))))) pa_nil)))), ?_⟩
    refine ⟨_, rfl, (by decide : 10 ≤ sizeLine), fun p np => ?_⟩
    have s1 := same_upd (o := .lst (tenD.map V.str)) np
    refine ⟨g, p, tenD.map V.str, rfl, B.same s1, B.ne np, SqL.of upd_same, by decide, by decide, fun v H' hv k' B' => ?_⟩
    obtain ⟨d, hd, rfl⟩ := List.mem_map.mp hv
    exact q d H' (tenD_in d hd) ((Keep.of s1).trans k') B'
/-! ### _law_letters -/
def NLe : List Str := ["_law_bag_here", "_law_most", "_law_alphabet", "_law_first", "_law_by", "_law_k"]
theorem scLett : FnScope NLe ["_law_bag_here", "_law_most"] (defScope sLett) := ⟨rfl, rfl, rfl, by decide +kernel, rfl, by decide +kernel, by decide +kernel⟩
def spLett : Sp := fun vs H Q _ => ∃ (g : Bid) (m : Int), vs = [.ref g.b, .int m] ∧ 1 ≤ m ∧ m ≤ 3 ∧ Bg H g ∧ ∀ (ls : List Nat) H', letB ls = true → (ls.length : Int) ≤ m → (∀ c ∈ ls.take 2, c < 122) → Keep g.b H H' → Bg H' g → Q (.str (Sx ls)) H'
def lrow (x y n : Nat) : List Nat := (List.range n).map fun k => 97 + x + y * k
theorem small_code : ∀ j : Fin 26, smallL[j.val]? = some (97 + j.val) := by decide
theorem small_mem : ∀ j : Fin 26, 97 + j.val ∈ smallL := by decide
theorem lrow_ok {x y n : Nat} (hx : x < 20) (hy1 : 1 ≤ y) (hy : y ≤ 3) (h1 : 1 ≤ n) (h3 : n ≤ 3) : letB (lrow x y n) = true := by
  have hs : ∀ k, k < 3 → decide (97 + x + y * k ∈ smallL) = true := fun k hk => by
    have hyk : y * k ≤ 3 * 2 := Nat.mul_le_mul hy (by omega)
    have := small_mem ⟨x + y * k, by omega⟩
    exact decide_eq_true (by rw [Nat.add_assoc]; exact this)
  have e0 := hs 0 (by decide)
  have e1 := hs 1 (by decide)
  have e2 := hs 2 (by decide)
  have r1 : decide (97 + x + y * 0 < 97 + x + y * 1) = true := decide_eq_true (by omega)
  have r2 : decide (97 + x + y * 1 < 97 + x + y * 2) = true := decide_eq_true (by omega)
  have h : n = 1 ∨ n = 2 ∨ n = 3 := by omega
  unfold letB risB smaB
  rcases h with rfl | rfl | rfl
  · show (true && ((decide (97 + x + y * 0 ∈ smallL) && true) && _)) = true
    rw [e0]
    rfl
  · show ((decide (97 + x + y * 0 < 97 + x + y * 1) && true) && ((decide (97 + x + y * 0 ∈ smallL) && (decide (97 + x + y * 1 ∈ smallL) && true)) && _)) = true
    rw [r1, e0, e1]
    rfl
  · show ((decide (97 + x + y * 0 < 97 + x + y * 1) && (decide (97 + x + y * 1 < 97 + x + y * 2) && true)) && ((decide (97 + x + y * 0 ∈ smallL) && (decide (97 + x + y * 1 ∈ smallL) && (decide (97 + x + y * 2 ∈ smallL) && true))) && _)) = true
    rw [r1, r2, e0, e1, e2]
    rfl
theorem lrow_low {x y n : Nat} (hx : x < 20) (hy : y ≤ 3) : ∀ c ∈ (lrow x y n).take 2, c < 122 := by
  intro c hc
  unfold lrow at hc
  rw [← List.map_take] at hc
  obtain ⟨k, hk, rfl⟩ := List.mem_map.mp hc
  rw [List.take_range] at hk
  have hk2 : k < 2 := by
    have := List.mem_range.mp hk
    omega
  have : y * k ≤ 3 * 1 := Nat.mul_le_mul hy (by omega)
  show 97 + x + y * k < 122
  omega
theorem ok_lett {f fP : Addr} {fd fdP : FuncData} {k : Nat} (F : Fun K "_law_letters" "_law_letters" sLett f fd) (Pu : FnM K mg fP fdP "_law_pull" sPull ["_law_bag_here", "_law_many"]) (ml : mg "len" = none) (mr : mg "range" = none) : FnOk P w K mg base CX0 (k + 2) f fd ["_law_bag_here", "_law_most"] spLett := by
  have GP : FnOk P w K mg base CX0 (k + 1) fP fdP ["_law_bag_here", "_law_many"] (spPull K) := ok_pull Pu.F ml
  refine F.ok scLett (fun vs H Q E h => ?_) (fun cdv A outer s H vs Q E hr h => ?_)
  · obtain ⟨g, m, rfl, _⟩ := h
    rfl
  · obtain ⟨g, m, rfl, m1, m2, B, q⟩ := h
    refine ⟨_, pss_cons (ps_set (i := 2) scLett.nd rfl (.inr rfl) pe_str)
      (pss_cons (ps_asg (pe_tup (pa_cons (pe_call GP hr (by rfl) Pu.g Pu.F.kp Pu.b .nil pass0 (pa_cons (pv 0) (pa_cons pe_int pa_nil))) (pa_cons (pe_op op_add pe_int (pe_call GP hr (by rfl) Pu.g Pu.F.kp Pu.b .nil pass0 (pa_cons (pv 0) (pa_cons pe_int pa_nil)))) pa_nil))) (pg_tup rfl (pgs_cons (pg_name (i := 3) scLett.nd rfl (.inr rfl)) (pgs_cons (pg_name (i := 4) scLett.nd rfl (.inr rfl)) pgs_nil))))
      (pss_one (ps_ret (pe_join pe_str (pe_lc (own := [("_law_k", 5)]) (g := gName 5) (tt := tYes) (te := tOp rIxS (tVar 2) (tOp (rI0 fun i j => .int (i + j)) (tVar 3) (tOp (rI CMul fun i j => .int (i * j)) (tVar 4) (tVar 5)))) rfl scLett.nd
        (pi_range1 (by rfl) mr (pa_cons (pe_op op_add pe_int (pe_call GP hr (by rfl) Pu.g Pu.F.kp Pu.b .nil pass0 (pa_cons (pv 0) (pa_cons (pv 1) pa_nil)))) pa_nil)) (blkOk_by (own := [("_law_k", 5)]) (N := NLe) (sc := defScope sLett) (by decide +kernel))
        (fun _ _ _ _ _ => pg_name (i := 5) scLett.nd rfl (Or.inl rfl)) (fun _ _ _ _ _ => pts_nil) (fun _ _ _ _ _ => pe_ix ix_str (pv 2) (pe_op op_add (pv 3) (pe_op op_mul (pv 4) (pv 5))) (fun _ _ => rfl))))))), ?_⟩
    refine ⟨_, rfl, g, 20, rfl, by decide, by decide, B, fun x H1 x0 x1 k1 B1 => ?_⟩
    refine ⟨_, rfl, g, 3, rfl, by decide, by decide, B1, fun y H2 y0 y1 k2 B2 => ?_⟩
    refine ⟨_, _, rfl, rfl, (by decide : 2 ≤ sizeLine), fun p np => ?_⟩
    have s3 := same_upd (o := .tup [.int x, .int (1 + y)]) np
    refine ⟨p, _, rfl, SqT.of upd_same, rfl, _, _, rfl, _, _, rfl, rfl, ?_⟩
    have B3 := B2.same s3
    generalize upd H2 p (.tup [.int x, .int (1 + y)]) = H3 at s3 B3
    refine ⟨⟨_, rfl⟩, _, rfl, _, rfl, g, m, rfl, by omega, Nat.lt_trans (show m.natAbs < 2 ^ 64 by omega) (by decide), B3, fun z H4 z0 z1 k4 B4 => ?_⟩
    obtain ⟨xn, rfl⟩ : ∃ xn : Nat, x = (xn : Int) := ⟨x.toNat, by omega⟩
    obtain ⟨yn, ey⟩ : ∃ yn : Nat, 1 + y = (yn : Int) := ⟨(1 + y).toNat, by omega⟩
    obtain ⟨zn, ez⟩ : ∃ zn : Nat, 1 + z = (zn : Int) := ⟨(1 + z).toNat, by omega⟩
    refine ⟨_, _, rfl, rfl, 1 + z, rfl, by omega, by omega, fun D nD => ?_⟩
    rw [show (1 + z).toNat = zn by omega]
    refine lc_range (lo := 0) (n := zn) (fun i H' => H' D = some (.lst (signsV (lrow xn yn i))) ∧ Same H4 H') ⟨upd_same, same_upd nD⟩ (fun j H' hj ⟨hD, sm⟩ => ?_) (fun H5 ⟨hD, sm⟩ => ?_)
    · refine ⟨rfl, ?_⟩
      unfold tYes
      dsimp only
      rw [if_pos rfl]
      have hyj : yn * j ≤ 3 * 2 := Nat.mul_le_mul (by omega) (by omega)
      have eix : (xn : Int) + (1 + y) * (0 + (j : Int)) = ((xn + yn * j : Nat) : Int) := by
        rw [ey, Int.zero_add, ← Int.natCast_mul, ← Int.natCast_add]
      have hc := small_code ⟨xn + yn * j, by omega⟩
      refine ⟨_, rfl, _, rfl, _, rfl, _, rfl, _, _, rfl, rfl, .inl ⟨by omega, by omega⟩, _, _, rfl, rfl, Sx smallL, ((xn + yn * j : Nat) : Int), 97 + (xn + yn * j), by rw [small_eq], congrArg V.int eix, ?_, ?_, ?_⟩
      · rw [sx_len]
        decide
      · rw [sx_cps]
        exact atI_nat hc
      · refine ⟨_, hD, ?_, ?_, fun b o hb => ?_⟩
        · unfold signsV lrow
          rw [List.length_map, List.length_map, List.length_range]
          exact small1000 (by omega)
        · rw [upd_same]
          unfold signsV lrow
          rw [List.range_succ, List.map_append, List.map_append, ← Nat.add_assoc]
          rfl
        · rw [upd_ne (ne_of_none hb nD)]
          exact sm b o hb
    · have hll : (lrow xn yn zn).length = zn := by
        unfold lrow
        rw [List.length_map, List.length_range]
      refine ⟨Sx [], D, (lrow xn yn zn).map fun c => Sx [c], by rw [em_eq], rfl, .inl (SqL.of (by rw [hD, signs_map])), ?_, ?_⟩
      · rw [sum_ones, sx_len, List.length_nil, Nat.mul_zero, hll]
        omega
      · rw [TL.join_eq, join_signs]
        refine q _ H5 (lrow_ok (by omega) (by omega) (by omega) (by omega) (by omega)) (by rw [hll]; omega) (lrow_low (by omega) (by omega)) ?_ (B4.same sm)
        exact ((k1.trans k2).trans (Keep.of s3)).trans (k4.trans (Keep.of sm))
end
end Onp
set_option maxHeartbeats 4000000
set_option autoImplicit false
namespace Onp
open PySem PySem.Spec PyProof.Rows L2
/-! ### == of arrows and of rows of them -/
theorem eqv_adat (a b : Arw) : PyData.eqv (adat a) (adat b) = decide (a = b) := by
  obtain ⟨a1, a2, a3, a4⟩ := a
  obtain ⟨b1, b2, b3, b4⟩ := b
  simp only [adat, PyData.eqv, PyData.eqvAll]
  rw [Bool.eq_iff_iff, decide_eq_true_eq]
  simp only [Bool.and_eq_true, beq_iff_eq, Prod.mk.injEq, and_true]
theorem any_adat (as : List Arw) (a : Arw) : ((as.map adat).any fun z => PyData.eqv z (adat a)) = decide (a ∈ as) := by
  rw [Bool.eq_iff_iff, List.any_eq_true, decide_eq_true_eq]
  constructor
  · rintro ⟨d, hd, e⟩
    obtain ⟨b, hb, rfl⟩ := List.mem_map.mp hd
    rw [eqv_adat, decide_eq_true_eq] at e
    rw [← e]
    exact hb
  · intro h
    exact ⟨adat a, List.mem_map_of_mem h, by rw [eqv_adat]; exact decide_eq_true rfl⟩
/-- texts of the kind that arrows bear -/
def okS (a : Arw) : Prop := PyData.strOk a.2.1 = true ∧ PyData.strOk a.2.2.1 = true
theorem small_strOk : ∀ c ∈ smallL, PyData.strOk (Sx [c]) = true := by decide +kernel
theorem deeds_strOk : ∀ d ∈ deedsL, PyData.strOk d = true := by decide +kernel
theorem letB_small {ls : List Nat} (h : letB ls = true) : ∀ c ∈ ls, c ∈ smallL := fun c hc => by
  unfold letB smaB at h
  simp only [Bool.and_eq_true] at h
  exact of_decide_eq_true (List.all_eq_true.mp h.2.1 c hc)
theorem arrB_okS {n : Int} {ls : List Nat} {a : Arw} (hl : letB ls = true) (h : arrB n ls a = true) : okS a := by
  unfold arrB at h
  simp only [Bool.and_eq_true] at h
  obtain ⟨c, hc, e⟩ := List.any_eq_true.mp h.1.2
  refine ⟨?_, deeds_strOk _ (of_decide_eq_true h.2)⟩
  rw [of_decide_eq_true e]
  exact small_strOk c (letB_small hl c hc)
theorem lay_adat {a : Arw} (h : okS a) : (adat a).canLay0 = true := by
  unfold adat
  simp only [PyData.canLay0, PyData.canLayAll0, h.1, h.2, Bool.and_true]
theorem lay_row : ∀ {as : List Arw}, (∀ a ∈ as, okS a) → PyData.canLayAll0 (as.map adat) = true
  | [], _ => rfl
  | a :: r, h => by
    show (PyData.canLay0 (adat a) && PyData.canLayAll0 (r.map adat)) = true
    rw [lay_adat (h a List.mem_cons_self), lay_row fun b hb => h b (List.mem_cons_of_mem _ hb)]
    rfl
theorem dep_adat (a : Arw) : (adat a).depth ≤ 8 := by
  unfold adat
  simp [PyData.depth, PyData.depthAll]
theorem dep_row : ∀ as : List Arw, PyData.depthAll (as.map adat) ≤ 8
  | [] => by simp [PyData.depthAll]
  | a :: r => by
    show PyData.depthAll (adat a :: r.map adat) ≤ 8
    have h1 := dep_adat a
    have h2 := dep_row r
    rw [PyData.depthAll]
    exact Nat.max_le.mpr ⟨h1, h2⟩
theorem shA {a : Arw} (h : okS a) : SeqAt.shaped (adat a) = true := by
  unfold SeqAt.shaped
  rw [lay_adat h, decide_eq_true (Nat.le_trans (dep_adat a) (by decide))]
  rfl
theorem shR {as : List Arw} (h : ∀ a ∈ as, okS a) : SeqAt.shaped (.list (as.map adat)) = true := by
  unfold SeqAt.shaped
  have h1 : (PyData.list (as.map adat)).canLay0 = true := by rw [PyData.canLay0]; exact lay_row h
  have h2 : (PyData.list (as.map adat)).depth ≤ 64 := by
    rw [PyData.depth]
    have := dep_row as
    omega
  rw [h1, decide_eq_true h2]
  rfl
theorem lay_ints : ∀ ns : List Int, PyData.canLayAll0 (ns.map PyData.int) = true
  | [] => rfl
  | a :: r => by
    show (PyData.canLay0 (.int a) && PyData.canLayAll0 (r.map PyData.int)) = true
    rw [lay_ints r]
    rfl
theorem shI (ns : List Int) : SeqAt.shaped (.list (ns.map .int)) = true := by
  unfold SeqAt.shaped
  have h1 : (PyData.list (ns.map .int)).canLay0 = true := by rw [PyData.canLay0]; exact lay_ints ns
  have h2 : (PyData.list (ns.map .int)).depth ≤ 64 := by
    rw [PyData.depth, PySem.W.depth_ints]
    decide
  rw [h1, decide_eq_true h2]
  rfl
theorem dpRow {K : PySem.W.Frag} {H : Hp} : ∀ {ps : List AR}, RowAt K H ps → DpAll K H (rfs ps) ((ps.map (·.2)).map adat)
  | [], _ => .nil
  | p :: r, h => .cons (dp_arw (h p List.mem_cons_self)) (dpRow fun q hq => h q (List.mem_cons_of_mem _ hq))
theorem dpInts {K : PySem.W.Frag} {H : Hp} : ∀ ns : List Int, DpAll K H (ns.map V.int) (ns.map PyData.int)
  | [] => .nil
  | _ :: r => .cons (.int _) (dpInts r)
/-! ### what the law draws: a tuple of five -/
def DrawnAt (K : PySem.W.Frag) (H : Hp) (t : Addr) (M : AM) : Prop := ∃ (la lf lg : Addr) (ps : List AR), H t = some (.tup [.int M.n, .str (Sx M.ls), .ref la, .ref lf, .ref lg]) ∧ H la = some (.lst (rfs ps)) ∧ RowAt K H ps ∧ ps.map (·.2) = M.as ∧ H lf = some (.lst (M.fs.map V.int)) ∧ H lg = some (.lst (M.gs.map V.int))
theorem DrawnAt.same {K : PySem.W.Frag} {H H' : Hp} {t : Addr} {M : AM} (h : DrawnAt K H t M) (s : Same H H') : DrawnAt K H' t M := by
  obtain ⟨la, lf, lg, ps, h1, h2, h3, h4, h5, h6⟩ := h
  exact ⟨la, lf, lg, ps, s _ _ h1, s _ _ h2, h3.same s, h4, s _ _ h5, s _ _ h6⟩
end Onp
set_option maxHeartbeats 8000000
set_option autoImplicit false
namespace Onp
open PySem PySem.Spec PyProof.Rows L2
theorem Bg.keepT {K : PySem.W.Frag} {g : Bid} {H H' : Hp} {a : Addr} {xs : List V} (B : Bg H g) (k : Keep g.b H H') (h : SqT K H a xs) : SqT K H' a xs := by
  obtain ⟨i, r, z, c, h1, h2, h3⟩ := B
  by_cases e : a = g.b
  · subst e
    rcases h with (h | ⟨o, h⟩) | h
    · rw [h1] at h
      cases h
    · rw [h1] at h
      cases h
    · exact .inr h
  · exact k.seqT e h
theorem Bg.keepRow {K : PySem.W.Frag} {g : Bid} {H H' : Hp} {ps : List AR} (B : Bg H g) (k : Keep g.b H H') (h : RowAt K H ps) : RowAt K H' ps := fun p hp => B.keepT k (h p hp)
theorem Bg.neRfs {g : Bid} {H : Hp} {a : Addr} {ps : List AR} (B : Bg H g) (h : H a = some (.lst (rfs ps))) : a ≠ g.b := fun e => by
  subst e
  obtain ⟨i, r, z, c, h1, h2, h3⟩ := B
  rw [h1] at h
  unfold bagV at h
  have h' : [V.ref g.l, V.int i, V.int r, V.int z, V.int c] = rfs ps := HO.lst.inj (Option.some.inj h)
  have : V.int i ∈ rfs ps := by rw [← h']; simp
  obtain ⟨p, _, e⟩ := List.mem_map.mp this
  cases e
theorem Bg.neInts {g : Bid} {H : Hp} {a : Addr} {ns : List Int} (B : Bg H g) (h : H a = some (.lst (ns.map V.int))) : a ≠ g.b := fun e => by
  subst e
  obtain ⟨i, r, z, c, h1, h2, h3⟩ := B
  rw [h1] at h
  unfold bagV at h
  match ns, h with
  | [], h => cases h
  | _ :: _, h => cases h
theorem Bg.neTup {g : Bid} {H : Hp} {a : Addr} {xs : List V} (B : Bg H g) (h : H a = some (.tup xs)) : a ≠ g.b := fun e => by
  subst e
  obtain ⟨i, r, z, c, h1, h2, h3⟩ := B
  rw [h1] at h
  cases h
theorem DrawnAt.keep {K : PySem.W.Frag} {H H' : Hp} {t : Addr} {M : AM} {g : Bid} (h : DrawnAt K H t M) (B : Bg H g) (k : Keep g.b H H') : DrawnAt K H' t M := by
  obtain ⟨la, lf, lg, ps, h1, h2, h3, h4, h5, h6⟩ := h
  exact ⟨la, lf, lg, ps, k _ _ (B.neTup h1) h1, k _ _ (B.neRfs h2) h2, B.keepRow k h3, h4, k _ _ (B.neInts h5) h5, k _ _ (B.neInts h6) h6⟩
theorem room65 {k : Nat} {A : Around} (r : Room k A) : A.units + 65 < cLine := by have := r.un; omega
theorem eqv_nil (ds : List PyData) : PyData.eqv (.list ds) (.list []) = decide (ds = []) := by
  cases ds <;> simp [PyData.eqv, PyData.eqvAll]
section
variable {P : Program} {w : World} {K : PySem.W.Frag} {mg : Str → Option Value} {base : Heap}
/-! ### _law_rooms_some -/
def NRs : List Str := ["_law_bag_here", "_law_rooms", "_law_some", "_law_room"]
theorem scRooms : FnScope NRs ["_law_bag_here", "_law_rooms"] (defScope sRooms) := ⟨rfl, rfl, rfl, by decide +kernel, rfl, by decide +kernel, by decide +kernel⟩
def spRooms : Sp := fun vs H Q _ => ∃ (g : Bid) (n : Int), vs = [.ref g.b, .int n] ∧ 1 ≤ n ∧ n ≤ 100 ∧ Bg H g ∧ ∀ (ns : List Int) (l : Addr) H', (∀ r ∈ ns, rooB n r = true) → ns.Nodup → ns.length ≤ 100 → H' l = some (.lst (ns.map V.int)) → Keep g.b H H' → Bg H' g → Q (.ref l) H'
theorem ok_rooms {f fP : Addr} {fd fdP : FuncData} {k : Nat} (F : Fun K "_law_rooms_some" "_law_rooms_some" sRooms f fd) (Pu : FnM K mg fP fdP "_law_pull" sPull ["_law_bag_here", "_law_many"]) (ml : mg "len" = none) (mr : mg "range" = none) : FnOk P w K mg base CX0 (k + 2) f fd ["_law_bag_here", "_law_rooms"] spRooms := by
  have GP : FnOk P w K mg base CX0 (k + 1) fP fdP ["_law_bag_here", "_law_many"] (spPull K) := ok_pull Pu.F ml
  refine F.ok scRooms (fun vs H Q E h => ?_) (fun cdv A outer s H vs Q E hr h => ?_)
  · obtain ⟨g, m, rfl, _⟩ := h
    rfl
  · obtain ⟨g, n, rfl, n1, n2, B, q⟩ := h
    refine ⟨_, pss_cons (ps_setLc (i := 2) (own := [("_law_room", 3)]) (g := gName 3) (tt := tTest (tOp rEq (tCall (spPull K) [] E0 (tCons (tVar 0) (tCons (tC (.int 2)) tNil))) (tC (.int 0)))) (te := tVar 3) rfl scRooms.nd rfl rfl (sw_true rfl rfl rfl (by decide +kernel))
        (pi_range1 (by rfl) mr (pa_cons (pv 1) pa_nil)) (blkOk_by (own := [("_law_room", 3)]) (N := NRs) (sc := defScope sRooms) (by decide +kernel))
        (fun _ _ _ _ _ => pg_name (i := 3) scRooms.nd rfl (Or.inl rfl)) (fun _ _ _ _ _ => pts_one (pt_cmpR op_eq (pe_call GP hr (by rfl) Pu.g Pu.F.kp Pu.b .nil pass0 (pa_cons (pv 0) (pa_cons pe_int pa_nil))) pe_int (nomark _))) (fun _ _ _ _ _ => pv 3))
      (pss_one (ps_ret (pe_ifExp (PW.pt (pw_or (pt_cmpR (op_neD hr.units) (pv 2) (pe_lst pa_nil) (nomark _)) (pw_or1 (pt_cmpR op_eq (pe_call GP hr (by rfl) Pu.g Pu.F.kp Pu.b .nil pass0 (pa_cons (pv 0) (pa_cons pe_int pa_nil))) pe_int (nomark _)))))
        (pv 2) (pe_lst (pa_cons (pe_call GP hr (by rfl) Pu.g Pu.F.kp Pu.b .nil pass0 (pa_cons (pv 0) (pa_cons (pv 1) pa_nil))) pa_nil))))), ?_⟩
    have hbig : 5000 ≤ sizeLine := by decide
    refine ⟨_, rfl, n, rfl, by omega, by omega, fun D nD => ?_⟩
    obtain ⟨m, rfl⟩ : ∃ m : Nat, n = (m : Int) := ⟨n.toNat, by omega⟩
    rw [show (m : Int).toNat = m by omega]
    have neD := B.ne nD
    refine lc_range (lo := 0) (n := m) (fun i H' => ∃ ns : List Int, H' D = some (.lst (ns.map V.int)) ∧ (∀ r ∈ ns, 0 ≤ r ∧ r < i) ∧ ns.Nodup ∧ ns.length ≤ i ∧ Keep g.b H H' ∧ Bg H' g) ⟨[], upd_same, (fun _ h => nomatch h), .nil, Nat.le_refl _, Keep.new nD, B.new nD⟩ (fun j H' hj hI => ?_) (fun H5 hI => ?_)
    · obtain ⟨ns, hD, hb, hnd, hln, kk, BB⟩ := hI
      refine ⟨rfl, ?_⟩
      refine ⟨_, rfl, g, 2, rfl, by decide, by decide, BB, fun z H2 z0 z1 k2 B2 => ?_⟩
      have hD2 := k2 _ _ neD hD
      refine ⟨rfl, _, rfl, ?_⟩
      dsimp only
      split
      · refine ⟨_, rfl, _, hD2, by rw [List.length_map]; omega, ns ++ [0 + (j : Int)], ?_, ?_, ?_, ?_, ?_, ?_⟩
        · rw [upd_same, List.map_append]
          rfl
        · intro r hr'
          rcases List.mem_append.mp hr' with h | h
          · have := hb r h
            omega
          · have := List.mem_singleton.mp h
            omega
        · rw [List.nodup_append]
          refine ⟨hnd, by simp, fun a ha b hb' e => ?_⟩
          have h1 := hb a ha
          have h2 := List.mem_singleton.mp hb'
          omega
        · rw [List.length_append]
          show ns.length + 1 ≤ j + 1
          omega
        · exact fun a o ne e => by
            by_cases e1 : a = D
            · subst e1
              rw [nD] at e
              cases e
            · rw [upd_ne e1]
              exact k2 _ _ ne (kk _ _ ne e)
        · exact B2.put neD (fun e => by
            obtain ⟨_, _, _, _, _, h2, _⟩ := B
            rw [← e, nD] at h2
            cases h2)
      · exact ⟨ns, hD2, fun r h => by have := hb r h; omega, hnd, by omega, kk.trans k2, B2⟩
    · obtain ⟨ns, hD, hb, hnd, hln, kk, BB⟩ := hI
      have hroo : ∀ r ∈ ns, rooB (m : Int) r = true := fun r h => by
        have := hb r h
        unfold rooB
        rw [Bool.and_eq_true, decide_eq_true_eq, decide_eq_true_eq]
        exact this
      refine ⟨.ref D, rfl, (by decide : 0 ≤ sizeLine), fun p np => ?_⟩
      have s1 := same_upd (o := .lst []) np
      refine ⟨.list (ns.map .int), .list [], .lst (SqL.of (s1 _ _ hD)) (dpInts ns), .lst (SqL.of upd_same) .nil, shI ns, by decide +kernel, _, rfl, ?_⟩
      rw [eqv_nil]
      have B1 := BB.same s1
      have k1 : Keep g.b H _ := kk.trans (Keep.of s1)
      by_cases hn : ns = []
      · subst hn
        show if (!decide (([] : List PyData) = [])) = true then _ else _
        rw [decide_eq_true rfl]
        refine iteF ⟨_, rfl, g, 6, rfl, by decide, by decide, B1, fun z H2 z0 z1 k2 B2 => ?_⟩
        refine ⟨rfl, _, rfl, ?_⟩
        dsimp only
        split
        · exact ⟨.ref D, rfl, q [] D H2 hroo hnd (by decide) (k2 _ _ neD (s1 _ _ hD)) (k1.trans k2) B2⟩
        · refine ⟨_, rfl, _, rfl, g, (m : Int), rfl, by omega, Nat.lt_trans (show (m : Int).natAbs < 2 ^ 64 by omega) (by decide), B2, fun y H3 y0 y1 k3 B3 => ?_⟩
          refine ⟨(by decide : 1 ≤ sizeLine), fun p3 np3 => ?_⟩
          refine q [y] p3 _ (fun r h => ?_) (by simp) (show 1 ≤ 100 by decide) upd_same (((k1.trans k2).trans k3).trans (Keep.new np3)) (B3.new np3)
          rw [List.mem_singleton.mp h]
          unfold rooB
          rw [Bool.and_eq_true, decide_eq_true_eq, decide_eq_true_eq]
          exact ⟨y0, y1⟩
      · rw [decide_eq_false (fun e => hn (List.map_eq_nil_iff.mp e))]
        exact iteT (iteT ⟨.ref D, rfl, q ns D _ hroo hnd (by omega) (s1 _ _ hD) k1 B1⟩)
/-! ### _law_arrow -/
theorem scArrow : FnScope ["_law_bag_here", "_law_rooms", "_law_letters_here"] ["_law_bag_here", "_law_rooms", "_law_letters_here"] (defScope sArrow) := ⟨rfl, rfl, rfl, by decide +kernel, rfl, by decide +kernel, by decide +kernel⟩
def spArrow : Sp := fun vs H Q _ => ∃ (g : Bid) (n : Int) (ls : List Nat), vs = [.ref g.b, .int n, .str (Sx ls)] ∧ 1 ≤ n ∧ n ≤ 100 ∧ 0 < ls.length ∧ ls.length < 1000 ∧ Bg H g ∧ ∀ (a : Arw) (t : Addr) H', arrB n ls a = true → H' t = some (.tup (aV a)) → Keep g.b H H' → Bg H' g → Q (.ref t) H'
theorem ok_arrow {f fP fO fD : Addr} {fd fdP fdO fdD : FuncData} {k : Nat} (F : Fun K "_law_arrow" "_law_arrow" sArrow f fd) (Pu : FnM K mg fP fdP "_law_pull" sPull ["_law_bag_here", "_law_many"]) (O : FnM K mg fO fdO "_law_of" sOf ["_law_bag_here", "_law_some"]) (De : FnM K mg fD fdD "_law_deed" sDeed ["_law_bag_here"]) (ml : mg "len" = none) : FnOk P w K mg base CX0 (k + 4) f fd ["_law_bag_here", "_law_rooms", "_law_letters_here"] spArrow := by
  have GP : FnOk P w K mg base CX0 (k + 3) fP fdP ["_law_bag_here", "_law_many"] (spPull K) := ok_pull Pu.F ml
  have GO : FnOk P w K mg base CX0 (k + 3) fO fdO ["_law_bag_here", "_law_some"] spOfS := ok_ofS O.F Pu.F Pu.b Pu.g ml
  have GD : FnOk P w K mg base CX0 (k + 3) fD fdD ["_law_bag_here"] spDeed := ok_deed De.F O Pu ml
  refine F.ok scArrow (fun vs H Q E h => ?_) (fun cdv A outer s H vs Q E hr h => ?_)
  · obtain ⟨g, m, ls, rfl, _⟩ := h
    rfl
  · obtain ⟨g, n, ls, rfl, n1, n2, l1, l2, B, q⟩ := h
    refine ⟨_, pss_one (ps_ret (pe_tup (pa_cons (pe_call GP hr (by rfl) Pu.g Pu.F.kp Pu.b .nil pass0 (pa_cons (pv 0) (pa_cons (pv 1) pa_nil))) (pa_cons (pe_call GO hr (by rfl) O.g O.F.kp O.b .nil pass0 (pa_cons (pv 0) (pa_cons (pv 2) pa_nil)))
      (pa_cons (pe_call GD hr (by rfl) De.g De.F.kp De.b .nil pass0 (pa_cons (pv 0) pa_nil)) (pa_cons (pe_call GP hr (by rfl) Pu.g Pu.F.kp Pu.b .nil pass0 (pa_cons (pv 0) (pa_cons (pv 1) pa_nil))) pa_nil)))))), ?_⟩
    have nb : n.natAbs < 2 ^ 200 := Nat.lt_trans (show n.natAbs < 2 ^ 64 by omega) (by decide)
    refine ⟨_, rfl, _, rfl, g, n, rfl, by omega, nb, B, fun x H1 x0 x1 k1 B1 => ?_⟩
    refine ⟨_, rfl, _, rfl, g, ls, rfl, B1, l1, l2, fun c H2 hc k2 B2 => ?_⟩
    refine ⟨_, rfl, g, rfl, B2, fun d H3 hd k3 B3 => ?_⟩
    refine ⟨_, rfl, _, rfl, g, n, rfl, by omega, nb, B3, fun y H4 y0 y1 k4 B4 => ?_⟩
    refine ⟨(by decide : 4 ≤ sizeLine), fun t nt => ?_⟩
    refine q (x, Sx [c], d, y) t _ ?_ upd_same ((((k1.trans k2).trans k3).trans k4).trans (Keep.new nt)) (B4.new nt)
    unfold arrB
    dsimp only
    rw [decide_eq_true x0, decide_eq_true x1, decide_eq_true y0, decide_eq_true y1, decide_eq_true hd, show (ls.any fun c' => decide (Sx [c] = Sx [c'])) = true from List.any_eq_true.mpr ⟨c, hc, decide_eq_true rfl⟩]
    rfl
/-! ### _law_drawn -/
def NDr : List Str := ["_law_bag_here", "_law_rooms_most", "_law_letters_most", "_law_arrows_most", "_law_rooms", "_law_letters_here", "_law_arrows", "_law_k", "_law_arrow_here"]
def psDr : List Str := ["_law_bag_here", "_law_rooms_most", "_law_letters_most", "_law_arrows_most"]
theorem scDrawn : FnScope NDr psDr (defScope sDrawn) := ⟨rfl, rfl, rfl, by decide +kernel, rfl, by decide +kernel, by decide +kernel⟩
def spDrawn (K : PySem.W.Frag) : Sp := fun vs H Q _ => ∃ (g : Bid) (rm lm am : Int), vs = [.ref g.b, .int rm, .int lm, .int am] ∧ 1 ≤ rm ∧ rm ≤ 8 ∧ 1 ≤ lm ∧ lm ≤ 3 ∧ 0 ≤ am ∧ am ≤ 40 ∧ Bg H g ∧ ∀ (t : Addr) (M : AM) H', M.ok → M.n ≤ rm → (M.ls.length : Int) ≤ lm → (M.as.length : Int) ≤ am → (∀ c ∈ M.ls.take 2, c < 122) → DrawnAt K H' t M → Keep g.b H H' → Bg H' g → Q (.ref t) H'
theorem letB_pos {ls : List Nat} (h : letB ls = true) : 1 ≤ ls.length ∧ ls.length ≤ 3 := by
  unfold letB at h
  simp only [Bool.and_eq_true, decide_eq_true_eq] at h
  omega
theorem ok_drawn {f fP fO fD fL fR fA : Addr} {fd fdP fdO fdD fdL fdR fdA : FuncData} {k : Nat} (F : Fun K "_law_drawn" "_law_drawn" sDrawn f fd) (Pu : FnM K mg fP fdP "_law_pull" sPull ["_law_bag_here", "_law_many"]) (O : FnM K mg fO fdO "_law_of" sOf ["_law_bag_here", "_law_some"]) (De : FnM K mg fD fdD "_law_deed" sDeed ["_law_bag_here"])
    (Le : FnM K mg fL fdL "_law_letters" sLett ["_law_bag_here", "_law_most"]) (Ro : FnM K mg fR fdR "_law_rooms_some" sRooms ["_law_bag_here", "_law_rooms"]) (Ar : FnM K mg fA fdA "_law_arrow" sArrow ["_law_bag_here", "_law_rooms", "_law_letters_here"])
    (ml : mg "len" = none) (mr : mg "range" = none) (mi : mg "int" = none) : FnOk P w K mg base CX0 (k + 5) f fd psDr (spDrawn K) := by
  have GP : FnOk P w K mg base CX0 (k + 4) fP fdP ["_law_bag_here", "_law_many"] (spPull K) := ok_pull Pu.F ml
  have GL : FnOk P w K mg base CX0 (k + 4) fL fdL ["_law_bag_here", "_law_most"] spLett := ok_lett Le.F Pu ml mr
  have GR : FnOk P w K mg base CX0 (k + 4) fR fdR ["_law_bag_here", "_law_rooms"] spRooms := ok_rooms Ro.F Pu ml mr
  have GA : FnOk P w K mg base CX0 (k + 4) fA fdA ["_law_bag_here", "_law_rooms", "_law_letters_here"] spArrow := ok_arrow Ar.F Pu O De ml
  refine F.ok scDrawn (fun vs H Q E h => ?_) (fun cdv A outer s H vs Q E hr h => ?_)
  · obtain ⟨g, rm, lm, am, rfl, _⟩ := h
    rfl
  · obtain ⟨g, rm, lm, am, rfl, r1, r2, l1, l2, a1, a2, B, q⟩ := h
    refine ⟨_, pss_cons (ps_par (i := 4) (j := 5) rfl scDrawn.nd rfl rfl (by decide) rfl rfl (pa_cons (pe_op op_add pe_int (pe_call GP hr (by rfl) Pu.g Pu.F.kp Pu.b .nil pass0 (pa_cons (pv 0) (pa_cons (pv 1) pa_nil)))) (pa_cons (pe_call GL hr (by rfl) Le.g Le.F.kp Le.b .nil pass0 (pa_cons (pv 0) (pa_cons (pv 2) pa_nil))) pa_nil)) rfl)
      (pss_cons (ps_set (i := 6) scDrawn.nd rfl (.inl rfl) (pe_lst pa_nil))
      (pss_cons (ps_for PassesOwn.never rfl (pi_range1 (by rfl) mr (pa_cons (pe_call GP hr (by rfl) Pu.g Pu.F.kp Pu.b .nil pass0 (pa_cons (pv 0) (pa_cons (pe_op op_add (pv 3) pe_int) pa_nil))) pa_nil)) (pg_name (i := 7) scDrawn.nd rfl (.inl rfl))
        (pss_cons (ps_set (i := 8) scDrawn.nd rfl (.inl rfl) (pe_call GA hr (by rfl) Ar.g Ar.F.kp Ar.b .nil pass0 (pa_cons (pv 0) (pa_cons (pv 4) (pa_cons (pv 5) pa_nil)))))
        (pss_one (ps_set (i := 6) scDrawn.nd rfl (.inl rfl) (pe_op op_cat (pv 6) (pe_op op_rep (pe_lst (pa_cons (pv 8) pa_nil)) (pe_callTy call_int1 (by rfl) mi (by decide +kernel) (pa_cons (pe_cmpR (op_notInD (room65 hr)) (pv 8) (pv 6) (by rfl)) pa_nil))))))))
      (pss_one (ps_ret (pe_tup (pa_cons (pv 4) (pa_cons (pv 5) (pa_cons (pv 6) (pa_cons (pe_call GR hr (by rfl) Ro.g Ro.F.kp Ro.b .nil pass0 (pa_cons (pv 0) (pa_cons (pv 4) pa_nil))) (pa_cons (pe_call GR hr (by rfl) Ro.g Ro.F.kp Ro.b .nil pass0 (pa_cons (pv 0) (pa_cons (pv 4) pa_nil))) pa_nil)))))))))), ?_⟩
    have hbig : 5000 ≤ sizeLine := by decide
    refine ⟨_, rfl, _, rfl, g, rm, rfl, by omega, Nat.lt_trans (show rm.natAbs < 2 ^ 64 by omega) (by decide), B, fun x H1 x0 x1 k1 B1 => ?_⟩
    refine ⟨_, _, rfl, rfl, _, rfl, _, rfl, g, lm, rfl, l1, l2, B1, fun ls H2 hls hll hlow k2 B2 => ?_⟩
    have hl3 := letB_pos hls
    refine ⟨_, _, rfl, (by decide : 0 ≤ sizeLine), fun la nla => ?_⟩
    have B3 := B2.new (o := .lst []) nla
    have k3 : Keep g.b H _ := (k1.trans k2).trans (Keep.new (o := .lst []) nla)
    have h3 : upd H2 la (.lst []) la = some (.lst (rfs [])) := upd_same
    generalize upd H2 la (.lst []) = H3 at B3 k3 h3
    refine ⟨_, rfl, _, rfl, _, _, rfl, rfl, g, am + 1, rfl, by omega, Nat.lt_trans (show (am + 1).natAbs < 2 ^ 64 by omega) (by decide), B3, fun z H4 z0 z1 k4 B4 => ?_⟩
    obtain ⟨zn, rfl⟩ : ∃ zn : Nat, z = (zn : Int) := ⟨z.toNat, by omega⟩
    refine ⟨(zn : Int), rfl, by omega, by omega, for_range (lo := 0) (n := zn) (fun i σ H' => ∃ (la : Addr) (ps : List AR) (y7 y8 : Option V), σ = [some (.ref g.b), some (.int rm), some (.int lm), some (.int am), some (.int (1 + x)), some (.str (Sx ls)), some (.ref la), y7, y8] ∧ H' la = some (.lst (rfs ps)) ∧ RowAt K H' ps ∧ (∀ p ∈ ps, arrB (1 + x) ls p.2 = true) ∧ (ps.map (·.2)).Nodup ∧ ps.length ≤ i ∧ Keep g.b H H' ∧ Bg H' g)
      ⟨la, [], _, _, rfl, k4 _ _ (B3.neRfs h3) h3, (fun _ h => nomatch h), (fun _ h => nomatch h), .nil, Nat.le_refl _, k3.trans k4, B4⟩ ?_ ?_⟩
    · rintro i σ H5 hi ⟨la, ps, y7, y8, rfl, hla, hR, hA, hnd, hln, k5, B5⟩
      refine ⟨_, rfl, _, rfl, _, rfl, g, 1 + x, ls, rfl, by omega, by omega, by omega, by omega, B5, fun a t H6 ha ht k6 B6 => ?_⟩
      have hla6 := k6 _ _ (B5.neRfs hla) hla
      have hR6 := B5.keepRow k6 hR
      refine ⟨.ref la, rfl, _, rfl, (by decide : 1 ≤ sizeLine), fun p np => ?_⟩
      have s7 := same_upd (o := .lst [.ref t]) np
      have B7 := B6.same s7
      have hp7 : upd H6 p (.lst [.ref t]) p = some (.lst [.ref t]) := upd_same
      have k7 : Keep g.b H _ := (k5.trans k6).trans (Keep.of s7)
      have hla7 := s7 _ _ hla6
      have hR7 := hR6.same s7
      have ht7 := s7 _ _ ht
      generalize upd H6 p (.lst [.ref t]) = H7 at B7 hp7 k7 hla7 hR7 ht7
      have hok : ∀ b ∈ ps.map (·.2), okS b := fun b hb => by
        obtain ⟨p', hp', rfl⟩ := List.mem_map.mp hb
        exact arrB_okS hls (hA p' hp')
      refine ⟨.ref t, rfl, .ref la, rfl, adat a, (ps.map fun p : AR => p.2).map adat, dp_arw (p := (t, a)) (SqT.of ht7), .lst (SqL.of hla7) (dpRow hR7), shA (arrB_okS hls ha), shR hok, .inr ⟨_, rfl, ?_⟩⟩
      rw [any_adat]
      by_cases hin : a ∈ ps.map (·.2)
      · rw [decide_eq_true hin]
        refine ⟨p, 0, [.ref t], rfl, rfl, hp7, by decide, by decide, (show 1 * 0 ≤ sizeLine by decide), fun p8 np8 => ?_⟩
        have s8 := same_upd (o := .lst (List.replicate (Int.toNat 0) [V.ref t]).flatten) np8
        refine ⟨la, p8, rfs ps, [], rfl, rfl, s8 _ _ hla7, upd_same, ?_, fun p9 np9 => ?_⟩
        · unfold rfs
          rw [List.length_map]
          show ps.length + 0 ≤ sizeLine
          omega
        · have s9 := s8.trans (same_upd (o := .lst (rfs ps ++ [])) np9)
          exact ⟨p9, ps, _, _, rfl, by rw [upd_same, List.append_nil], hR7.same s9, hA, hnd, by omega, k7.trans (Keep.of s9), B7.same s9⟩
      · rw [decide_eq_false hin]
        refine ⟨p, 1, [.ref t], rfl, rfl, hp7, by decide, by decide, (by decide : 1 ≤ sizeLine), fun p8 np8 => ?_⟩
        have s8 := same_upd (o := .lst (List.replicate (Int.toNat 1) [V.ref t]).flatten) np8
        refine ⟨la, p8, rfs ps, [.ref t], rfl, rfl, s8 _ _ hla7, upd_same, ?_, fun p9 np9 => ?_⟩
        · unfold rfs
          rw [List.length_map]
          show ps.length + 1 ≤ sizeLine
          omega
        · have s9 := s8.trans (same_upd (o := .lst (rfs ps ++ [.ref t])) np9)
          refine ⟨p9, ps ++ [(t, a)], _, _, rfl, ?_, ?_, ?_, ?_, ?_, k7.trans (Keep.of s9), B7.same s9⟩
          · rw [upd_same]
            unfold rfs
            rw [List.map_append]
            rfl
          · intro p' hp'
            rcases List.mem_append.mp hp' with h | h
            · exact hR7.same s9 p' h
            · rw [List.mem_singleton.mp h]
              exact SqT.of (s9 _ _ ht7)
          · intro p' hp'
            rcases List.mem_append.mp hp' with h | h
            · exact hA p' h
            · rw [List.mem_singleton.mp h]
              exact ha
          · rw [List.map_append, List.nodup_append]
            refine ⟨hnd, by simp, fun b hb c hc e => ?_⟩
            have := List.mem_singleton.mp hc
            subst this e
            exact hin hb
          · rw [List.length_append]
            show ps.length + 1 ≤ i + 1
            omega
    · rintro σ H5 ⟨la, ps, y7, y8, rfl, hla, hR, hA, hnd, hln, k5, B5⟩
      refine ⟨_, rfl, _, rfl, _, rfl, _, rfl, _, rfl, g, 1 + x, rfl, by omega, by omega, B5, fun fs lf H6 hf1 hf2 hf3 hf4 k6 B6 => ?_⟩
      refine ⟨_, rfl, _, rfl, g, 1 + x, rfl, by omega, by omega, B6, fun gs lg H7 hg1 hg2 hg3 hg4 k7 B7 => ?_⟩
      refine ⟨(by decide : 5 ≤ sizeLine), fun t nt => ?_⟩
      have s8 := same_upd (o := .tup [.int (1 + x), .str (Sx ls), .ref la, .ref lf, .ref lg]) nt
      refine q t ⟨1 + x, ls, ps.map (·.2), fs, gs⟩ _ ⟨(show 1 ≤ 1 + x by omega), (show 1 + x ≤ 8 by omega), hls, fun a ha => ?_, hnd, ?_, hf1, hf2, hg1, hg2, hf3, hg3⟩ (show 1 + x ≤ rm by omega) hll ?_ hlow ⟨la, lf, lg, ps, upd_same, ?_, ?_, rfl, ?_, ?_⟩ (((k5.trans k6).trans k7).trans (Keep.of s8)) (B7.same s8)
      · obtain ⟨p', hp', rfl⟩ := List.mem_map.mp ha
        exact hA p' hp'
      · rw [List.length_map]
        omega
      · rw [List.length_map]
        omega
      · exact s8 _ _ (k7 _ _ (B6.neRfs (k6 _ _ (B5.neRfs hla) hla)) (k6 _ _ (B5.neRfs hla) hla))
      · exact (B6.keepRow k7 (B5.keepRow k6 hR)).same s8
      · exact s8 _ _ (k7 _ _ (B6.neInts hf4) hf4)
      · exact s8 _ _ hg4
end
end Onp
set_option maxHeartbeats 8000000
set_option autoImplicit false
namespace Onp
open PySem PySem.Spec PyProof.Rows L2
abbrev sMade : Stmt := topS 64
abbrev sSortd : Stmt := topS 66
section
variable {P : Program} {w : World} {K : PySem.W.Frag} {mg : Str → Option Value} {base : Heap}
/-! ### Machine(a, b, c, firsts=.., lasts=..) -/
theorem kb_made {f : Addr} {fd : FuncData} {dvs : List V} {kws : List (Str × V)} (F : FunD K "__init__" "Machine.__init__" (defArgs sMInit) (defBody sMInit) (defScope sMInit) dvs kws f fd) (hd : dvs ≠ []) (h1 : dvs.length = 1) :
    ∃ g : List Value → List Value → List Value, KBn K fd psMI 4 ["firsts", "lasts"] g (fun vs zs => vs ++ zs) := by
  obtain ⟨its, h⟩ := F.kbindsD (ps := psMI) 4 ["firsts", "lasts"] (fun us _ ws => us ++ ws) hd (fun r1 _ r3 => r1.append r3) (fun T kV doc pm an cdv ct us its ws l1 l2 l3 => by
    rw [h1] at l2
    match us, l1, ws, l3, its, l2 with
    | [a, b, c, d], _, [e, f], _, [z], _ => exact ⟨_, rfl, rfl⟩)
  exact ⟨_, h⟩
theorem kb_made2 {f : Addr} {fd : FuncData} {dvs : List V} {kws : List (Str × V)} (F : FunD K "__init__" "Machine.__init__" (defArgs sMInit) (defBody sMInit) (defScope sMInit) dvs kws f fd) (hd : dvs ≠ []) (h1 : dvs.length = 1) :
    ∃ g : List Value → List Value → List Value, KBn K fd psMI 4 ["lasts", "firsts"] g (fun vs zs => vs ++ zs.reverse) := by
  obtain ⟨its, h⟩ := F.kbindsD (ps := psMI) 4 ["lasts", "firsts"] (fun us _ ws => us ++ ws.reverse) hd (fun r1 _ r3 => r1.append r3.reverse) (fun T kV doc pm an cdv ct us its ws l1 l2 l3 => by
    rw [h1] at l2
    match us, l1, ws, l3, its, l2 with
    | [a, b, c, d], _, [e, f], _, [z], _ => exact ⟨_, rfl, rfl⟩)
  exact ⟨_, h⟩
/-- the class and what its making needs -/
structure MkM (K : PySem.W.Frag) (mg : Str → Option Value) (C : Addr) (fdI : FuncData) (fI : Addr) (dvs : List V) (kws : List (Str × V)) : Prop where
  F : FunD K "__init__" "Machine.__init__" (defArgs sMInit) (defBody sMInit) (defScope sMInit) dvs kws fI fdI
  mak : Mk K C fI
  g : mg "Machine" = some (.ref C)
  cl : ClsM K C
  nd : dvs ≠ []
  one : dvs.length = 1
/-! ### _law_made -/
theorem scMade : FnScope ["_law_m"] ["_law_m"] (defScope sMade) := ⟨rfl, rfl, rfl, by decide +kernel, rfl, by decide +kernel, by decide +kernel⟩
def spMade (K : PySem.W.Frag) (C : Addr) : Sp := fun vs H Q _ => ∃ (t : Addr) (M : AM), vs = [.ref t] ∧ DrawnAt K H t M ∧ M.ok ∧ ∀ (m : Addr) H', H m = none → Same H H' → MachAt K C H' m M.srt → Q (.ref m) H'
theorem ok_made {f fI C : Addr} {fd fdI : FuncData} {k : Nat} {dvs : List V} {kws : List (Str × V)} (F : Fun K "_law_made" "_law_made" sMade f fd) (T : MkM K mg C fdI fI dvs kws) (GI : FnOk P w K mg base CX0 k fI fdI psMI (spMInit K C)) (ml : mg "list" = none) : FnOk P w K mg base CX0 (k + 2) f fd ["_law_m"] (spMade K C) := by
  obtain ⟨gg, KB⟩ := kb_made T.F T.nd T.one
  refine F.ok scMade (fun vs H Q E h => ?_) (fun cdv A outer s H vs Q E hr h => ?_)
  · obtain ⟨t, M, rfl, _⟩ := h
    rfl
  · obtain ⟨t, M, rfl, D, ok, q⟩ := h
    refine ⟨_, pss_one (ps_ret (pe_makeN (n := 3) (ks := ["firsts", "lasts"]) T.mak GI hr (by rfl) T.g KB pass0
      (pa_cons (pe_ix ix_tup (pv 0) pe_int (fun _ _ => rfl)) (pa_cons (pe_ix ix_tup (pv 0) pe_int (fun _ _ => rfl)) (pa_cons (pe_callTy call_list_of (by rfl) ml (by decide +kernel) (pa_cons (pe_ix ix_tup (pv 0) pe_int (fun _ _ => rfl)) pa_nil)) pa_nil)))
      (pk_cons (pe_callTy call_list_of (by rfl) ml (by decide +kernel) (pa_cons (pe_ix ix_tup (pv 0) pe_int (fun _ _ => rfl)) pa_nil)) (pk_cons (pe_callTy call_list_of (by rfl) ml (by decide +kernel) (pa_cons (pe_ix ix_tup (pv 0) pe_int (fun _ _ => rfl)) pa_nil)) pk_nil)))), ?_⟩
    obtain ⟨la, lf, lg, ps, h1, h2, h3, h4, h5, h6⟩ := D
    refine ⟨_, rfl, t, _, 0, _, rfl, rfl, SqT.of h1, rfl, ?_⟩
    refine ⟨_, rfl, t, _, 1, _, rfl, rfl, SqT.of h1, rfl, ?_⟩
    refine ⟨_, rfl, t, _, 2, _, rfl, rfl, SqT.of h1, rfl, la, rfs ps, rfl, .inl (SqL.of h2), fun p1 n1 => ?_⟩
    have s1 := same_upd (o := .lst (rfs ps)) n1
    refine ⟨_, rfl, t, _, 3, _, rfl, rfl, SqT.of (s1 _ _ h1), rfl, lf, M.fs.map V.int, rfl, .inl (SqL.of (s1 _ _ h5)), fun p2 n2 => ?_⟩
    have s2 := same_upd (o := .lst (M.fs.map V.int)) n2
    refine ⟨_, rfl, t, _, 4, _, rfl, rfl, SqT.of (s2 _ _ (s1 _ _ h1)), rfl, lg, M.gs.map V.int, rfl, .inl (SqL.of (s2 _ _ (s1 _ _ h6))), fun p3 n3 => ?_⟩
    have s3 := same_upd (o := .lst (M.gs.map V.int)) n3
    refine ⟨rfl, rfl, fun x dx nx ndx ne => ?_⟩
    have e1 := s3 _ _ (s2 _ _ (upd_same (H := H) (a := p1) (o := .lst (rfs ps))))
    have e2 := s3 _ _ (upd_same (H := upd H p1 (.lst (rfs ps))) (a := p2) (o := .lst (M.fs.map V.int)))
    have e3 : upd (upd (upd H p1 (.lst (rfs ps))) p2 (.lst (M.fs.map V.int))) p3 (.lst (M.gs.map V.int)) p3 = some (.lst (M.gs.map V.int)) := upd_same
    have s13 := (s1.trans s2).trans s3
    generalize upd (upd (upd H p1 (.lst (rfs ps))) p2 (.lst (M.fs.map V.int))) p3 (.lst (M.gs.map V.int)) = H3 at nx ndx e1 e2 e3 s13
    have sx : Same H3 (upd (upd H3 dx (.own x)) x (.ins C dx [])) := fun b o hb => by
      rw [upd_ne (ne_of_none hb nx), upd_ne (ne_of_none hb ndx)]
      exact hb
    refine ⟨x, dx, p1, p2, p3, ps, M, rfl, upd_same, .inl (SqL.of (sx _ _ e1)), (h3.same s13).same sx, h4, .inl (SqL.of (sx _ _ e2)), .inl (SqL.of (sx _ _ e3)), ok, fun H' k' mm => ⟨rfl, q x H' (s13.free nx) (fun b o hb => ?_) mm⟩⟩
    have hb3 := s13 _ _ hb
    exact k' _ _ (ne_of_none hb3 nx) (sx _ _ hb3)
/-! ### _law_sorted -/
theorem scSortd : FnScope ["_law_m"] ["_law_m"] (defScope sSortd) := ⟨rfl, rfl, rfl, by decide +kernel, rfl, by decide +kernel, by decide +kernel⟩
def spSortd (K : PySem.W.Frag) : Sp := fun vs H Q _ => ∃ (t : Addr) (M : AM), vs = [.ref t] ∧ DrawnAt K H t M ∧ ∀ (t' : Addr) H', Same H H' → DrawnAt K H' t' M.srt → Q (.ref t') H'
theorem ok_sortd {f : Addr} {fd : FuncData} {k : Nat} (F : Fun K "_law_sorted" "_law_sorted" sSortd f fd) (ms : mg "sorted" = none) : FnOk P w K mg base CX0 (k + 1) f fd ["_law_m"] (spSortd K) := by
  refine F.ok scSortd (fun vs H Q E h => ?_) (fun cdv A outer s H vs Q E hr h => ?_)
  · obtain ⟨t, M, rfl, _⟩ := h
    rfl
  · obtain ⟨t, M, rfl, D, q⟩ := h
    have hu : (cxOf CX0 P w K mg base ["_law_m"] "_law_sorted" (defScope sSortd) f cdv A outer s H E).A.units + 64 < cLine := hr.units
    refine ⟨_, pss_one (ps_ret (pe_tup (pa_cons (pe_ix ix_tup (pv 0) pe_int (fun _ _ => rfl)) (pa_cons (pe_ix ix_tup (pv 0) pe_int (fun _ _ => rfl))
      (pa_cons (pe_callB (cr_sortD hu) (by rfl) ms (by decide +kernel) (pa_cons (pe_ix ix_tup (pv 0) pe_int (fun _ _ => rfl)) pa_nil))
      (pa_cons (pe_callB (cr_sortD hu) (by rfl) ms (by decide +kernel) (pa_cons (pe_ix ix_tup (pv 0) pe_int (fun _ _ => rfl)) pa_nil))
      (pa_cons (pe_callB (cr_sortD hu) (by rfl) ms (by decide +kernel) (pa_cons (pe_ix ix_tup (pv 0) pe_int (fun _ _ => rfl)) pa_nil)) pa_nil))))))), ?_⟩
    obtain ⟨la, lf, lg, ps, h1, h2, h3, h4, h5, h6⟩ := D
    refine ⟨_, rfl, t, _, 0, _, rfl, rfl, SqT.of h1, rfl, ?_⟩
    refine ⟨_, rfl, t, _, 1, _, rfl, rfl, SqT.of h1, rfl, ?_⟩
    refine ⟨_, rfl, t, _, 2, _, rfl, rfl, SqT.of h1, rfl, la, ps.map vdA, rfl, ?_, ?_, al_A ps, so_A ps, dep_A ps, fun p1 n1 => ?_⟩
    · rw [vdA_fst]
      exact .inl (SqL.of h2)
    · intro p hp
      obtain ⟨a, ha, rfl⟩ := List.mem_map.mp hp
      exact dp_arw (h3 a ha)
    rw [srtD_A, vdA_fst]
    have s1 := same_upd (o := .lst (rfs (srtR ps))) n1
    refine ⟨_, rfl, t, _, 3, _, rfl, rfl, SqT.of (s1 _ _ h1), rfl, lf, M.fs.map vdI, rfl, ?_, ?_, al_I _, so_I _, dep_I _, fun p2 n2 => ?_⟩
    · rw [vdI_fst]
      exact .inl (SqL.of (s1 _ _ h5))
    · intro p hp
      obtain ⟨a, ha, rfl⟩ := List.mem_map.mp hp
      exact .int a
    rw [srtD_I, vdI_fst]
    have s2 := same_upd (o := .lst ((sortI M.fs).map V.int)) n2
    refine ⟨_, rfl, t, _, 4, _, rfl, rfl, SqT.of (s2 _ _ (s1 _ _ h1)), rfl, lg, M.gs.map vdI, rfl, ?_, ?_, al_I _, so_I _, dep_I _, fun p3 n3 => ?_⟩
    · rw [vdI_fst]
      exact .inl (SqL.of (s2 _ _ (s1 _ _ h6)))
    · intro p hp
      obtain ⟨a, ha, rfl⟩ := List.mem_map.mp hp
      exact .int a
    rw [srtD_I, vdI_fst]
    have s3 := same_upd (o := .lst ((sortI M.gs).map V.int)) n3
    refine ⟨(by decide : 5 ≤ sizeLine), fun t' nt' => ?_⟩
    have s4 := same_upd (o := .tup [.int M.n, .str (Sx M.ls), .ref p1, .ref p2, .ref p3]) nt'
    have sS := ((s1.trans s2).trans s3).trans s4
    refine q t' _ sS ⟨p1, p2, p3, srtR ps, upd_same, s4 _ _ (s3 _ _ (s2 _ _ upd_same)), fun p hp => sameT sS (h3 p (srtR_mem.mp hp)), ?_, s4 _ _ (s3 _ _ upd_same), s4 _ _ upd_same⟩
    rw [srtR_as, h4]
    rfl
end
end Onp
set_option maxHeartbeats 8000000
set_option autoImplicit false
namespace Onp
open PySem PySem.Spec PyProof.Rows L2
abbrev sFull : Stmt := topS 61
/-- arrows so far, as they lie in the heap -/
structure Ars (K : PySem.W.Frag) (H : Hp) (g : Bid) (n : Int) (ls : List Nat) (la : Addr) (ps : List AR) (c : Nat) : Prop where
  at_ : H la = some (.lst (rfs ps))
  row : RowAt K H ps
  ok : ∀ p ∈ ps, arrB n ls p.2 = true
  nd : (ps.map (·.2)).Nodup
  len : ps.length ≤ c
  bag : Bg H g
/-- few arrows by each letter -/
def few (as : List Arw) : Prop := ∀ z : Str, (as.filter fun a => decide (a.2.1 = z)).length ≤ 10
theorem few_len {as : List Arw} (h : as.length ≤ 10) : few as := fun z => Nat.le_trans (List.length_filter_le ..) h
def cntL (z : Str) (ps : List AR) : Nat := (ps.filter fun p => decide (p.2.2.1 = z)).length
theorem cntL_put {z : Str} {ps ps' : List AR} {t : Addr} {a : Arw} (h : ps' = ps ∨ ps' = ps ++ [(t, a)]) : cntL z ps' ≤ cntL z ps + (if a.2.1 = z then 1 else 0) := by
  rcases h with rfl | rfl
  · exact Nat.le_add_right ..
  · unfold cntL
    rw [List.filter_append, List.length_append]
    by_cases e : a.2.1 = z
    · rw [if_pos e, List.filter_cons_of_pos (by simpa using e)]
      exact Nat.le_refl _
    · rw [if_neg e, List.filter_cons_of_neg (by simpa using e)]
      exact Nat.le_refl _
def anyL (ls : List Nat) (j : Nat) (z : Str) : Bool := (ls.take j).any fun c => decide (Sx [c] = z)
def bndJ (ls : List Nat) (i j : Nat) (z : Str) : Nat := 2 * i + (if anyL ls j z = true then 2 else 0)
def bndU (ls : List Nat) (i j c u : Nat) (z : Str) : Nat := 2 * i + (if Sx [c] = z then u else if anyL ls j z = true then 2 else 0)
theorem rise2 {ls : List Nat} (h : letB ls = true) {j c : Nat} (hc : ls[j]? = some c) (hj : j < 2) : ∀ c' ∈ ls.take j, c' ≠ c := by
  match j, hj with
  | 0, _ => intro c' h'; exact absurd h' (by simp)
  | 1, _ =>
    match ls, hc, h with
    | [x], hc, _ => cases hc
    | x :: y :: r, hc, h =>
      have e : y = c := by simpa using hc
      have hlt : x < y := by
        unfold letB risB at h
        simp only [Bool.and_eq_true, List.drop, List.zip, List.zipWith, List.all_cons, decide_eq_true_eq] at h
        exact h.1.1
      intro c' h'
      have e2 : c' = x := by simpa using h'
      omega
theorem bnd_in {ls : List Nat} (h : letB ls = true) {i j c : Nat} (hc : ls[j]? = some c) (hj : j < 2) (z : Str) : bndJ ls i j z ≤ bndU ls i j c 0 z := by
  unfold bndJ bndU
  by_cases e : Sx [c] = z
  · rw [if_pos e]
    have : anyL ls j z = false := by
      unfold anyL
      rw [List.any_eq_false]
      intro c' hc' e'
      have e2 : Sx [c'] = Sx [c] := (of_decide_eq_true e').trans e.symm
      exact rise2 h hc hj c' hc' (List.cons.inj (sx_inj e2)).1
    rw [if_neg (by rw [this]; decide)]
    exact Nat.le_refl _
  · rw [if_neg e]
    exact Nat.le_refl _
theorem bnd_out {ls : List Nat} {i j c u : Nat} (hc : ls[j]? = some c) (hu : u ≤ 2) (z : Str) : bndU ls i j c u z ≤ bndJ ls i (j + 1) z := by
  unfold bndJ bndU
  have ht : anyL ls (j + 1) z = (anyL ls j z || decide (Sx [c] = z)) := by
    unfold anyL
    rw [List.take_succ, hc, List.any_append]
    simp
  by_cases e : Sx [c] = z
  · rw [if_pos e, if_pos (by rw [ht, decide_eq_true e, Bool.or_true])]
    omega
  · rw [if_neg e, ht, decide_eq_false e, Bool.or_false]
    exact Nat.le_refl _
theorem bnd_go {ls : List Nat} {i j c u m : Nat} {z : Str} (h : m ≤ bndU ls i j c u z) : m + (if Sx [c] = z then 1 else 0) ≤ bndU ls i j c (u + 1) z := by
  unfold bndU at h ⊢
  by_cases e : Sx [c] = z
  · rw [if_pos e] at h ⊢
    rw [if_pos e]
    omega
  · rw [if_neg e] at h ⊢
    rw [if_neg e]
    exact h
theorem bndJ_zero (ls : List Nat) (i : Nat) (z : Str) : bndJ ls i 0 z = 2 * i := by
  unfold bndJ anyL
  simp
theorem bndJ_le (ls : List Nat) (i j : Nat) (z : Str) : bndJ ls i j z ≤ 2 * (i + 1) := by
  unfold bndJ
  by_cases e : anyL ls j z = true
  · rw [if_pos e]; omega
  · rw [if_neg e]; omega
section
variable {P : Program} {w : World} {K : PySem.W.Frag} {mg : Str → Option Value} {base : Heap}
theorem Ars.keep {H H' : Hp} {g : Bid} {n : Int} {ls : List Nat} {la : Addr} {ps : List AR} {c : Nat} (x : Ars K H g n ls la ps c) (k : Keep g.b H H') (B : Bg H' g) : Ars K H' g n ls la ps c :=
  ⟨k _ _ (x.bag.neRfs x.at_) x.at_, x.bag.keepRow k x.row, x.ok, x.nd, x.len, B⟩
theorem Ars.more {H : Hp} {g : Bid} {n : Int} {ls : List Nat} {la : Addr} {ps : List AR} {c d : Nat} (x : Ars K H g n ls la ps c) (h : c ≤ d) : Ars K H g n ls la ps d := ⟨x.at_, x.row, x.ok, x.nd, Nat.le_trans x.len h, x.bag⟩
/-- arrows + [arrow] * int(arrow not in arrows) -/
theorem ars_put {H : Hp} {g : Bid} {n : Int} {ls : List Nat} {la t : Addr} {ps : List AR} {c : Nat} {a : Arw} {i j : Nat} {σ : L2.St} {Q : VK} (x : Ars K H g n ls la ps c) (hls : letB ls = true) (hc : c ≤ 1000) (ha : arrB n ls a = true) (ht : H t = some (.tup (aV a))) (ei : σ[i]? = some (some (.ref la))) (ej : σ[j]? = some (some (.ref t)))
    (q : ∀ H' p ps', Same H H' → Ars K H' g n ls p ps' (c + 1) → (ps' = ps ∨ ps' = ps ++ [(t, a)]) → Q (.ref p) H') :
    tOp rCat (tVar i) (tOp rRep (tLst (tCons (tVar j) tNil)) (tCB (fun xs H Q => (∃ i, xs = [.int i] ∧ Q (.int i) H) ∨ ∃ k, xs = [.bl k] ∧ Q (.int (if k then 1 else 0)) H) (tCons (tOp (rNotInD K) (tVar j) (tVar i)) tNil))) σ H Q := by
  have hbig : 5000 ≤ sizeLine := by decide
  have hln := x.len
  refine ⟨.ref la, ei, _, ej, (by decide : 1 ≤ sizeLine), fun p np => ?_⟩
  have s7 := same_upd (o := .lst [.ref t]) np
  have hp7 : upd H p (.lst [.ref t]) p = some (.lst [.ref t]) := upd_same
  have hla7 := s7 _ _ x.at_
  have hR7 := x.row.same s7
  have ht7 := s7 _ _ ht
  have B7 := x.bag.same s7
  generalize upd H p (.lst [.ref t]) = H7 at s7 hp7 hla7 hR7 ht7 B7
  have hok : ∀ b ∈ ps.map (·.2), okS b := fun b hb => by
    obtain ⟨p', hp', rfl⟩ := List.mem_map.mp hb
    exact arrB_okS hls (x.ok p' hp')
  refine ⟨.ref t, ej, .ref la, ei, adat a, (ps.map fun p : AR => p.2).map adat, dp_arw (p := (t, a)) (SqT.of ht7), .lst (SqL.of hla7) (dpRow hR7), shA (arrB_okS hls ha), shR hok, .inr ⟨_, rfl, ?_⟩⟩
  rw [any_adat]
  by_cases hin : a ∈ ps.map (·.2)
  · rw [decide_eq_true hin]
    refine ⟨p, 0, [.ref t], rfl, rfl, hp7, by decide, by decide, (show 1 * 0 ≤ sizeLine by decide), fun p8 np8 => ?_⟩
    have s8 := same_upd (o := .lst (List.replicate (Int.toNat 0) [V.ref t]).flatten) np8
    refine ⟨la, p8, rfs ps, [], rfl, rfl, s8 _ _ hla7, upd_same, ?_, fun p9 np9 => ?_⟩
    · unfold rfs
      rw [List.length_map]
      show ps.length + 0 ≤ sizeLine
      omega
    · have s9 := s8.trans (same_upd (o := .lst (rfs ps ++ [])) np9)
      exact q _ p9 ps (s7.trans s9) ⟨by rw [upd_same, List.append_nil], hR7.same s9, x.ok, x.nd, by omega, B7.same s9⟩ (.inl rfl)
  · rw [decide_eq_false hin]
    refine ⟨p, 1, [.ref t], rfl, rfl, hp7, by decide, by decide, (by decide : 1 ≤ sizeLine), fun p8 np8 => ?_⟩
    have s8 := same_upd (o := .lst (List.replicate (Int.toNat 1) [V.ref t]).flatten) np8
    refine ⟨la, p8, rfs ps, [.ref t], rfl, rfl, s8 _ _ hla7, upd_same, ?_, fun p9 np9 => ?_⟩
    · unfold rfs
      rw [List.length_map]
      show ps.length + 1 ≤ sizeLine
      omega
    · have s9 := s8.trans (same_upd (o := .lst (rfs ps ++ [.ref t])) np9)
      refine q _ p9 (ps ++ [(t, a)]) (s7.trans s9) ⟨?_, fun p' hp' => ?_, fun p' hp' => ?_, ?_, by rw [List.length_append]; show ps.length + 1 ≤ c + 1; omega, B7.same s9⟩ (.inr rfl)
      · rw [upd_same]
        unfold rfs
        rw [List.map_append]
        rfl
      · rcases List.mem_append.mp hp' with h | h
        · exact hR7.same s9 p' h
        · rw [List.mem_singleton.mp h]
          exact SqT.of (s9 _ _ ht7)
      · rcases List.mem_append.mp hp' with h | h
        · exact x.ok p' h
        · rw [List.mem_singleton.mp h]
          exact ha
      · rw [List.map_append, List.nodup_append]
        refine ⟨x.nd, by simp, fun b hb c hc e => ?_⟩
        have := List.mem_singleton.mp hc
        subst this e
        exact hin hb
def NFu : List Str := ["_law_bag_here", "_law_rooms_most", "_law_letters_most", "_law_rooms", "_law_letters_here", "_law_arrows", "_law_room", "_law_letter", "_law_k", "_law_arrow_here"]
def psFu : List Str := ["_law_bag_here", "_law_rooms_most", "_law_letters_most"]
theorem scFull : FnScope NFu psFu (defScope sFull) := ⟨rfl, rfl, rfl, by decide +kernel, rfl, by decide +kernel, by decide +kernel⟩
def spFull (K : PySem.W.Frag) : Sp := fun vs H Q _ => ∃ (g : Bid) (rm lm : Int), vs = [.ref g.b, .int rm, .int lm] ∧ (1 ≤ rm ∧ rm ≤ 3) ∧ (1 ≤ lm ∧ lm ≤ 2) ∧ Bg H g ∧ ∀ (t : Addr) (M : AM) H', M.ok → M.n ≤ rm → (M.ls.length : Int) ≤ lm → few M.as → DrawnAt K H' t M → Keep g.b H H' → Bg H' g → Q (.ref t) H'
theorem ok_full {f fP fO fD fL fR : Addr} {fd fdP fdO fdD fdL fdR : FuncData} {k : Nat} (F : Fun K "_law_full_one" "_law_full_one" sFull f fd) (Pu : FnM K mg fP fdP "_law_pull" sPull ["_law_bag_here", "_law_many"]) (O : FnM K mg fO fdO "_law_of" sOf ["_law_bag_here", "_law_some"]) (De : FnM K mg fD fdD "_law_deed" sDeed ["_law_bag_here"])
    (Le : FnM K mg fL fdL "_law_letters" sLett ["_law_bag_here", "_law_most"]) (Ro : FnM K mg fR fdR "_law_rooms_some" sRooms ["_law_bag_here", "_law_rooms"])
    (ml : mg "len" = none) (mr : mg "range" = none) (mi : mg "int" = none) : FnOk P w K mg base CX0 (k + 4) f fd psFu (spFull K) := by
  have GP : FnOk P w K mg base CX0 (k + 3) fP fdP ["_law_bag_here", "_law_many"] (spPull K) := ok_pull Pu.F ml
  have GL : FnOk P w K mg base CX0 (k + 3) fL fdL ["_law_bag_here", "_law_most"] spLett := ok_lett Le.F Pu ml mr
  have GR : FnOk P w K mg base CX0 (k + 3) fR fdR ["_law_bag_here", "_law_rooms"] spRooms := ok_rooms Ro.F Pu ml mr
  have GD : FnOk P w K mg base CX0 (k + 3) fD fdD ["_law_bag_here"] spDeed := ok_deed De.F O Pu ml
  refine F.ok scFull (fun vs H Q E h => ?_) (fun cdv A outer s H vs Q E hr h => ?_)
  · obtain ⟨g, rm, lm, rfl, _⟩ := h
    rfl
  · obtain ⟨g, rm, lm, rfl, ⟨r1, r2⟩, ⟨l1, l2⟩, B, q⟩ := h
    refine ⟨_, pss_cons (ps_par (i := 3) (j := 4) rfl scFull.nd rfl rfl (by decide) rfl rfl (pa_cons (pe_op op_add pe_int (pe_call GP hr (by rfl) Pu.g Pu.F.kp Pu.b .nil pass0 (pa_cons (pv 0) (pa_cons (pv 1) pa_nil)))) (pa_cons (pe_call GL hr (by rfl) Le.g Le.F.kp Le.b .nil pass0 (pa_cons (pv 0) (pa_cons (pv 2) pa_nil))) pa_nil)) rfl)
      (pss_cons (ps_set (i := 5) scFull.nd rfl (.inl rfl) (pe_lst pa_nil))
      (pss_cons (ps_for PassesOwn.never rfl (pi_range1 (by rfl) mr (pa_cons (pv 3) pa_nil)) (pg_name (i := 6) scFull.nd rfl (.inl rfl))
        (pss_one (ps_for PassesOwn.never rfl (pi_str (pv 4)) (pg_name (i := 7) scFull.nd rfl (.inl rfl))
          (pss_one (ps_for PassesOwn.never rfl (pi_range1 (by rfl) mr (pa_cons (pe_op op_add pe_int (pe_call GP hr (by rfl) Pu.g Pu.F.kp Pu.b .nil pass0 (pa_cons (pv 0) (pa_cons pe_int pa_nil)))) pa_nil)) (pg_name (i := 8) scFull.nd rfl (.inl rfl))
            (pss_cons (ps_set (i := 9) scFull.nd rfl (.inl rfl) (pe_tup (pa_cons (pv 6) (pa_cons (pv 7) (pa_cons (pe_call GD hr (by rfl) De.g De.F.kp De.b .nil pass0 (pa_cons (pv 0) pa_nil)) (pa_cons (pe_call GP hr (by rfl) Pu.g Pu.F.kp Pu.b .nil pass0 (pa_cons (pv 0) (pa_cons (pv 3) pa_nil))) pa_nil))))))
            (pss_one (ps_set (i := 5) scFull.nd rfl (.inl rfl) (pe_op op_cat (pv 5) (pe_op op_rep (pe_lst (pa_cons (pv 9) pa_nil)) (pe_callTy call_int1 (by rfl) mi (by decide +kernel) (pa_cons (pe_cmpR (op_notInD (room65 hr)) (pv 9) (pv 5) (by rfl)) pa_nil)))))))))))) 
      (pss_one (ps_ret (pe_tup (pa_cons (pv 3) (pa_cons (pv 4) (pa_cons (pv 5) (pa_cons (pe_call GR hr (by rfl) Ro.g Ro.F.kp Ro.b .nil pass0 (pa_cons (pv 0) (pa_cons (pv 3) pa_nil))) (pa_cons (pe_call GR hr (by rfl) Ro.g Ro.F.kp Ro.b .nil pass0 (pa_cons (pv 0) (pa_cons (pv 3) pa_nil))) pa_nil)))))))))), ?_⟩
    refine ⟨_, rfl, _, rfl, g, rm, rfl, by omega, Nat.lt_trans (show rm.natAbs < 2 ^ 64 by omega) (by decide), B, fun x H1 x0 x1 k1 B1 => ?_⟩
    refine ⟨_, _, rfl, rfl, _, rfl, _, rfl, g, lm, rfl, l1, by omega, B1, fun ls H2 hls hll hlow k2 B2 => ?_⟩
    have hl3 := letB_pos hls
    refine ⟨_, _, rfl, (by decide : 0 ≤ sizeLine), fun la nla => ?_⟩
    have B3 := B2.new (o := .lst []) nla
    have k3 : Keep g.b H _ := (k1.trans k2).trans (Keep.new (o := .lst []) nla)
    have h3 : upd H2 la (.lst []) la = some (.lst (rfs [])) := upd_same
    generalize upd H2 la (.lst []) = H3 at B3 k3 h3
    obtain ⟨m, em⟩ : ∃ m : Nat, 1 + x = (m : Int) := ⟨(1 + x).toNat, by omega⟩
    have A3 : Ars K H3 g (1 + x) ls la [] 0 := ⟨h3, (fun _ h => nomatch h), (fun _ h => nomatch h), .nil, Nat.le_refl _, B3⟩
    have nb : (1 + x).natAbs < 2 ^ 200 := Nat.lt_trans (show (1 + x).natAbs < 2 ^ 64 by omega) (by decide)
    have csz : (Sx ls).cps.size = ls.length := by show ls.toArray.size = _; simp
    refine ⟨_, rfl, 1 + x, rfl, by omega, by omega, for_range (lo := 0) (n := (1 + x).toNat) (fun i σ H' => ∃ (la : Addr) (ps : List AR) (y6 y7 y8 y9 : Option V), σ = [some (.ref g.b), some (.int rm), some (.int lm), some (.int (1 + x)), some (.str (Sx ls)), some (.ref la), y6, y7, y8, y9] ∧ Ars K H' g (1 + x) ls la ps (4 * i) ∧ (∀ z, cntL z ps ≤ 2 * i) ∧ Keep g.b H H')
      ⟨la, [], _, _, _, _, rfl, A3, (fun _ => Nat.le_refl _), k3⟩ ?_ ?_⟩
    · rintro i σ H4 hi ⟨la, ps, y6, y7, y8, y9, rfl, A4, c4, k4⟩
      refine ⟨_, rfl, Sx ls, rfl, for_it walk_str (fun j σ H' => ∃ (la : Addr) (ps : List AR) (y7 y8 y9 : Option V), σ = [some (.ref g.b), some (.int rm), some (.int lm), some (.int (1 + x)), some (.str (Sx ls)), some (.ref la), some (.int (0 + (i : Nat))), y7, y8, y9] ∧ Ars K H' g (1 + x) ls la ps (4 * i + 2 * j) ∧ (∀ z, cntL z ps ≤ bndJ ls i j z) ∧ Keep g.b H H')
        ⟨la, ps, _, _, _, rfl, A4, (fun z => by rw [bndJ_zero]; exact c4 z), k4⟩ (fun _ _ _ _ _ => True.intro) ?_ ?_⟩
      · rintro j v σ H5 H6 hj ⟨la, ps, y7, y8, y9, rfl, A5, c5, k5⟩ ⟨rfl, c, hc, rfl⟩
        have hc : ls[j]? = some c := by
          have : ls.toArray[j]? = some c := hc
          simpa using this
        have hcm := List.mem_of_getElem? hc
        have hj2 : j < 2 := by
          rw [csz] at hj
          omega
        refine ⟨_, rfl, g, 2, rfl, by decide, by decide, A5.bag, fun z H7 z0 z1 k7 B7 => ?_⟩
        refine ⟨1, z, rfl, rfl, 1 + z, rfl, by omega, by omega, for_range (lo := 0) (n := (1 + z).toNat) (fun u σ H' => ∃ (la : Addr) (ps : List AR) (y8 y9 : Option V), σ = [some (.ref g.b), some (.int rm), some (.int lm), some (.int (1 + x)), some (.str (Sx ls)), some (.ref la), some (.int (0 + (i : Nat))), some (.str (Sx [c])), y8, y9] ∧ Ars K H' g (1 + x) ls la ps (4 * i + 2 * j + u) ∧ (∀ z, cntL z ps ≤ bndU ls i j c u z) ∧ Keep g.b H H')
          ⟨la, ps, _, _, rfl, A5.keep k7 B7, (fun z => Nat.le_trans (c5 z) (bnd_in hls hc hj2 z)), k5.trans k7⟩ ?_ ?_⟩
        · rintro u σ H8 hu ⟨la, ps, y8, y9, rfl, A8, c8, k8⟩
          refine ⟨_, rfl, _, rfl, _, rfl, g, rfl, A8.bag, fun d H9 hd k9 B9 => ?_⟩
          refine ⟨_, rfl, _, rfl, g, 1 + x, rfl, by omega, nb, B9, fun y H10 yy0 yy1 k10 B10 => ?_⟩
          refine ⟨(by decide : 4 ≤ sizeLine), fun t nt => ?_⟩
          have A11 := ((A8.keep k9 B9).keep k10 B10).keep (Keep.new (o := .tup (aV (0 + (i : Nat), Sx [c], d, y))) nt) (B10.new nt)
          have ha : arrB (1 + x) ls (0 + (i : Nat), Sx [c], d, y) = true := by
            unfold arrB
            dsimp only
            rw [decide_eq_true (show (0 : Int) ≤ 0 + (i : Nat) by omega), decide_eq_true (show (0 : Int) + (i : Nat) < 1 + x by omega), decide_eq_true yy0, decide_eq_true yy1, decide_eq_true hd, show (ls.any fun c' => decide (Sx [c] = Sx [c'])) = true from List.any_eq_true.mpr ⟨c, hcm, decide_eq_true rfl⟩]
            rfl
          have kt : Keep g.b H (upd H10 t (.tup (aV (0 + (i : Nat), Sx [c], d, y)))) := ((k8.trans k9).trans k10).trans (Keep.new nt)
          refine ars_put (i := 5) (j := 9) (a := (0 + (i : Nat), Sx [c], d, y)) A11 hls (by omega) ha upd_same rfl rfl fun H12 p ps' s12 A12 hps => ?_
          exact ⟨p, ps', _, _, rfl, A12, (fun z => Nat.le_trans (cntL_put hps) (bnd_go (c8 z))), kt.trans (Keep.of s12)⟩
        · rintro σ H8 ⟨la, ps, y8, y9, rfl, A8, c8, k8⟩
          exact ⟨la, ps, _, _, _, rfl, A8.more (by omega), (fun z => Nat.le_trans (c8 z) (bnd_out hc (by omega) z)), k8⟩
      · rintro σ H5 ⟨la, ps, y7, y8, y9, rfl, A5, c5, k5⟩
        rw [csz] at A5
        exact ⟨la, ps, _, _, _, _, rfl, A5.more (by omega), (fun z => Nat.le_trans (c5 z) (bndJ_le ls i _ z)), k5⟩
    · rintro σ H5 ⟨la, ps, y6, y7, y8, y9, rfl, A5, c5, k5⟩
      refine ⟨_, rfl, _, rfl, _, rfl, _, rfl, _, rfl, g, 1 + x, rfl, by omega, by omega, A5.bag, fun fs lf H6 hf1 hf2 hf3 hf4 k6 B6 => ?_⟩
      refine ⟨_, rfl, _, rfl, g, 1 + x, rfl, by omega, by omega, B6, fun gs lg H7 hg1 hg2 hg3 hg4 k7 B7 => ?_⟩
      refine ⟨(by decide : 5 ≤ sizeLine), fun t nt => ?_⟩
      have s8 := same_upd (o := .tup [.int (1 + x), .str (Sx ls), .ref la, .ref lf, .ref lg]) nt
      have A7 := (A5.keep k6 B6).keep k7 B7
      have hln := A5.len
      refine q t ⟨1 + x, ls, ps.map (·.2), fs, gs⟩ _ ⟨(show 1 ≤ 1 + x by omega), (show 1 + x ≤ 8 by omega), hls, fun a ha => ?_, A5.nd, ?_, hf1, hf2, hg1, hg2, hf3, hg3⟩ (show 1 + x ≤ rm by omega) hll (fun z => ?_) ⟨la, lf, lg, ps, upd_same, s8 _ _ A7.at_, A7.row.same s8, rfl, s8 _ _ (k7 _ _ (B6.neInts hf4) hf4), s8 _ _ hg4⟩ (((k5.trans k6).trans k7).trans (Keep.of s8)) (B7.same s8)
      · obtain ⟨p', hp', rfl⟩ := List.mem_map.mp ha
        exact A5.ok p' hp'
      · rw [List.length_map]
        omega
      · show ((ps.map (·.2)).filter fun a : Arw => decide (a.2.1 = z)).length ≤ 10
        rw [List.filter_map, List.length_map]
        have h := c5 z
        unfold cntL at h
        exact Nat.le_trans h (by omega)
end
end Onp
set_option maxHeartbeats 8000000
set_option autoImplicit false
namespace Onp
open PySem PySem.Spec PyProof.Rows L2
abbrev sKnown : Stmt := topS 62
abbrev Lit : Type := Int × Nat × Str × Int
def arTA : List Lit → TA
  | [] => tNil
  | x :: r => tCons (tTup (tCons (tC (.int x.1)) (tCons (tVar x.2.1) (tCons (tC (.str x.2.2.1)) (tCons (tC (.int x.2.2.2)) tNil))))) (arTA r)
def litA (lv : Nat → Str) (x : Lit) : Arw := (x.1, lv x.2.1, x.2.2.1, x.2.2.2)
theorem arTA_ok {K : PySem.W.Frag} {lv : Nat → Str} {σ : L2.St} : ∀ (L : List Lit) (H : Hp) (Q : List V → Hp → Prop), (∀ x ∈ L, σ[x.2.1]? = some (some (.str (lv x.2.1)))) → (∀ ps H', Same H H' → RowAt K H' ps → ps.map (·.2) = L.map (litA lv) → Q (rfs ps) H') → arTA L σ H Q
  | [], H, Q, _, q => q [] H (fun _ _ h => h) (fun _ h => nomatch h) rfl
  | x :: r, H, Q, hv, q => by
    refine ⟨_, hv x List.mem_cons_self, (by decide : 4 ≤ sizeLine), fun t nt => ?_⟩
    have st := same_upd (o := .tup [V.int x.1, .str (lv x.2.1), .str x.2.2.1, .int x.2.2.2]) nt
    refine arTA_ok (K := K) r _ _ (fun y hy => hv y (List.mem_cons_of_mem _ hy)) fun ps H' s hR e => ?_
    refine q ((t, litA lv x) :: ps) H' (st.trans s) (fun p hp => ?_) (by rw [List.map_cons, List.map_cons, e])
    rcases List.mem_cons.mp hp with rfl | hp
    · exact SqT.of (s _ _ upd_same)
    · exact hR p hp
/-- a count of rooms with its arrows, which lie in the list at l -/
def EntL (K : PySem.W.Frag) (H : Hp) (e l : Addr) (n : Int) (as : List Arw) : Prop := ∃ ps : List AR, H e = some (.tup [.int n, .ref l]) ∧ H l = some (.lst (rfs ps)) ∧ RowAt K H ps ∧ ps.map (·.2) = as
theorem EntL.same {K : PySem.W.Frag} {H H' : Hp} {e l : Addr} {n : Int} {as : List Arw} (x : EntL K H e l n as) (s : Same H H') : EntL K H' e l n as := by
  obtain ⟨ps, h1, h2, h3, h4⟩ := x
  exact ⟨ps, s _ _ h1, s _ _ h2, h3.same s, h4⟩
theorem EntL.keep {K : PySem.W.Frag} {H H' : Hp} {e l : Addr} {n : Int} {as : List Arw} {g : Bid} (x : EntL K H e l n as) (B : Bg H g) (k : Keep g.b H H') : EntL K H' e l n as := by
  obtain ⟨ps, h1, h2, h3, h4⟩ := x
  exact ⟨ps, k _ _ (B.neTup h1) h1, k _ _ (B.neRfs h2) h2, B.keepRow k h3, h4⟩
theorem EntL.put {K : PySem.W.Frag} {H : Hp} {D e l : Addr} {n : Int} {as : List Arw} {xs ys : List V} (x : EntL K H e l n as) (h : H D = some (.lst xs)) (n2 : l ≠ D) : EntL K (upd H D (.lst ys)) e l n as := by
  obtain ⟨ps, h1, h2, h3, h4⟩ := x
  have n1 : e ≠ D := fun z => by rw [z, h] at h1; cases h1
  refine ⟨ps, by rw [upd_ne n1]; exact h1, by rw [upd_ne n2]; exact h2, fun p hp => ?_, h4⟩
  rcases h3 p hp with (h' | ⟨o, h'⟩) | h'
  · refine .inl (.inl ?_)
    have n3 : p.1 ≠ D := fun z => by rw [z, h] at h'; cases h'
    show upd H D (.lst ys) p.1 = _
    rw [upd_ne n3]
    exact h'
  · refine .inl (.inr ⟨o, ?_⟩)
    have n3 : p.1 ≠ D := fun z => by rw [z, h] at h'; cases h'
    show upd H D (.lst ys) p.1 = _
    rw [upd_ne n3]
    exact h'
  · exact .inr h'
theorem ent_ok {K : PySem.W.Frag} {lv : Nat → Str} {σ : L2.St} (n : Int) (L : List Lit) (hl : L.length ≤ 100) (H : Hp) (Q : VK) (hv : ∀ x ∈ L, σ[x.2.1]? = some (some (.str (lv x.2.1)))) (q : ∀ e l H', Same H H' → H l = none → EntL K H' e l n (L.map (litA lv)) → Q (.ref e) H') :
    tTup (tCons (tC (.int n)) (tCons (tLst (arTA L)) tNil)) σ H Q := by
  refine arTA_ok (K := K) L H _ hv fun ps H1 s1 hR e => ?_
  have hlen : (rfs ps).length ≤ 100 := by
    have := congrArg List.length e
    rw [List.length_map, List.length_map] at this
    unfold rfs
    rw [List.length_map]
    omega
  refine ⟨Nat.le_trans hlen (by decide), fun l nl => ⟨(by decide : 2 ≤ sizeLine), fun t nt => ?_⟩⟩
  have s2 := same_upd (o := .lst (rfs ps)) nl
  have s3 := same_upd (o := .tup [V.int n, .ref l]) nt
  exact q t l _ (s1.trans (s2.trans s3)) (s1.free nl) ⟨ps, upd_same, s3 _ _ upd_same, hR.same (s2.trans s3), e⟩
def tEnt (K : PySem.W.Frag) (n : Int) (L : List Lit) : TE := fun σ H Q => ∃ lv : Nat → Str, (∀ x ∈ L, σ[x.2.1]? = some (some (.str (lv x.2.1)))) ∧ ∀ e l H', Same H H' → H l = none → EntL K H' e l n (L.map (litA lv)) → Q (.ref e) H'
theorem pe_ent {X : Cx} {e : Expr} {K : PySem.W.Frag} {n : Int} {L : List Lit} (hl : L.length ≤ 100) (h : PE X e (tTup (tCons (tC (.int n)) (tCons (tLst (arTA L)) tNil)))) : PE X e (tEnt K n L) := by
  refine ⟨fun pins s σ H Q I hq => ?_⟩
  obtain ⟨lv, hv, q⟩ := hq
  exact h.run pins s σ H Q I (ent_ok (K := K) (lv := lv) n L hl H Q hv q)
/-- arrows of a machine of n rooms -/
def Good (n : Int) (ls : List Nat) (as : List Arw) : Prop := (1 ≤ n ∧ n ≤ 3) ∧ (∀ a ∈ as, arrB n ls a = true) ∧ as.Nodup ∧ as.length ≤ 10
def litB (n : Int) (x : Lit) : Bool := decide (0 ≤ x.1) && decide (x.1 < n) && (decide (0 ≤ x.2.2.2) && decide (x.2.2.2 < n)) && decide (x.2.2.1 ∈ deedsL)
theorem good_of {n : Int} {ls : List Nat} {lv : Nat → Str} {L : List Lit} (hn : 1 ≤ n ∧ n ≤ 3) (hlv : ∀ x ∈ L, ∃ c ∈ ls, lv x.2.1 = Sx [c]) (hb : L.all (litB n) = true) (hnd : (L.map fun x : Lit => (x.1, x.2.2.1, x.2.2.2)).Nodup) (hl : L.length ≤ 10) : Good n ls (L.map (litA lv)) := by
  refine ⟨hn, fun a ha => ?_, ?_, by rw [List.length_map]; exact hl⟩
  · obtain ⟨x, hx, rfl⟩ := List.mem_map.mp ha
    have b := List.all_eq_true.mp hb x hx
    unfold litB at b
    simp only [Bool.and_eq_true] at b
    obtain ⟨c, hc, e⟩ := hlv x hx
    unfold arrB litA
    dsimp only
    rw [b.1.1.1, b.1.1.2, b.1.2.1, b.1.2.2, b.2, show (ls.any fun c' => decide (lv x.2.1 = Sx [c'])) = true from List.any_eq_true.mpr ⟨c, hc, decide_eq_true e⟩]
    rfl
  · have h2 : ((L.map (litA lv)).map fun a : Arw => (a.1, a.2.2.1, a.2.2.2)).Nodup := by
      rw [List.map_map]
      exact hnd
    exact List.Pairwise.of_map (fun a : Arw => (a.1, a.2.2.1, a.2.2.2)) (fun a b h e => h (by rw [e])) h2
def AllEnt (K : PySem.W.Frag) (H : Hp) (ls : List Nat) (so : Addr) (xs : List V) : Prop := ∀ x ∈ xs, ∃ (e l : Addr) (n : Int) (as : List Arw), x = .ref e ∧ l ≠ so ∧ EntL K H e l n as ∧ Good n ls as
theorem AllEnt.more {K : PySem.W.Frag} {H H' : Hp} {ls : List Nat} {so e l : Addr} {xs : List V} {n : Int} {as : List Arw} (x : AllEnt K H ls so xs) (h : H so = some (.lst xs)) (s : Same H H') (nl : H l = none) (y : EntL K H' e l n as) (gd : Good n ls as) : AllEnt K (upd H' so (.lst (xs ++ [.ref e]))) ls so (xs ++ [.ref e]) := fun v hv => by
  have h' := s _ _ h
  rcases List.mem_append.mp hv with hv | hv
  · obtain ⟨e2, l2, n2, as2, h1, h2, h3, h4⟩ := x v hv
    exact ⟨e2, l2, n2, as2, h1, h2, (h3.same s).put h' h2, h4⟩
  · have nls : l ≠ so := (ne_of_none h nl).symm
    exact ⟨e, l, n, as, List.mem_singleton.mp hv, nls, y.put h' nls, gd⟩
theorem AllEnt.keep {K : PySem.W.Frag} {H H' : Hp} {ls : List Nat} {so : Addr} {xs : List V} {g : Bid} (x : AllEnt K H ls so xs) (B : Bg H g) (k : Keep g.b H H') : AllEnt K H' ls so xs := fun v hv => by
  obtain ⟨e2, l2, n2, as2, h1, h2, h3, h4⟩ := x v hv
  exact ⟨e2, l2, n2, as2, h1, h2, h3.keep B k, h4⟩
theorem letB_z {c : Nat} (h : letB [c] = true) (hc : c < 122) : letB [c, 122] = true := by
  have a := letB_small h c List.mem_cons_self
  unfold letB risB smaB
  simp only [List.drop, List.zip, List.zipWith, List.all_cons, List.all_nil, Bool.and_true, Bool.and_eq_true, decide_eq_true_eq]
  exact ⟨hc, ⟨a, by decide +kernel⟩, Nat.succ_le_succ (Nat.zero_le _), Nat.le_succ _⟩
section
variable {P : Program} {w : World} {K : PySem.W.Frag} {mg : Str → Option Value} {base : Heap}
def NKn : List Str := ["_law_bag_here", "_law_letters_here", "_law_a", "_law_b", "_law_some", "_law_rooms", "_law_arrows"]
theorem scKnown : FnScope NKn ["_law_bag_here"] (defScope sKnown) := ⟨rfl, rfl, rfl, by decide +kernel, rfl, by decide +kernel, by decide +kernel⟩
def spKnown (K : PySem.W.Frag) : Sp := fun vs H Q _ => ∃ g : Bid, vs = [.ref g.b] ∧ Bg H g ∧ ∀ (t : Addr) (M : AM) H', M.ok → M.n ≤ 3 → M.ls.length = 2 → M.as.length ≤ 10 → DrawnAt K H' t M → Keep g.b H H' → Bg H' g → Q (.ref t) H'
theorem ok_known {f fP fO fL fR : Addr} {fd fdP fdO fdL fdR : FuncData} {k : Nat} (F : Fun K "_law_known" "_law_known" sKnown f fd) (Pu : FnM K mg fP fdP "_law_pull" sPull ["_law_bag_here", "_law_many"]) (O : FnM K mg fO fdO "_law_of" sOf ["_law_bag_here", "_law_some"])
    (Le : FnM K mg fL fdL "_law_letters" sLett ["_law_bag_here", "_law_most"]) (Ro : FnM K mg fR fdR "_law_rooms_some" sRooms ["_law_bag_here", "_law_rooms"]) (ml : mg "len" = none) (mr : mg "range" = none) (mli : mg "list" = none) : FnOk P w K mg base CX0 (k + 4) f fd ["_law_bag_here"] (spKnown K) := by
  have GO : FnOk P w K mg base CX0 (k + 3) fO fdO ["_law_bag_here", "_law_some"] (spOf K) := ok_of O.F Pu.F Pu.b Pu.g ml
  have GL : FnOk P w K mg base CX0 (k + 3) fL fdL ["_law_bag_here", "_law_most"] spLett := ok_lett Le.F Pu ml mr
  have GR : FnOk P w K mg base CX0 (k + 3) fR fdR ["_law_bag_here", "_law_rooms"] spRooms := ok_rooms Ro.F Pu ml mr
  refine F.ok scKnown (fun vs H Q E h => ?_) (fun cdv A outer s H vs Q E hr h => ?_)
  · obtain ⟨g, rfl, _⟩ := h
    rfl
  · obtain ⟨g, rfl, B, q⟩ := h
    refine ⟨_, pss_cons (ps_set (i := 1) scKnown.nd rfl (.inl rfl) (pe_op op_add_str (pe_call GL hr (by rfl) Le.g Le.F.kp Le.b .nil pass0 (pa_cons (pv 0) (pa_cons pe_int pa_nil))) pe_str))
      (pss_cons (ps_par (i := 2) (j := 3) rfl scKnown.nd rfl rfl (by decide) rfl rfl (pa_cons (pe_ix ix_str (pv 1) pe_int (fun _ _ => rfl)) (pa_cons pe_str pa_nil)) rfl)
      (pss_cons (ps_set (i := 4) scKnown.nd rfl (.inl rfl) (pe_lst (pa_cons (pe_ent (K := K) (n := 1) (L := [(0, 2, "cent", 0), (0, 3, "fill", 0)]) (by decide) (pe_tup (pa_cons pe_int (pa_cons (pe_lst (pa_cons (pe_tup (pa_cons pe_int (pa_cons (pv 2) (pa_cons pe_str (pa_cons pe_int pa_nil))))) (pa_cons (pe_tup (pa_cons pe_int (pa_cons (pv 3) (pa_cons pe_str (pa_cons pe_int pa_nil))))) pa_nil))) pa_nil)))) pa_nil)))
      (pss_cons (ps_expr (pe_bm PySem.F.plainAttrs_list PySem.F.slot_list_append PySem.F.type_list_append mt_append (pv 4) (pa_cons (pe_ent (K := K) (n := 1) (L := [(0, 2, "cent", 0), (0, 3, "coin", 0)]) (by decide) (pe_tup (pa_cons pe_int (pa_cons (pe_lst (pa_cons (pe_tup (pa_cons pe_int (pa_cons (pv 2) (pa_cons pe_str (pa_cons pe_int pa_nil))))) (pa_cons (pe_tup (pa_cons pe_int (pa_cons (pv 3) (pa_cons pe_str (pa_cons pe_int pa_nil))))) pa_nil))) pa_nil)))) pa_nil)))
      (pss_cons (ps_expr (pe_bm PySem.F.plainAttrs_list PySem.F.slot_list_append PySem.F.type_list_append mt_append (pv 4) (pa_cons (pe_ent (K := K) (n := 2) (L := [(0, 2, "cent", 0), (0, 3, "keep", 0), (0, 2, "keep", 1), (0, 3, "cent", 1), (1, 2, "cent", 1)]) (by decide) (pe_tup (pa_cons pe_int (pa_cons (pe_lst (pa_cons (pe_tup (pa_cons pe_int (pa_cons (pv 2) (pa_cons pe_str (pa_cons pe_int pa_nil))))) (pa_cons (pe_tup (pa_cons pe_int (pa_cons (pv 3) (pa_cons pe_str (pa_cons pe_int pa_nil))))) (pa_cons (pe_tup (pa_cons pe_int (pa_cons (pv 2) (pa_cons pe_str (pa_cons pe_int pa_nil))))) (pa_cons (pe_tup (pa_cons pe_int (pa_cons (pv 3) (pa_cons pe_str (pa_cons pe_int pa_nil))))) (pa_cons (pe_tup (pa_cons pe_int (pa_cons (pv 2) (pa_cons pe_str (pa_cons pe_int pa_nil))))) pa_nil)))))) pa_nil)))) pa_nil)))
      (pss_cons (ps_expr (pe_bm PySem.F.plainAttrs_list PySem.F.slot_list_append PySem.F.type_list_append mt_append (pv 4) (pa_cons (pe_ent (K := K) (n := 2) (L := [(0, 2, "cent", 0), (0, 3, "keep", 0), (0, 3, "keep", 1), (1, 2, "keep", 1), (1, 3, "cent", 1)]) (by decide) (pe_tup (pa_cons pe_int (pa_cons (pe_lst (pa_cons (pe_tup (pa_cons pe_int (pa_cons (pv 2) (pa_cons pe_str (pa_cons pe_int pa_nil))))) (pa_cons (pe_tup (pa_cons pe_int (pa_cons (pv 3) (pa_cons pe_str (pa_cons pe_int pa_nil))))) (pa_cons (pe_tup (pa_cons pe_int (pa_cons (pv 3) (pa_cons pe_str (pa_cons pe_int pa_nil))))) (pa_cons (pe_tup (pa_cons pe_int (pa_cons (pv 2) (pa_cons pe_str (pa_cons pe_int pa_nil))))) (pa_cons (pe_tup (pa_cons pe_int (pa_cons (pv 3) (pa_cons pe_str (pa_cons pe_int pa_nil))))) pa_nil)))))) pa_nil)))) pa_nil)))
      (pss_cons (ps_expr (pe_bm PySem.F.plainAttrs_list PySem.F.slot_list_append PySem.F.type_list_append mt_append (pv 4) (pa_cons (pe_ent (K := K) (n := 2) (L := [(0, 2, "cent", 0), (0, 3, "coin", 1), (1, 2, "cent", 1), (1, 3, "brim", 0)]) (by decide) (pe_tup (pa_cons pe_int (pa_cons (pe_lst (pa_cons (pe_tup (pa_cons pe_int (pa_cons (pv 2) (pa_cons pe_str (pa_cons pe_int pa_nil))))) (pa_cons (pe_tup (pa_cons pe_int (pa_cons (pv 3) (pa_cons pe_str (pa_cons pe_int pa_nil))))) (pa_cons (pe_tup (pa_cons pe_int (pa_cons (pv 2) (pa_cons pe_str (pa_cons pe_int pa_nil))))) (pa_cons (pe_tup (pa_cons pe_int (pa_cons (pv 3) (pa_cons pe_str (pa_cons pe_int pa_nil))))) pa_nil))))) pa_nil)))) pa_nil)))
      (pss_cons (ps_expr (pe_bm PySem.F.plainAttrs_list PySem.F.slot_list_append PySem.F.type_list_append mt_append (pv 4) (pa_cons (pe_ent (K := K) (n := 2) (L := [(0, 2, "keep", 0), (0, 3, "cent", 1), (1, 2, "keep", 1), (1, 3, "cent", 0), (1, 2, "fill", 0)]) (by decide) (pe_tup (pa_cons pe_int (pa_cons (pe_lst (pa_cons (pe_tup (pa_cons pe_int (pa_cons (pv 2) (pa_cons pe_str (pa_cons pe_int pa_nil))))) (pa_cons (pe_tup (pa_cons pe_int (pa_cons (pv 3) (pa_cons pe_str (pa_cons pe_int pa_nil))))) (pa_cons (pe_tup (pa_cons pe_int (pa_cons (pv 2) (pa_cons pe_str (pa_cons pe_int pa_nil))))) (pa_cons (pe_tup (pa_cons pe_int (pa_cons (pv 3) (pa_cons pe_str (pa_cons pe_int pa_nil))))) (pa_cons (pe_tup (pa_cons pe_int (pa_cons (pv 2) (pa_cons pe_str (pa_cons pe_int pa_nil))))) pa_nil)))))) pa_nil)))) pa_nil)))
      (pss_cons (ps_expr (pe_bm PySem.F.plainAttrs_list PySem.F.slot_list_append PySem.F.type_list_append mt_append (pv 4) (pa_cons (pe_ent (K := K) (n := 3) (L := [(0, 2, "coin", 1), (1, 2, "coin", 2), (2, 2, "brim", 0), (0, 3, "cent", 0), (2, 3, "keep", 1)]) (by decide) (pe_tup (pa_cons pe_int (pa_cons (pe_lst (pa_cons (pe_tup (pa_cons pe_int (pa_cons (pv 2) (pa_cons pe_str (pa_cons pe_int pa_nil))))) (pa_cons (pe_tup (pa_cons pe_int (pa_cons (pv 2) (pa_cons pe_str (pa_cons pe_int pa_nil))))) (pa_cons (pe_tup (pa_cons pe_int (pa_cons (pv 2) (pa_cons pe_str (pa_cons pe_int pa_nil))))) (pa_cons (pe_tup (pa_cons pe_int (pa_cons (pv 3) (pa_cons pe_str (pa_cons pe_int pa_nil))))) (pa_cons (pe_tup (pa_cons pe_int (pa_cons (pv 3) (pa_cons pe_str (pa_cons pe_int pa_nil))))) pa_nil)))))) pa_nil)))) pa_nil)))
      (pss_cons (ps_asg (pe_call GO hr (by rfl) O.g O.F.kp O.b .nil pass0 (pa_cons (pv 0) (pa_cons (pv 4) pa_nil))) (pg_tup (n := 2) rfl (pgs_cons (pg_name (i := 5) scKnown.nd rfl (.inl rfl)) (pgs_cons (pg_name (i := 6) scKnown.nd rfl (.inl rfl)) pgs_nil))))
      (pss_one (ps_ret (pe_tup (pa_cons (pv 5) (pa_cons (pv 1) (pa_cons (pv 6) (pa_cons (pe_call GR hr (by rfl) Ro.g Ro.F.kp Ro.b .nil pass0 (pa_cons (pv 0) (pa_cons (pv 5) pa_nil))) (pa_cons (pe_listRg rfl (by rfl) mli (prg_1 (by rfl) mr (pv 5))) pa_nil))))))))))))))))), ?_⟩
    refine ⟨_, rfl, g, 1, rfl, by decide, by decide, B, fun ls H1 hls hll hlow k1 B1 => ?_⟩
    obtain ⟨c, rfl⟩ : ∃ c, ls = [c] := by
      have h1 := letB_pos hls
      match ls, h1, hll with
      | [c], _, _ => exact ⟨c, rfl⟩
    have hc : c < 122 := hlow c (by simp)
    have hz : letB [c, 122] = true := letB_z hls hc
    have ez : Sx [c] ++ "z" = Sx [c, 122] := by
      rw [show ("z" : Str) = Sx [122] from by decide +kernel, sx_app]
      rfl
    refine ⟨_, _, rfl, rfl, (by decide : 1 + 1 ≤ sizeLine), ?_⟩
    rw [ez]
    refine ⟨_, rfl, Sx [c, 122], 0, c, rfl, rfl, (by decide : 2 ≤ sizeLine), rfl, ?_⟩
    refine ⟨_, _, rfl, ?_⟩
    obtain ⟨lv, hlv2, hlv3⟩ : ∃ lv : Nat → Str, lv 2 = Sx [c] ∧ lv 3 = "z" := ⟨fun i => if i = 2 then Sx [c] else "z", rfl, rfl⟩
    have hz3 : ("z" : Str) = Sx [122] := by decide +kernel
    have lvOk : ∀ {L : List Lit}, (L.all fun x => decide (x.2.1 = 2 ∨ x.2.1 = 3)) = true → ∀ x ∈ L, ∃ c' ∈ [c, 122], lv x.2.1 = Sx [c'] := fun {L} h x hx => by
      rcases of_decide_eq_true (List.all_eq_true.mp h x hx) with e | e
      · exact ⟨c, by simp, by rw [e, hlv2]⟩
      · exact ⟨122, by simp, by rw [e, hlv3, hz3]⟩
    have vOk : ∀ {L : List Lit} {y4 y5 y6 : Option V}, (L.all fun x => decide (x.2.1 = 2 ∨ x.2.1 = 3)) = true → ∀ x ∈ L, ([some (.ref g.b), some (.str (Sx [c, 122])), some (.str (Sx [c])), some (.str "z"), y4, y5, y6] : L2.St)[x.2.1]? = some (some (.str (lv x.2.1))) := fun {L y4 y5 y6} h x hx => by
      rcases of_decide_eq_true (List.all_eq_true.mp h x hx) with e | e
      · rw [e, hlv2]
        rfl
      · rw [e, hlv3]
        rfl
    refine ⟨lv, vOk (by decide), fun e0 l0 H2 s2 nl0 en0 => ?_⟩
    refine ⟨(by decide : 1 ≤ sizeLine), fun so nso => ?_⟩
    have B2 := B1.same s2
    have k2 : Keep g.b H H2 := k1.trans (Keep.of s2)
    have nsb := B2.ne nso
    have nsl := B2.neL nso
    have kput : ∀ {H' : Hp} {o : HO}, Keep g.b H H' → Keep g.b H (upd H' so o) := fun {H' o} kk a o' na e => by
      rw [upd_ne (ne_of_none (k2 a o' na e) nso)]
      exact kk a o' na e
    have nl0s : l0 ≠ so := by
      obtain ⟨ps, _, h2, _⟩ := en0
      exact ne_of_none h2 nso
    have st0 := same_upd (o := .lst [V.ref e0]) nso
    have h_0 : (upd H2 so (.lst [V.ref e0])) so = some (.lst [V.ref e0]) := upd_same
    have al_0 : AllEnt K (upd H2 so (.lst [V.ref e0])) [c, 122] so [V.ref e0] := fun v hv => ⟨e0, l0, 1, _, List.mem_singleton.mp hv, nl0s, en0.same st0, good_of (by decide) (lvOk (by decide)) (by decide +kernel) (by decide +kernel) (by decide)⟩
    have B_0 := B2.same st0
    have k_0 : Keep g.b H (upd H2 so (.lst [V.ref e0])) := kput k2
    have len_0 : [V.ref e0].length ≤ 1 := Nat.le_refl _
    generalize upd H2 so (.lst [V.ref e0]) = G_0 at h_0 al_0 B_0 k_0
    generalize [V.ref e0] = xs_0 at h_0 al_0 len_0
    refine ⟨_, rfl, .inl ⟨rfl, _, SqL.of h_0⟩, lv, vOk (by decide), fun e1 l1 H_1 s_1 nl_1 en_1 => ?_⟩
    have hs_1 := s_1 _ _ h_0
    refine ⟨so, xs_0, .ref e1, rfl, rfl, hs_1, Nat.lt_of_le_of_lt len_0 (by decide), ?_⟩
    have h_1 : (upd H_1 so (.lst (xs_0 ++ [.ref e1]))) so = some (.lst (xs_0 ++ [.ref e1])) := upd_same
    have al_1 := AllEnt.more al_0 h_0 s_1 nl_1 en_1 (good_of (by decide) (lvOk (by decide)) (by decide +kernel) (by decide +kernel) (by decide))
    have B_1 := (B_0.same s_1).put (o := .lst (xs_0 ++ [.ref e1])) nsb nsl
    have k_1 : Keep g.b H (upd H_1 so (.lst (xs_0 ++ [.ref e1]))) := kput (k_0.trans (Keep.of s_1))
    have len_1 : (xs_0 ++ [V.ref e1]).length ≤ 2 := by rw [List.length_append]; exact Nat.succ_le_succ len_0
    generalize upd H_1 so (.lst (xs_0 ++ [.ref e1])) = G_1 at h_1 al_1 B_1 k_1
    generalize xs_0 ++ [V.ref e1] = xs_1 at h_1 al_1 len_1
    refine ⟨_, rfl, .inl ⟨rfl, _, SqL.of h_1⟩, lv, vOk (by decide), fun e2 l2 H_2 s_2 nl_2 en_2 => ?_⟩
    have hs_2 := s_2 _ _ h_1
    refine ⟨so, xs_1, .ref e2, rfl, rfl, hs_2, Nat.lt_of_le_of_lt len_1 (by decide), ?_⟩
    have h_2 : (upd H_2 so (.lst (xs_1 ++ [.ref e2]))) so = some (.lst (xs_1 ++ [.ref e2])) := upd_same
    have al_2 := AllEnt.more al_1 h_1 s_2 nl_2 en_2 (good_of (by decide) (lvOk (by decide)) (by decide +kernel) (by decide +kernel) (by decide))
    have B_2 := (B_1.same s_2).put (o := .lst (xs_1 ++ [.ref e2])) nsb nsl
    have k_2 : Keep g.b H (upd H_2 so (.lst (xs_1 ++ [.ref e2]))) := kput (k_1.trans (Keep.of s_2))
    have len_2 : (xs_1 ++ [V.ref e2]).length ≤ 3 := by rw [List.length_append]; exact Nat.succ_le_succ len_1
    generalize upd H_2 so (.lst (xs_1 ++ [.ref e2])) = G_2 at h_2 al_2 B_2 k_2
    generalize xs_1 ++ [V.ref e2] = xs_2 at h_2 al_2 len_2
    refine ⟨_, rfl, .inl ⟨rfl, _, SqL.of h_2⟩, lv, vOk (by decide), fun e3 l3 H_3 s_3 nl_3 en_3 => ?_⟩
    have hs_3 := s_3 _ _ h_2
    refine ⟨so, xs_2, .ref e3, rfl, rfl, hs_3, Nat.lt_of_le_of_lt len_2 (by decide), ?_⟩
    have h_3 : (upd H_3 so (.lst (xs_2 ++ [.ref e3]))) so = some (.lst (xs_2 ++ [.ref e3])) := upd_same
    have al_3 := AllEnt.more al_2 h_2 s_3 nl_3 en_3 (good_of (by decide) (lvOk (by decide)) (by decide +kernel) (by decide +kernel) (by decide))
    have B_3 := (B_2.same s_3).put (o := .lst (xs_2 ++ [.ref e3])) nsb nsl
    have k_3 : Keep g.b H (upd H_3 so (.lst (xs_2 ++ [.ref e3]))) := kput (k_2.trans (Keep.of s_3))
    have len_3 : (xs_2 ++ [V.ref e3]).length ≤ 4 := by rw [List.length_append]; exact Nat.succ_le_succ len_2
    generalize upd H_3 so (.lst (xs_2 ++ [.ref e3])) = G_3 at h_3 al_3 B_3 k_3
    generalize xs_2 ++ [V.ref e3] = xs_3 at h_3 al_3 len_3
    refine ⟨_, rfl, .inl ⟨rfl, _, SqL.of h_3⟩, lv, vOk (by decide), fun e4 l4 H_4 s_4 nl_4 en_4 => ?_⟩
    have hs_4 := s_4 _ _ h_3
    refine ⟨so, xs_3, .ref e4, rfl, rfl, hs_4, Nat.lt_of_le_of_lt len_3 (by decide), ?_⟩
    have h_4 : (upd H_4 so (.lst (xs_3 ++ [.ref e4]))) so = some (.lst (xs_3 ++ [.ref e4])) := upd_same
    have al_4 := AllEnt.more al_3 h_3 s_4 nl_4 en_4 (good_of (by decide) (lvOk (by decide)) (by decide +kernel) (by decide +kernel) (by decide))
    have B_4 := (B_3.same s_4).put (o := .lst (xs_3 ++ [.ref e4])) nsb nsl
    have k_4 : Keep g.b H (upd H_4 so (.lst (xs_3 ++ [.ref e4]))) := kput (k_3.trans (Keep.of s_4))
    have len_4 : (xs_3 ++ [V.ref e4]).length ≤ 5 := by rw [List.length_append]; exact Nat.succ_le_succ len_3
    generalize upd H_4 so (.lst (xs_3 ++ [.ref e4])) = G_4 at h_4 al_4 B_4 k_4
    generalize xs_3 ++ [V.ref e4] = xs_4 at h_4 al_4 len_4
    refine ⟨_, rfl, .inl ⟨rfl, _, SqL.of h_4⟩, lv, vOk (by decide), fun e5 l5 H_5 s_5 nl_5 en_5 => ?_⟩
    have hs_5 := s_5 _ _ h_4
    refine ⟨so, xs_4, .ref e5, rfl, rfl, hs_5, Nat.lt_of_le_of_lt len_4 (by decide), ?_⟩
    have h_5 : (upd H_5 so (.lst (xs_4 ++ [.ref e5]))) so = some (.lst (xs_4 ++ [.ref e5])) := upd_same
    have al_5 := AllEnt.more al_4 h_4 s_5 nl_5 en_5 (good_of (by decide) (lvOk (by decide)) (by decide +kernel) (by decide +kernel) (by decide))
    have B_5 := (B_4.same s_5).put (o := .lst (xs_4 ++ [.ref e5])) nsb nsl
    have k_5 : Keep g.b H (upd H_5 so (.lst (xs_4 ++ [.ref e5]))) := kput (k_4.trans (Keep.of s_5))
    have len_5 : (xs_4 ++ [V.ref e5]).length ≤ 6 := by rw [List.length_append]; exact Nat.succ_le_succ len_4
    generalize upd H_5 so (.lst (xs_4 ++ [.ref e5])) = G_5 at h_5 al_5 B_5 k_5
    generalize xs_4 ++ [V.ref e5] = xs_5 at h_5 al_5 len_5
    refine ⟨_, rfl, .inl ⟨rfl, _, SqL.of h_5⟩, lv, vOk (by decide), fun e6 l6 H_6 s_6 nl_6 en_6 => ?_⟩
    have hs_6 := s_6 _ _ h_5
    refine ⟨so, xs_5, .ref e6, rfl, rfl, hs_6, Nat.lt_of_le_of_lt len_5 (by decide), ?_⟩
    have h_6 : (upd H_6 so (.lst (xs_5 ++ [.ref e6]))) so = some (.lst (xs_5 ++ [.ref e6])) := upd_same
    have al_6 := AllEnt.more al_5 h_5 s_6 nl_6 en_6 (good_of (by decide) (lvOk (by decide)) (by decide +kernel) (by decide +kernel) (by decide))
    have B_6 := (B_5.same s_6).put (o := .lst (xs_5 ++ [.ref e6])) nsb nsl
    have k_6 : Keep g.b H (upd H_6 so (.lst (xs_5 ++ [.ref e6]))) := kput (k_5.trans (Keep.of s_6))
    have len_6 : (xs_5 ++ [V.ref e6]).length ≤ 7 := by rw [List.length_append]; exact Nat.succ_le_succ len_5
    generalize upd H_6 so (.lst (xs_5 ++ [.ref e6])) = G_6 at h_6 al_6 B_6 k_6
    have pos_6 : 0 < (xs_5 ++ [V.ref e6]).length := by rw [List.length_append]; exact Nat.succ_pos _
    generalize xs_5 ++ [V.ref e6] = xs_6 at h_6 al_6 len_6 pos_6
    refine ⟨_, rfl, _, rfl, g, so, xs_6, rfl, B_6, nsb, SqL.of h_6, pos_6, Nat.lt_of_le_of_lt len_6 (by decide), fun v H7 hv k7 B7 => ?_⟩
    obtain ⟨e, l, n, as, rfl, _, ⟨ps, h1, h2, h3, h4⟩, ⟨gn, ga, gd, gl⟩⟩ := (al_6.keep B_6 k7) v hv
    refine ⟨e, _, rfl, SqT.of h1, rfl, _, _, rfl, _, _, rfl, rfl, ?_⟩
    refine ⟨_, rfl, _, rfl, _, rfl, _, rfl, _, rfl, g, n, rfl, gn.1, by omega, B7, fun fs lf H8 hf1 hf2 hf3 hf4 k8 B8 => ?_⟩
    refine ⟨_, rfl, n, rfl, RgOk.of_le (by omega) (by omega) (by omega) (by omega), fun lg nlg => ?_⟩
    have s9 := same_upd (o := .lst (rgV 0 n)) nlg
    have eg : rgV 0 n = ((List.range n.toNat).map fun i : Nat => (0 : Int) + i).map V.int := by
      unfold rgV
      rw [List.map_map, Int.sub_zero]
      rfl
    refine ⟨(by decide : 5 ≤ sizeLine), fun t nt => ?_⟩
    have s10 := same_upd (o := .tup [.int n, .str (Sx [c, 122]), .ref l, .ref lf, .ref lg]) nt
    have s910 := s9.trans s10
    have hlg : (upd H8 lg (.lst (rgV 0 n))) lg = some (.lst (((List.range n.toNat).map fun i : Nat => (0 : Int) + i).map V.int)) := by rw [upd_same, eg]
    refine q t ⟨n, [c, 122], as, fs, (List.range n.toNat).map fun i : Nat => (0 : Int) + i⟩ _ ⟨gn.1, (show n ≤ 8 by omega), hz, ga, gd, Nat.le_trans gl (by decide), hf1, hf2, fun r hr' => ?_, ?_, hf3, ?_⟩ gn.2 rfl gl ⟨l, lf, lg, ps, upd_same, s910 _ _ (k8 _ _ (B7.neRfs h2) h2), (B7.keepRow k8 h3).same s910, h4, s910 _ _ hf4, s10 _ _ hlg⟩ ((k_6.trans (k7.trans k8)).trans (Keep.of s910)) (B8.same s910)
    · obtain ⟨i, hi, rfl⟩ := List.mem_map.mp hr'
      have hi := List.mem_range.mp hi
      unfold rooB
      rw [Bool.and_eq_true, decide_eq_true_eq, decide_eq_true_eq]
      show (0 : Int) ≤ 0 + (i : Nat) ∧ (0 : Int) + (i : Nat) < n
      omega
    · refine List.Pairwise.map _ (fun a b h e => h (by omega)) List.nodup_range
    · show ((List.range n.toNat).map fun i : Nat => (0 : Int) + i).length ≤ 100
      rw [List.length_map, List.length_range]
      omega
end
end Onp
set_option maxHeartbeats 8000000
set_option autoImplicit false
namespace Onp
open PySem PySem.Spec PyProof.Rows L2
abbrev sMachL : Stmt := topS 63
section
variable {P : Program} {w : World} {K : PySem.W.Frag} {mg : Str → Option Value} {base : Heap}
theorem scMachL : FnScope ["_law_bag_here", "_law_way_z"] ["_law_bag_here"] (defScope sMachL) := ⟨rfl, rfl, rfl, by decide +kernel, rfl, by decide +kernel, by decide +kernel⟩
def spMachL (K : PySem.W.Frag) : Sp := fun vs H Q _ => ∃ g : Bid, vs = [.ref g.b] ∧ Bg H g ∧ ∀ (t : Addr) (M : AM) H', M.ok → M.n ≤ 4 → few M.as → DrawnAt K H' t M → Keep g.b H H' → Bg H' g → Q (.ref t) H'
theorem ok_machL {f fP fO fD fL fR fA fDr fFu fKn : Addr} {fd fdP fdO fdD fdL fdR fdA fdDr fdFu fdKn : FuncData} {k : Nat} (F : Fun K "_law_machine" "_law_machine" sMachL f fd) (Pu : FnM K mg fP fdP "_law_pull" sPull ["_law_bag_here", "_law_many"]) (O : FnM K mg fO fdO "_law_of" sOf ["_law_bag_here", "_law_some"]) (De : FnM K mg fD fdD "_law_deed" sDeed ["_law_bag_here"])
    (Le : FnM K mg fL fdL "_law_letters" sLett ["_law_bag_here", "_law_most"]) (Ro : FnM K mg fR fdR "_law_rooms_some" sRooms ["_law_bag_here", "_law_rooms"]) (Ar : FnM K mg fA fdA "_law_arrow" sArrow ["_law_bag_here", "_law_rooms", "_law_letters_here"]) (Dr : FnM K mg fDr fdDr "_law_drawn" sDrawn psDr) (Fu : FnM K mg fFu fdFu "_law_full_one" sFull psFu) (Kn : FnM K mg fKn fdKn "_law_known" sKnown ["_law_bag_here"])
    (ml : mg "len" = none) (mr : mg "range" = none) (mi : mg "int" = none) (mli : mg "list" = none) : FnOk P w K mg base CX0 (k + 6) f fd ["_law_bag_here"] (spMachL K) := by
  have GP : FnOk P w K mg base CX0 (k + 5) fP fdP ["_law_bag_here", "_law_many"] (spPull K) := ok_pull Pu.F ml
  have GD : FnOk P w K mg base CX0 (k + 5) fDr fdDr psDr (spDrawn K) := ok_drawn Dr.F Pu O De Le Ro Ar ml mr mi
  have GF : FnOk P w K mg base CX0 (k + 5) fFu fdFu psFu (spFull K) := ok_full Fu.F Pu O De Le Ro ml mr mi
  have GK : FnOk P w K mg base CX0 (k + 5) fKn fdKn ["_law_bag_here"] (spKnown K) := ok_known Kn.F Pu O Le Ro ml mr mli
  refine F.ok scMachL (fun vs H Q E h => ?_) (fun cdv A outer s H vs Q E hr h => ?_)
  · obtain ⟨g, rfl, _⟩ := h
    rfl
  · obtain ⟨g, rfl, B, q⟩ := h
    refine ⟨_, pss_cons (ps_set (i := 1) scMachL.nd rfl (.inl rfl) (pe_call GP hr (by rfl) Pu.g Pu.F.kp Pu.b .nil pass0 (pa_cons (pv 0) (pa_cons pe_int pa_nil))))
      (pss_cons (ps_if (pt_cmpR op_lt (pv 1) pe_int (nomark _)) (pss_one (ps_ret (pe_call GF hr (by rfl) Fu.g Fu.F.kp Fu.b .nil pass0 (pa_cons (pv 0) (pa_cons pe_int (pa_cons pe_int pa_nil)))))) pss_nil)
      (pss_one (ps_ret (pe_ifExp (pt_cmpR op_eq (pv 1) pe_int (nomark _)) (pe_call GK hr (by rfl) Kn.g Kn.F.kp Kn.b .nil pass0 (pa_cons (pv 0) pa_nil)) (pe_call GD hr (by rfl) Dr.g Dr.F.kp Dr.b .nil pass0 (pa_cons (pv 0) (pa_cons pe_int (pa_cons pe_int (pa_cons pe_int pa_nil))))))))), ?_⟩
    refine ⟨_, rfl, g, 6, rfl, by decide, by decide, B, fun z H1 z0 z1 k1 B1 => ?_⟩
    refine ⟨_, rfl, z, 2, rfl, rfl, _, rfl, ?_⟩
    by_cases h2 : z < 2
    · refine itT h2 ?_
      exact ⟨_, rfl, g, 3, 2, rfl, by decide, by decide, B1, fun t M H2 ok hn _ fw dr k2 B2 => q t M H2 ok (by omega) fw dr (k1.trans k2) B2⟩
    · refine itF h2 ?_
      refine ⟨_, rfl, rfl, _, rfl, ?_⟩
      by_cases h3 : z = 2
      · refine itT (by rw [h3]) ?_
        exact ⟨_, rfl, g, rfl, B1, fun t M H2 ok hn _ fw dr k2 B2 => q t M H2 ok (by omega) (few_len fw) dr (k1.trans k2) B2⟩
      · refine itF (fun e => h3 (V.int.inj e)) ?_
        exact ⟨_, rfl, g, 4, 3, 10, rfl, by decide, by decide, by decide, by decide, by decide, by decide, B1, fun t M H2 ok hn _ fw _ dr k2 B2 => q t M H2 ok (by omega) (few_len (by omega)) dr (k1.trans k2) B2⟩
end
end Onp
set_option maxHeartbeats 4000000
set_option autoImplicit false
/-! {k: v for target in iter if ..}, the keys tuples of ints and texts -/
namespace Onp
open PySem PySem.Spec PyProof.Rows L2
section
variable {X : Cx}
theorem d_dictSetP {pins : List (Addr × Obj)} {σ : L2.St} {H : Hp} {s : Shared} {E : Value → Shared → Prop} {D b : Addr} {kvs : List (List L2.Key × V)} {k : List L2.Key} {v : V} {r : Value} {Q : Unit → Shared → Prop} (hu : X.A.units + 1 < cLine) (I : Inv X pins σ H s) (hD : H D = some (.dT kvs)) (hb : H b = some (.tup (k.map kV))) (hz : kvs.length < sizeLine)
    (rv : RelV v r) (h : ∀ s', Inv X pins σ (upd H D (.dT (putK kvs k v))) s' → Q () s') : wpAny (model X.prog X.w) X.A (dictSet D (.ref b) r) Q E s := by
  obtain ⟨z, hd, xs, rel, dd⟩ := dt_of I.hok hD
  have hx : xs.length ≤ sizeLine := Paired.length rel ▸ z
  have hl : (putK kvs k v).length ≤ sizeLine := Nat.le_trans (length_putK kvs k v) hz
  refine wpAny_dictSet_heap (hsz := hx) (show X.A.units < cLine by omega) (key_of I.hok hb) dd fun h' dd' hs => h _ ?_
  obtain ⟨q, es, ep, hq, c2, c3, c4, _, c5⟩ := dd'
  refine d_write I (by rw [hD]; exact True.intro) hs ⟨q, hq⟩ ⟨hl, hd, _, (rel.put k hb rv).keeps fun c ys ec => ?_, q, es, ep, hq, c2, c3, c4, c5⟩
  rw [upd_ne (ne_of ec hD (fun z => nomatch z))]
  exact ec
end
/-- what a store does, told of the heap -/
abbrev PutR : Type := Hp → Addr → V → V → Hp → Prop
def PutOk (P : Program) (w : World) (Put : PutR) : Prop := ∀ (X : Cx) (pins : List (Addr × Obj)) (σ : L2.St) (H H' : Hp) (s : Shared) (E : Value → Shared → Prop) (D : Addr) (y v : V) (u r : Value) (Q : Unit → Shared → Prop), X.prog = P → X.w = w → X.A.units + 64 < cLine → Inv X pins σ H s → Put H D y v H' → RelV y u → RelV v r → (∀ s', Inv X pins σ H' s' → Q () s') → wpAny (model X.prog X.w) X.A (dictSet D u r) Q E s
/-- a dict that nothing is in -/
def NewOk (P : Program) (w : World) (o : HO) : Prop := ∀ (H : Hp) (h : Heap), sysModules < h.objs.size → ObjOk P w H (h.push { cls := .type "dict", data := .dict #[] }) h.objs.size o
def PutT : PutR := fun H D y v H' => ∃ kvs k b, H D = some (.dT kvs) ∧ y = .ref b ∧ H b = some (.tup (k.map kV)) ∧ kvs.length < sizeLine ∧ H' = upd H D (.dT (putK kvs k v))
theorem putT_ok (P : Program) (w : World) : PutOk P w PutT := by
  intro X pins σ H H' s E D y v u r Q e1 e2 hu I hp ry rv h
  obtain ⟨kvs, k, b, hD, rfl, hb, hz, rfl⟩ := hp
  cases ry
  exact d_dictSetP (by omega) I hD hb hz rv h
theorem newT_ok (P : Program) (w : World) : NewOk P w (.dT []) := fun _ h hb => dt_empty h hb
section
variable {X : Cx}
def tDcG (o0 : HO) (Put : PutR) (wi : TI) (g : TG) (tt : TT) (tk tv : TE) (vs : List Nat) : TE := fun σ H Q => wi σ H fun J H1 => ∀ D, H1 D = none → ∃ W : Nat → Nat → Hp → Prop, (∃ m, W 0 m (upd H1 D o0)) ∧ ∀ i m H, W i m H →
  (J.stop i H ∧ Q (.ref D) H) ∨ (J.go i H ∧ ∃ Nx : Hp → Prop, (∀ H', Nx H' → ∃ m', m' < m ∧ W (i + 1) m' H') ∧ ∀ x H', J.yld i H x H' → g x (wipe σ vs) H' fun σ2 H2 => wipe σ2 vs = wipe σ vs ∧ tt σ2 H2 fun b H3 =>
    if b = true then tk σ2 H3 fun y H4 => tv σ2 H4 fun z H5 => ∃ H6, Put H5 D y z H6 ∧ Nx H6 else Nx H3)
theorem pe_dcG {kx vx tg iter : Expr} {ifs : List Expr} {scope : Scope} {own : List (Str × Nat)} {pos : Pos} {wi : TI} {g : TG} {tt : TT} {tk tv : TE} {o0 : HO} {Put : PutR} (hnew : NewOk X.prog X.w o0) (hput : PutOk X.prog X.w Put) (hu : X.A.units + 64 < cLine) (hc : X.calm = true) (hN : X.N.Nodup) (hi : PI X tg iter wi) (ok : BlkOk X.N X.env.scope scope own)
    (hg : ∀ (s : Shared) (H : Hp) (C : Addr) (cl : List (Str × Addr)) (fp : List Addr), PG (X.blk s H scope (compEnvC scope cl C X.env) fp) tg g) (ht : ∀ (s : Shared) (H : Hp) (C : Addr) (cl : List (Str × Addr)) (fp : List Addr), PTs (X.blk s H scope (compEnvC scope cl C X.env) fp) ifs tt)
    (hk : ∀ (s : Shared) (H : Hp) (C : Addr) (cl : List (Str × Addr)) (fp : List Addr), PE (X.blk s H scope (compEnvC scope cl C X.env) fp) kx tk)
    (he : ∀ (s : Shared) (H : Hp) (C : Addr) (cl : List (Str × Addr)) (fp : List Addr), PE (X.blk s H scope (compEnvC scope cl C X.env) fp) vx tv) (hs : ∀ x, foldedSetIterable iter X.env x = pure x := by intro _; rfl) :
    PE X (.DictComp kx vx [⟨tg, iter, ifs, 0⟩] scope pos) (tDcG o0 Put wi g tt tk tv (own.map (·.2))) := by
  refine ⟨fun pins s σ H Q I hstart => ?_⟩
  rw [arm_eval_DictComp]
  have cellsOf : ∀ y ∈ scope.names, y.2 = .free → ∃ c, X.env.cells.lookup y.1 = some c := fun y hy e => I.ok.has _ (ok.free y hy e)
  refine wpAny_comprehension_free (use := none) rfl hs (closure_ok cellsOf) ok.kind (fun y hy e => by rw [ok.uniq y hy, e])
    (thn (hi.run pins s σ H _ I hstart) fun _ sa hx => thn hx fun _ sb hb => ?_)
  obtain ⟨it, fp, tn, J, Hb, rfl, Ib, T, st0, pin0, todo⟩ := hb
  refine wpAny_newObj_type (newEnv_comp ?_)
  generalize hD : sb.heap.objs.size = D
  obtain ⟨W, ⟨m0, w0⟩, turn⟩ := todo D (Ib.hok.fresh (Nat.le_of_eq hD))
  generalize hsc : ({ sb with heap := sb.heap.push { cls := .type "dict", data := .dict #[] } } : Shared) = sc
  have push : sc.heap = sb.heap.push { cls := .type "dict", data := .dict #[] } := by rw [← hsc]
  have Ic : Inv X pins σ (upd Hb D o0) sc := by
    subst hsc
    refine Ib.laid (t' := sb.toks) (fun b o e => Heap.get?_push_of_some _ e) (Nat.le_of_eq hD) ?_
    subst hD
    exact hnew _ sb.heap Ib.big
  have old : ∀ b ∈ fp, b < sb.heap.objs.size := fun b hb => (T.obj _ _ st0 b hb).elim fun o e => Heap.lt_size e.1
  have pin1 : ∀ b ∈ fp, FpOk X pins (upd Hb D o0) b ∧ b < sc.heap.objs.size := fun b hb =>
    ⟨⟨by rw [upd_ne (by rw [← hD]; exact Nat.ne_of_lt (old b hb))]; exact (pin0 b hb).1, (pin0 b hb).2⟩, by rw [push, Heap.size_push]; exact Nat.lt_succ_of_lt (old b hb)⟩
  have st1 : tn 0 sc.heap := T.keep _ _ _ st0 fun b _ o e => by rw [push]; exact Heap.get?_push_of_some _ e
  have Id := block_start Ic ok hN pin1
  have pg := hg sc (upd Hb D o0) sc.heap.objs.size (cellsFrom (sc.heap.objs.size + 1) scope.names (cloFrom X.env.cells scope.names [])) fp
  have pt := ht sc (upd Hb D o0) sc.heap.objs.size (cellsFrom (sc.heap.objs.size + 1) scope.names (cloFrom X.env.cells scope.names [])) fp
  have pk := hk sc (upd Hb D o0) sc.heap.objs.size (cellsFrom (sc.heap.objs.size + 1) scope.names (cloFrom X.env.cells scope.names [])) fp
  have pv' := he sc (upd Hb D o0) sc.heap.objs.size (cellsFrom (sc.heap.objs.size + 1) scope.names (cloFrom X.env.cells scope.names [])) fp
  show codeAny _ _ (.compStart (.DictComp kx vx [⟨tg, iter, ifs, 0⟩] scope pos) 0 (.ref it) (.ref D) (compEnvC scope (cellsFrom (sc.heap.objs.size + 1) scope.names (cloFrom X.env.cells scope.names [])) sc.heap.objs.size X.env)) (compPost (model X.prog X.w) X.A X.xe none _ (.ref D) sc.heap.objs.size) { sc with heap := pushCells (sc.heap.push { cls := .type "dict", data := .dict #[] }) scope.names }
  generalize hce : compEnvC scope (cellsFrom (sc.heap.objs.size + 1) scope.names (cloFrom X.env.cells scope.names [])) sc.heap.objs.size X.env = ce at Id pg pt pk pv' ⊢
  have cL : ce.locals = sc.heap.objs.size := by subst hce; rfl
  have gone : ∀ b ∈ fp, (upd Hb D o0) b = none := fun b hb => (pin1 b hb).1.1
  generalize hHc : upd Hb D o0 = Hc at Ic Id pg pt pk pv' w0 gone pin1
  generalize hsd : ({ sc with heap := pushCells (sc.heap.push { cls := .type "dict", data := .dict #[] }) scope.names } : Shared) = sd at Id ⊢
  have st2 : tn 0 sd.heap := T.keep _ _ _ st1 fun b _ o e => by rw [← hsd]; exact pushCells_keeps _ _ _ _ (Heap.get?_push_of_some _ e)
  have stat : ∀ {σ' : L2.St} {H' : Hp} {s' : Shared}, Inv (X.blk sc Hc scope ce fp) [] σ' H' s' → (∀ b ∈ fp, H' b = none) → ∀ b ∈ fp, FpOk (X.blk sc Hc scope ce fp) [] H' b := fun {σ' H' s'} I' hn b hb =>
    ⟨hn b hb, (I'.ok.exf b hb).1, I'.ok.exfs b hb, .inl hb, fun x c e => (I'.ok.exf b hb).2 x c e, fun p hp => absurd (show p ∈ ([] : List (Addr × Obj)) ++ [] from hp) (by simp)⟩
  refine codeAny_compStart_dict ?loop (T.self X.A 0 _ _ _ st2 ?loop)
  case loop =>
  refine compLoop_anyD (fun n s' => ∃ i H', Inv (X.blk sc Hc scope ce fp) [] (wipe σ (own.map (·.2))) H' s' ∧ tn i s'.heap ∧ (∀ b ∈ fp, H' b = none) ∧ W i n H') ?_ m0 ⟨0, Hc, Id, st2, gone, w0⟩
  rintro n se ⟨i, He, Ie, ste, ne, we⟩
  rcases turn i n He we with ⟨stop, qq⟩ | ⟨go, Nx, hNx, step⟩
  · refine thnF (T.done (X.blk sc Hc scope ce fp) rfl rfl rfl hc i [] se _ He (fun _ _ => False) Ie (stat Ie ne) ste stop) fun r sf ⟨hr, If⟩ => ?_
    subst hr
    have Ig : Inv X pins σ He sf := Ic.call' (ch := fp) If.os If.base If.hok If.bare fun b hb => ⟨(pin1 b hb).1.2.2.2.1, (pin1 b hb).1.2.1, (pin1 b hb).1.2.2.2.2.1, (pin1 b hb).1.2.2.2.2.2⟩
    have nC : He sc.heap.objs.size = none := cL ▸ (show He ce.locals = none from If.free)
    obtain ⟨m, hn, _⟩ := If.loc
    have hn : sf.heap.Ns sc.heap.objs.size m := cL ▸ (show sf.heap.Ns ce.locals m from hn)
    obtain ⟨f0, f1, f2, f3, f4, f5⟩ := Ic.fpOk (Nat.le_refl _) (show Hc sc.heap.objs.size = none from Ic.hok.fresh (Nat.le_refl _))
    exact ⟨m, hn, fun h'' sb' => ⟨.ref D, He, Ig.turned (t' := sf.toks) (fun b o hb e => (sb'.2 b hb).trans e) nC f1 f3 f4 f5, rfl, qq⟩⟩
  · refine thnF (T.item (X.blk sc Hc scope ce fp) rfl rfl rfl hc i [] se _ He (fun _ _ => False) Ie (stat Ie ne) ste go) fun r sf ⟨u, hr, hf⟩ => ?_
    subst hr
    refine thnF hf fun _ sg ⟨x, Hg, Ig, rg, yg, stg, ng⟩ => ?_
    have Ig' := Ig.pinned (stat Ig ng) (T.obj _ _ stg)
    refine thnF (pg.run _ sg _ Hg x u _ Ig' rg (step x Hg yg)) fun _ sh ⟨σ8, H8, I8, hw8, q8⟩ => ?_
    refine thnF (pt.run _ sh σ8 H8 _ I8 q8) fun b s9 ⟨H9, I9, q9⟩ => ?_
    have fin : ∀ {s' : Shared} {H' : Hp}, Inv (X.blk sc Hc scope ce fp) ([] ++ pinsAt fp sg.heap) σ8 H' s' → Nx H' → ∃ m, m < n ∧ ∃ i H', Inv (X.blk sc Hc scope ce fp) [] (wipe σ (own.map (·.2))) H' s' ∧ tn i s'.heap ∧ (∀ b ∈ fp, H' b = none) ∧ W i m H' := fun {s' H'} I' nx => by
      obtain ⟨m', hm, w'⟩ := hNx H' nx
      have pin' : ∀ b ∈ fp, ∀ o, sg.heap.get? b = some o → s'.heap.get? b = some o ∧ H' b = none := fun b hb o e =>
        let z := I'.pin (b, o) (List.mem_append_right _ (List.mem_append_right _ (mem_pinsAt hb e)))
        ⟨z.1, z.2.1⟩
      refine ⟨m', hm, i + 1, H', (I'.unpinned (pins := [])).weak (by rw [← hw8, wipe_length]) (fun j v e => (wipe_some (hw8 ▸ e)).1), T.keep _ _ _ stg fun b hb o e => (pin' b hb o e).1, fun b hb => ?_, w'⟩
      obtain ⟨o, e, _⟩ := T.obj _ _ stg b hb
      exact (pin' b hb o e).2
    cases b with
    | false =>
      rw [if_neg Bool.false_ne_true] at q9
      exact fin I9 q9
    | true =>
      rw [if_pos rfl] at q9
      refine thnF (pk.run _ s9 σ8 H9 _ I9 q9) fun z s10 ⟨yk, H10, I10, r10, q10⟩ => ?_
      refine thnF (pv'.run _ s10 σ8 H10 _ I10 q10) fun z2 s11 ⟨yv, H11, I11, r11, H12, put, nx⟩ => ?_
      exact hput (X.blk sc Hc scope ce fp) _ _ _ _ _ _ _ _ _ _ _ _ rfl rfl hu I11 put r10 r11 fun s12 I12 => fin I12 nx
end
end Onp
set_option autoImplicit false
namespace Onp
open PySem PySem.Spec PyProof.Rows L2
/-- turns of a comprehension, whatever is done in one -/
theorem lcG {J : It} {n : Nat} {G : Hp → Prop} {Y : Nat → Hp → V → Hp → Prop} (w : Walk J n G Y) {Bd : (Hp → Prop) → V → Hp → Prop} {H0 : Hp} {Qd : Hp → Prop} (Pv : Nat → Hp → Prop) (h0 : Pv 0 H0) (hG : ∀ i H, i ≤ n → Pv i H → G H)
    (hs : ∀ i x H H', i < n → Pv i H → Y i H x H' → Bd (Pv (i + 1)) x H') (hd : ∀ H, Pv n H → Qd H) :
    ∃ W : Nat → Nat → Hp → Prop, (∃ m, W 0 m H0) ∧ ∀ i m H, W i m H → (J.stop i H ∧ Qd H) ∨ (J.go i H ∧ ∃ Nx : Hp → Prop, (∀ H', Nx H' → ∃ m', m' < m ∧ W (i + 1) m' H') ∧ ∀ x H', J.yld i H x H' → Bd Nx x H') := by
  refine ⟨fun i m H => m = n - i ∧ i ≤ n ∧ Pv i H, ⟨n, by simp, Nat.zero_le _, h0⟩, ?_⟩
  rintro i m H ⟨rfl, hi, p⟩
  have q := hG i H hi p
  by_cases hlt : i < n
  · exact .inr ⟨w.goes i H hlt q, Pv (i + 1), fun H' p' => ⟨n - (i + 1), by omega, rfl, hlt, p'⟩, fun x H' y => hs i x H H' hlt p (w.yields i H x H' hlt q y)⟩
  · have e : i = n := by omega
    subst e
    exact .inl ⟨w.stops H q, hd H p⟩
end Onp
set_option autoImplicit false
/-! small things that several layers want -/
namespace Onp
open PySem PySem.Spec PyProof.Rows L2
theorem yes2 {σ : L2.St} {H : Hp} {a b : Hp → Prop} (h : a H) : tYes σ H fun c H3 => if c = true then a H3 else b H3 := by
  show if true = true then a H else b H
  rw [if_pos rfl]
  exact h
theorem take_next {α : Type} {xs : List α} {i : Nat} {x : α} (h : xs[i]? = some x) : xs.take (i + 1) = xs.take i ++ [x] := by
  rw [List.take_succ, h]
  rfl
end Onp
set_option maxHeartbeats 8000000
set_option autoImplicit false
namespace Onp
open PySem PySem.Spec PyProof.Rows L2
abbrev sOnce : Stmt := topS 42
/-! ### each thing once -/
def onceS {κ : Type} [DecidableEq κ] (acc : List κ) (k : κ) : List κ := if k ∈ acc then acc else acc ++ [k]
def onceL {κ : Type} [DecidableEq κ] (ks : List κ) : List κ := ks.foldl onceS []
theorem onceL_snoc {κ : Type} [DecidableEq κ] (ks : List κ) (k : κ) : onceL (ks ++ [k]) = onceS (onceL ks) k := by
  unfold onceL
  rw [List.foldl_append]
  rfl
theorem onceS_mem {κ : Type} [DecidableEq κ] {acc : List κ} {k x : κ} : x ∈ onceS acc k ↔ x ∈ acc ∨ x = k := by
  unfold onceS
  by_cases h : k ∈ acc
  · rw [if_pos h]
    exact ⟨.inl, fun e => e.elim id fun e => e ▸ h⟩
  · rw [if_neg h, List.mem_append, List.mem_singleton]
theorem onceS_nd {κ : Type} [DecidableEq κ] {acc : List κ} {k : κ} (h : acc.Nodup) : (onceS acc k).Nodup := by
  unfold onceS
  by_cases c : k ∈ acc
  · rw [if_pos c]
    exact h
  · rw [if_neg c]
    exact List.nodup_append.mpr ⟨h, by simp, fun a ha b hb e => c (by rw [← List.mem_singleton.mp hb, ← e]; exact ha)⟩
theorem fold_once_mem {κ : Type} [DecidableEq κ] : ∀ {ks acc : List κ} {x : κ}, x ∈ ks.foldl onceS acc ↔ x ∈ acc ∨ x ∈ ks
  | [], acc, x => by simp
  | k :: ks, acc, x => by
    rw [List.foldl_cons, fold_once_mem, onceS_mem, List.mem_cons, or_assoc]
theorem fold_once_nd {κ : Type} [DecidableEq κ] : ∀ {ks acc : List κ}, acc.Nodup → (ks.foldl onceS acc).Nodup
  | [], _, h => h
  | _ :: ks, _, h => fold_once_nd (ks := ks) (onceS_nd h)
theorem onceL_mem {κ : Type} [DecidableEq κ] {ks : List κ} {x : κ} : x ∈ onceL ks ↔ x ∈ ks := by
  unfold onceL
  rw [fold_once_mem]
  simp
theorem onceL_nd {κ : Type} [DecidableEq κ] (ks : List κ) : (onceL ks).Nodup := fold_once_nd List.nodup_nil
theorem onceS_len {κ : Type} [DecidableEq κ] (acc : List κ) (k : κ) : (onceS acc k).length ≤ acc.length + 1 := by
  unfold onceS
  by_cases h : k ∈ acc
  · rw [if_pos h]
    exact Nat.le_succ _
  · rw [if_neg h, List.length_append]
    exact Nat.le_refl _
theorem fold_once_len {κ : Type} [DecidableEq κ] : ∀ (ks acc : List κ), (ks.foldl onceS acc).length ≤ acc.length + ks.length
  | [], _ => Nat.le_refl _
  | k :: ks, acc => by
    have h1 := fold_once_len ks (onceS acc k)
    have h2 := onceS_len acc k
    rw [List.foldl_cons, List.length_cons]
    omega
theorem onceL_len {κ : Type} [DecidableEq κ] (ks : List κ) : (onceL ks).length ≤ ks.length := by
  have := fold_once_len ks []
  rw [List.length_nil, Nat.zero_add] at this
  exact this
theorem onceS_map {κ ι : Type} [DecidableEq κ] [DecidableEq ι] {f : κ → ι} (hf : ∀ a b, f a = f b → a = b) (acc : List κ) (k : κ) : onceS (acc.map f) (f k) = (onceS acc k).map f := by
  unfold onceS
  have e : f k ∈ acc.map f ↔ k ∈ acc := ⟨fun h => by obtain ⟨a, ha, e⟩ := List.mem_map.mp h; rw [← hf _ _ e]; exact ha, List.mem_map_of_mem⟩
  by_cases h : k ∈ acc
  · rw [if_pos h, if_pos (e.mpr h)]
  · rw [if_neg h, if_neg (fun z => h (e.mp z)), List.map_append]
    rfl
theorem fold_once_map {κ ι : Type} [DecidableEq κ] [DecidableEq ι] {f : κ → ι} (hf : ∀ a b, f a = f b → a = b) : ∀ (ks acc : List κ), (ks.map f).foldl onceS (acc.map f) = (ks.foldl onceS acc).map f
  | [], _ => rfl
  | k :: ks, acc => by
    rw [List.map_cons, List.foldl_cons, onceS_map hf, fold_once_map hf ks, List.foldl_cons]
theorem onceL_map {κ ι : Type} [DecidableEq κ] [DecidableEq ι] {f : κ → ι} (hf : ∀ a b, f a = f b → a = b) (ks : List κ) : onceL (ks.map f) = (onceL ks).map f := fold_once_map hf ks []
theorem putK_keys {κ : Type} [DecidableEq κ] (kvs : List (κ × V)) (k : κ) (v : V) : (putK kvs k v).map (·.1) = onceS (kvs.map (·.1)) k := by
  have e : (kvs.any fun kv => decide (kv.1 = k)) = decide (k ∈ kvs.map (·.1)) := by
    rw [Bool.eq_iff_iff, List.any_eq_true, decide_eq_true_eq, List.mem_map]
    exact ⟨fun ⟨x, h1, h2⟩ => ⟨x, h1, of_decide_eq_true h2⟩, fun ⟨x, h1, h2⟩ => ⟨x, h1, decide_eq_true h2⟩⟩
  unfold putK onceS
  rw [e]
  by_cases h : k ∈ kvs.map (·.1)
  · rw [decide_eq_true h, if_pos rfl, if_pos h, List.map_map]
    refine List.map_congr_left fun x _ => ?_
    show (if x.1 = k then (x.1, v) else x).1 = x.1
    by_cases c : x.1 = k
    · rw [if_pos c]
    · rw [if_neg c]
  · rw [decide_eq_false h, if_neg Bool.false_ne_true, if_neg h, List.map_append]
    rfl
theorem isKeys_ak {H : Hp} : ∀ {kvs : List (List L2.Key × V)} {bs : List Addr}, IsKeys H kvs bs → ∃ qs : List AK, bs.map V.ref = qs.map (fun p => V.ref p.1) ∧ (∀ q ∈ qs, H q.1 = some (.tup (q.2.map kV))) ∧ qs.map (·.2) = kvs.map (·.1)
  | _, _, .nil => ⟨[], rfl, (fun _ h => nomatch h), rfl⟩
  | (k, _) :: _, b :: _, .cons h t => by
    obtain ⟨qs, h1, h2, h3⟩ := isKeys_ak t
    refine ⟨(b, k) :: qs, by rw [List.map_cons, h1, List.map_cons], fun q hq => ?_, by rw [List.map_cons, h3, List.map_cons]⟩
    rcases List.mem_cons.mp hq with rfl | hq
    · exact h
    · exact h2 q hq
section
variable {P : Program} {w : World} {K : PySem.W.Frag} {mg : Str → Option Value} {base : Heap}
def NOn : List Str := ["things", "thing"]
theorem scOnce : FnScope NOn ["things"] (defScope sOnce) := ⟨rfl, rfl, rfl, by decide +kernel, rfl, by decide +kernel, by decide +kernel⟩
def spOnceT (K : PySem.W.Frag) : Sp := fun vs H Q _ => ∃ (l : Addr) (ps : List AK), vs = [.ref l] ∧ SqL K H l (ps.map fun p => V.ref p.1) ∧ (∀ p ∈ ps, H p.1 = some (.tup (p.2.map kV))) ∧ ps.length ≤ 5000 ∧
  ∀ (r : Addr) (qs : List AK) H', Same H H' → H r = none → H' r = some (.lst (qs.map fun p => V.ref p.1)) → (∀ q ∈ qs, H' q.1 = some (.tup (q.2.map kV))) → qs.map (·.2) = onceL (ps.map (·.2)) → Q (.ref r) H'
theorem ok_onceT {f : Addr} {fd : FuncData} {k : Nat} (F : Fun K "once_each" "once_each" sOnce f fd) (ml : mg "list" = none) : FnOk P w K mg base CX0 (k + 1) f fd ["things"] (spOnceT K) := by
  refine F.ok scOnce (fun vs H Q E h => ?_) (fun cdv A outer s H vs Q E hr h => ?_)
  · obtain ⟨l, ps, rfl, _⟩ := h
    rfl
  · obtain ⟨l, ps, rfl, hl, hp, hn, q⟩ := h
    have hu : (cxOf CX0 P w K mg base NOn "once_each" (defScope sOnce) f cdv A outer s H E).nox.A.units + 64 < cLine := hr.units
    refine ⟨_, pss_one (ps_ret (pe_callTy (call_list_dT rfl) (by rfl) ml (by decide +kernel) (pa_cons (pe_dcG (own := [("thing", 1)]) (g := gName 1) (tt := tYes) (tk := tVar 1) (tv := tC (.bl true)) (newT_ok _ _) (putT_ok _ _) hu rfl scOnce.nd (pi_list (pv 0))
      (blkOk_by (own := [("thing", 1)]) (N := NOn) (sc := defScope sOnce) (by decide +kernel)) (fun _ _ _ _ _ => pg_name (i := 1) scOnce.nd rfl (.inl rfl)) (fun _ _ _ _ _ => pts_nil) (fun _ _ _ _ _ => pv 1) (fun _ _ _ _ _ => pe_bl)) pa_nil))), ?_⟩
    refine ⟨_, rfl, l, rfl, ⟨_, hl⟩, fun D nD => ?_⟩
    have hbig : 5000 < sizeLine := by decide
    refine lcG walk_list (fun i H' => Same H H' ∧ ∃ kvs : List (List L2.Key × V), H' D = some (.dT kvs) ∧ kvs.map (·.1) = onceL ((ps.map (·.2)).take i)) ⟨same_upd nD, [], upd_same, rfl⟩ (fun i H' _ ⟨sm, _⟩ => sm.seq hl) ?_ ?_
    · rintro i v H1 H2 hi ⟨sm, kvs, hD, he⟩ ⟨rfl, hv⟩
      rw [List.getElem?_map] at hv
      obtain ⟨p, hp', rfl⟩ : ∃ p, ps[i]? = some p ∧ v = .ref p.1 := by
        cases e : ps[i]? with
        | none => rw [e] at hv; cases hv
        | some p => rw [e] at hv; exact ⟨p, rfl, (Option.some.inj hv).symm⟩
      have hil := (List.getElem?_eq_some_iff.mp hp').1
      refine ⟨rfl, ?_⟩
      refine yes2 ?_
      refine ⟨_, rfl, _, ⟨kvs, p.2, p.1, hD, rfl, sm _ _ (hp p (List.mem_of_getElem? hp')), ?_, rfl⟩, fun b o e => ?_, _, upd_same, ?_⟩
      · have := congrArg List.length he
        have h2 := onceL_len ((ps.map (·.2)).take i)
        rw [List.length_map] at this
        rw [List.length_take] at h2
        omega
      · rw [upd_ne (ne_of_none e nD)]
        exact sm b o e
      · rw [putK_keys, he, take_next (xs := ps.map (·.2)) (x := p.2) (by rw [List.getElem?_map, hp']; rfl), onceL_snoc]
    · rintro H1 ⟨sm, kvs, hD, he⟩
      rw [List.length_map, show ps.length = (ps.map (·.2)).length by rw [List.length_map], List.take_length] at he
      refine ⟨D, kvs, rfl, .inl hD, fun r bs nr hk => ?_⟩
      obtain ⟨qs, e1, e2, e3⟩ := isKeys_ak hk
      have s2 := same_upd (o := .lst (bs.map V.ref)) nr
      refine q r qs _ (sm.trans s2) (sm.free nr) (by rw [upd_same, e1]) (fun x hx => s2 _ _ (e2 x hx)) (by rw [e3, he])
end
end Onp
set_option maxHeartbeats 4000000
set_option autoImplicit false
/-! d.update(e), both dicts: the keys ints and texts, or tuples of them -/
namespace Onp
open PySem PySem.Spec PyProof.Rows L2
def mergeT (kvs more : List (List L2.Key × V)) : List (List L2.Key × V) := more.foldl (fun acc kv => putK acc kv.1 kv.2) kvs
theorem mergeT_len : ∀ (more kvs : List (List L2.Key × V)), (mergeT kvs more).length ≤ kvs.length + more.length
  | [], _ => Nat.le_refl _
  | p :: r, kvs => by
    have h1 := mergeT_len r (putK kvs p.1 p.2)
    have h2 := length_putK kvs p.1 p.2
    show (mergeT (putK kvs p.1 p.2) r).length ≤ _
    rw [List.length_cons]
    omega
theorem kt_merge {H : Hp} : ∀ {more kvs : List (List L2.Key × V)} {rs xs : List (List L2.Key × Addr × Value)}, KT H more rs → KT H kvs xs → KT H (mergeT kvs more) (storedAllH xs rs) := by
  intro more kvs rs xs r
  unfold KT at r
  induction r generalizing kvs xs with
  | nil => intro q; exact q
  | @cons p q ps qs h t ih =>
    intro x
    obtain ⟨e, hb, hv⟩ := h
    have h2 := x.put p.1 (b := q.2.1) (y := p.2) (u := q.2.2) hb hv
    have h3 := ih h2
    show KT H (mergeT (putK kvs p.1 p.2) ps) (storedAllH (storedH xs q.1 q.2.1 q.2.2) qs)
    rw [← e]
    exact h3
section
variable {X : Cx} {pins : List (Addr × Obj)} {σ : L2.St} {H : Hp} {s : Shared} {a b : Addr} {A : Around} {E : Value → Shared → Prop}
theorem d_updK {kvs more : List (Key × V)} {Q : Value → Shared → Prop} (I : Inv X pins σ H s) (ea : H a = some (.dK kvs)) (eb : H b = some (.dK more)) (hne : a ≠ b) (hz : kvs.length + more.length ≤ sizeLine)
    (h : ∀ s', Inv X pins σ (upd H a (.dK (mergeK kvs more))) s' → Q .none s') : wpAny (model X.prog X.w) A (call (.builtin "dict.update") [.ref a, .ref b]) Q E s := by
  obtain ⟨z, hd, vs, rel, dd⟩ := dk_of I.hok ea
  obtain ⟨z2, hd2, ws, rel2, dd2⟩ := dk_of I.hok eb
  have l1 := rel.length
  have l2 := rel2.length
  refine call_meetsIn PySem.F.slot_dict_update dd.typeIs PySem.F.entry_dict_update (PySem.F.args_dict_update_2 _ _) (meets_dict_update (mixKind X.prog X.w) a b hne hd2) ⟨vs, ws, dd, dd2, by omega, fun h' dd' _ hs => h _ ?_⟩
  have hl : (mergeK kvs more).length ≤ sizeLine := Nat.le_trans (length_mergeK more kvs) hz
  have q : ∃ q, h'.get? a = some q := by
    obtain ⟨o, es, ep, ho, _⟩ := dd'
    exact ⟨o, ho⟩
  exact d_write I (by rw [ea]; exact True.intro) hs q (dk_new hl hd (KV.merge rel2 rel) dd')
theorem d_updT {kvs more : List (List L2.Key × V)} {Q : Value → Shared → Prop} (hu : A.units + 1 < cLine) (I : Inv X pins σ H s) (ea : H a = some (.dT kvs)) (eb : H b = some (.dT more)) (hne : a ≠ b) (h0 : kvs ≠ []) (hz : kvs.length + more.length ≤ sizeLine)
    (h : ∀ s', Inv X pins σ (upd H a (.dT (mergeT kvs more))) s' → Q .none s') : wpAny (model X.prog X.w) A (call (.builtin "dict.update") [.ref a, .ref b]) Q E s := by
  obtain ⟨z, hd, xs, rel, dd⟩ := dt_of I.hok ea
  obtain ⟨z2, hd2, ys, rel2, dd2⟩ := dt_of I.hok eb
  have l1 : kvs.length = xs.length := Paired.length rel
  have l2 : more.length = ys.length := Paired.length rel2
  refine call_update_dictH (tupleKind_room_in1 hu) hne hd2 dd dd2 (.inl fun e => h0 (List.length_eq_zero_iff.mp (by rw [l1, e]; rfl))) (by omega) fun h' dd' _ hs => h _ ?_
  have hl : (mergeT kvs more).length ≤ sizeLine := Nat.le_trans (mergeT_len more kvs) hz
  obtain ⟨q, es, ep, hq, c2, c3, c4, _, c5⟩ := dd'
  refine d_write I (by rw [ea]; exact True.intro) hs ⟨q, hq⟩ ⟨hl, hd, _, (kt_merge rel2 rel).keeps fun c zs ec => ?_, q, es, ep, hq, c2, c3, c4, c5⟩
  rw [upd_ne (ne_of ec ea (fun z => nomatch z))]
  exact ec
end
def tDUpK (td ty : TE) : TE := fun σ H Q => td σ H fun x H1 => ∃ a, x = .ref a ∧ IsD H1 a ∧ ty σ H1 fun y H2 => ∃ (b : Addr) (kvs more : List (Key × V)), y = .ref b ∧ H2 a = some (.dK kvs) ∧ H2 b = some (.dK more) ∧ a ≠ b ∧ kvs.length + more.length ≤ sizeLine ∧ Q .non (upd H2 a (.dK (mergeK kvs more)))
def tDUpT (td ty : TE) : TE := fun σ H Q => td σ H fun x H1 => ∃ a, x = .ref a ∧ IsD H1 a ∧ ty σ H1 fun y H2 => ∃ (b : Addr) (kvs more : List (List L2.Key × V)), y = .ref b ∧ H2 a = some (.dT kvs) ∧ H2 b = some (.dT more) ∧ a ≠ b ∧ kvs ≠ [] ∧ kvs.length + more.length ≤ sizeLine ∧ Q .non (upd H2 a (.dT (mergeT kvs more)))
section
variable {X : Cx} {o e : Expr} {apos cpos : Pos} {td ty : TE}
theorem pe_dupdK (hu : X.A.units + 64 < cLine) (ho : PE X o td) (he : PE X e ty) (m : M1 X o "update" apos e cpos) : PE X (.Call (.Attribute o "update" apos) [e] [] cpos) (tDUpK td ty) := by
  refine ⟨fun pins s σ H Q I h => ?_⟩
  refine wpAny_Call_method m.base m.few m.line PySem.F.plainAttrs_dict PySem.F.slot_dict_update PySem.F.type_dict_update (thn (ho.run pins s σ H _ I h) fun u s1 ⟨x, H1, I1, rx, a, ex, d, q1⟩ => ?_)
  subst ex
  obtain rfl : u = Value.ref a := rx
  obtain ⟨t1, t2, _⟩ := isD_at I1 d
  refine ⟨t1, t2, ?_⟩
  rw [m.trees]
  refine Calls.callWith_builtin rfl (Calls.evalArgs_plain (Calls.spliced_cons (thn (he.run pins s1 σ H1 _ I1 q1) fun iv s2 ⟨y, H2, I2, ry, b, kvs, more, ey, ea, eb, hne, hz, q2⟩ => Calls.spliced_nil ?_)))
  subst ey
  obtain rfl : iv = Value.ref b := ry
  exact d_updK I2 ea eb hne hz fun s3 I3 => ⟨.non, _, I3, rfl, q2⟩
theorem pe_dupdT (hu : X.A.units + 64 < cLine) (ho : PE X o td) (he : PE X e ty) (m : M1 X o "update" apos e cpos) : PE X (.Call (.Attribute o "update" apos) [e] [] cpos) (tDUpT td ty) := by
  refine ⟨fun pins s σ H Q I h => ?_⟩
  refine wpAny_Call_method m.base m.few m.line PySem.F.plainAttrs_dict PySem.F.slot_dict_update PySem.F.type_dict_update (thn (ho.run pins s σ H _ I h) fun u s1 ⟨x, H1, I1, rx, a, ex, d, q1⟩ => ?_)
  subst ex
  obtain rfl : u = Value.ref a := rx
  obtain ⟨t1, t2, _⟩ := isD_at I1 d
  refine ⟨t1, t2, ?_⟩
  rw [m.trees]
  refine Calls.callWith_builtin rfl (Calls.evalArgs_plain (Calls.spliced_cons (thn (he.run pins s1 σ H1 _ I1 q1) fun iv s2 ⟨y, H2, I2, ry, b, kvs, more, ey, ea, eb, hne, h0, hz, q2⟩ => Calls.spliced_nil ?_)))
  subst ey
  obtain rfl : iv = Value.ref b := ry
  exact d_updT (by omega) I2 ea eb hne h0 hz fun s3 I3 => ⟨.non, _, I3, rfl, q2⟩
end
/-! ### ints and texts as keys, for the same comprehension -/
def PutI : PutR := fun H D y v H' => ∃ (kvs : List (Key × V)) (k : Key), H D = some (.dK kvs) ∧ y = kV k ∧ kvs.length < sizeLine ∧ H' = upd H D (.dK (putK kvs k v))
theorem putI_ok (P : Program) (w : World) : PutOk P w PutI := by
  intro X pins σ H H' s E D y v u r Q e1 e2 hu I hp ry rv h
  obtain ⟨kvs, k, hD, rfl, hz, rfl⟩ := hp
  exact d_dictSet I hD hz ry rv h
theorem newI_ok (P : Program) (w : World) : NewOk P w (.dK []) := fun _ h hb => dk_empty h hb
/-- a dict whose keys are these ints -/
def dI (ks : List Int) : List (Key × V) := ks.map fun i => (Sum.inl i, V.bl true)
theorem dI_len (ks : List Int) : (dI ks).length = ks.length := List.length_map ..
theorem dI_val (ks : List Int) (i : Int) : (valV (dI ks) (Sum.inl i)).isSome = decide (i ∈ ks) := by
  rw [← valV_any, Bool.eq_iff_iff, List.any_eq_true, decide_eq_true_eq]
  constructor
  · rintro ⟨x, hx, e⟩
    obtain ⟨j, hj, rfl⟩ := List.mem_map.mp hx
    have := Sum.inl.inj (of_decide_eq_true e)
    exact this ▸ hj
  · exact fun h => ⟨(Sum.inl i, V.bl true), List.mem_map.mpr ⟨i, h, rfl⟩, decide_eq_true rfl⟩
theorem dI_put (ks : List Int) (i : Int) : putK (dI ks) (Sum.inl i) (.bl true) = dI (if i ∈ ks then ks else ks ++ [i]) := by
  have e : ((dI ks).any fun kv => decide (kv.1 = Sum.inl i)) = decide (i ∈ ks) := by rw [valV_any, dI_val]
  unfold putK
  rw [e]
  by_cases h : i ∈ ks
  · rw [decide_eq_true h, if_pos rfl, if_pos h]
    unfold dI
    rw [List.map_map]
    refine List.map_congr_left fun x _ => ?_
    show (if (Sum.inl x : Key) = Sum.inl i then ((Sum.inl x : Key), V.bl true) else (Sum.inl x, V.bl true)) = _
    by_cases c : (Sum.inl x : Key) = Sum.inl i
    · rw [if_pos c]
    · rw [if_neg c]
  · rw [decide_eq_false h, if_neg Bool.false_ne_true, if_neg h]
    unfold dI
    rw [List.map_append]
    rfl
theorem dI_merge (ks : List Int) : ∀ (ns : List Int), mergeK (dI ks) (dI ns) = dI (ns.foldl (fun a i => if i ∈ a then a else a ++ [i]) ks) := by
  intro ns
  induction ns generalizing ks with
  | nil => rfl
  | cons i r ih =>
    show mergeK (putK (dI ks) (Sum.inl i) (.bl true)) (dI r) = _
    rw [dI_put, ih]
    rfl
theorem dI_keys (ks : List Int) : (dI ks).map (fun kv => kV kv.1) = ks.map V.int := by
  unfold dI
  rw [List.map_map]
  rfl
end Onp
set_option maxHeartbeats 4000000
set_option autoImplicit false
/-! rows of arrows that lie in the heap -/
namespace Onp
open PySem PySem.Spec PyProof.Rows L2
def aks (xs : List AR) : List V := xs.map fun p => V.ref p.1
def AkAt (H : Hp) (xs : List AR) : Prop := ∀ p ∈ xs, H p.1 = some (.tup (aV p.2))
theorem AkAt.same {H H' : Hp} {xs : List AR} (x : AkAt H xs) (s : Same H H') : AkAt H' xs := fun p hp => s _ _ (x p hp)
theorem AkAt.row {K : PySem.W.Frag} {H : Hp} {xs : List AR} (x : AkAt H xs) : RowAt K H xs := fun p hp => SqT.of (x p hp)
theorem AkAt.put {H : Hp} {xs : List AR} {D : Addr} {ys zs : List V} (x : AkAt H xs) (h : H D = some (.lst ys)) : AkAt (upd H D (.lst zs)) xs := fun p hp => by
  rw [upd_ne (ne_of (x p hp) h (fun z => nomatch z))]
  exact x p hp
theorem aks_len (xs : List AR) : (aks xs).length = xs.length := by unfold aks; rw [List.length_map]
theorem aks_app (a b : List AR) : aks (a ++ b) = aks a ++ aks b := by unfold aks; rw [List.map_append]
theorem aks_ref {xs : List AR} : ∀ x ∈ aks xs, ∃ p, x = .ref p := fun x hx => by
  obtain ⟨b, _, rfl⟩ := List.mem_map.mp hx
  exact ⟨_, rfl⟩
theorem aks_at {xs : List AR} {i : Nat} {v : V} (h : (aks xs)[i]? = some v) : ∃ p : AR, xs[i]? = some p ∧ v = .ref p.1 := by
  unfold aks at h
  rw [List.getElem?_map] at h
  cases e : xs[i]? with
  | none => rw [e] at h; cases h
  | some p => rw [e] at h; exact ⟨p, rfl, (Option.some.inj h).symm⟩
/-- one more of them -/
theorem grow_ak {H2 H' : Hp} {D t : Addr} {ps : List AR} {x : Arw} (nD : H2 D = none) (sm : Same H2 H') (hD : H' D = some (.lst (aks ps))) (hR : AkAt H' ps) (hl : ps.length ≤ 5000) (nt : H' t = none) :
    ∃ acc, (upd H' t (.tup (aV x))) D = some (.lst acc) ∧ acc.length < sizeLine ∧ Same H2 (upd (upd H' t (.tup (aV x))) D (.lst (acc ++ [.ref t]))) ∧ (upd (upd H' t (.tup (aV x))) D (.lst (acc ++ [.ref t]))) D = some (.lst (aks (ps ++ [(t, x)]))) ∧ AkAt (upd (upd H' t (.tup (aV x))) D (.lst (acc ++ [.ref t]))) (ps ++ [(t, x)]) := by
  have st : Same H' (upd H' t (.tup (aV x))) := fun b o e => by rw [upd_ne (ne_of_none e nt)]; exact e
  have hD' := st _ _ hD
  refine ⟨_, hD', by rw [aks_len]; exact Nat.lt_of_le_of_lt hl (by decide), fun b o e => ?_, by rw [upd_same, aks_app]; rfl, fun p hp => ?_⟩
  · rw [upd_ne (ne_of_none e nD)]
    exact st _ _ (sm b o e)
  · have ht : (upd H' t (.tup (aV x))) p.1 = some (.tup (aV p.2)) := by
      rcases List.mem_append.mp hp with h | h
      · exact st _ _ (hR p h)
      · rw [List.mem_singleton.mp h]
        exact upd_same
    rw [upd_ne (ne_of ht hD' (fun z => nomatch z))]
    exact ht
/-- as keys -/
def akK (ps : List AR) : List AK := ps.map fun p => (p.1, akey p.2)
theorem akK_ref (ps : List AR) : (akK ps).map (fun p => V.ref p.1) = aks ps := by
  unfold akK aks
  rw [List.map_map]
  rfl
theorem akK_at {H : Hp} {ps : List AR} (x : AkAt H ps) : ∀ p ∈ akK ps, H p.1 = some (.tup (p.2.map kV)) := fun p hp => by
  obtain ⟨q, hq, rfl⟩ := List.mem_map.mp hp
  exact x q hq
theorem akK_keys (ps : List AR) : (akK ps).map (·.2) = (ps.map (·.2)).map akey := by
  unfold akK
  rw [List.map_map, List.map_map]
  rfl
/-- and back: keys that are arrows' -/
theorem ak_back {H : Hp} : ∀ {qs : List AK} {as : List Arw}, (∀ q ∈ qs, H q.1 = some (.tup (q.2.map kV))) → qs.map (·.2) = as.map akey → ∃ ps : List AR, qs.map (fun p => V.ref p.1) = aks ps ∧ AkAt H ps ∧ ps.map (·.2) = as
  | [], [], _, _ => ⟨[], rfl, (fun _ h => nomatch h), rfl⟩
  | [], _ :: _, _, h => nomatch h
  | _ :: _, [], _, h => nomatch h
  | q :: qs, a :: as, hq, h => by
    obtain ⟨h1, h2⟩ := List.cons.inj h
    obtain ⟨ps, e1, e2, e3⟩ := ak_back (fun x hx => hq x (List.mem_cons_of_mem _ hx)) h2
    refine ⟨(q.1, a) :: ps, by rw [List.map_cons, e1]; rfl, fun p hp => ?_, by rw [List.map_cons, e3]⟩
    rcases List.mem_cons.mp hp with rfl | hp
    · have := hq q List.mem_cons_self
      rw [show q.2 = akey a from h1] at this
      exact this
    · exact e2 p hp
end Onp
set_option autoImplicit false
/-! what steps lead to -/
namespace Onp
inductive Rch {κ : Type} (S : List κ) (E : List (κ × κ)) : κ → Prop where
  | start {x : κ} : x ∈ S → Rch S E x
  | step {x y : κ} : Rch S E x → (x, y) ∈ E → Rch S E y
theorem Rch.into {κ : Type} {S : List κ} {E : List (κ × κ)} {F : List κ} (h0 : ∀ x ∈ S, x ∈ F) (h1 : ∀ x y, (x, y) ∈ E → x ∈ F → y ∈ F) : ∀ {x}, Rch S E x → x ∈ F := by
  intro x h
  induction h with
  | start h => exact h0 _ h
  | step _ e ih => exact h1 _ _ e ih
theorem Rch.all {κ : Type} {S : List κ} {E : List (κ × κ)} {x : κ} (h : Rch S E x) : x ∈ S ++ E.map (·.2) := by
  cases h with
  | start h => exact List.mem_append_left _ h
  | step _ e => exact List.mem_append_right _ (List.mem_map.mpr ⟨_, e, rfl⟩)
theorem Rch.mono {κ : Type} {S S' : List κ} {E E' : List (κ × κ)} (h0 : ∀ x ∈ S, x ∈ S') (h1 : ∀ e ∈ E, e ∈ E') : ∀ {x}, Rch S E x → Rch S' E' x := by
  intro x h
  induction h with
  | start h => exact .start (h0 _ h)
  | step _ e ih => exact .step ih (h1 _ e)
theorem Rch.congr {κ : Type} {S S' : List κ} {E E' : List (κ × κ)} (h0 : ∀ x, x ∈ S ↔ x ∈ S') (h1 : ∀ e, e ∈ E ↔ e ∈ E') (x : κ) : Rch S E x ↔ Rch S' E' x :=
  ⟨Rch.mono (fun x h => (h0 x).mp h) (fun e h => (h1 e).mp h), Rch.mono (fun x h => (h0 x).mpr h) (fun e h => (h1 e).mpr h)⟩
theorem filt_snocG {κ ι : Type} {c : κ → Bool} {f : κ → ι} {xs : List κ} {i : Nat} {x : κ} (h : xs[i]? = some x) : ((xs.take (i + 1)).filter c).map f = ((xs.take i).filter c).map f ++ (if c x = true then [f x] else []) := by
  have e : xs.take (i + 1) = xs.take i ++ [x] := by rw [List.take_add_one, h]; rfl
  rw [e, List.filter_append, List.map_append]
  congr 1
  by_cases e : c x = true
  · rw [if_pos e, List.filter_cons_of_pos e]
    rfl
  · rw [if_neg e, List.filter_cons_of_neg e]
    rfl
theorem hu1 {n c : Nat} (h : n + 64 < c) : n + 1 < c := by omega
end Onp
set_option autoImplicit false
namespace Onp
open PySem PySem.Spec PyProof.Rows L2
theorem inV_ints (z : Int) : ∀ ns : List Int, inV (.int z) (ns.map V.int) = decide (z ∈ ns)
  | [] => by rfl
  | y :: r => by
    have ih := inV_ints z r
    unfold inV at ih ⊢
    rw [List.map_cons, List.any_cons, ih]
    have e1 : eqV (.int y) (.int z) = decide (y = z) := by
      show (y == z) = _
      rw [Bool.eq_iff_iff, beq_iff_eq, decide_eq_true_eq]
    first
      | rw [e1]
      | skip
    by_cases e : y = z
    · subst e
      rw [decide_eq_true rfl, decide_eq_true List.mem_cons_self]
      rfl
    · rw [decide_eq_false e]
      by_cases h : z ∈ r
      · rw [decide_eq_true h, decide_eq_true (List.mem_cons_of_mem _ h)]
        rfl
      · rw [decide_eq_false h, decide_eq_false (fun q => (List.mem_cons.mp q).elim (fun z => e z.symm) h)]
        rfl
theorem flatInts (ns : List Int) : (ns.map V.int).all flatV = true := by
  rw [List.all_map]
  exact List.all_eq_true.mpr fun _ _ => rfl
end Onp
set_option maxHeartbeats 4000000
set_option autoImplicit false
/-! rooms that are tuples of ints, and dicts whose keys they are -/
namespace Onp
open PySem PySem.Spec PyProof.Rows L2
abbrev Rm := List Int
abbrev RmA := Addr × Rm
def rmk (r : Rm) : List L2.Key := r.map Sum.inl
def rmV (r : Rm) : List V := r.map V.int
theorem rmk_V (r : Rm) : (rmk r).map kV = rmV r := by
  unfold rmk rmV
  rw [List.map_map]
  rfl
theorem rmk_inj {a b : Rm} (h : rmk a = rmk b) : a = b := by
  induction a generalizing b with
  | nil =>
    cases b with
    | nil => rfl
    | cons y b => cases h
  | cons x a ih =>
    cases b with
    | nil => cases h
    | cons y b =>
      obtain ⟨h1, h2⟩ := List.cons.inj h
      rw [Sum.inl.inj h1, ih h2]
def rms (xs : List RmA) : List V := xs.map fun p => V.ref p.1
def RmAt (H : Hp) (xs : List RmA) : Prop := ∀ p ∈ xs, H p.1 = some (.tup (rmV p.2))
theorem RmAt.same {H H' : Hp} {xs : List RmA} (x : RmAt H xs) (s : Same H H') : RmAt H' xs := fun p hp => s _ _ (x p hp)
theorem RmAt.put {H : Hp} {xs : List RmA} {D : Addr} {ys zs : List V} (x : RmAt H xs) (h : H D = some (.lst ys)) : RmAt (upd H D (.lst zs)) xs := fun p hp => by
  rw [upd_ne (ne_of (x p hp) h (fun z => nomatch z))]
  exact x p hp
theorem rms_at {xs : List RmA} {i : Nat} {v : V} (h : (rms xs)[i]? = some v) : ∃ p : RmA, xs[i]? = some p ∧ v = .ref p.1 := by
  unfold rms at h
  rw [List.getElem?_map] at h
  cases e : xs[i]? with
  | none => rw [e] at h; cases h
  | some p => rw [e] at h; exact ⟨p, rfl, (Option.some.inj h).symm⟩
theorem rms_len (xs : List RmA) : (rms xs).length = xs.length := List.length_map ..
theorem rms_app (a b : List RmA) : rms (a ++ b) = rms a ++ rms b := by unfold rms; rw [List.map_append]
/-- read as rows of keys -/
def rma (p : RmA) : AK := (p.1, rmk p.2)
theorem rms_ak (xs : List RmA) : rms xs = (xs.map rma).map fun p => V.ref p.1 := by
  unfold rms
  rw [List.map_map]
  rfl
theorem rmAt_ak {H : Hp} {xs : List RmA} (x : RmAt H xs) : ∀ q ∈ xs.map rma, H q.1 = some (.tup (q.2.map kV)) := fun q hq => by
  obtain ⟨p, hp, rfl⟩ := List.mem_map.mp hq
  rw [show (rma p).2 = rmk p.2 from rfl, rmk_V]
  exact x p hp
theorem ak_rm : ∀ {qs : List AK} {rs : List Rm}, qs.map (·.2) = rs.map rmk → ∃ xs : List RmA, qs = xs.map rma ∧ xs.map (·.2) = rs
  | [], [], _ => ⟨[], rfl, rfl⟩
  | [], _ :: _, h => nomatch h
  | _ :: _, [], h => nomatch h
  | q :: qs, r :: rs, h => by
    obtain ⟨h1, h2⟩ := List.cons.inj h
    obtain ⟨xs, e1, e2⟩ := ak_rm h2
    refine ⟨(q.1, r) :: xs, ?_, by rw [List.map_cons, e2]⟩
    rw [List.map_cons, ← e1]
    congr 1
    show q = (q.1, rmk r)
    rw [← h1]
theorem ak_at {H : Hp} {xs : List RmA} (h : ∀ q ∈ xs.map rma, H q.1 = some (.tup (q.2.map kV))) : RmAt H xs := fun p hp => by
  have := h (rma p) (List.mem_map_of_mem hp)
  rw [show (rma p).2 = rmk p.2 from rfl, rmk_V] at this
  exact this
/-! ### as data -/
def rdat (r : Rm) : PyData := .tuple (r.map .int)
theorem eqvAll_ints : ∀ a b : Rm, PyData.eqvAll (a.map PyData.int) (b.map PyData.int) = decide (a = b)
  | [], [] => rfl
  | [], _ :: _ => rfl
  | _ :: _, [] => rfl
  | x :: a, y :: b => by
    simp only [List.map_cons, PyData.eqvAll, PyData.eqv, eqvAll_ints a b, List.cons.injEq]
    rw [Bool.eq_iff_iff, Bool.and_eq_true, decide_eq_true_eq, decide_eq_true_eq]
    simp
theorem eqv_rdat (a b : Rm) : PyData.eqv (rdat a) (rdat b) = decide (a = b) := by
  unfold rdat
  simp only [PyData.eqv]
  exact eqvAll_ints a b
theorem any_rdat (rs : List Rm) (r : Rm) : ((rs.map rdat).any fun z => PyData.eqv z (rdat r)) = decide (r ∈ rs) := by
  rw [Bool.eq_iff_iff, List.any_eq_true, decide_eq_true_eq]
  constructor
  · rintro ⟨d, hd, e⟩
    obtain ⟨b, hb, rfl⟩ := List.mem_map.mp hd
    rw [eqv_rdat, decide_eq_true_eq] at e
    rw [← e]
    exact hb
  · intro h
    exact ⟨rdat r, List.mem_map_of_mem h, by rw [eqv_rdat]; exact decide_eq_true rfl⟩
theorem dp_rints {K : PySem.W.Frag} {H : Hp} : ∀ r : Rm, DpAll K H (rmV r) (r.map .int)
  | [] => .nil
  | _ :: r => .cons (.int _) (dp_rints r)
theorem dp_rm {K : PySem.W.Frag} {H : Hp} {a : Addr} {r : Rm} (h : H a = some (.tup (rmV r))) : Dp K H (.ref a) (rdat r) := .tup (SqT.of h) (dp_rints r)
theorem dp_rms {K : PySem.W.Frag} {H : Hp} : ∀ {xs : List RmA}, RmAt H xs → DpAll K H (rms xs) ((xs.map (·.2)).map rdat)
  | [], _ => .nil
  | p :: r, h => .cons (dp_rm (h p List.mem_cons_self)) (dp_rms fun q hq => h q (List.mem_cons_of_mem _ hq))
theorem lay_rints : ∀ r : Rm, PyData.canLayAll0 (r.map .int) = true
  | [] => rfl
  | _ :: r => by simp only [List.map_cons, PyData.canLayAll0, PyData.canLay0, lay_rints r, Bool.and_self]
theorem dep_rints : ∀ r : Rm, PyData.depthAll (r.map .int) = 0
  | [] => rfl
  | _ :: r => by simp only [List.map_cons, PyData.depthAll, PyData.depth, dep_rints r, Nat.max_self]
theorem dep_rdat (r : Rm) : (rdat r).depth = 1 := by
  unfold rdat
  simp only [PyData.depth, dep_rints]
theorem lay_rdat (r : Rm) : (rdat r).canLay0 = true := by
  unfold rdat
  simp only [PyData.canLay0, lay_rints]
theorem lay_rdats : ∀ rs : List Rm, PyData.canLayAll0 (rs.map rdat) = true
  | [] => rfl
  | r :: rs => by simp only [List.map_cons, PyData.canLayAll0, lay_rdat, lay_rdats rs, Bool.and_self]
theorem dep_rdats : ∀ rs : List Rm, PyData.depthAll (rs.map rdat) ≤ 1
  | [] => Nat.zero_le _
  | r :: rs => by
    have := dep_rdats rs
    simp only [List.map_cons, PyData.depthAll, dep_rdat]
    omega
theorem sh_rdat (r : Rm) : SeqAt.shaped (rdat r) = true := by
  unfold SeqAt.shaped
  rw [lay_rdat, dep_rdat]
  rfl
theorem sh_rdats (rs : List Rm) : SeqAt.shaped (.list (rs.map rdat)) = true := by
  have h1 : (PyData.list (rs.map rdat)).canLay0 = true := by
    simp only [PyData.canLay0, lay_rdats]
  have h2 : (PyData.list (rs.map rdat)).depth ≤ 64 := by
    simp only [PyData.depth]
    have := dep_rdats rs
    omega
  unfold SeqAt.shaped
  rw [h1, decide_eq_true h2]
  rfl
/-! ### dicts -/
def dR (ks : List Rm) : List (List L2.Key × V) := ks.map fun r => (rmk r, V.bl true)
theorem dR_len (ks : List Rm) : (dR ks).length = ks.length := List.length_map ..
theorem dR_val (ks : List Rm) (r : Rm) : (valV (dR ks) (rmk r)).isSome = decide (r ∈ ks) := by
  rw [← valV_any, Bool.eq_iff_iff, List.any_eq_true, decide_eq_true_eq]
  constructor
  · rintro ⟨x, hx, e⟩
    obtain ⟨j, hj, rfl⟩ := List.mem_map.mp hx
    have := rmk_inj (of_decide_eq_true e)
    exact this ▸ hj
  · exact fun h => ⟨(rmk r, V.bl true), List.mem_map.mpr ⟨r, h, rfl⟩, decide_eq_true rfl⟩
theorem dR_put (ks : List Rm) (r : Rm) : putK (dR ks) (rmk r) (.bl true) = dR (if r ∈ ks then ks else ks ++ [r]) := by
  have e : ((dR ks).any fun kv => decide (kv.1 = rmk r)) = decide (r ∈ ks) := by rw [valV_any, dR_val]
  unfold putK
  rw [e]
  by_cases h : r ∈ ks
  · rw [decide_eq_true h, if_pos rfl, if_pos h]
    unfold dR
    rw [List.map_map]
    refine List.map_congr_left fun x _ => ?_
    show (if rmk x = rmk r then (rmk x, V.bl true) else (rmk x, V.bl true)) = _
    by_cases c : rmk x = rmk r
    · rw [if_pos c]
    · rw [if_neg c]
  · rw [decide_eq_false h, if_neg Bool.false_ne_true, if_neg h]
    unfold dR
    rw [List.map_append]
    rfl
theorem dR_merge (ks : List Rm) : ∀ (ns : List Rm), mergeT (dR ks) (dR ns) = dR (ns.foldl (fun a i => if i ∈ a then a else a ++ [i]) ks) := by
  intro ns
  induction ns generalizing ks with
  | nil => rfl
  | cons i r ih =>
    show mergeT (putK (dR ks) (rmk i) (.bl true)) (dR r) = _
    rw [dR_put, ih]
    rfl
theorem dR_keys (ks : List Rm) : (dR ks).map (·.1) = ks.map rmk := by
  unfold dR
  rw [List.map_map]
  rfl
/-! ### arrows between such rooms -/
abbrev WA := Rm × Str × Str × Rm
structure WR where
  p : Addr
  a : Addr
  b : Addr
  v : WA
def wrs (xs : List WR) : List V := xs.map fun w => V.ref w.p
def wrV (w : WR) : List V := [.ref w.a, .str w.v.2.1, .str w.v.2.2.1, .ref w.b]
def WrAt (H : Hp) (xs : List WR) : Prop := ∀ w ∈ xs, H w.p = some (.tup (wrV w)) ∧ H w.a = some (.tup (rmV w.v.1)) ∧ H w.b = some (.tup (rmV w.v.2.2.2))
theorem WrAt.same {H H' : Hp} {xs : List WR} (x : WrAt H xs) (s : Same H H') : WrAt H' xs := fun w hw => ⟨s _ _ (x w hw).1, s _ _ (x w hw).2.1, s _ _ (x w hw).2.2⟩
theorem wrs_at {xs : List WR} {i : Nat} {v : V} (h : (wrs xs)[i]? = some v) : ∃ w : WR, xs[i]? = some w ∧ v = .ref w.p := by
  unfold wrs at h
  rw [List.getElem?_map] at h
  cases e : xs[i]? with
  | none => rw [e] at h; cases h
  | some p => rw [e] at h; exact ⟨p, rfl, (Option.some.inj h).symm⟩
theorem wrs_len (xs : List WR) : (wrs xs).length = xs.length := List.length_map ..
theorem wrs_app (a b : List WR) : wrs (a ++ b) = wrs a ++ wrs b := by unfold wrs; rw [List.map_append]
def edW (as : List WA) : List (Rm × Rm) := as.map fun a => (a.1, a.2.2.2)
end Onp
set_option autoImplicit false
namespace L2
open PySem PySem.Spec PyProof.Rows
section
variable {X : Cx}
/-- a statement, then the rest, with a word between them -/
def tCutM (t u : TS) : TS := fun D σ H => ∃ Mid : L2.St → Hp → Prop, t { D with nx := Mid } σ H ∧ ∀ σ' H', Mid σ' H' → u D σ' H'
theorem pss_cutM {st : Stmt} {rest : List Stmt} {t u : TS} (h1 : PS X st t) (h2 : PSs X rest u) : PSs X (st :: rest) (tCutM t u) := by
  refine ⟨fun pins s σ H D I h => ?_⟩
  obtain ⟨Mid, hm, hu⟩ := h
  refine wpAny_execs_cons (thn (h1.run pins s σ H { D with nx := Mid } I hm) fun f s1 q => ?_)
  cases f with
  | next =>
    obtain ⟨σ', H', I', q⟩ := q
    exact h2.run pins s1 σ' H' D I' (hu σ' H' q)
  | ret v => exact q
  | brk => exact q
  | cont => exact q
end
end L2
set_option maxHeartbeats 8000000
set_option autoImplicit false
namespace Onp
open PySem PySem.Spec PyProof.Rows L2
abbrev sCome : Stmt := topS 45
section
variable {P : Program} {w : World} {K : PySem.W.Frag} {mg : Str → Option Value} {base : Heap}
/-! ### come_to, the rooms tuples of ints -/
theorem fold_once_app {κ : Type} [DecidableEq κ] : ∀ (fr fk : List κ), fr.Nodup → (∀ x ∈ fr, x ∉ fk) → fr.foldl onceS fk = fk ++ fr
  | [], fk, _, _ => by rw [List.append_nil]; rfl
  | x :: r, fk, hn, hd => by
    obtain ⟨h1, h2⟩ := List.nodup_cons.mp hn
    have e : onceS fk x = fk ++ [x] := by unfold onceS; rw [if_neg (hd x List.mem_cons_self)]
    rw [List.foldl_cons, e, fold_once_app r (fk ++ [x]) h2 fun y hy hm => ?_, List.append_assoc]
    · rfl
    · rcases List.mem_append.mp hm with h | h
      · exact hd y (List.mem_cons_of_mem _ hy) h
      · exact h1 (List.mem_singleton.mp h ▸ hy)
def NCo : List Str := ["starts", "arrows", "found", "newest", "fresh", "room", "arrow"]
theorem scCome : FnScope NCo ["starts", "arrows"] (defScope sCome) := ⟨rfl, rfl, rfl, by decide +kernel, rfl, by decide +kernel, by decide +kernel⟩
def spComeT (K : PySem.W.Frag) : Sp := fun vs H Q _ => ∃ (ls la : Addr) (S : List RmA) (ws : List WR), vs = [.ref ls, .ref la] ∧ SqL K H ls (rms S) ∧ RmAt H S ∧ SqL K H la (wrs ws) ∧ WrAt H ws ∧ S.length ≤ 1000 ∧ ws.length ≤ 3000 ∧
  ∀ (r : Addr) (fk : List RmA) H', Same H H' → H r = none → H' r = some (.lst (rms fk)) → RmAt H' fk → (fk.map (·.2)).Nodup → (∀ x, x ∈ fk.map (·.2) ↔ Rch (S.map (·.2)) (edW (ws.map (·.v))) x) → Q (.ref r) H'
theorem onceS_eq : (fun (a : List Rm) (i : Rm) => if i ∈ a then a else a ++ [i]) = onceS := by
  funext a i
  unfold onceS
  by_cases h : i ∈ a
  · rw [if_pos h, if_pos h]
  · rw [if_neg h, if_neg h]
theorem dR_once (ks : List Rm) (r : Rm) : putK (dR ks) (rmk r) (.bl true) = dR (onceS ks r) := by
  rw [dR_put]
  exact congrArg dR (congrFun (congrFun onceS_eq ks) r)
theorem dR_more (ks ns : List Rm) : mergeT (dR ks) (dR ns) = dR (ns.foldl onceS ks) := by
  rw [dR_merge, onceS_eq]
theorem list_keys {H : Hp} {fk : List Rm} {bs : List Addr} (h : IsKeys H (dR fk) bs) : ∃ xs : List RmA, bs.map V.ref = rms xs ∧ RmAt H xs ∧ xs.map (·.2) = fk := by
  obtain ⟨qs, e1, e2, e3⟩ := isKeys_ak h
  rw [dR_keys] at e3
  obtain ⟨xs, rfl, hx⟩ := ak_rm e3
  exact ⟨xs, by rw [e1, rms_ak], ak_at e2, hx⟩
theorem once_rms {rs : List RmA} {qs : List AK} (h : qs.map (·.2) = onceL ((rs.map rma).map (·.2))) : ∃ xs : List RmA, qs = xs.map rma ∧ xs.map (·.2) = onceL (rs.map (·.2)) := by
  have e : (rs.map rma).map (·.2) = (rs.map (·.2)).map rmk := by rw [List.map_map, List.map_map]; rfl
  rw [e, onceL_map (fun a b h => rmk_inj h)] at h
  exact ak_rm h
theorem ok_comeT {f fOn : Addr} {fd fdOn : FuncData} {k : Nat} (F : Fun K "come_to" "come_to" sCome f fd) (On : FnM K mg fOn fdOn "once_each" sOnce ["things"]) (ml : mg "list" = none) : FnOk P w K mg base CX0 (k + 2) f fd ["starts", "arrows"] (spComeT K) := by
  have GO : FnOk P w K mg base CX0 (k + 1) fOn fdOn ["things"] (spOnceT K) := ok_onceT On.F ml
  refine F.ok scCome (fun vs H Q E h => ?_) (fun cdv A outer s H vs Q E hr h => ?_)
  · obtain ⟨ls, la, S, ws, rfl, _⟩ := h
    rfl
  · obtain ⟨ls, la, S, ws, rfl, hls, hS, hla, hW, hSl, hWl, q⟩ := h
    have hu : (cxOf CX0 P w K mg base NCo "come_to" (defScope sCome) f cdv A outer s H E).nox.A.units + 64 < cLine := hr.units
    refine ⟨_, (pss_cutM (ps_set (i := 2) scCome.nd rfl (.inr rfl) (pe_dcG (own := [("room", 5)]) (g := (gName 5)) (tt := tYes) (tk := (tVar 5)) (tv := (tC (.bl true))) (newT_ok _ _) (putT_ok _ _) hu rfl scCome.nd
          (pi_list (pv 0)) (blkOk_by (own := [("room", 5)]) (N := NCo) (sc := defScope sCome) (by decide +kernel)) (fun _ _ _ _ _ => (pg_name (i := 5) scCome.nd rfl (.inl rfl)))
          (fun _ _ _ _ _ => pts_nil) (fun _ _ _ _ _ => (pv 5)) (fun _ _ _ _ _ => pe_bl)))
      (pss_cutM (ps_set (i := 3) scCome.nd rfl (.inr rfl) (pe_callTy (call_list_dT rfl) (by rfl) ml (by decide +kernel) (pa_cons (pv 2) pa_nil)))
      (pss_cons (ps_while PassesOwn.never (pt_truth (pv 3) (fun _ => rfl)) (pss_cutM (ps_set (i := 4) scCome.nd rfl (.inl rfl) (pe_call GO hr (by rfl) On.g On.F.kp On.b .nil pass0 (pa_cons (pe_lc (own := [("arrow", 6)]) (g := (gName 6)) (tt := (tAnd (tTest (tOp (rInD K) (tOp (rIxT K) (tVar 6) (tC (.int 0))) (tVar 3))) (tB (tDNotIn (tOp (rIxT K) (tVar 6) (tC (.int 3))) (tVar 2))))) (te := (tOp (rIxT K) (tVar 6) (tC (.int 3)))) rfl scCome.nd
          (pi_list (pv 1)) (blkOk_by (own := [("arrow", 6)]) (N := NCo) (sc := defScope sCome) (by decide +kernel)) (fun _ _ _ _ _ => (pg_name (i := 6) scCome.nd rfl (.inl rfl)))
          (fun _ _ _ _ _ => (pts_one (PW.pt (pw_and (pt_cmpR (op_inD (room65 hr)) (pe_ix ix_tup (pv 6) pe_int (fun _ _ => rfl)) (pv 3) (by rfl)) (pw_and1 (pt_cmp (pc_dnotin (hu1 hu) (pe_ix ix_tup (pv 6) pe_int (fun _ _ => rfl)) (pv 2)))))))) (fun _ _ _ _ _ => (pe_ix ix_tup (pv 6) pe_int (fun _ _ => rfl)))) pa_nil)))
      (pss_cutM (ps_expr (pe_dupdT hu (pv 2) (pe_dcG (own := [("room", 5)]) (g := (gName 5)) (tt := tYes) (tk := (tVar 5)) (tv := (tC (.bl true))) (newT_ok _ _) (putT_ok _ _) hu rfl scCome.nd
          (pi_list (pv 4)) (blkOk_by (own := [("room", 5)]) (N := NCo) (sc := defScope sCome) (by decide +kernel)) (fun _ _ _ _ _ => (pg_name (i := 5) scCome.nd rfl (.inl rfl)))
          (fun _ _ _ _ _ => pts_nil) (fun _ _ _ _ _ => (pv 5)) (fun _ _ _ _ _ => pe_bl)) ⟨rfl, rfl, rfl, rfl⟩))
      (pss_one (ps_set (i := 3) scCome.nd rfl (.inr rfl) (pv 4))))))
      (pss_one (ps_ret (pe_callTy (call_list_dT rfl) (by rfl) ml (by decide +kernel) (pa_cons (pv 2) pa_nil))))))), ?_⟩
    have hbig : 10000 < sizeLine := by decide
    -- found
    refine ⟨fun σ' H' => ∃ D : Addr, σ' = [some (.ref ls), some (.ref la), some (.ref D), none, none, none, none] ∧ Same H H' ∧ H D = none ∧ H' D = some (.dT (dR (onceL (S.map (·.2))))), ?_, ?_⟩
    · refine ⟨_, rfl, ls, rfl, ⟨_, hls⟩, fun D nD => ?_⟩
      refine lcG walk_list (fun i H' => Same H H' ∧ H' D = some (.dT (dR (onceL ((S.map (·.2)).take i))))) ⟨same_upd nD, upd_same⟩ (fun i H' _ ⟨sm, _⟩ => sm.seq hls) ?_ ?_
      · rintro i v H1 H2 hi ⟨sm, hD⟩ ⟨rfl, hv⟩
        obtain ⟨p, hp', rfl⟩ := rms_at hv
        have hil := (List.getElem?_eq_some_iff.mp hp').1
        refine ⟨rfl, ?_⟩
        refine yes2 ?_
        refine ⟨_, rfl, _, ⟨_, rmk p.2, p.1, hD, rfl, by rw [rmk_V]; exact sm _ _ (hS p (List.mem_of_getElem? hp')), ?_, rfl⟩, fun b o e => ?_, ?_⟩
        · have h2 := onceL_len ((S.map (·.2)).take i)
          rw [dR_len]
          rw [List.length_take] at h2
          omega
        · rw [upd_ne (ne_of_none e nD)]
          exact sm b o e
        · rw [upd_same, dR_once, take_next (xs := S.map (·.2)) (x := p.2) (by rw [List.getElem?_map, hp']; rfl), onceL_snoc]
      · rintro H1 ⟨sm, hD⟩
        rw [rms_len, show S.length = (S.map (·.2)).length by rw [List.length_map], List.take_length] at hD
        exact ⟨D, rfl, sm, nD, hD⟩
    rintro σ H1 ⟨D, rfl, s1, nD, hD⟩
    -- the newest ones
    refine ⟨fun σ' H' => ∃ (N : Addr) (nx : List RmA), σ' = [some (.ref ls), some (.ref la), some (.ref D), some (.ref N), none, none, none] ∧ Same H1 H' ∧ H' N = some (.lst (rms nx)) ∧ RmAt H' nx ∧ nx.map (·.2) = onceL (S.map (·.2)), ?_, ?_⟩
    · refine ⟨_, rfl, D, _, rfl, .inl hD, fun N bs nN hk => ?_⟩
      obtain ⟨xs, e1, e2, e3⟩ := list_keys hk
      exact ⟨N, xs, rfl, same_upd nN, by rw [upd_same, e1], e2.same (same_upd nN), e3⟩
    rintro σ H2 ⟨N, nx, rfl, s2, hN, hNx, hNe⟩
    have hle : ∀ fk : List Rm, fk.Nodup → (∀ x ∈ fk, Rch (S.map (·.2)) (edW (ws.map (·.v))) x) → fk.length ≤ 4000 := fun fk h1 h2 => by
      have h3 := nd_le fk _ h1 fun x hx => (h2 x hx).all
      have h4 : (edW (ws.map (·.v))).length = ws.length := by unfold edW; rw [List.length_map, List.length_map]
      rw [List.length_append, List.length_map, List.length_map, h4] at h3
      omega
    refine ⟨fun m σ' H' => ∃ (N : Addr) (fk : List Rm) (nx : List RmA) (y4 : Option V), σ' = [some (.ref ls), some (.ref la), some (.ref D), some (.ref N), y4, none, none] ∧ Same H H' ∧ H' D = some (.dT (dR fk)) ∧ H' N = some (.lst (rms nx)) ∧ RmAt H' nx ∧ fk.Nodup ∧ (∀ x ∈ S.map (·.2), x ∈ fk) ∧ (∀ x ∈ fk, Rch (S.map (·.2)) (edW (ws.map (·.v))) x) ∧
        (∀ x ∈ nx.map (·.2), x ∈ fk) ∧ (∀ x y, (x, y) ∈ edW (ws.map (·.v)) → x ∈ fk → x ∉ nx.map (·.2) → y ∈ fk) ∧ m = 2 * (4000 - fk.length) + (if nx = [] then 0 else 1),
      ⟨_, N, onceL (S.map (·.2)), nx, none, rfl, s1.trans s2, s2 _ _ hD, hN, hNx, onceL_nd _, fun x hx => onceL_mem.mpr hx, fun x hx => .start (onceL_mem.mp hx), fun x h => by rw [hNe] at h; exact h, fun x y _ h1 h2 => absurd (by rw [hNe]; exact h1) h2, rfl⟩, ?_⟩
    clear s1 s2 hD hN hNx hNe N nx
    rintro m σ H3 ⟨N, fk, nx, y4, rfl, s3, hD, hN, hNx, hnd, hSf, hRc, hnk, hcl, rfl⟩
    refine ⟨_, rfl, _, .inl ⟨_, SqL.of hN, rfl⟩, ?_⟩
    by_cases hn : nx = []
    · subst hn
      refine iteF ?_
      refine ⟨_, rfl, D, _, rfl, .inl hD, fun r bs nr hk => ?_⟩
      obtain ⟨xs, e1, e2, e3⟩ := list_keys hk
      have s4 := same_upd (o := .lst (bs.map V.ref)) nr
      refine q r xs _ (s3.trans s4) (s3.free nr) (by rw [upd_same, e1]) (e2.same s4) (by rw [e3]; exact hnd) fun x => ?_
      rw [e3]
      exact ⟨hRc x, fun h => h.into hSf (fun a b e ha => hcl a b e ha (fun z => nomatch z))⟩
    have hne : (!(rms nx).isEmpty) = true := by
      cases nx with
      | nil => exact absurd rfl hn
      | cons _ _ => rfl
    have hfne : dR fk ≠ [] := fun z => by
      cases nx with
      | nil => exact hn rfl
      | cons p r =>
        have h1 := hnk p.2 (by rw [List.map_cons]; exact List.mem_cons_self)
        have h2 := congrArg List.length z
        rw [dR_len] at h2
        cases fk with
        | nil => cases h1
        | cons _ _ => cases h2
    rw [hne, if_neg hn]
    refine iteT ⟨fun σ' H' => ∃ m', m' < 2 * (4000 - fk.length) + 1 ∧ ∃ (N : Addr) (fk : List Rm) (nx : List RmA) (y4 : Option V), σ' = [some (.ref ls), some (.ref la), some (.ref D), some (.ref N), y4, none, none] ∧ Same H H' ∧ H' D = some (.dT (dR fk)) ∧ H' N = some (.lst (rms nx)) ∧ RmAt H' nx ∧ fk.Nodup ∧ (∀ x ∈ S.map (·.2), x ∈ fk) ∧ (∀ x ∈ fk, Rch (S.map (·.2)) (edW (ws.map (·.v))) x) ∧
        (∀ x ∈ nx.map (·.2), x ∈ fk) ∧ (∀ x y, (x, y) ∈ edW (ws.map (·.v)) → x ∈ fk → x ∉ nx.map (·.2) → y ∈ fk) ∧ m' = 2 * (4000 - fk.length) + (if nx = [] then 0 else 1), fun _ _ h => h, ?_⟩
    have hfl := hle fk hnd hRc
    have hWl2 : (ws.map (·.v)).length = ws.length := List.length_map ..
    -- the fresh ones
    refine ⟨fun σ' H' => ∃ (L : Addr) (fr : List RmA), σ' = [some (.ref ls), some (.ref la), some (.ref D), some (.ref N), some (.ref L), none, none] ∧ Same H3 H' ∧ H' L = some (.lst (rms fr)) ∧ RmAt H' fr ∧ (fr.map (·.2)).Nodup ∧ (∀ y, y ∈ fr.map (·.2) ↔ ∃ x, (x, y) ∈ edW (ws.map (·.v)) ∧ x ∈ nx.map (·.2) ∧ y ∉ fk), ?_, ?_⟩
    · refine ⟨_, rfl, la, rfl, ⟨_, s3.seq hla⟩, fun C nC => ?_⟩
      let ok : WA → Bool := fun a => decide (a.1 ∈ nx.map (·.2)) && !decide (a.2.2.2 ∈ fk)
      refine lc_list (K := K) (a := la) (xs := wrs ws) (fun i H' => Same H3 H' ∧ ∃ xs : List RmA, H' C = some (.lst (rms xs)) ∧ RmAt H' xs ∧ xs.length ≤ i ∧ xs.map (·.2) = (((ws.map (·.v)).take i).filter fun a : WA => decide (a.1 ∈ nx.map (·.2)) && !decide (a.2.2.2 ∈ fk)).map fun a => a.2.2.2) ⟨same_upd nC, [], upd_same, (fun _ h => nomatch h), Nat.le_refl _, rfl⟩ (fun i H' _ ⟨sm, _⟩ => sm.seq (s3.seq hla)) (fun i x H' hx ⟨sm, xs, hC, hxa, hxl, hxe⟩ => ?_) (fun H4 ⟨s4, xs, hC, hxa, hxl, hxe⟩ => ?_)
      · obtain ⟨p, hp, rfl⟩ := wrs_at hx
        have hil := (List.getElem?_eq_some_iff.mp hp).1
        obtain ⟨w1, w2, w3⟩ := (hW.same (s3.trans sm)) p (List.mem_of_getElem? hp)
        have hsn := filt_snocG (c := fun a : WA => decide (a.1 ∈ nx.map (·.2)) && !decide (a.2.2.2 ∈ fk)) (f := fun a => a.2.2.2) (xs := ws.map (·.v)) (i := i) (x := p.v) (by rw [List.getElem?_map, hp]; rfl)
        refine ⟨rfl, ?_⟩
        refine ⟨_, rfl, p.p, _, 0, _, rfl, rfl, SqT.of w1, rfl, _, rfl, rdat p.v.1, (nx.map (·.2)).map rdat, dp_rm w2, .lst (SqL.of (sm _ _ hN)) (dp_rms (hNx.same sm)), sh_rdat _, sh_rdats _, _, rfl, ?_⟩
        rw [any_rdat]
        by_cases c : p.v.1 ∈ nx.map (·.2)
        · rw [decide_eq_true c]
          refine iteT ?_
          refine ⟨_, rfl, p.p, _, 3, _, rfl, rfl, SqT.of w1, rfl, _, rfl, D, _, rfl, DGet.t (k := rmk p.v.2.2.2) (sm _ _ hD) (by rw [rmk_V]; exact w3), _, rfl, ?_⟩
          rw [dR_val]
          by_cases c2 : p.v.2.2.2 ∈ fk
          · rw [decide_eq_true c2]
            exact iteF ⟨sm, xs, hC, hxa, by omega, by rw [hxe, hsn, if_neg (by rw [decide_eq_true c, decide_eq_true c2]; exact Bool.false_ne_true), List.append_nil]⟩
          · rw [decide_eq_false c2]
            refine iteT ⟨_, rfl, p.p, _, 3, _, rfl, rfl, SqT.of w1, rfl, _, hC, ?_, fun b o e => ?_, xs ++ [(p.b, p.v.2.2.2)], ?_, ?_, ?_, ?_⟩
            · rw [rms_len]
              have : (wrs ws).length = ws.length := wrs_len ws
              omega
            · rw [upd_ne (ne_of_none e nC)]
              exact sm b o e
            · rw [upd_same, rms_app]
              rfl
            · have h1 := hxa.put (zs := rms xs ++ [V.ref p.b]) hC
              have h2 : (upd H' C (.lst (rms xs ++ [V.ref p.b]))) p.b = some (.tup (rmV p.v.2.2.2)) := by
                rw [upd_ne (ne_of w3 hC (fun z => nomatch z))]
                exact w3
              intro y hy
              rcases List.mem_append.mp hy with h | h
              · exact h1 y h
              · rw [List.mem_singleton.mp h]
                exact h2
            · rw [List.length_append]
              exact Nat.succ_le_succ hxl
            · rw [List.map_append, hxe, hsn, if_pos (by rw [decide_eq_true c, decide_eq_false c2]; rfl)]
              rfl
        · rw [decide_eq_false c]
          exact iteF ⟨sm, xs, hC, hxa, by omega, by rw [hxe, hsn, if_neg (by rw [decide_eq_false c]; exact Bool.false_ne_true), List.append_nil]⟩
      rw [wrs_len] at hxl
      rw [wrs_len, ← hWl2, List.take_length] at hxe
      refine ⟨C, xs.map rma, rfl, by rw [← rms_ak]; exact SqL.of hC, rmAt_ak hxa, by rw [List.length_map]; omega, fun L qs H5 s5 nL hL hq eq => ?_⟩
      obtain ⟨fr, rfl, efr⟩ := once_rms eq
      refine ⟨L, fr, rfl, s4.trans s5, by rw [hL, rms_ak], ak_at hq, by rw [efr]; exact onceL_nd _, fun y => ?_⟩
      rw [efr, onceL_mem, hxe, List.mem_map]
      constructor
      · rintro ⟨a, ha, rfl⟩
        obtain ⟨h1, h2⟩ := List.mem_filter.mp ha
        rw [Bool.and_eq_true, decide_eq_true_eq, Bool.not_eq_true', decide_eq_false_iff_not] at h2
        exact ⟨a.1, List.mem_map.mpr ⟨a, h1, rfl⟩, h2.1, h2.2⟩
      · rintro ⟨x, hx, h1, h2⟩
        obtain ⟨a, ha, e⟩ := List.mem_map.mp hx
        have e1 : a.1 = x := congrArg (·.1) e
        have e2 : a.2.2.2 = y := congrArg (·.2) e
        refine ⟨a, List.mem_filter.mpr ⟨ha, ?_⟩, e2⟩
        rw [e1, e2, Bool.and_eq_true, decide_eq_true_eq, Bool.not_eq_true', decide_eq_false_iff_not]
        exact ⟨h1, h2⟩
    rintro σ H4 ⟨L, fx, rfl, s4, hL, hfx, hfn, hfr⟩
    obtain ⟨fr, efr⟩ : ∃ fr, fr = fx.map (·.2) := ⟨_, rfl⟩
    rw [← efr] at hfn hfr
    have hdis : ∀ x ∈ fr, x ∉ fk := fun x hx => by
      obtain ⟨_, _, _, h⟩ := (hfr x).mp hx
      exact h
    have hRc' : ∀ x ∈ fk ++ fr, Rch (S.map (·.2)) (edW (ws.map (·.v))) x := fun x hx => by
      rcases List.mem_append.mp hx with h | h
      · exact hRc x h
      · obtain ⟨a, h1, h2, _⟩ := (hfr x).mp h
        exact (hRc a (hnk a h2)).step h1
    have hnd' : (fk ++ fr).Nodup := List.nodup_append.mpr ⟨hnd, hfn, fun a ha b hb e => hdis b hb (e ▸ ha)⟩
    have hle' := hle _ hnd' hRc'
    rw [List.length_append] at hle'
    have hfxl : fx.length = fr.length := by rw [efr, List.length_map]
    -- they are found
    refine ⟨fun σ' H' => σ' = [some (.ref ls), some (.ref la), some (.ref D), some (.ref N), some (.ref L), none, none] ∧ Same H H' ∧ H' D = some (.dT (dR (fk ++ fr))) ∧ H' L = some (.lst (rms fx)) ∧ RmAt H' fx, ?_, ?_⟩
    · have hD4 := s4 _ _ hD
      refine ⟨_, rfl, D, rfl, .inr ⟨_, .inl hD4⟩, _, rfl, L, rfl, ⟨_, SqL.of hL⟩, fun C nC => ?_⟩
      refine lcG walk_list (fun i H' => Same H4 H' ∧ H' C = some (.dT (dR (fr.take i)))) ⟨same_upd nC, upd_same⟩ (fun i H' _ ⟨sm, _⟩ => SqL.of (sm _ _ hL)) ?_ ?_
      · rintro i v H5 H6 hi ⟨sm, hC⟩ ⟨rfl, hv⟩
        obtain ⟨p, hp', rfl⟩ := rms_at hv
        have hil := (List.getElem?_eq_some_iff.mp hp').1
        have hp2 : fr[i]? = some p.2 := by rw [efr, List.getElem?_map, hp']; rfl
        have hni : p.2 ∉ fr.take i := fun h => by
          have e : fr.take (i + 1) = fr.take i ++ [p.2] := take_next hp2
          have h2 : (fr.take (i + 1)).Nodup := hfn.sublist (List.take_sublist _ _)
          rw [e, List.nodup_append] at h2
          exact h2.2.2 p.2 h p.2 List.mem_cons_self rfl
        refine ⟨rfl, ?_⟩
        refine yes2 ?_
        refine ⟨_, rfl, _, ⟨_, rmk p.2, p.1, hC, rfl, by rw [rmk_V]; exact sm _ _ (hfx p (List.mem_of_getElem? hp')), ?_, rfl⟩, fun b o e => ?_, ?_⟩
        · rw [dR_len, List.length_take]
          omega
        · rw [upd_ne (ne_of_none e nC)]
          exact sm b o e
        · rw [upd_same, dR_put, if_neg hni, take_next hp2]
      · rintro H5 ⟨sm, hC⟩
        rw [rms_len, hfxl, List.take_length] at hC
        have hD5 := sm _ _ hD4
        refine ⟨C, _, _, rfl, hD5, hC, fun e => ?_, hfne, ?_, rfl, fun b o e => ?_, ?_, ?_, ?_⟩
        · rw [← e, hD4] at nC
          cases nC
        · rw [dR_len, dR_len]
          omega
        · rw [upd_ne (ne_of_none e nD)]
          exact sm _ _ (s4 _ _ (s3 _ _ e))
        · rw [upd_same, dR_more, fold_once_app fr fk hfn hdis]
        · rw [upd_ne (ne_of (sm _ _ hL) hD5 (fun z => nomatch z))]
          exact sm _ _ hL
        · intro p hp
          rw [upd_ne (ne_of (sm _ _ (hfx p hp)) hD5 (fun z => nomatch z))]
          exact sm _ _ (hfx p hp)
    rintro σ H5 ⟨rfl, s5, hD5, hL5, hfx5⟩
    refine ⟨_, rfl, _, ?_, L, fk ++ fr, fx, _, rfl, s5, hD5, hL5, hfx5, hnd', fun x hx => List.mem_append_left _ (hSf x hx), hRc', fun x hx => List.mem_append_right _ (by rw [efr]; exact hx), fun x y e hx hxn => ?_, rfl⟩
    · rw [List.length_append]
      by_cases hf : fx = []
      · rw [if_pos hf]
        omega
      · rw [if_neg hf]
        have : 0 < fx.length := List.length_pos_iff.mpr hf
        omega
    · rw [← efr] at hxn
      rcases List.mem_append.mp hx with h | h
      · by_cases hxk : x ∈ nx.map (·.2)
        · by_cases hy : y ∈ fk
          · exact List.mem_append_left _ hy
          · exact List.mem_append_right _ ((hfr y).mpr ⟨x, e, hxk, hy⟩)
        · exact List.mem_append_left _ (hcl x y e h hxk)
      · exact absurd h hxn
end
end Onp
set_option maxHeartbeats 4000000
set_option autoImplicit false
namespace Onp
open PySem PySem.Spec PyProof.Rows L2 HotX L2H
/-! ### a def that may raise, its errors with no context -/
theorem okN {P : Program} {w : World} {K : PySem.W.Frag} {mg : Str → Option Value} {base : Heap} {x qual : Str} {st : Stmt} {f : Addr} {fd : FuncData} {N ps : List Str} {k : Nat} {sp : Sp} (F : Fun K x qual st f fd) (S : FnScope N ps (defScope st)) (len : ∀ vs H Q E, sp vs H Q E → vs.length = ps.length)
    (hbody : ∀ (cdv : Value) (A : Around) (outer : List Env) (s : Shared) (H : Hp) (vs : List V) (Q : VK) (E : XK), Room k (A.deeper (envOfC qual (defScope st) s.heap.objs.size f cdv)) → sp vs H Q E →
      ∃ t, PSs (cxOf (L2N.CX P w) P w K mg base N qual (defScope st) f cdv A outer s H E) (defBody st) t ∧ t { nx := fun _ H' => Q .non H', rt := Q } (start N vs) H) : FnOk P w K mg base (L2N.CX P w) (k + 1) f fd ps sp := by
  obtain ⟨oc, od, kV, doc, pm, an, cdv, ct, osl, rfl, lk, hcd⟩ := F.ex
  exact fn_of lk hcd S len fun A outer s H vs Q E hr hsp => hbody cdv A outer s H vs Q E hr hsp
/-! ### a def that is called with the handled exception -/
def FnPin (P : Program) (w : World) (K : PySem.W.Frag) (mg : Str → Option Value) (base : Heap) (k : Nat) (f : Addr) (fd : FuncData) (ps : List Str) (sp : Addr × Obj → List V → Hp → VK → Prop) : Prop :=
  ∀ (A : Around) (outer : List Env) (s : Shared) (H : Hp) (us : List Value) (vs : List V) (Q : VK) (p : Addr × Obj), RoomH k A → Hot1 A p → PinOk outer H s p → Env0 P w K mg base A outer s H → BindsTo s fd ⟨us, []⟩ (ps.zip us) → Vals vs us → vs.length = ps.length → sp p vs H Q →
    codeAny (model P w) A (.call (.ref f) ⟨us, []⟩) (CR CX0 outer P w H s Q E0) s
theorem okPin {P : Program} {w : World} {K : PySem.W.Frag} {mg : Str → Option Value} {base : Heap} {x qual : Str} {st : Stmt} {f : Addr} {fd : FuncData} {N ps : List Str} {k : Nat} {sp : Addr × Obj → List V → Hp → VK → Prop} (F : Fun K x qual st f fd) (S : FnScope N ps (defScope st))
    (hbody : ∀ (cdv : Value) (A : Around) (outer : List Env) (s : Shared) (H : Hp) (vs : List V) (Q : VK) (p : Addr × Obj), Hot1 A p → RoomH k (A.deeper (envOfC qual (defScope st) s.heap.objs.size f cdv)) → sp p vs H Q →
      ∃ t, PSs (cxH CX0 P w K mg base N qual (defScope st) f cdv A outer s H E0 p) (defBody st) t ∧ t { nx := fun _ H' => Q .non H', rt := Q } (L2.start N vs) H) : FnPin P w K mg base (k + 1) f fd ps sp := by
  obtain ⟨oc, od, kV, doc, pm, an, cdv, ct, osl, rfl, lk, hcd⟩ := F.ex
  intro A outer s H us vs Q p hr hot hpin e0 hb r hl hsp
  have KX : K.In s.heap := e0.mod.kin.keeps fun b o e => (e0.bs b o e).1
  have lim : s.heap.NoLimit := e0.mod.nolimit.keeps fun b o e => (e0.bs b o e).1
  refine codeAny_call_function hr.depth (KX _ _ lk) rfl S.co S.gen rfl (PySem.W.codeRec_of KX hcd) (hb _ _ _ _ ?_)
  refine wpAny_newFunctionEnv_cells S.kind (fun ⟨n, v⟩ hy => (S.par n (List.of_mem_zip hy).1).imp id fun q => ⟨q, PySem.W.cellsFrom_some _ _ _ (.inl q)⟩) fun env he s1 y => ?_
  subst he
  refine ⟨lim.keeps y.toInCall.keep, codeAny_func ?_⟩
  obtain ⟨t, ht, hq⟩ := hbody cdv A outer s H vs Q p hot (hr.deeper _) hsp
  refine wpAny_mono (ht.run [] s1 (L2.start N vs) H _ (inv_startH S hpin e0 hl r y) hq) (fun fl s' hs => ?_) fun e s' hs => hs
  cases fl with
  | ret u => obtain ⟨v, σ', H', J, rv, q⟩ := hs; exact ⟨v, H', J.os, J.bare, J.base, J.hok, rv, q⟩
  | next => obtain ⟨σ', H', J, q⟩ := hs; exact ⟨.non, H', J.os, J.bare, J.base, J.hok, rfl, q⟩
  | brk => obtain ⟨_, _, _, q⟩ := hs; exact False.elim q
  | cont => obtain ⟨_, _, _, q⟩ := hs; exact False.elim q
theorem pe_callPin {X : Cx} {k : Nat} {f : Addr} {fd : FuncData} {ps : List Str} {sp : Addr × Obj → List V → Hp → VK → Prop} {x : Str} {q pos : Pos} {e : Expr} {es : List Expr} {t : TA} {p : Addr × Obj} (F : FnPin X.prog X.w X.K X.mg X.base k f fd ps sp) (hr : RoomH k X.A) (hot : Hot1 X.A p) (hp : p ∈ X.pn)
    (hg : Gl X x) (hm : X.mg x = some (.ref f)) (hk : PySem.W.keepIn X.K (.ref f) = true) (hb : Binds X.K fd ps []) (ha : PA X (e :: es) t) (hdb : (x == ("__debug__" : Str)) = false := by decide)
    (he : starEach (e :: es) X.env = (false, eval e X.env) :: starEach es X.env := by rfl) (hpl : (backTo pos (starEach es X.env)).any (·.1) = false := by rfl) :
    PE X (.Call (.Name x q) (e :: es) [] pos) (fun σ H Q => t σ H fun vs H1 => vs.length = ps.length ∧ sp p vs H1 Q) := by
  refine ⟨fun pins s σ H Q I h => wpAny_Call_Name_kw (ld_glob I hg hm ?_ hdb)⟩
  refine PySem.W.callWith_K (h₀ := X.base) I.ok.mod.kin hk (thn (ha.run pos pins s σ H _ I h) fun us s1 ⟨vs, H1, I1, r, hl, q⟩ => ⟨I1.kIn, ?_⟩) he hpl
  have b := hb s1 us I1.kIn (by rw [List.append_nil, ← r.length]; exact hl)
  rw [List.append_nil] at b
  have P1 := I1.pin p (List.mem_append_left _ hp)
  have hpin : PinOk X.stack H1 s1 p := ⟨P1.1, P1.2.1, fun z => (List.mem_cons.mp (I1.stkSub p.1 z)).elim P1.2.2.1 P1.2.2.2.1, P1.2.2.2.2⟩
  refine wpAny_call (codeAny_mono (F X.A X.stack s1 H1 us vs Q p hr hot hpin I1.env0 b r hl q) fun r s' hq => ?_)
  cases r with
  | error e => exact (show False from hq).elim
  | ok fl =>
    cases fl with
    | ret u => exact I1.after hq
    | next => exact False.elim hq
    | brk => exact False.elim hq
    | cont => exact False.elim hq
/-! ### what is asked of a pinned exception -/
structure ErrC (K : PySem.W.Frag) (D : Addr) : Prop where
  cl : (PySem.W.clsIn K D).isSome = true
  ga : PySem.W.findIn K (.ref D) "__getattribute__" = some (some (.builtin "BaseException.__getattribute__"))
  gg : PySem.W.findIn K (.ref D) "__getattr__" = some none
  sb : PySem.W.subIn K (.ref D) (.type "BaseException") = some true
  cc : PySem.W.findIn K (.ref D) "__class__" = some (some (.builtin "object.__class__"))
  gs : PySem.W.specialIn K (.builtin "object.__class__") "__get__" = some (some (.builtin "getset_descriptor.__get__"))
  tk : PySem.W.takesIn K (.builtin "object.__class__") = some true
  mo : PySem.W.mroIn K D (.type "object") = some true
  hd : PySem.W.hasDictIn K D = true
theorem inst_pin {X : Cx} {pins : List (Addr × Obj)} {σ : L2.St} {H : Hp} {s : Shared} {p : Addr × Obj} {D d : Addr} {fs : List (Str × V)} (I : Inv X pins σ H s) (hp : p ∈ X.pn) (hz : Zc (.ref D) (some d) p.2) (hf : ∃ vs, p.2.data = .fields vs) (hd : H d = some (.xd fs)) :
    ∃ od, PySem.W.InstAt s.heap p.1 p.2 D (some od) ∧ ∃ mA : Str → Option Value, (∀ f, RelO (fs.lookup f) (mA f)) ∧ ∀ name, PySem.W.lookIn name od = some (mA name) := by
  obtain ⟨mA, hns, hr⟩ := (show ∃ mA, s.heap.Ns1 d mA ∧ ∀ f, RelO (fs.lookup f) (mA f) from I.hok d _ hd)
  obtain ⟨od, ho, hl⟩ := lookIn_ns hns
  obtain ⟨vs, hv⟩ := hf
  exact ⟨od, ⟨(I.pin p (List.mem_append_left _ hp)).1, hz.1, by unfold PySem.W.notCls; rw [hv] <;> rfl, by rw [hz.2]; exact ho⟩, mA, hr, hl⟩
theorem call_isP {X : Cx} {p : Addr × Obj} {D d : Addr} (C : ErrC X.K D) (hp : p ∈ X.pn) (hz : Zc (.ref D) (some d) p.2) (hf : ∃ vs, p.2.data = .fields vs) :
    CallR X (.builtin "isinstance") (fun xs H Q => ∃ (c : Addr) (b : Bool) (fs : List (Str × V)), xs = [.ref p.1, .ref c] ∧ H d = some (.xd fs) ∧ PySem.W.kitOne X.K (.ref D) (.ref c) = some b ∧ Q (.bl b) H) := by
  intro pins s σ H xs us Q I r h
  obtain ⟨c, b, fs, rfl, hd, e, q⟩ := h
  obtain ⟨u, v, rfl, ru, rv⟩ := vals2 r
  cases ru
  cases rv
  obtain ⟨od, J, _⟩ := inst_pin I hp hz hf hd
  exact PySem.W.kia_one (PySem.W.kitx_exc C.cl C.ga C.gg C.sb C.cc C.gs C.tk C.mo) I.kIn J e (fun z => nomatch z) fun tk => ⟨.bl b, H, I.kept (t' := tk) fun _ _ z => z, rfl, q⟩
/-- e.f of it -/
theorem pe_fldP {X : Cx} {p : Addr × Obj} {D d : Addr} {e : Expr} {te : TE} {pos : Pos} {n : Str} (C : ErrC X.K D) (hno : PySem.W.findIn X.K (.ref D) n = some none) (hp : p ∈ X.pn) (hz : Zc (.ref D) (some d) p.2) (hf : ∃ vs, p.2.data = .fields vs) (he : PE X e te)
    (hb : attributeBase e n X.env (eval e X.env) = eval e X.env := by rfl) : PE X (.Attribute e n pos) (fun σ H Q => te σ H fun x H1 => x = .ref p.1 ∧ ∃ (fs : List (Str × V)) (v : V), H1 d = some (.xd fs) ∧ fs.lookup n = some v ∧ Q v H1) := by
  refine ⟨fun pins s σ H Q I h => attr_of hb (thn (he.run pins s σ H _ I h) fun u s1 ⟨x, H1, I1, rx, ex, fs, v, hd, l, q⟩ => ?_)⟩
  subst ex
  obtain rfl : u = Value.ref p.1 := rx
  obtain ⟨od, J, mA, hr, hl⟩ := inst_pin I1 hp hz hf hd
  obtain ⟨u, hu, ru⟩ := RelO.some_of (v := v) (o := mA n) (by rw [← l]; exact hr n)
  exact HandSPX.exc_get I1.kIn J C.ga C.gg C.sb (PySem.W.findObj_own C.hd hno rfl (by rw [hl, hu])) (handed_of ru) ⟨v, H1, I1.tok _, ru, q⟩
/-! ### a comprehension over zip, the first list no longer -/
theorem lc_zip1 {K : PySem.W.Frag} {a b : Addr} {xs ys : List V} {g : TG} {tt : TT} {te : TE} {vs : List Nat} {σ : L2.St} {H1 : Hp} {D : Addr} {Qd : Hp → Prop} (hl : xs.length ≤ ys.length) (Pv : Nat → Hp → Prop) (h0 : Pv 0 (upd H1 D (.lst []))) (hq : ∀ i H, Pv i H → SqL K H a xs ∧ SqL K H b ys)
    (hs : ∀ i x y T H, xs[i]? = some x → ys[i]? = some y → Pv i H → H T = none → g (.ref T) (wipe σ vs) (upd H T (.tup [x, y])) fun σ2 H2 => wipe σ2 vs = wipe σ vs ∧ tt σ2 H2 fun b H3 =>
      if b = true then te σ2 H3 fun y H4 => ∃ acc, H4 D = some (.lst acc) ∧ acc.length < sizeLine ∧ Pv (i + 1) (upd H4 D (.lst (acc ++ [y]))) else Pv (i + 1) H3) (hd : ∀ H, Pv xs.length H → Qd H) :
    ∃ W : Nat → Nat → Hp → Prop, (∃ m, W 0 m (upd H1 D (.lst []))) ∧ ∀ i m H, W i m H → ((Itz1 K a b).stop i H ∧ Qd H) ∨ ((Itz1 K a b).go i H ∧ ∃ Nx : Hp → Prop, (∀ H', Nx H' → ∃ m', m' < m ∧ W (i + 1) m' H') ∧
      ∀ x H', (Itz1 K a b).yld i H x H' → g x (wipe σ vs) H' fun σ2 H2 => wipe σ2 vs = wipe σ vs ∧ tt σ2 H2 fun b H3 => if b = true then te σ2 H3 fun y H4 => ∃ acc, H4 D = some (.lst acc) ∧ acc.length < sizeLine ∧ Nx (upd H4 D (.lst (acc ++ [y]))) else Nx H3) := by
  refine ⟨fun i m H => m = xs.length - i ∧ i ≤ xs.length ∧ Pv i H, ⟨xs.length, by simp, Nat.zero_le _, h0⟩, fun i m H ⟨em, hi, p⟩ => ?_⟩
  obtain ⟨qa, qb⟩ := hq i H p
  by_cases lt : i < xs.length
  · have lt2 : i < ys.length := by omega
    refine .inr ⟨⟨xs, ys, xs[i], ys[i], qa, qb, List.getElem?_eq_getElem lt, List.getElem?_eq_getElem lt2⟩, Pv (i + 1), fun H' p' => ⟨xs.length - (i + 1), by omega, rfl, lt, p'⟩, fun x H' hy => ?_⟩
    obtain ⟨T, x1, x2, rfl, nT, rfl, e1, e2⟩ := hy
    exact hs i x1 x2 T H (e1 _ qa) (e2 _ qb) p nT
  · have e : i = xs.length := by omega
    subst e
    exact .inl ⟨⟨xs, ys, qa, qb, Nat.le_refl _⟩, hd H p⟩
/-! ### the lambda that a def got, called in its try: errors with no context -/
def lamCxN (X : Cx) (A : Around) (outer : List Env) (s : Shared) (H : Hp) (E : XK) (scope : Scope) (f c' : Addr) : Cx :=
  { LamX.lamCx X A outer s H E scope f c' with xe := fun e s' => wpAny (model X.prog X.w) (A.deeper (LamX.lamEnv X scope s.heap.objs.size f c')) (leaving (LamX.lamEnv X scope s.heap.objs.size f c') e) (fun _ s'' => L2N.CX X.prog X.w outer H s E e s'') (fun e' s'' => L2N.CX X.prog X.w outer H s E e' s'') s' }
theorem reXe {X : Cx} {xe : Value → Shared → Prop} {pins : List (Addr × Obj)} {σ : L2.St} {H : Hp} {s : Shared} (I : Inv X pins σ H s) : Inv { X with xe := xe } pins σ H s := by
  have ok := I.ok
  exact ⟨⟨ok.mod, ok.kind, ok.glob, ok.blt, ok.above, ok.inj, ok.has, ok.cab, ok.hd, ok.frames, ok.stk, ok.exf, ok.bs, ok.bsz, ok.noex, ok.exfs, ok.funs, ok.frf⟩, I.os, I.bare, I.base, I.loc, I.cell, I.free, I.freeC, I.pin, I.hok, I.len⟩
section
variable {X : Cx} {pins : List (Addr × Obj)} {σ : L2.St} {H : Hp} {s : Shared}
open LamX
theorem pe_actN {CXg : CXT} {Eg : XK} {Ng : List Str} {qg : Str} {sg : Scope} {g f c' : Addr} {cdg pm ctv : Value} {params : Arguments} {body : Expr} {scope : Scope} {k i : Nat} {a : Str} {pn : List (Addr × Obj)} {xe : Value → Shared → Prop} {W : WX} {E : XK} {tb : TE} {p1 p2 : Pos}
    (I : Inv X pins σ H s) (L : LamS X.env.scope scope) (hf : s.heap.get? f = some (PySem.W.kla_obj "<lambda>" (X.env.qual ++ "<lambda>") params body scope (cloFrom X.env.cells scope.names []) pm c' ctv)) (hfn : H f = none) (hfr : f ∉ frs X.stack)
    (hbind : bindArgs (PySem.W.kla_fn "<lambda>" (X.env.qual ++ "<lambda>") params body scope (cloFrom X.env.cells scope.names []) pm (.ref c') ctv) ⟨[], []⟩ = pure [])
    (tk : L2N.Takes ((cxOf CXg X.prog X.w X.K X.mg X.base Ng qg sg g cdg X.A X.stack s H Eg).tr pn xe) W) (hW : ∀ cls d σ' H', E cls d H' → W cls d σ' H') (hr : Room (k + 1) (X.A.deeper (envOfC qg sg s.heap.objs.size g cdg)))
    (hbody : ∀ (A : Around) (outer : List Env) (s : Shared) (H : Hp), Room k (A.deeper (lamEnv X scope s.heap.objs.size f c')) → PE (lamCxN X A outer s H E scope f c') body tb)
    (hN : Ng[i]? = some a) (hv : Vis sg a) (hd : (a == ("__debug__" : Str)) = false) (hcd : (a == ("__classdict__" : Str)) = false) :
    PE ((cxOf CXg X.prog X.w X.K X.mg X.base Ng qg sg g cdg X.A X.stack s H Eg).tr pn xe) (.Call (.Name a p1) [] [] p2) (fun σZ HZ Q => σZ[i]? = some (some (.ref f)) ∧ HZ c' = some (CodeO c' (X.env.qual ++ "<lambda>")) ∧ tb σ HZ Q) := by
  refine ⟨fun pinsZ sZ σZ HZ Q IZ ⟨hs, hc, ht⟩ => ?_⟩
  refine wpAny_Call_Name_kw (thn ((pe_var (pos := p1) (i := i) hN hv hd hcd).run pinsZ sZ σZ HZ (fun v H1 => v = .ref f ∧ H1 = HZ) IZ ⟨.ref f, hs, rfl, rfl⟩) fun u s1 ⟨v, H1, I1, r1, ev, eH⟩ => ?_)
  subst ev
  rw [eH] at I1
  obtain rfl : u = Value.ref f := r1
  have of1 := I1.base.keep f _ hf hfn hfr (fun z => nomatch (show f ∈ ([] : List Addr) from z))
  refine PySem.W.callWith_F0 ⟨_, _, _, _, of1⟩ ?_
  obtain ⟨⟨oc, vs, t, hoc, hdc, hvc⟩, _, _⟩ := I1.hok c' _ hc
  have rc : codeAny (model X.prog X.w) (X.A.deeper (envOfC qg sg s.heap.objs.size g cdg)) (.call (.ref f) ⟨[], []⟩) (CR (L2N.CX X.prog X.w) (envOfC qg sg s.heap.objs.size g cdg :: X.stack) X.prog X.w HZ s1 Q E) s1 := by
    refine PySem.W.kla_callFunE hr.depth of1 rfl L.co L.gen rfl ⟨c', oc, vs, t, rfl, hoc, hdc, hvc⟩ ?_
    rw [hbind]
    refine wpAny_pure (wpAny_newFunctionEnv (fun y hy => (L.own y hy).2) (fun y hy => absurd hy (by simp)) (fun j hns hsb => ⟨I1.nolimit.fresh _ hsb, ?_⟩) L.kind)
    show codeAny _ _ (.expr body (lamEnv X scope s1.heap.objs.size f c')) _ _
    have kp : ∀ b o, s1.heap.get? b = some o → j.get? b = some o := fun b o e => hsb.extBut b o (Nat.ne_of_lt (Heap.lt_size e)) (Heap.get?_push_of_some _ e)
    have J0 : Inv (lamCx X (X.A.deeper (envOfC qg sg s.heap.objs.size g cdg)) (envOfC qg sg s.heap.objs.size g cdg :: X.stack) s1 HZ E scope f c') [] σ HZ { s1 with heap := j, toks := s1.toks + ([] : List (Str × Value)).length } := lam_start2 I L I1.env0 hr.hd I1.base hns kp
    have J : Inv (lamCxN X (X.A.deeper (envOfC qg sg s.heap.objs.size g cdg)) (envOfC qg sg s.heap.objs.size g cdg :: X.stack) s1 HZ E scope f c') [] σ HZ { s1 with heap := j, toks := s1.toks + ([] : List (Str × Value)).length } := reXe J0
    refine PySem.W.kla_codeExpr (wpAny_mono ((hbody _ _ s1 HZ (hr.deeper _)).run [] _ _ HZ Q J ht) (fun v s' hq => ?_) fun e s' hq => hq)
    obtain ⟨w', H', J', rv, q⟩ := hq
    exact ⟨w', H', J'.os, J'.bare, J'.base, J'.hok, rv, q⟩
  have hx := L2N.passes_call tk hW
  refine wpAny_call (codeAny_mono rc fun r s' hq => ?_)
  cases r with
  | error e => exact hx pinsZ σZ HZ s1 e s' I1 hq
  | ok fl =>
    cases fl with
    | ret u => exact I1.after hq
    | next => exact False.elim hq
    | brk => exact False.elim hq
    | cont => exact False.elim hq
end
end Onp
set_option maxHeartbeats 4000000
set_option autoImplicit false
namespace Onp
open PySem PySem.Spec PyProof.Rows L2 HotX L2H LamX
/-! ### x(lambda: body), x a def that calls what it got in a try; errors with no context -/
def GivesN (X : Cx) (k : Nat) (Ng : List Str) (x : Str) (sg : Scope) (g : Addr) (cdg : Value) (bg : List Stmt) (a : Str) (q : Str) (TT : (XK → Hp → VK → Prop) → Hp → VK → Prop) : Prop :=
  ∀ (f c' : Addr) (s : Shared) (H : Hp) (Q : VK) (tl : XK → Hp → VK → Prop), Room (k + 1) (X.A.deeper (envOfC x sg s.heap.objs.size g cdg)) →
    (∀ (W : WX) (pn : List (Addr × Obj)) (xe : Value → Shared → Prop) (E : XK) (p1 p2 : Pos), L2N.Takes ((cxOf CX0 X.prog X.w X.K X.mg X.base Ng x sg g cdg X.A X.stack s H E0).tr pn xe) W → (∀ cls d σ' H', E cls d H' → W cls d σ' H') →
      PE ((cxOf CX0 X.prog X.w X.K X.mg X.base Ng x sg g cdg X.A X.stack s H E0).tr pn xe) (.Call (.Name a p1) [] [] p2) (fun σZ HZ Q => σZ[0]? = some (some (.ref f)) ∧ HZ c' = some (CodeO c' q) ∧ tl E HZ Q)) →
    H c' = some (CodeO c' q) → TT tl H Q →
    ∃ t, PSs (cxOf CX0 X.prog X.w X.K X.mg X.base Ng x sg g cdg X.A X.stack s H E0).nox bg t ∧ t { nx := fun _ H' => Q .non H', rt := Q } (L2.start Ng [.ref f]) H
theorem pe_lamN {X : Cx} {T : List (Addr × Str)} {TT : (XK → Hp → VK → Prop) → Hp → VK → Prop} {x a : Str} {g c P : Addr} {k : Nat} {pg : Arguments} {bg : List Stmt} {sg : Scope} {dV kV doc pm cdv ct oc : Value} {an od : Option Addr} {osl : Array (Option Value)} {Ng : List Str}
    {params : Arguments} {body : Expr} {scope : Scope} {t : XK → TE} {p lpos pos : Pos} (hg : Gl X x) (hm : X.mg x = some (.ref g)) (hk : PySem.W.keepIn X.K (.ref g) = true) (lk : X.K.lookup g = some ⟨oc, od, .func (PySem.W.fnOf x x pg bg sg dV kV doc pm an cdv ct), osl⟩)
    (hcg : PySem.W.codeIn X.K cdv x = true) (hb : L2.Binds X.K (PySem.W.fnOf x x pg bg sg dV kV doc pm an cdv ct) [a] []) (Sg : FnScope Ng [a] sg) (hNg : Ng[0]? = some a) (hva : Vis sg a) (hG : GivesN X k Ng x sg g cdv bg a (X.env.qual ++ "<lambda>") TT)
    (TB : TabB X.base X.mg c P) (hcode : X.env.code = .ref c) (hmT : (P, X.env.qual ++ "<lambda>") ∈ T) (hu : ∀ p ∈ T, p.1 = P → p.2 = X.env.qual ++ "<lambda>") (hr : Room (k + 2) X.A) (L : LamS X.env.scope scope) (hdef : defaultsOf params X.env = ([], []))
    (hbind : ∀ (q : Str) (cl : List (Str × Addr)) (pm cv ctv : Value), bindArgs (PySem.W.kla_fn "<lambda>" q params body scope cl pm cv ctv) ⟨[], []⟩ = pure [])
    (hbody : ∀ (A : Around) (outer : List Env) (s : Shared) (H : Hp) (E : XK) (f c' : Addr), Room k (A.deeper (lamEnv X scope s.heap.objs.size f c')) → PE (lamCxN X A outer s H E scope f c') body (t E))
    (hdb : (x == ("__debug__" : Str)) = false := by decide) (hd : (a == ("__debug__" : Str)) = false := by decide) (hcd : (a == ("__classdict__" : Str)) = false := by decide) : PE X (.Call (.Name x p) [.Lambda params body scope lpos] [] pos) (tLam T TT t) := by
  refine ⟨fun pins s σ H Q I ⟨hT, h⟩ => wpAny_Call_Name_kw (ld_glob I hg hm ?_ hdb)⟩
  refine PySem.W.callWith_K (h₀ := X.base) I.ok.mod.kin hk ?_ (by rfl) (by rfl)
  show wpAny _ _ (spliced ((false, eval (.Lambda params body scope lpos) X.env) :: backTo pos (starEach [] X.env))) _ _ s
  refine Calls.spliced_cons (lam_make2 I TB hcode hmT hu hT hdef (L.has I.ok) fun f c' pm' ctv H1 s' I1 eN T1 hf hfn hfr hco => Calls.spliced_nil ⟨I1.kIn, ?_⟩)
  have rc : codeAny (model X.prog X.w) X.A (.call (.ref g) ⟨[.ref f], []⟩) (CR CX0 X.stack X.prog X.w H1 s' Q E0) s' := by
    refine run_ofS (N := Ng) (ps := [a]) (us := [.ref f]) (vs := [.ref f]) lk hcg Sg hr I1.env0 (hb s' [.ref f] I1.kIn rfl) (.cons rfl .nil) rfl fun hr' => ?_
    obtain ⟨t', ht', hq'⟩ := hG f c' s' H1 Q (fun E H' Q' => t E σ H' Q') hr' (fun W pn xe E p1 p2 tk hW => pe_actN (i := 0) I1 L hf hfn hfr (hbind _ _ _ _ _) tk hW hr' (fun A outer s H hr2 => hbody A outer s H E f c' hr2) hNg hva hd hcd) hco (h H1 eN T1)
    exact ⟨t', ht'.nox, hq'⟩
  refine wpAny_call (codeAny_mono rc fun r s2 hq => ?_)
  cases r with
  | error e => exact (show False from hq).elim
  | ok fl =>
    cases fl with
    | ret u => exact I1.after hq
    | next => exact False.elim hq
    | brk => exact False.elim hq
    | cont => exact False.elim hq
theorem takes0N {X : Cx} : L2N.Takes X (fun _ _ _ _ => False) := fun _ _ x => by
  obtain ⟨_, _, _, _, _, _, _, _, _, _, _, _, _, _, _, _, z⟩ := x
  exact z.elim
end Onp
set_option maxHeartbeats 8000000
set_option autoImplicit false
namespace Onp
open PySem PySem.Spec PyProof.Rows L2 HotX L2H
abbrev sKind : Stmt := topS 54
abbrev sTold : Stmt := topS 55
/-! ### the kinds of refusals -/
def errNames : List Str := ["BadMark", "BadLetters", "BadRoom", "BadArrow", "BadWord", "BadSize", "BadPattern", "BadTable", "BadTree", "BadText", "BadName", "BadDeed", "BadPage", "Taken", "Full", "Unlike", "NotDear", "InUse", "TooWide", "NoArrow", "NoName", "NoTraveller", "NothingLeft"]
def errWords : List Str := ["badmark", "badletters", "badroom", "badarrow", "badword", "badsize", "badpattern", "badtable", "badtree", "badtext", "badname", "baddeed", "badpage", "taken", "full", "unlike", "notdear", "inuse", "toowide", "noarrow", "noname", "notraveller", "nothingleft"]
def wordOf (x : Str) : Str := ((errNames.zip errWords).lookup x).getD Str.empty
def pick (nm : Str) : List Str := (((errWords.zip (errNames.map (· == nm))).filter (·.2)).map (·.1))
theorem pick_one : ∀ nm ∈ errNames, pick nm = [wordOf nm] := by decide +kernel
theorem join_one : ∀ nm ∈ errNames, Txt.join "+" [wordOf nm] = wordOf nm := by decide +kernel
theorem word_len : ∀ nm ∈ errNames, (wordOf nm).length ≤ 100 := by decide +kernel
structure Kd (K : PySem.W.Frag) (mg : Str → Option Value) (ec : Str → Addr) (used : List Str) (cP cM : Addr) : Prop where
  g : ∀ x ∈ errNames, mg x = some (.ref (ec x))
  cl : ∀ x ∈ errNames, PySem.W.typeIn K (.ref (ec x)) = some (.type "type") ∧ PySem.W.isClsIn K (ec x) = true
  us : ∀ x ∈ used, x ∈ errNames
  er : ∀ x ∈ used, ErrC K (ec x)
  wd : ∀ x ∈ used, PySem.W.findIn K (.ref (ec x)) "word" = some none
  sub : ∀ x ∈ used, ∀ y ∈ errNames, PySem.W.subIn K (.ref (ec x)) (.ref (ec y)) = some (y == x)
  bx : ∀ y ∈ (["BadText", "BadPage", "TooWide"] : List Str), PySem.W.subIn K (.ref (ec y)) (.type "BaseException") = some true
  gP : mg "PurseError" = some (.ref cP)
  gM : mg "Missing" = some (.ref cM)
  any : ∀ x ∈ used, PySem.W.exmAny K (.ref (ec x)) [.ref cP, .ref cM, .ref (ec "NothingLeft")] = some true
section
variable {K : PySem.W.Frag} {mg : Str → Option Value} {ec : Str → Addr} {used : List Str} {cP cM : Addr}
theorem Kd.kit (T : Kd K mg ec used cP cM) {x y : Str} (hx : x ∈ used) (hy : y ∈ errNames) : PySem.W.kitOne K (.ref (ec x)) (.ref (ec y)) = some (y == x) := by
  have s1 := T.sub x hx y hy
  unfold PySem.W.kitOne
  by_cases e : ((Value.ref (ec x)) == (Value.ref (ec y))) = true
  · rw [if_pos e]
    have e' : ec x = ec y := Value.ref.inj (beq_iff_eq.mp e)
    have s2 := T.sub x hx x (T.us x hx)
    rw [← e', s2] at s1
    rw [beq_self_eq_true] at s1
    exact s1
  · rw [if_neg e]
    obtain ⟨h1, h2⟩ := T.cl y hy
    have h2' : (PySem.W.clsIn K (ec y)).isSome = true := h2
    show (if ((PySem.W.clsIn K (ec y)).isSome && PySem.W.typeIn K (.ref (ec y)) == some (.type "type")) = true then PySem.W.subIn K (.ref (ec x)) (.ref (ec y)) else none) = _
    rw [h2', h1, if_pos (by rfl)]
    exact s1
theorem Kd.exm (T : Kd K mg ec used cP cM) {x y : Str} (hx : x ∈ used) (hy : y ∈ (["BadText", "BadPage", "TooWide"] : List Str)) (hy2 : y ∈ errNames) : PySem.W.exmOne K (.ref (ec x)) (.ref (ec y)) = some (y == x) := by
  have e1 : (PySem.W.subIn K (.ref (ec y)) (.type "BaseException") == some true) = true := by rw [T.bx y hy] <;> rfl
  obtain ⟨h1, h2⟩ := T.cl y hy2
  have h2' : (PySem.W.clsIn K (ec y)).isSome = true := h2
  show (if (PySem.W.subIn K (.ref (ec y)) (.type "BaseException") == some true) = true then (if ((PySem.W.clsIn K (ec y)).isSome && PySem.W.typeIn K (.ref (ec y)) == some (.type "type")) = true then PySem.W.subIn K (.ref (ec x)) (.ref (ec y)) else none) else none) = _
  rw [if_pos e1, h2', h1, if_pos (by rfl)]
  exact T.sub x hx y hy2
end
def NK : List Str := ["_law_e", "_law_flags", "_law_words", "_law_found", "_law_one", "_law_here"]
theorem scKind : FnScope NK ["_law_e"] (defScope sKind) := ⟨rfl, rfl, rfl, by decide +kernel, rfl, by decide +kernel, by decide +kernel⟩
section
variable {P : Program} {w : World} {K : PySem.W.Frag} {mg : Str → Option Value} {base : Heap} {ec : Str → Addr} {used : List Str} {cP cM : Addr}
def spKind (ec : Str → Addr) (used : List Str) : Addr × Obj → List V → Hp → VK → Prop := fun p vs H Q => ∃ (nm : Str) (dd : Addr) (fs : List (Str × V)), nm ∈ used ∧ vs = [.ref p.1] ∧ L2N.Zn (.ref (ec nm)) (some dd) p.2 ∧ H dd = some (.xd fs) ∧
  fs.lookup ("word" : Str) = some (V.str (wordOf nm)) ∧ ∀ H', Same H H' → Q (.str (wordOf nm)) H'
def allW : Str := "badmark badletters badroom badarrow badword badsize badpattern badtable badtree badtext badname baddeed badpage taken full unlike notdear inuse toowide noarrow noname notraveller nothingleft"
theorem ok_kind {f : Addr} {fd : FuncData} {k : Nat} (F : Fun K "_law_kind" "_law_kind" sKind f fd) (T : Kd K mg ec used cP cM) (mi : mg "isinstance" = none) (mz : mg "zip" = none) : FnPin P w K mg base (k + 1) f fd ["_law_e"] (spKind ec used) := by
  refine okPin F scKind fun cdv A outer s H vs Q p hot hr h => ?_
  obtain ⟨nm, dd, fs, hnm, rfl, hz, hd, hwd, q⟩ := h
  have hu := T.us nm hnm
  have hf : ∃ vs, p.2.data = .fields vs := by
    obtain ⟨_, v, e, _⟩ := hot
    exact ⟨v, e⟩
  have C := T.er nm hnm
  have hpm : p ∈ (cxH CX0 P w K mg base NK "_law_kind" (defScope sKind) f cdv A outer s H E0 p).pn := List.mem_cons_self
  have hotX : Hot1 (cxH CX0 P w K mg base NK "_law_kind" (defScope sKind) f cdv A outer s H E0 p).A p := hot
  have ci := call_isP (X := cxH CX0 P w K mg base NK "_law_kind" (defScope sKind) f cdv A outer s H E0 p) C hpm hz.zc hf
  refine ⟨_, pss_cons (ps_set (i := 1) scKind.nd rfl (.inl rfl) (pe_lst (pa_cons (pe_callB ci (by rfl) mi (by decide +kernel) (pa_cons (pv 0) (pa_cons (pe_glob (v := .ref (ec "BadMark")) rfl (T.g "BadMark" (by decide +kernel)) rfl) pa_nil)))
      (pa_cons (pe_callB ci (by rfl) mi (by decide +kernel) (pa_cons (pv 0) (pa_cons (pe_glob (v := .ref (ec "BadLetters")) rfl (T.g "BadLetters" (by decide +kernel)) rfl) pa_nil)))
      (pa_cons (pe_callB ci (by rfl) mi (by decide +kernel) (pa_cons (pv 0) (pa_cons (pe_glob (v := .ref (ec "BadRoom")) rfl (T.g "BadRoom" (by decide +kernel)) rfl) pa_nil))) pa_nil)))))
    (pss_cons (ps_set (i := 1) scKind.nd rfl (.inl rfl) (pe_op op_cat (pv 1) (pe_lst (pa_cons (pe_callB ci (by rfl) mi (by decide +kernel) (pa_cons (pv 0) (pa_cons (pe_glob (v := .ref (ec "BadArrow")) rfl (T.g "BadArrow" (by decide +kernel)) rfl) pa_nil))) (pa_cons (pe_callB ci (by rfl) mi (by decide +kernel) (pa_cons (pv 0) (pa_cons (pe_glob (v := .ref (ec "BadWord")) rfl (T.g "BadWord" (by decide +kernel)) rfl) pa_nil))) (pa_cons (pe_callB ci (by rfl) mi (by decide +kernel) (pa_cons (pv 0) (pa_cons (pe_glob (v := .ref (ec "BadSize")) rfl (T.g "BadSize" (by decide +kernel)) rfl) pa_nil))) pa_nil))))))
    (pss_cons (ps_set (i := 1) scKind.nd rfl (.inl rfl) (pe_op op_cat (pv 1) (pe_lst (pa_cons (pe_callB ci (by rfl) mi (by decide +kernel) (pa_cons (pv 0) (pa_cons (pe_glob (v := .ref (ec "BadPattern")) rfl (T.g "BadPattern" (by decide +kernel)) rfl) pa_nil))) (pa_cons (pe_callB ci (by rfl) mi (by decide +kernel) (pa_cons (pv 0) (pa_cons (pe_glob (v := .ref (ec "BadTable")) rfl (T.g "BadTable" (by decide +kernel)) rfl) pa_nil))) (pa_cons (pe_callB ci (by rfl) mi (by decide +kernel) (pa_cons (pv 0) (pa_cons (pe_glob (v := .ref (ec "BadTree")) rfl (T.g "BadTree" (by decide +kernel)) rfl) pa_nil))) pa_nil))))))
    (pss_cons (ps_set (i := 1) scKind.nd rfl (.inl rfl) (pe_op op_cat (pv 1) (pe_lst (pa_cons (pe_callB ci (by rfl) mi (by decide +kernel) (pa_cons (pv 0) (pa_cons (pe_glob (v := .ref (ec "BadText")) rfl (T.g "BadText" (by decide +kernel)) rfl) pa_nil))) (pa_cons (pe_callB ci (by rfl) mi (by decide +kernel) (pa_cons (pv 0) (pa_cons (pe_glob (v := .ref (ec "BadName")) rfl (T.g "BadName" (by decide +kernel)) rfl) pa_nil))) (pa_cons (pe_callB ci (by rfl) mi (by decide +kernel) (pa_cons (pv 0) (pa_cons (pe_glob (v := .ref (ec "BadDeed")) rfl (T.g "BadDeed" (by decide +kernel)) rfl) pa_nil))) pa_nil))))))
    (pss_cons (ps_set (i := 1) scKind.nd rfl (.inl rfl) (pe_op op_cat (pv 1) (pe_lst (pa_cons (pe_callB ci (by rfl) mi (by decide +kernel) (pa_cons (pv 0) (pa_cons (pe_glob (v := .ref (ec "BadPage")) rfl (T.g "BadPage" (by decide +kernel)) rfl) pa_nil))) (pa_cons (pe_callB ci (by rfl) mi (by decide +kernel) (pa_cons (pv 0) (pa_cons (pe_glob (v := .ref (ec "Taken")) rfl (T.g "Taken" (by decide +kernel)) rfl) pa_nil))) (pa_cons (pe_callB ci (by rfl) mi (by decide +kernel) (pa_cons (pv 0) (pa_cons (pe_glob (v := .ref (ec "Full")) rfl (T.g "Full" (by decide +kernel)) rfl) pa_nil))) pa_nil))))))
    (pss_cons (ps_set (i := 1) scKind.nd rfl (.inl rfl) (pe_op op_cat (pv 1) (pe_lst (pa_cons (pe_callB ci (by rfl) mi (by decide +kernel) (pa_cons (pv 0) (pa_cons (pe_glob (v := .ref (ec "Unlike")) rfl (T.g "Unlike" (by decide +kernel)) rfl) pa_nil))) (pa_cons (pe_callB ci (by rfl) mi (by decide +kernel) (pa_cons (pv 0) (pa_cons (pe_glob (v := .ref (ec "NotDear")) rfl (T.g "NotDear" (by decide +kernel)) rfl) pa_nil))) (pa_cons (pe_callB ci (by rfl) mi (by decide +kernel) (pa_cons (pv 0) (pa_cons (pe_glob (v := .ref (ec "InUse")) rfl (T.g "InUse" (by decide +kernel)) rfl) pa_nil))) pa_nil))))))
    (pss_cons (ps_set (i := 1) scKind.nd rfl (.inl rfl) (pe_op op_cat (pv 1) (pe_lst (pa_cons (pe_callB ci (by rfl) mi (by decide +kernel) (pa_cons (pv 0) (pa_cons (pe_glob (v := .ref (ec "TooWide")) rfl (T.g "TooWide" (by decide +kernel)) rfl) pa_nil))) (pa_cons (pe_callB ci (by rfl) mi (by decide +kernel) (pa_cons (pv 0) (pa_cons (pe_glob (v := .ref (ec "NoArrow")) rfl (T.g "NoArrow" (by decide +kernel)) rfl) pa_nil))) (pa_cons (pe_callB ci (by rfl) mi (by decide +kernel) (pa_cons (pv 0) (pa_cons (pe_glob (v := .ref (ec "NoName")) rfl (T.g "NoName" (by decide +kernel)) rfl) pa_nil))) pa_nil))))))
    (pss_cons (ps_set (i := 1) scKind.nd rfl (.inl rfl) (pe_op op_cat (pv 1) (pe_lst (pa_cons (pe_callB ci (by rfl) mi (by decide +kernel) (pa_cons (pv 0) (pa_cons (pe_glob (v := .ref (ec "NoTraveller")) rfl (T.g "NoTraveller" (by decide +kernel)) rfl) pa_nil))) (pa_cons (pe_callB ci (by rfl) mi (by decide +kernel) (pa_cons (pv 0) (pa_cons (pe_glob (v := .ref (ec "NothingLeft")) rfl (T.g "NothingLeft" (by decide +kernel)) rfl) pa_nil))) pa_nil)))))
    (pss_cons (ps_set (i := 2) scKind.nd rfl (.inl rfl) pe_str)
    (pss_cons (ps_set (i := 2) scKind.nd rfl (.inl rfl) (pe_op op_add_str (pv 2) pe_str))
    (pss_cons (ps_set (i := 2) scKind.nd rfl (.inl rfl) (pe_op op_add_str (pv 2) pe_str))
    (pss_cons (ps_set (i := 3) scKind.nd rfl (.inl rfl) (pe_join pe_str (pe_lcH (own := [("_law_one", 4), ("_law_here", 5)]) (g := gTup K 2 (gCons (gName 4) (gCons (gName 5) gNil))) (te := tVar 4) hotX hpm scKind.nd
        (pi_zipH (by rfl) mz (pa_cons (pe_split (pv 2) pe_str) (pa_cons (pv 1) pa_nil)))
        (blkOk_by (own := [("_law_one", 4), ("_law_here", 5)]) (N := NK) (sc := defScope sKind) (by decide +kernel))
        (fun _ _ _ _ _ => pg_tupH (n := 2) (hotBlk hotX) (pgs_cons (pg_name (i := 4) scKind.nd rfl (.inl rfl) (.inr rfl)) (pgs_cons (pg_name (i := 5) scKind.nd rfl (.inl rfl) (.inr rfl)) pgs_nil)))
        (fun _ _ _ _ _ => pts_one (pt_val (pv 5))) (fun _ _ _ _ _ => pv 4))))
    (pss_one (ps_ret (pe_ifExp (pt_cmpR op_eq (pe_fldP C (T.wd nm hnm) hpm hz.zc hf (pv 0)) (pv 3) (nomark _)) (pv 3) (pe_op op_add_str (pv 3) pe_str))))))))))))))), ?_⟩
  have dz : ∀ {Hx : Hp}, Same H Hx → Hx dd = some (.xd fs) := fun e => e _ _ hd
  -- the flags
  refine ⟨_, rfl, ec "BadMark", _, fs, rfl, hd, T.kit hnm (by decide +kernel), _, rfl, ec "BadLetters", _, fs, rfl, hd, T.kit hnm (by decide +kernel), _, rfl, ec "BadRoom", _, fs, rfl, hd, T.kit hnm (by decide +kernel), (by decide : 3 ≤ sizeLine), fun l0 n0 => ?_⟩
  have s0 := same_upd (o := .lst [.bl (("BadMark" : Str) == nm), .bl (("BadLetters" : Str) == nm), .bl (("BadRoom" : Str) == nm)]) n0
  refine ⟨_, rfl, _, rfl, ec "BadArrow", _, fs, rfl, dz s0, T.kit hnm (by decide +kernel), _, rfl, ec "BadWord", _, fs, rfl, dz s0, T.kit hnm (by decide +kernel), _, rfl, ec "BadSize", _, fs, rfl, dz s0, T.kit hnm (by decide +kernel), (by decide : 3 ≤ sizeLine), fun m0 k0 => ?_⟩
  have u0 := s0.trans (same_upd (o := .lst [.bl (("BadArrow" : Str) == nm), .bl (("BadWord" : Str) == nm), .bl (("BadSize" : Str) == nm)]) k0)
  refine ⟨l0, m0, [.bl (("BadMark" : Str) == nm), .bl (("BadLetters" : Str) == nm), .bl (("BadRoom" : Str) == nm)], [.bl (("BadArrow" : Str) == nm), .bl (("BadWord" : Str) == nm), .bl (("BadSize" : Str) == nm)], rfl, rfl, Eq.trans (upd_ne (ne_of_none upd_same k0)) upd_same, upd_same, (by show 6 ≤ sizeLine; decide), fun l1 n1 => ?_⟩
  have s1 := u0.trans (same_upd (o := .lst [.bl (("BadMark" : Str) == nm), .bl (("BadLetters" : Str) == nm), .bl (("BadRoom" : Str) == nm), .bl (("BadArrow" : Str) == nm), .bl (("BadWord" : Str) == nm), .bl (("BadSize" : Str) == nm)]) n1)
  refine ⟨_, rfl, _, rfl, ec "BadPattern", _, fs, rfl, dz s1, T.kit hnm (by decide +kernel), _, rfl, ec "BadTable", _, fs, rfl, dz s1, T.kit hnm (by decide +kernel), _, rfl, ec "BadTree", _, fs, rfl, dz s1, T.kit hnm (by decide +kernel), (by decide : 3 ≤ sizeLine), fun m1 k1 => ?_⟩
  have u1 := s1.trans (same_upd (o := .lst [.bl (("BadPattern" : Str) == nm), .bl (("BadTable" : Str) == nm), .bl (("BadTree" : Str) == nm)]) k1)
  refine ⟨l1, m1, [.bl (("BadMark" : Str) == nm), .bl (("BadLetters" : Str) == nm), .bl (("BadRoom" : Str) == nm), .bl (("BadArrow" : Str) == nm), .bl (("BadWord" : Str) == nm), .bl (("BadSize" : Str) == nm)], [.bl (("BadPattern" : Str) == nm), .bl (("BadTable" : Str) == nm), .bl (("BadTree" : Str) == nm)], rfl, rfl, Eq.trans (upd_ne (ne_of_none upd_same k1)) upd_same, upd_same, (by show 9 ≤ sizeLine; decide), fun l2 n2 => ?_⟩
  have s2 := u1.trans (same_upd (o := .lst [.bl (("BadMark" : Str) == nm), .bl (("BadLetters" : Str) == nm), .bl (("BadRoom" : Str) == nm), .bl (("BadArrow" : Str) == nm), .bl (("BadWord" : Str) == nm), .bl (("BadSize" : Str) == nm), .bl (("BadPattern" : Str) == nm), .bl (("BadTable" : Str) == nm), .bl (("BadTree" : Str) == nm)]) n2)
  refine ⟨_, rfl, _, rfl, ec "BadText", _, fs, rfl, dz s2, T.kit hnm (by decide +kernel), _, rfl, ec "BadName", _, fs, rfl, dz s2, T.kit hnm (by decide +kernel), _, rfl, ec "BadDeed", _, fs, rfl, dz s2, T.kit hnm (by decide +kernel), (by decide : 3 ≤ sizeLine), fun m2 k2 => ?_⟩
  have u2 := s2.trans (same_upd (o := .lst [.bl (("BadText" : Str) == nm), .bl (("BadName" : Str) == nm), .bl (("BadDeed" : Str) == nm)]) k2)
  refine ⟨l2, m2, [.bl (("BadMark" : Str) == nm), .bl (("BadLetters" : Str) == nm), .bl (("BadRoom" : Str) == nm), .bl (("BadArrow" : Str) == nm), .bl (("BadWord" : Str) == nm), .bl (("BadSize" : Str) == nm), .bl (("BadPattern" : Str) == nm), .bl (("BadTable" : Str) == nm), .bl (("BadTree" : Str) == nm)], [.bl (("BadText" : Str) == nm), .bl (("BadName" : Str) == nm), .bl (("BadDeed" : Str) == nm)], rfl, rfl, Eq.trans (upd_ne (ne_of_none upd_same k2)) upd_same, upd_same, (by show 12 ≤ sizeLine; decide), fun l3 n3 => ?_⟩
  have s3 := u2.trans (same_upd (o := .lst [.bl (("BadMark" : Str) == nm), .bl (("BadLetters" : Str) == nm), .bl (("BadRoom" : Str) == nm), .bl (("BadArrow" : Str) == nm), .bl (("BadWord" : Str) == nm), .bl (("BadSize" : Str) == nm), .bl (("BadPattern" : Str) == nm), .bl (("BadTable" : Str) == nm), .bl (("BadTree" : Str) == nm), .bl (("BadText" : Str) == nm), .bl (("BadName" : Str) == nm), .bl (("BadDeed" : Str) == nm)]) n3)
  refine ⟨_, rfl, _, rfl, ec "BadPage", _, fs, rfl, dz s3, T.kit hnm (by decide +kernel), _, rfl, ec "Taken", _, fs, rfl, dz s3, T.kit hnm (by decide +kernel), _, rfl, ec "Full", _, fs, rfl, dz s3, T.kit hnm (by decide +kernel), (by decide : 3 ≤ sizeLine), fun m3 k3 => ?_⟩
  have u3 := s3.trans (same_upd (o := .lst [.bl (("BadPage" : Str) == nm), .bl (("Taken" : Str) == nm), .bl (("Full" : Str) == nm)]) k3)
  refine ⟨l3, m3, [.bl (("BadMark" : Str) == nm), .bl (("BadLetters" : Str) == nm), .bl (("BadRoom" : Str) == nm), .bl (("BadArrow" : Str) == nm), .bl (("BadWord" : Str) == nm), .bl (("BadSize" : Str) == nm), .bl (("BadPattern" : Str) == nm), .bl (("BadTable" : Str) == nm), .bl (("BadTree" : Str) == nm), .bl (("BadText" : Str) == nm), .bl (("BadName" : Str) == nm), .bl (("BadDeed" : Str) == nm)], [.bl (("BadPage" : Str) == nm), .bl (("Taken" : Str) == nm), .bl (("Full" : Str) == nm)], rfl, rfl, Eq.trans (upd_ne (ne_of_none upd_same k3)) upd_same, upd_same, (by show 15 ≤ sizeLine; decide), fun l4 n4 => ?_⟩
  have s4 := u3.trans (same_upd (o := .lst [.bl (("BadMark" : Str) == nm), .bl (("BadLetters" : Str) == nm), .bl (("BadRoom" : Str) == nm), .bl (("BadArrow" : Str) == nm), .bl (("BadWord" : Str) == nm), .bl (("BadSize" : Str) == nm), .bl (("BadPattern" : Str) == nm), .bl (("BadTable" : Str) == nm), .bl (("BadTree" : Str) == nm), .bl (("BadText" : Str) == nm), .bl (("BadName" : Str) == nm), .bl (("BadDeed" : Str) == nm), .bl (("BadPage" : Str) == nm), .bl (("Taken" : Str) == nm), .bl (("Full" : Str) == nm)]) n4)
  refine ⟨_, rfl, _, rfl, ec "Unlike", _, fs, rfl, dz s4, T.kit hnm (by decide +kernel), _, rfl, ec "NotDear", _, fs, rfl, dz s4, T.kit hnm (by decide +kernel), _, rfl, ec "InUse", _, fs, rfl, dz s4, T.kit hnm (by decide +kernel), (by decide : 3 ≤ sizeLine), fun m4 k4 => ?_⟩
  have u4 := s4.trans (same_upd (o := .lst [.bl (("Unlike" : Str) == nm), .bl (("NotDear" : Str) == nm), .bl (("InUse" : Str) == nm)]) k4)
  refine ⟨l4, m4, [.bl (("BadMark" : Str) == nm), .bl (("BadLetters" : Str) == nm), .bl (("BadRoom" : Str) == nm), .bl (("BadArrow" : Str) == nm), .bl (("BadWord" : Str) == nm), .bl (("BadSize" : Str) == nm), .bl (("BadPattern" : Str) == nm), .bl (("BadTable" : Str) == nm), .bl (("BadTree" : Str) == nm), .bl (("BadText" : Str) == nm), .bl (("BadName" : Str) == nm), .bl (("BadDeed" : Str) == nm), .bl (("BadPage" : Str) == nm), .bl (("Taken" : Str) == nm), .bl (("Full" : Str) == nm)], [.bl (("Unlike" : Str) == nm), .bl (("NotDear" : Str) == nm), .bl (("InUse" : Str) == nm)], rfl, rfl, Eq.trans (upd_ne (ne_of_none upd_same k4)) upd_same, upd_same, (by show 18 ≤ sizeLine; decide), fun l5 n5 => ?_⟩
  have s5 := u4.trans (same_upd (o := .lst [.bl (("BadMark" : Str) == nm), .bl (("BadLetters" : Str) == nm), .bl (("BadRoom" : Str) == nm), .bl (("BadArrow" : Str) == nm), .bl (("BadWord" : Str) == nm), .bl (("BadSize" : Str) == nm), .bl (("BadPattern" : Str) == nm), .bl (("BadTable" : Str) == nm), .bl (("BadTree" : Str) == nm), .bl (("BadText" : Str) == nm), .bl (("BadName" : Str) == nm), .bl (("BadDeed" : Str) == nm), .bl (("BadPage" : Str) == nm), .bl (("Taken" : Str) == nm), .bl (("Full" : Str) == nm), .bl (("Unlike" : Str) == nm), .bl (("NotDear" : Str) == nm), .bl (("InUse" : Str) == nm)]) n5)
  refine ⟨_, rfl, _, rfl, ec "TooWide", _, fs, rfl, dz s5, T.kit hnm (by decide +kernel), _, rfl, ec "NoArrow", _, fs, rfl, dz s5, T.kit hnm (by decide +kernel), _, rfl, ec "NoName", _, fs, rfl, dz s5, T.kit hnm (by decide +kernel), (by decide : 3 ≤ sizeLine), fun m5 k5 => ?_⟩
  have u5 := s5.trans (same_upd (o := .lst [.bl (("TooWide" : Str) == nm), .bl (("NoArrow" : Str) == nm), .bl (("NoName" : Str) == nm)]) k5)
  refine ⟨l5, m5, [.bl (("BadMark" : Str) == nm), .bl (("BadLetters" : Str) == nm), .bl (("BadRoom" : Str) == nm), .bl (("BadArrow" : Str) == nm), .bl (("BadWord" : Str) == nm), .bl (("BadSize" : Str) == nm), .bl (("BadPattern" : Str) == nm), .bl (("BadTable" : Str) == nm), .bl (("BadTree" : Str) == nm), .bl (("BadText" : Str) == nm), .bl (("BadName" : Str) == nm), .bl (("BadDeed" : Str) == nm), .bl (("BadPage" : Str) == nm), .bl (("Taken" : Str) == nm), .bl (("Full" : Str) == nm), .bl (("Unlike" : Str) == nm), .bl (("NotDear" : Str) == nm), .bl (("InUse" : Str) == nm)], [.bl (("TooWide" : Str) == nm), .bl (("NoArrow" : Str) == nm), .bl (("NoName" : Str) == nm)], rfl, rfl, Eq.trans (upd_ne (ne_of_none upd_same k5)) upd_same, upd_same, (by show 21 ≤ sizeLine; decide), fun l6 n6 => ?_⟩
  have s6 := u5.trans (same_upd (o := .lst [.bl (("BadMark" : Str) == nm), .bl (("BadLetters" : Str) == nm), .bl (("BadRoom" : Str) == nm), .bl (("BadArrow" : Str) == nm), .bl (("BadWord" : Str) == nm), .bl (("BadSize" : Str) == nm), .bl (("BadPattern" : Str) == nm), .bl (("BadTable" : Str) == nm), .bl (("BadTree" : Str) == nm), .bl (("BadText" : Str) == nm), .bl (("BadName" : Str) == nm), .bl (("BadDeed" : Str) == nm), .bl (("BadPage" : Str) == nm), .bl (("Taken" : Str) == nm), .bl (("Full" : Str) == nm), .bl (("Unlike" : Str) == nm), .bl (("NotDear" : Str) == nm), .bl (("InUse" : Str) == nm), .bl (("TooWide" : Str) == nm), .bl (("NoArrow" : Str) == nm), .bl (("NoName" : Str) == nm)]) n6)
  refine ⟨_, rfl, _, rfl, ec "NoTraveller", _, fs, rfl, dz s6, T.kit hnm (by decide +kernel), _, rfl, ec "NothingLeft", _, fs, rfl, dz s6, T.kit hnm (by decide +kernel), (by decide : 2 ≤ sizeLine), fun m6 k6 => ?_⟩
  have u6 := s6.trans (same_upd (o := .lst [.bl (("NoTraveller" : Str) == nm), .bl (("NothingLeft" : Str) == nm)]) k6)
  refine ⟨l6, m6, [.bl (("BadMark" : Str) == nm), .bl (("BadLetters" : Str) == nm), .bl (("BadRoom" : Str) == nm), .bl (("BadArrow" : Str) == nm), .bl (("BadWord" : Str) == nm), .bl (("BadSize" : Str) == nm), .bl (("BadPattern" : Str) == nm), .bl (("BadTable" : Str) == nm), .bl (("BadTree" : Str) == nm), .bl (("BadText" : Str) == nm), .bl (("BadName" : Str) == nm), .bl (("BadDeed" : Str) == nm), .bl (("BadPage" : Str) == nm), .bl (("Taken" : Str) == nm), .bl (("Full" : Str) == nm), .bl (("Unlike" : Str) == nm), .bl (("NotDear" : Str) == nm), .bl (("InUse" : Str) == nm), .bl (("TooWide" : Str) == nm), .bl (("NoArrow" : Str) == nm), .bl (("NoName" : Str) == nm)], [.bl (("NoTraveller" : Str) == nm), .bl (("NothingLeft" : Str) == nm)], rfl, rfl, Eq.trans (upd_ne (ne_of_none upd_same k6)) upd_same, upd_same, (by show 23 ≤ sizeLine; decide), fun l7 n7 => ?_⟩
  have s7 := u6.trans (same_upd (o := .lst [.bl (("BadMark" : Str) == nm), .bl (("BadLetters" : Str) == nm), .bl (("BadRoom" : Str) == nm), .bl (("BadArrow" : Str) == nm), .bl (("BadWord" : Str) == nm), .bl (("BadSize" : Str) == nm), .bl (("BadPattern" : Str) == nm), .bl (("BadTable" : Str) == nm), .bl (("BadTree" : Str) == nm), .bl (("BadText" : Str) == nm), .bl (("BadName" : Str) == nm), .bl (("BadDeed" : Str) == nm), .bl (("BadPage" : Str) == nm), .bl (("Taken" : Str) == nm), .bl (("Full" : Str) == nm), .bl (("Unlike" : Str) == nm), .bl (("NotDear" : Str) == nm), .bl (("InUse" : Str) == nm), .bl (("TooWide" : Str) == nm), .bl (("NoArrow" : Str) == nm), .bl (("NoName" : Str) == nm), .bl (("NoTraveller" : Str) == nm), .bl (("NothingLeft" : Str) == nm)]) n7)
  -- the words
  refine ⟨_, rfl, _, _, rfl, rfl, by decide +kernel, ?_⟩
  refine ⟨_, rfl, _, _, rfl, rfl, by decide +kernel, ?_⟩
  -- '+'.join([.. for .. in zip(words.split(' '), flags) if ..])
  refine ⟨⟨_, rfl⟩, _, rfl, ⟨_, rfl⟩, allW, " ", ?_, rfl, by decide +kernel, by decide +kernel, fun wl nwl => ?_⟩
  · exact congrArg V.str (by decide +kernel)
  have esp : Txt.split allW " " = errWords := by decide +kernel
  rw [esp]
  have sw := s7.trans (same_upd (o := .lst (errWords.map V.str)) nwl)
  have nlw : l7 ≠ wl := ne_of_none upd_same nwl
  refine ⟨_, rfl, wl, l7, errWords.map V.str, (errNames.map (· == nm)).map V.bl, rfl, SqL.of upd_same, SqL.of (by rw [upd_ne nlw, upd_same]; rfl), fun D nD => ?_⟩
  have nDw : wl ≠ D := ne_of_none upd_same nD
  have nDl : l7 ≠ D := by
    refine ne_of_none (o := .lst ((errNames.map (· == nm)).map V.bl)) ?_ nD
    rw [upd_ne nlw, upd_same]
    rfl
  refine lc_zip1 (xs := errWords.map V.str) (ys := (errNames.map (· == nm)).map V.bl) (by rw [List.length_map, List.length_map, List.length_map]; decide) (fun i H' => Same H H' ∧ H' wl = some (.lst (errWords.map V.str)) ∧ H' l7 = some (.lst ((errNames.map (· == nm)).map V.bl)) ∧ H D = none ∧
      H' D = some (.lst (((((errWords.zip (errNames.map (· == nm))).take i).filter (·.2)).map (·.1)).map V.str)))
    ⟨sw.trans (same_upd nD), by rw [upd_ne nDw, upd_same], by rw [upd_ne nDl, upd_ne nlw, upd_same]; rfl, sw.free nD, upd_same⟩ (fun i H' ⟨_, h1, h2, _⟩ => ⟨SqL.of h1, SqL.of h2⟩) ?_ ?_
  · rintro i x y t Hx hx hy ⟨sm, h1, h2, fD, h3⟩ nt
    obtain ⟨wi, ewi, rfl⟩ : ∃ wi, errWords[i]? = some wi ∧ x = .str wi := by
      rw [List.getElem?_map] at hx
      cases e : errWords[i]? with
      | none => rw [e] at hx; cases hx
      | some u => rw [e] at hx; exact ⟨u, rfl, (Option.some.inj hx).symm⟩
    obtain ⟨bi, ebi, rfl⟩ : ∃ bi, (errNames.map (· == nm))[i]? = some bi ∧ y = .bl bi := by
      rw [List.getElem?_map] at hy
      cases e : (errNames.map (· == nm))[i]? with
      | none => rw [e] at hy; cases hy
      | some u => rw [e] at hy; exact ⟨u, rfl, (Option.some.inj hy).symm⟩
    have ez : (errWords.zip (errNames.map (· == nm)))[i]? = some (wi, bi) := by
      rw [List.getElem?_zip_eq_some]
      exact ⟨ewi, ebi⟩
    have et : (errWords.zip (errNames.map (· == nm))).take (i + 1) = (errWords.zip (errNames.map (· == nm))).take i ++ [(wi, bi)] := by rw [List.take_add_one, ez]; rfl
    have st : Same Hx (upd Hx t (.tup [.str wi, .bl bi])) := same_upd nt
    refine ⟨t, _, rfl, SqT.of upd_same, rfl, _, _, rfl, _, _, rfl, rfl, rfl, _, rfl, bi, rfl, ?_⟩
    cases bi with
    | true =>
      rw [if_pos rfl]
      refine ⟨_, rfl, _, st _ _ h3, ?_, ?_⟩
      · rw [List.length_map, List.length_map]
        refine Nat.lt_of_le_of_lt (List.length_filter_le _ _) ?_
        rw [List.length_take]
        rw [List.length_zip]
        exact Nat.lt_of_le_of_lt (Nat.le_trans (Nat.min_le_right _ _) (Nat.min_le_left _ _)) (by decide +kernel)
      · refine ⟨fun b o e => ?_, ?_, ?_, fD, ?_⟩
        · rw [upd_ne (ne_of_none e fD)]
          exact st _ _ (sm _ _ e)
        · rw [upd_ne nDw]
          exact st _ _ h1
        · rw [upd_ne nDl]
          exact st _ _ h2
        · rw [upd_same, et, List.filter_append, List.map_append, List.map_append]
          rfl
    | false =>
      rw [if_neg (by decide)]
      refine ⟨sm.trans st, st _ _ h1, st _ _ h2, fD, ?_⟩
      rw [et, List.filter_append, show List.filter (fun x : Str × Bool => x.2) [(wi, false)] = [] from rfl, List.append_nil]
      exact st _ _ h3
  · rintro Hx ⟨sm, h1, h2, fD, h3⟩
    have ep : ((((errWords.zip (errNames.map (· == nm))).take (errWords.map V.str).length).filter (·.2)).map (·.1)) = [wordOf nm] := by
      rw [List.take_of_length_le (by rw [List.length_map, List.length_zip]; omega)]
      exact pick_one nm hu
    rw [ep] at h3
    refine ⟨_, D, [wordOf nm], rfl, rfl, .inl (SqL.of h3), ?_, ?_⟩
    · show (wordOf nm).length + 0 + 1 * 1 ≤ 16777216
      have := word_len nm hu
      omega
    · rw [join_one nm hu]
      refine ⟨_, rfl, rfl, fs, _, sm _ _ hd, hwd, _, rfl, rfl, _, rfl, ?_⟩
      rw [decide_eq_true rfl]
      exact iteT ⟨_, rfl, q _ sm⟩
end
end Onp
set_option maxHeartbeats 8000000
set_option autoImplicit false
namespace Onp
open PySem PySem.Spec PyProof.Rows L2 HotX L2H LamX
def NT : List Str := ["_law_ask", "_law_e"]
theorem scTold : FnScope NT ["_law_ask"] (defScope sTold) := ⟨rfl, rfl, rfl, by decide +kernel, rfl, by decide +kernel, by decide +kernel⟩
/-- what is told of a refusal besides its word -/
def secV (nm : Str) (fs : List (Str × V)) : V := if nm = "TooWide" then (fs.lookup ("most" : Str)).getD .non else .non
def Eh (ec : Str → Addr) (used : List Str) (Q : VK) : XK := fun cls d H' => ∃ (nm : Str) (dd : Addr) (fs : List (Str × V)), nm ∈ used ∧ cls = .ref (ec nm) ∧ d = some dd ∧ H' dd = some (.xd fs) ∧ fs.lookup ("word" : Str) = some (V.str (wordOf nm)) ∧
  (nm = "TooWide" → ∃ v, fs.lookup ("most" : Str) = some v) ∧ ∀ H'' p, Same H' H'' → H'' p = none → Q (.ref p) (upd H'' p (.tup [.str (wordOf nm), secV nm fs]))
def TTold (ec : Str → Addr) (used : List Str) : (XK → Hp → VK → Prop) → Hp → VK → Prop := fun tl H Q => tl (Eh ec used Q) H (fun v H' => ∀ p, H' p = none → Q (.ref p) (upd H' p (.tup [.str "told", v])))
/-- a clause's suite -/
def tsE (ec : Str → Addr) (used : List Str) (ok : Str → Prop) : Addr → Value → Option Addr → TS := fun a cls d D σ H => ∃ (nm : Str) (dd : Addr) (fs : List (Str × V)), ok nm ∧ nm ∈ used ∧ cls = .ref (ec nm) ∧ d = some dd ∧ σ[1]? = some (some (.ref a)) ∧ H dd = some (.xd fs) ∧ fs.lookup ("word" : Str) = some (V.str (wordOf nm)) ∧
  (nm = "TooWide" → ∃ v, fs.lookup ("most" : Str) = some v) ∧ ∀ H'' p, Same H H'' → H'' p = none → D.rt (.ref p) (upd H'' p (.tup [.str (wordOf nm), secV nm fs]))
section
variable {X : Cx} {ec : Str → Addr} {used : List Str} {cP cM : Addr}
abbrev toldX (X : Cx) (g : Addr) (cdg : Value) (s : Shared) (H : Hp) : Cx := (cxOf CX0 X.prog X.w X.K X.mg X.base NT "_law_told" (defScope sTold) g cdg X.A X.stack s H E0).nox
theorem suite_none {k : Nat} {g fK : Addr} {cdg : Value} {fdK : FuncData} {s : Shared} {H : Hp} {a : Addr} {oe : Obj} {cls : Value} {d : Option Addr} {pn : List (Addr × Obj)} {p1 p2 p3 p4 p5 p6 : Pos} (GK : FnPin X.prog X.w X.K X.mg X.base (k + 1) fK fdK ["_law_e"] (spKind ec used)) (hr : Room (k + 1) (X.A.deeper (envOfC "_law_told" (defScope sTold) s.heap.objs.size g cdg)))
    (FK : Fun X.K "_law_kind" "_law_kind" sKind fK fdK) (bK : Binds X.K fdK ["_law_e"] []) (gK : X.mg "_law_kind" = some (.ref fK)) (hz : L2N.Zn cls d oe) (hf : ∃ vs, oe.data = .fields vs) :
    PSs ((toldX X g cdg s H).suite a ((a, oe) :: pn)) [.Return (some (.Tuple [.Call (.Name "_law_kind" p1) [.Name "_law_e" p2] [] p3, .Constant .none 0 p4] 0 p5)) p6] (tsE ec used (fun nm => nm ≠ "TooWide") a cls d) := by
  refine ⟨fun pins s' σ H' D I h' => ?_⟩
  obtain ⟨nm, dd, fs, ho, hu, rfl, rfl, h1, h2, h3, h4, h5⟩ := h'
  obtain ⟨vs, hv⟩ := hf
  have hot : Hot1 ((toldX X g cdg s H).suite a ((a, oe) :: pn)).A (a, oe) := ⟨rfl, vs, hv, hz.2.2 vs hv⟩
  have hrun : PSs ((toldX X g cdg s H).suite a ((a, oe) :: pn)) [.Return (some (.Tuple [.Call (.Name "_law_kind" p1) [.Name "_law_e" p2] [] p3, .Constant .none 0 p4] 0 p5)) p6] _ :=
    pss_one (ps_ret (pe_tup (pa_cons (pe_callPin (p := (a, oe)) GK ⟨hr.dp, hr.un⟩ hot List.mem_cons_self (by rfl) gK FK.kp bK (pa_cons (pv 1) pa_nil)) (pa_cons pe_non pa_nil))))
  refine hrun.run pins s' σ H' D I ⟨_, h1, rfl, nm, dd, fs, hu, rfl, hz, h2, h3, fun H2 sm => ⟨(by decide : 2 ≤ sizeLine), fun p np => ?_⟩⟩
  have e := h5 H2 p sm np
  unfold secV at e
  rw [if_neg ho] at e
  exact e
theorem suite_most {k : Nat} {g fK : Addr} {cdg : Value} {fdK : FuncData} {s : Shared} {H : Hp} {a : Addr} {oe : Obj} {cls : Value} {d : Option Addr} {pn : List (Addr × Obj)} {p1 p2 p3 p4 p5 p6 p7 : Pos} (GK : FnPin X.prog X.w X.K X.mg X.base (k + 1) fK fdK ["_law_e"] (spKind ec used)) (hr : Room (k + 1) (X.A.deeper (envOfC "_law_told" (defScope sTold) s.heap.objs.size g cdg)))
    (FK : Fun X.K "_law_kind" "_law_kind" sKind fK fdK) (bK : Binds X.K fdK ["_law_e"] []) (gK : X.mg "_law_kind" = some (.ref fK)) (T : Kd X.K X.mg ec used cP cM) (mo : ("TooWide" : Str) ∈ used → PySem.W.findIn X.K (.ref (ec "TooWide")) "most" = some none) (hz : L2N.Zn cls d oe) (hf : ∃ vs, oe.data = .fields vs) :
    PSs ((toldX X g cdg s H).suite a ((a, oe) :: pn)) [.Return (some (.Tuple [.Call (.Name "_law_kind" p1) [.Name "_law_e" p2] [] p3, .Attribute (.Name "_law_e" p4) "most" p5] 0 p6)) p7] (tsE ec used (fun nm => nm = "TooWide") a cls d) := by
  refine ⟨fun pins s' σ H' D I h' => ?_⟩
  obtain ⟨nm, dd, fs, ho, hu, rfl, rfl, h1, h2, h3, h4, h5⟩ := h'
  obtain ⟨vs, hv⟩ := hf
  subst ho
  obtain ⟨v, ev⟩ := h4 rfl
  have hot : Hot1 ((toldX X g cdg s H).suite a ((a, oe) :: pn)).A (a, oe) := ⟨rfl, vs, hv, hz.2.2 vs hv⟩
  have hrun : PSs ((toldX X g cdg s H).suite a ((a, oe) :: pn)) [.Return (some (.Tuple [.Call (.Name "_law_kind" p1) [.Name "_law_e" p2] [] p3, .Attribute (.Name "_law_e" p4) "most" p5] 0 p6)) p7] _ :=
    pss_one (ps_ret (pe_tup (pa_cons (pe_callPin (p := (a, oe)) GK ⟨hr.dp, hr.un⟩ hot List.mem_cons_self (by rfl) gK FK.kp bK (pa_cons (pv 1) pa_nil)) (pa_cons (pe_fldP (p := (a, oe)) (T.er _ hu) (mo hu) List.mem_cons_self hz.zc ⟨vs, hv⟩ (pv 1)) pa_nil))))
  refine hrun.run pins s' σ H' D I ⟨_, h1, rfl, "TooWide", dd, fs, hu, rfl, hz, h2, h3, fun H2 sm => ⟨_, h1, rfl, fs, v, sm _ _ h2, ev, (by decide : 2 ≤ sizeLine), fun p np => ?_⟩⟩
  have e := h5 H2 p sm np
  unfold secV at e
  rw [if_pos rfl, ev] at e
  exact e
theorem body_told {g f c' : Addr} {cdg : Value} {s : Shared} {H : Hp} {q : Str} {W : WX} {pn : List (Addr × Obj)} {xe : Value → Shared → Prop} {tl : XK → Hp → VK → Prop} {p0 p1 p2 p3 p4 : Pos}
    (act : ∀ (E : XK), (∀ cls d σ' H', E cls d H' → W cls d σ' H') → PE ((toldX X g cdg s H).tr pn xe) (.Call (.Name "_law_ask" p1) [] [] p2) (fun σZ HZ Q => σZ[0]? = some (some (.ref f)) ∧ HZ c' = some (CodeO c' q) ∧ tl E HZ Q)) :
    PSs ((toldX X g cdg s H).tr pn xe) [.Return (some (.Tuple [.Constant (.str "told") 0 p0, .Call (.Name "_law_ask" p1) [] [] p2] 0 p3)) p4]
      (fun D σ H => ∃ Ech : XK, (∀ cls d σ' H', Ech cls d H' → W cls d σ' H') ∧ σ[0]? = some (some (.ref f)) ∧ H c' = some (CodeO c' q) ∧ tl Ech H (fun v H' => (2 : Nat) ≤ sizeLine ∧ ∀ p, H' p = none → D.rt (.ref p) (upd H' p (.tup [.str "told", v])))) := by
  refine ⟨fun pins s' σ H' D I h' => ?_⟩
  obtain ⟨Ech, hW, h1, h2, h3⟩ := h'
  have hrun : PSs ((toldX X g cdg s H).tr pn xe) [.Return (some (.Tuple [.Constant (.str "told") 0 p0, .Call (.Name "_law_ask" p1) [] [] p2] 0 p3)) p4] _ := pss_one (ps_ret (pe_tup (pa_cons pe_str (pa_cons (act Ech hW) pa_nil))))
  exact hrun.run pins s' σ H' D I ⟨h1, h2, h3⟩
theorem told_gives {k : Nat} {g fK : Addr} {cdg : Value} {fdK : FuncData} {q : Str} (T : Kd X.K X.mg ec used cP cM) (nb : ("BadText" : Str) ∉ used ∧ ("BadPage" : Str) ∉ used) (mo : ("TooWide" : Str) ∈ used → PySem.W.findIn X.K (.ref (ec "TooWide")) "most" = some none)
    (FK : Fun X.K "_law_kind" "_law_kind" sKind fK fdK) (bK : Binds X.K fdK ["_law_e"] []) (gK : X.mg "_law_kind" = some (.ref fK)) (mi : X.mg "isinstance" = none) (mz : X.mg "zip" = none) :
    GivesN X k NT "_law_told" (defScope sTold) g cdg (defBody sTold) "_law_ask" q (TTold ec used) := by
  intro f c' s H Q tl hr act hc h
  have GK : FnPin X.prog X.w X.K X.mg X.base (k + 1) fK fdK ["_law_e"] (spKind ec used) := ok_kind FK T mi mz
  refine ⟨_, pss_one (ps_try_clauses (X := toldX X g cdg s H) (n := "_law_e") (i := 1) (Wout := fun _ _ _ _ => False)
      (tb := fun W D σ H => ∃ Ech : XK, (∀ cls d σ' H', Ech cls d H' → W cls d σ' H') ∧ σ[0]? = some (some (.ref f)) ∧ H c' = some (CodeO c' q) ∧ tl Ech H (fun v H' => (2 : Nat) ≤ sizeLine ∧ ∀ p, H' p = none → D.rt (.ref p) (upd H' p (.tup [.str "told", v]))))
      (l := [(fun cls => PySem.W.exmOne X.K cls (.ref (ec "BadText")), fun _ _ _ => tNever), (fun cls => PySem.W.exmOne X.K cls (.ref (ec "BadPage")), fun _ _ _ => tNever), (fun cls => PySem.W.exmOne X.K cls (.ref (ec "TooWide")), tsE ec used (fun nm => nm = "TooWide")),
        (fun cls => PySem.W.exmAny X.K cls [.ref cP, .ref cM, .ref (ec "NothingLeft")], tsE ec used (fun nm => nm ≠ "TooWide"))])
      rfl rfl scTold.nd rfl rfl takes0N (fun W pn xe tk _ => body_told fun E hW => act W pn xe E _ _ tk hW)
      (.cons (test_name rfl (by decide) (T.g "BadText" (by decide +kernel))) (fun _ _ _ _ _ _ _ => pss_never)
      (.cons (test_name rfl (by decide) (T.g "BadPage" (by decide +kernel))) (fun _ _ _ _ _ _ _ => pss_never)
      (.cons (test_name rfl (by decide) (T.g "TooWide" (by decide +kernel))) (fun a oe cls d pn hz hf => suite_most GK hr FK bK gK T mo hz hf)
      (.cons (test_three rfl rfl rfl (by decide) (by decide) (by decide) T.gP T.gM (T.g "NothingLeft" (by decide +kernel))) (fun a oe cls d pn hz hf => suite_none GK hr FK bK gK hz hf) .nil))))), ?_⟩
  have e : (fun (v : V) (H' : Hp) => (2 : Nat) ≤ sizeLine ∧ ∀ p, H' p = none → Q (.ref p) (upd H' p (.tup [.str "told", v]))) = (fun v H' => ∀ p, H' p = none → Q (.ref p) (upd H' p (.tup [.str "told", v]))) := by
    funext v H'
    exact propext ⟨fun z => z.2, fun z => ⟨by decide, z⟩⟩
  refine ⟨Eh ec used Q, fun cls d σ' H' hE hlen => ?_, rfl, hc, by rw [e]; exact h⟩
  obtain ⟨nm, dd, fs, hu, rfl, rfl, h2, h3, h4, h5⟩ := hE
  have n1 : (("BadText" : Str) == nm) = false := beq_eq_false_iff_ne.mpr fun e => nb.1 (e ▸ hu)
  have n2 : (("BadPage" : Str) == nm) = false := beq_eq_false_iff_ne.mpr fun e => nb.2 (e ▸ hu)
  have x1 := T.exm hu (y := "BadText") (by decide +kernel) (by decide +kernel)
  have x2 := T.exm hu (y := "BadPage") (by decide +kernel) (by decide +kernel)
  have x3 := T.exm hu (y := "TooWide") (by decide +kernel) (by decide +kernel)
  rw [n1] at x1
  rw [n2] at x2
  have sl : ∀ (z : V), (σ'.set 1 (some z))[1]? = some (some z) := fun z => by
    have hl : σ'.length = 2 := hlen
    rw [List.getElem?_set_self (by omega)]
  refine ⟨false, x1, fun z => Bool.noConfusion z, fun _ => ⟨false, x2, fun z => Bool.noConfusion z, fun _ => ⟨_, x3, fun e a na => ?_, fun e => ⟨true, T.any nm hu, fun _ a na => ?_, fun z => Bool.noConfusion z⟩⟩⟩⟩
  · exact ⟨nm, dd, fs, (beq_iff_eq.mp e).symm, hu, rfl, rfl, sl _, h2, h3, h4, h5⟩
  · have ee : nm ≠ "TooWide" := fun z => by
      rw [z, beq_self_eq_true] at e
      exact Bool.noConfusion e
    exact ⟨nm, dd, fs, ee, hu, rfl, rfl, sl _, h2, h3, h4, h5⟩
end
end Onp
set_option maxHeartbeats 8000000
set_option autoImplicit false
namespace Onp
open PySem PySem.Spec PyProof.Rows L2
abbrev sSame : Stmt := topS 53
/-! ### data -/
def Lvl : Nat → PyData → Prop
  | _, .none => True
  | _, .bool _ => True
  | _, .int _ => True
  | _, .str _ => True
  | n + 1, .list ds => ds.length ≤ 1000 ∧ ∀ d ∈ ds, Lvl n d
  | n + 1, .tuple ds => ds.length ≤ 1000 ∧ ∀ d ∈ ds, Lvl n d
  | _, _ => False
mutual
theorem dpSame {K : PySem.W.Frag} {H H' : Hp} (e : Same H H') : ∀ {v : V} {d : PyData}, Dp K H v d → Dp K H' v d
  | _, _, .non => .non
  | _, _, .bl b => .bl b
  | _, _, .int i => .int i
  | _, _, .str x => .str x
  | _, _, .lst h a => .lst (e.seq h) (dpAllSame e a)
  | _, _, .tup h a => .tup (same_seqT e h) (dpAllSame e a)
theorem dpAllSame {K : PySem.W.Frag} {H H' : Hp} (e : Same H H') : ∀ {vs : List V} {ds : List PyData}, DpAll K H vs ds → DpAll K H' vs ds
  | _, _, .nil => .nil
  | _, _, .cons a b => .cons (dpSame e a) (dpAllSame e b)
end
theorem dpLen {K : PySem.W.Frag} {H : Hp} : ∀ {vs : List V} {ds : List PyData}, DpAll K H vs ds → vs.length = ds.length
  | _, _, .nil => rfl
  | _, _, .cons _ b => by rw [List.length_cons, List.length_cons, dpLen b]
theorem dpAt {K : PySem.W.Frag} {H : Hp} : ∀ {vs : List V} {ds : List PyData} {i : Nat} {v : V}, DpAll K H vs ds → vs[i]? = some v → ∃ d, ds[i]? = some d ∧ Dp K H v d
  | _, _, _, _, .nil, h => by simp at h
  | _, _, 0, _, .cons a _, h => by simp at h; subst h; exact ⟨_, rfl, a⟩
  | _, _, i + 1, _, .cons _ b, h => by
    obtain ⟨d, h1, h2⟩ := dpAt (i := i) b (by simpa using h)
    exact ⟨d, by simpa using h1, h2⟩
theorem tyL {K : PySem.W.Frag} {H : Hp} {a : Addr} {xs : List V} (h : SqL K H a xs) : TyX K H (.ref a) (.type "list") := by
  rcases h with (h | ⟨o, h⟩) | ⟨o, its, n, h, c, _⟩
  · exact .base (.lst h)
  · exact .base (.frz h)
  · exact .kList h c
theorem tyT {K : PySem.W.Frag} {H : Hp} {a : Addr} {xs : List V} (h : SqT K H a xs) : TyX K H (.ref a) (.type "tuple") := by
  rcases h with (h | ⟨o, h⟩) | ⟨o, its, n, h, c, _⟩
  · exact .base (.tup h)
  · exact .fTuple h
  · exact .kTuple h c
theorem kitAny2 {K : PySem.W.Frag} {t c1 c2 : Value} {b1 b2 : Bool} (h1 : PySem.W.kitOne K t c1 = some b1) (h2 : PySem.W.kitOne K t c2 = some b2) : PySem.W.kitAny K t [c1, c2] = some (b1 || b2) := by
  unfold PySem.W.kitAny
  rw [h1]
  cases b1 with
  | true => rfl
  | false =>
    show PySem.W.kitAny K t [c2] = _
    unfold PySem.W.kitAny
    rw [h2]
    cases b2 <;> rfl
theorem qT {Q : VK} {H : Hp} {c : Prop} [Decidable c] (hc : c) (h : Q (.bl true) H) : Q (.bl (decide c)) H := by
  rw [decide_eq_true hc]
  exact h
theorem qB {Q : VK} {H : Hp} {b : Bool} (hb : b = true) (h : Q (.bl true) H) : Q (.bl b) H := by
  rw [hb]
  exact h
theorem pe_no {X : Cx} {e : Expr} : PE X e (fun _ _ _ => False) := ⟨fun _ _ _ _ _ _ h => h.elim⟩
/-! ### a comprehension over zip of two of one length -/
def ItzG (S : Hp → Addr → List V → Prop) (a b : Addr) : It :=
  ⟨fun i H => ∃ (xs ys : List V) (x y : V), S H a xs ∧ S H b ys ∧ xs[i]? = some x ∧ ys[i]? = some y,
    fun i H v H' => ∃ T x y, v = .ref T ∧ H T = none ∧ H' = upd H T (.tup [x, y]) ∧ (∀ xs, S H a xs → xs[i]? = some x) ∧ ∀ ys, S H b ys → ys[i]? = some y,
    fun i H => ∃ xs ys : List V, S H a xs ∧ S H b ys ∧ (xs.length ≤ i ∨ ys.length ≤ i)⟩
theorem lc_zipG {S : Hp → Addr → List V → Prop} {a b : Addr} {xs ys : List V} {g : TG} {tt : TT} {te : TE} {vs : List Nat} {σ : L2.St} {H1 : Hp} {D : Addr} {Qd : Hp → Prop} (hl : xs.length = ys.length) (Pv : Nat → Hp → Prop) (h0 : Pv 0 (upd H1 D (.lst []))) (hq : ∀ i H, Pv i H → S H a xs ∧ S H b ys)
    (hs : ∀ i x y T H, xs[i]? = some x → ys[i]? = some y → Pv i H → H T = none → g (.ref T) (wipe σ vs) (upd H T (.tup [x, y])) fun σ2 H2 => wipe σ2 vs = wipe σ vs ∧ tt σ2 H2 fun b H3 =>
      if b = true then te σ2 H3 fun y H4 => ∃ acc, H4 D = some (.lst acc) ∧ acc.length < sizeLine ∧ Pv (i + 1) (upd H4 D (.lst (acc ++ [y]))) else Pv (i + 1) H3) (hd : ∀ H, Pv xs.length H → Qd H) :
    ∃ W : Nat → Nat → Hp → Prop, (∃ m, W 0 m (upd H1 D (.lst []))) ∧ ∀ i m H, W i m H → ((ItzG S a b).stop i H ∧ Qd H) ∨ ((ItzG S a b).go i H ∧ ∃ Nx : Hp → Prop, (∀ H', Nx H' → ∃ m', m' < m ∧ W (i + 1) m' H') ∧
      ∀ x H', (ItzG S a b).yld i H x H' → g x (wipe σ vs) H' fun σ2 H2 => wipe σ2 vs = wipe σ vs ∧ tt σ2 H2 fun b H3 => if b = true then te σ2 H3 fun y H4 => ∃ acc, H4 D = some (.lst acc) ∧ acc.length < sizeLine ∧ Nx (upd H4 D (.lst (acc ++ [y]))) else Nx H3) := by
  refine ⟨fun i m H => m = xs.length - i ∧ i ≤ xs.length ∧ Pv i H, ⟨xs.length, by simp, Nat.zero_le _, h0⟩, fun i m H ⟨em, hi, p⟩ => ?_⟩
  obtain ⟨qa, qb⟩ := hq i H p
  by_cases lt : i < xs.length
  · have lt2 : i < ys.length := by omega
    refine .inr ⟨⟨xs, ys, xs[i], ys[i], qa, qb, List.getElem?_eq_getElem lt, List.getElem?_eq_getElem lt2⟩, Pv (i + 1), fun H' p' => ⟨xs.length - (i + 1), by omega, rfl, lt, p'⟩, fun x H' hy => ?_⟩
    obtain ⟨T, x1, x2, rfl, nT, rfl, e1, e2⟩ := hy
    exact hs i x1 x2 T H (e1 _ qa) (e2 _ qb) p nT
  · have e : i = xs.length := by omega
    subst e
    exact .inl ⟨⟨xs, ys, qa, qb, .inl (Nat.le_refl _)⟩, hd H p⟩
def NS : List Str := ["_law_found", "_law_due", "_law_a", "_law_b"]
theorem scSame : FnScope NS ["_law_found", "_law_due"] (defScope sSame) := ⟨rfl, rfl, rfl, by decide +kernel, rfl, by decide +kernel, by decide +kernel⟩
def spSame (K : PySem.W.Frag) (n : Nat) : Sp := fun vs H Q _ => ∃ (x y : V) (d : PyData), vs = [x, y] ∧ Dp K H x d ∧ Dp K H y d ∧ Lvl n d ∧ ∀ H', Same H H' → Q (.bl true) H'
structure Blt (mg : Str → Option Value) : Prop where
  isi : mg "isinstance" = none
  list : mg "list" = none
  tuple : mg "tuple" = none
  bool : mg "bool" = none
  int : mg "int" = none
  str : mg "str" = none
  len : mg "len" = none
  all : mg "all" = none
  zip : mg "zip" = none
section
variable {P : Program} {w : World} {K : PySem.W.Frag} {mg : Str → Option Value} {base : Heap}
theorem ok_same {f : Addr} {fd : FuncData} (F : Fun K "_law_same" "_law_same" sSame f fd) (bS : Binds K fd ["_law_found", "_law_due"] []) (gS : mg "_law_same" = some (.ref f)) (B : Blt mg) : ∀ (n k : Nat), FnOk P w K mg base CX0 (k + n + 1) f fd ["_law_found", "_law_due"] (spSame K n) := by
  intro n
  induction n with
  | zero =>
    intro k
    refine F.ok scSame (fun vs H Q E h => ?_) (fun cdv A outer s H vs Q E hr h => ?_)
    · obtain ⟨x, y, d, rfl, _⟩ := h
      rfl
    · obtain ⟨x, y, d, rfl, hx, hy, hl, q⟩ := h
      refine ⟨_, pss_cons (ps_if (pt_val (pe_callB call_isiT (by rfl) B.isi (by decide +kernel) (pa_cons (pv 1) (pa_cons (pe_tup (pa_cons (pe_bltn (v := .ty "list") (by rfl) B.list (by decide +kernel) rfl) (pa_cons (pe_bltn (v := .ty "tuple") (by rfl) B.tuple (by decide +kernel) rfl) pa_nil))) pa_nil)))) pss_never pss_nil)
      (pss_cons (ps_if (PW.pt (pw_or (pt_cmp (pc_isN (pv 1))) (pw_or1 (pt_cmp (pc_isN (pv 0)))))) (pss_one (ps_ret (pe_and (pe_cmp (pc_isN (pv 0)) rfl) (pe_one (pe_cmp (pc_isN (pv 1)) rfl))))) pss_nil)
      (pss_cons (ps_if (PW.pt (pw_or (pt_cmpR op_ne (pe_callB call_isi (by rfl) B.isi (by decide +kernel) (pa_cons (pv 0) (pa_cons (pe_bltn (v := .ty "bool") (by rfl) B.bool (by decide +kernel) rfl) pa_nil))) (pe_callB call_isi (by rfl) B.isi (by decide +kernel) (pa_cons (pv 1) (pa_cons (pe_bltn (v := .ty "bool") (by rfl) B.bool (by decide +kernel) rfl) pa_nil))) (nomark _)) (pw_or1 (pt_cmpR op_ne (pe_callB call_isi (by rfl) B.isi (by decide +kernel) (pa_cons (pv 0) (pa_cons (pe_bltn (v := .ty "int") (by rfl) B.int (by decide +kernel) rfl) pa_nil))) (pe_callB call_isi (by rfl) B.isi (by decide +kernel) (pa_cons (pv 1) (pa_cons (pe_bltn (v := .ty "int") (by rfl) B.int (by decide +kernel) rfl) pa_nil))) (nomark _))))) pss_never pss_nil)
      (pss_one (ps_ret (pe_and (pe_cmpR op_eq (pe_callB call_isi (by rfl) B.isi (by decide +kernel) (pa_cons (pv 0) (pa_cons (pe_bltn (v := .ty "str") (by rfl) B.str (by decide +kernel) rfl) pa_nil))) (pe_callB call_isi (by rfl) B.isi (by decide +kernel) (pa_cons (pv 1) (pa_cons (pe_bltn (v := .ty "str") (by rfl) B.str (by decide +kernel) rfl) pa_nil))) (nomark _)) (pe_one (pe_cmpR op_eq (pv 0) (pv 1) (nomark _)))))))), ?_⟩
      cases hx with
      | lst h a => exact hl.elim
      | tup h a => exact hl.elim
      | non =>
        cases hy
        refine ⟨_, rfl, (by decide : 2 ≤ sizeLine), fun tp ntp => ?_⟩
        have s1 := same_upd (o := .tup [.ty "list", .ty "tuple"]) ntp
        refine ⟨.non, tp, _, _, _, _, rfl, upd_same, .cons (.ty _) (.cons (.ty _) .nil), .base .non, kitAny2 (b1 := false) (b2 := false) (kit_ty (by decide +kernel)) (kit_ty (by decide +kernel)), _, rfl, iteF ?_⟩
        refine ⟨_, rfl, _, rfl, itT rfl (iteT ?_)⟩
        refine ⟨_, rfl, _, rfl, itT rfl ⟨_, rfl, ?_⟩⟩
        exact qT (Q := Q) rfl (q _ s1)
      | bl b =>
        cases hy
        refine ⟨_, rfl, (by decide : 2 ≤ sizeLine), fun tp ntp => ?_⟩
        have s1 := same_upd (o := .tup [.ty "list", .ty "tuple"]) ntp
        refine ⟨(.bl b), tp, _, _, _, _, rfl, upd_same, .cons (.ty _) (.cons (.ty _) .nil), .base (.bl _), kitAny2 (b1 := false) (b2 := false) (kit_ty (by decide +kernel)) (kit_ty (by decide +kernel)), _, rfl, iteF ?_⟩
        refine ⟨_, rfl, _, rfl, itF (fun h => nomatch h) ⟨_, rfl, _, rfl, itF (fun h => nomatch h) ?_⟩⟩
        refine ⟨_, rfl, (.bl b), .ty "bool", .type "bool", .type "bool", true, rfl, .ty _, .base (.bl _), kit_ty (by decide +kernel), _, rfl, (.bl b), .ty "bool", .type "bool", .type "bool", true, rfl, .ty _, .base (.bl _), kit_ty (by decide +kernel), rfl, _, rfl, iteNS rfl ⟨_, rfl, (.bl b), .ty "int", .type "bool", .type "int", true, rfl, .ty _, .base (.bl _), kit_ty (by decide +kernel), _, rfl, (.bl b), .ty "int", .type "bool", .type "int", true, rfl, .ty _, .base (.bl _), kit_ty (by decide +kernel), rfl, _, rfl, iteNS rfl ?_⟩⟩
        refine ⟨_, rfl, (.bl b), .ty "str", .type "bool", .type "str", false, rfl, .ty _, .base (.bl _), kit_ty (by decide +kernel), _, rfl, (.bl b), .ty "str", .type "bool", .type "str", false, rfl, .ty _, .base (.bl _), kit_ty (by decide +kernel), rfl, _, rfl, itT rfl ⟨_, rfl, _, rfl, rfl, ?_⟩⟩
        exact qT (Q := Q) rfl (q _ s1)
      | int i =>
        cases hy
        refine ⟨_, rfl, (by decide : 2 ≤ sizeLine), fun tp ntp => ?_⟩
        have s1 := same_upd (o := .tup [.ty "list", .ty "tuple"]) ntp
        refine ⟨(.int i), tp, _, _, _, _, rfl, upd_same, .cons (.ty _) (.cons (.ty _) .nil), .base (.int _), kitAny2 (b1 := false) (b2 := false) (kit_ty (by decide +kernel)) (kit_ty (by decide +kernel)), _, rfl, iteF ?_⟩
        refine ⟨_, rfl, _, rfl, itF (fun h => nomatch h) ⟨_, rfl, _, rfl, itF (fun h => nomatch h) ?_⟩⟩
        refine ⟨_, rfl, (.int i), .ty "bool", .type "int", .type "bool", false, rfl, .ty _, .base (.int _), kit_ty (by decide +kernel), _, rfl, (.int i), .ty "bool", .type "int", .type "bool", false, rfl, .ty _, .base (.int _), kit_ty (by decide +kernel), rfl, _, rfl, iteNS rfl ⟨_, rfl, (.int i), .ty "int", .type "int", .type "int", true, rfl, .ty _, .base (.int _), kit_ty (by decide +kernel), _, rfl, (.int i), .ty "int", .type "int", .type "int", true, rfl, .ty _, .base (.int _), kit_ty (by decide +kernel), rfl, _, rfl, iteNS rfl ?_⟩⟩
        refine ⟨_, rfl, (.int i), .ty "str", .type "int", .type "str", false, rfl, .ty _, .base (.int _), kit_ty (by decide +kernel), _, rfl, (.int i), .ty "str", .type "int", .type "str", false, rfl, .ty _, .base (.int _), kit_ty (by decide +kernel), rfl, _, rfl, itT rfl ⟨_, rfl, _, rfl, rfl, ?_⟩⟩
        exact qT (Q := Q) rfl (q _ s1)
      | str z =>
        cases hy
        refine ⟨_, rfl, (by decide : 2 ≤ sizeLine), fun tp ntp => ?_⟩
        have s1 := same_upd (o := .tup [.ty "list", .ty "tuple"]) ntp
        refine ⟨(.str z), tp, _, _, _, _, rfl, upd_same, .cons (.ty _) (.cons (.ty _) .nil), .base (.str _), kitAny2 (b1 := false) (b2 := false) (kit_ty (by decide +kernel)) (kit_ty (by decide +kernel)), _, rfl, iteF ?_⟩
        refine ⟨_, rfl, _, rfl, itF (fun h => nomatch h) ⟨_, rfl, _, rfl, itF (fun h => nomatch h) ?_⟩⟩
        refine ⟨_, rfl, (.str z), .ty "bool", .type "str", .type "bool", false, rfl, .ty _, .base (.str _), kit_ty (by decide +kernel), _, rfl, (.str z), .ty "bool", .type "str", .type "bool", false, rfl, .ty _, .base (.str _), kit_ty (by decide +kernel), rfl, _, rfl, iteNS rfl ⟨_, rfl, (.str z), .ty "int", .type "str", .type "int", false, rfl, .ty _, .base (.str _), kit_ty (by decide +kernel), _, rfl, (.str z), .ty "int", .type "str", .type "int", false, rfl, .ty _, .base (.str _), kit_ty (by decide +kernel), rfl, _, rfl, iteNS rfl ?_⟩⟩
        refine ⟨_, rfl, (.str z), .ty "str", .type "str", .type "str", true, rfl, .ty _, .base (.str _), kit_ty (by decide +kernel), _, rfl, (.str z), .ty "str", .type "str", .type "str", true, rfl, .ty _, .base (.str _), kit_ty (by decide +kernel), rfl, _, rfl, itT rfl ⟨_, rfl, _, rfl, rfl, ?_⟩⟩
        exact qT (Q := Q) rfl (q _ s1)
  | succ n ih =>
    intro k
    have G : FnOk P w K mg base CX0 (k + n + 1) f fd ["_law_found", "_law_due"] (spSame K n) := ih k
    refine F.ok scSame (fun vs H Q E h => ?_) (fun cdv A outer s H vs Q E hr h => ?_)
    · obtain ⟨x, y, d, rfl, _⟩ := h
      rfl
    · obtain ⟨x, y, d, rfl, hx, hy, hl, q⟩ := h
      refine ⟨_, pss_cons (ps_if (pt_val (pe_callB call_isiT (by rfl) B.isi (by decide +kernel) (pa_cons (pv 1) (pa_cons (pe_tup (pa_cons (pe_bltn (v := .ty "list") (by rfl) B.list (by decide +kernel) rfl) (pa_cons (pe_bltn (v := .ty "tuple") (by rfl) B.tuple (by decide +kernel) rfl) pa_nil))) pa_nil))))
          (pss_cons (ps_if (PW.pt (pw_or (pt_cmpR op_ne (pe_callB call_isi (by rfl) B.isi (by decide +kernel) (pa_cons (pv 0) (pa_cons (pe_bltn (v := .ty "list") (by rfl) B.list (by decide +kernel) rfl) pa_nil))) (pe_callB call_isi (by rfl) B.isi (by decide +kernel) (pa_cons (pv 1) (pa_cons (pe_bltn (v := .ty "list") (by rfl) B.list (by decide +kernel) rfl) pa_nil))) (nomark _)) (pw_or1 (pt_cmpR op_ne (pe_callB call_isi (by rfl) B.isi (by decide +kernel) (pa_cons (pv 0) (pa_cons (pe_bltn (v := .ty "tuple") (by rfl) B.tuple (by decide +kernel) rfl) pa_nil))) (pe_callB call_isi (by rfl) B.isi (by decide +kernel) (pa_cons (pv 1) (pa_cons (pe_bltn (v := .ty "tuple") (by rfl) B.tuple (by decide +kernel) rfl) pa_nil))) (nomark _))))) pss_never pss_nil)
          (pss_one (ps_ret (pe_and (pe_cmpR op_eq (pe_callB call_len_seq (by rfl) B.len PySem.boot_len (pa_cons (pv 0) pa_nil)) (pe_callB call_len_seq (by rfl) B.len PySem.boot_len (pa_cons (pv 1) pa_nil)) (nomark _))
            (pe_one (pe_callB (cr_all rfl) (by rfl) B.all (by decide +kernel) (pa_cons (pe_lc (own := [("_law_a", 2), ("_law_b", 3)]) (g := gTup K 2 (gCons (gName 2) (gCons (gName 3) gNil))) (tt := tYes) rfl scSame.nd
              (RZ.pi_zipA (by rfl) B.zip (pa_cons (pv 0) (pa_cons (pv 1) pa_nil))) (blkOk_by (own := [("_law_a", 2), ("_law_b", 3)]) (N := NS) (sc := defScope sSame) (by decide +kernel))
              (fun _ _ _ _ _ => pg_tup (n := 2) rfl (pgs_cons (pg_name (i := 2) scSame.nd rfl (.inl rfl) (.inr rfl)) (pgs_cons (pg_name (i := 3) scSame.nd rfl (.inl rfl) (.inr rfl)) pgs_nil))) (fun _ _ _ _ _ => pts_nil)
              (fun _ _ _ _ _ => pe_call G hr (by rfl) gS F.kp bS .nil pass0 (pa_cons (pv 2) (pa_cons (pv 3) pa_nil)))) pa_nil))))))) pss_nil)
      (pss_cons (ps_if (PW.pt (pw_or (pt_cmp (pc_isN (pv 1))) (pw_or1 (pt_cmp (pc_isN (pv 0)))))) (pss_one (ps_ret (pe_and (pe_cmp (pc_isN (pv 0)) rfl) (pe_one (pe_cmp (pc_isN (pv 1)) rfl))))) pss_nil)
      (pss_cons (ps_if (PW.pt (pw_or (pt_cmpR op_ne (pe_callB call_isi (by rfl) B.isi (by decide +kernel) (pa_cons (pv 0) (pa_cons (pe_bltn (v := .ty "bool") (by rfl) B.bool (by decide +kernel) rfl) pa_nil))) (pe_callB call_isi (by rfl) B.isi (by decide +kernel) (pa_cons (pv 1) (pa_cons (pe_bltn (v := .ty "bool") (by rfl) B.bool (by decide +kernel) rfl) pa_nil))) (nomark _)) (pw_or1 (pt_cmpR op_ne (pe_callB call_isi (by rfl) B.isi (by decide +kernel) (pa_cons (pv 0) (pa_cons (pe_bltn (v := .ty "int") (by rfl) B.int (by decide +kernel) rfl) pa_nil))) (pe_callB call_isi (by rfl) B.isi (by decide +kernel) (pa_cons (pv 1) (pa_cons (pe_bltn (v := .ty "int") (by rfl) B.int (by decide +kernel) rfl) pa_nil))) (nomark _))))) pss_never pss_nil)
      (pss_one (ps_ret (pe_and (pe_cmpR op_eq (pe_callB call_isi (by rfl) B.isi (by decide +kernel) (pa_cons (pv 0) (pa_cons (pe_bltn (v := .ty "str") (by rfl) B.str (by decide +kernel) rfl) pa_nil))) (pe_callB call_isi (by rfl) B.isi (by decide +kernel) (pa_cons (pv 1) (pa_cons (pe_bltn (v := .ty "str") (by rfl) B.str (by decide +kernel) rfl) pa_nil))) (nomark _)) (pe_one (pe_cmpR op_eq (pv 0) (pv 1) (nomark _)))))))), ?_⟩
      cases hx with
      | @lst pa xs ds h a =>
        cases hy with
        | @lst pb ys _ h2 a2 =>
          refine ⟨_, rfl, (by decide : 2 ≤ sizeLine), fun tp ntp => ?_⟩
          have s1 := same_upd (o := .tup [.ty "list", .ty "tuple"]) ntp
          refine ⟨(.ref pb), tp, _, _, _, _, rfl, upd_same, .cons (.ty _) (.cons (.ty _) .nil), tyL (s1.seq h2), kitAny2 (b1 := true) (b2 := false) (kit_ty (by decide +kernel)) (kit_ty (by decide +kernel)), _, rfl, iteT ?_⟩
          refine ⟨_, rfl, .ref pa, .ty "list", .type "list", .type "list", true, rfl, .ty _, tyL (s1.seq h), kit_ty (by decide +kernel), _, rfl, .ref pb, .ty "list", .type "list", .type "list", true, rfl, .ty _, tyL (s1.seq h2), kit_ty (by decide +kernel), rfl, _, rfl, iteNS rfl ⟨_, rfl, .ref pa, .ty "tuple", .type "list", .type "tuple", false, rfl, .ty _, tyL (s1.seq h), kit_ty (by decide +kernel), _, rfl, .ref pb, .ty "tuple", .type "list", .type "tuple", false, rfl, .ty _, tyL (s1.seq h2), kit_ty (by decide +kernel), rfl, _, rfl, iteNS rfl ?_⟩⟩
          have lx := dpLen a
          have ly := dpLen a2
          have hlz : ds.length ≤ 1000 := hl.1
          have eI : V.int ((xs.length : Nat) : Int) = V.int ((ys.length : Nat) : Int) := by rw [lx, ly]
          refine ⟨_, rfl, pa, xs, rfl, .inl (s1.seq h), _, rfl, pb, ys, rfl, .inl (s1.seq h2), rfl, _, rfl, itT eI ?_⟩
          refine ⟨_, rfl, _, rfl, pa, pb, xs, ys, rfl, .inl ⟨(s1.seq h), (s1.seq h2), fun D nD => ?_⟩⟩
          refine lc_zipG (S := SqL K) (xs := xs) (ys := ys) (by omega) (fun i H' => Same H H' ∧ H D = none ∧ H' D = some (.lst (List.replicate i (.bl true)))) ⟨s1.trans (same_upd nD), s1.free nD, upd_same⟩ (fun i H' ⟨sm, _, _⟩ => ⟨(sm.seq h), (sm.seq h2)⟩) ?_ ?_
          · rintro i x y t Hx hx hy ⟨sm, fD, hD⟩ nt
            obtain ⟨d, hd, dx⟩ := dpAt a hx
            obtain ⟨d', hd', dy⟩ := dpAt a2 hy
            rw [hd] at hd'
            cases hd'
            have st : Same Hx (upd Hx t (.tup [x, y])) := same_upd nt
            refine ⟨t, _, rfl, SqT.of upd_same, rfl, _, _, rfl, _, _, rfl, rfl, rfl, ?_⟩
            unfold tYes
            dsimp only
            rw [if_pos rfl]
            refine ⟨_, rfl, _, rfl, x, y, d, rfl, dpSame (sm.trans st) dx, dpSame (sm.trans st) dy, hl.2 d (List.mem_of_getElem? hd), fun H4 s4 => ?_⟩
            have lt : i < xs.length := (List.getElem?_eq_some_iff.mp hx).1
            refine ⟨_, s4 _ _ (st _ _ hD), by rw [List.length_replicate]; exact small1000 (by omega), fun b o e => ?_, fD, ?_⟩
            · rw [upd_ne (ne_of_none e fD)]
              exact s4 _ _ (st _ _ (sm _ _ e))
            · rw [upd_same, List.replicate_succ']
          · rintro Hx ⟨sm, fD, hD⟩
            refine ⟨D, List.replicate xs.length true, rfl, SqL.of (by rw [hD, List.map_replicate]), ?_⟩
            have ea : (List.replicate xs.length true).all id = true := List.all_eq_true.mpr fun b hb => by rw [(List.mem_replicate.mp hb).2]; rfl
            exact qB (Q := Q) ea (q _ sm)
      | @tup pa xs ds h a =>
        cases hy with
        | @tup pb ys _ h2 a2 =>
          refine ⟨_, rfl, (by decide : 2 ≤ sizeLine), fun tp ntp => ?_⟩
          have s1 := same_upd (o := .tup [.ty "list", .ty "tuple"]) ntp
          refine ⟨(.ref pb), tp, _, _, _, _, rfl, upd_same, .cons (.ty _) (.cons (.ty _) .nil), tyT (same_seqT s1 h2), kitAny2 (b1 := false) (b2 := true) (kit_ty (by decide +kernel)) (kit_ty (by decide +kernel)), _, rfl, iteT ?_⟩
          refine ⟨_, rfl, .ref pa, .ty "list", .type "tuple", .type "list", false, rfl, .ty _, tyT (same_seqT s1 h), kit_ty (by decide +kernel), _, rfl, .ref pb, .ty "list", .type "tuple", .type "list", false, rfl, .ty _, tyT (same_seqT s1 h2), kit_ty (by decide +kernel), rfl, _, rfl, iteNS rfl ⟨_, rfl, .ref pa, .ty "tuple", .type "tuple", .type "tuple", true, rfl, .ty _, tyT (same_seqT s1 h), kit_ty (by decide +kernel), _, rfl, .ref pb, .ty "tuple", .type "tuple", .type "tuple", true, rfl, .ty _, tyT (same_seqT s1 h2), kit_ty (by decide +kernel), rfl, _, rfl, iteNS rfl ?_⟩⟩
          have lx := dpLen a
          have ly := dpLen a2
          have hlz : ds.length ≤ 1000 := hl.1
          have eI : V.int ((xs.length : Nat) : Int) = V.int ((ys.length : Nat) : Int) := by rw [lx, ly]
          refine ⟨_, rfl, pa, xs, rfl, .inr (same_seqT s1 h), _, rfl, pb, ys, rfl, .inr (same_seqT s1 h2), rfl, _, rfl, itT eI ?_⟩
          refine ⟨_, rfl, _, rfl, pa, pb, xs, ys, rfl, .inr ⟨(same_seqT s1 h), (same_seqT s1 h2), fun D nD => ?_⟩⟩
          refine lc_zipG (S := SqT K) (xs := xs) (ys := ys) (by omega) (fun i H' => Same H H' ∧ H D = none ∧ H' D = some (.lst (List.replicate i (.bl true)))) ⟨s1.trans (same_upd nD), s1.free nD, upd_same⟩ (fun i H' ⟨sm, _, _⟩ => ⟨(same_seqT sm h), (same_seqT sm h2)⟩) ?_ ?_
          · rintro i x y t Hx hx hy ⟨sm, fD, hD⟩ nt
            obtain ⟨d, hd, dx⟩ := dpAt a hx
            obtain ⟨d', hd', dy⟩ := dpAt a2 hy
            rw [hd] at hd'
            cases hd'
            have st : Same Hx (upd Hx t (.tup [x, y])) := same_upd nt
            refine ⟨t, _, rfl, SqT.of upd_same, rfl, _, _, rfl, _, _, rfl, rfl, rfl, ?_⟩
            unfold tYes
            dsimp only
            rw [if_pos rfl]
            refine ⟨_, rfl, _, rfl, x, y, d, rfl, dpSame (sm.trans st) dx, dpSame (sm.trans st) dy, hl.2 d (List.mem_of_getElem? hd), fun H4 s4 => ?_⟩
            have lt : i < xs.length := (List.getElem?_eq_some_iff.mp hx).1
            refine ⟨_, s4 _ _ (st _ _ hD), by rw [List.length_replicate]; exact small1000 (by omega), fun b o e => ?_, fD, ?_⟩
            · rw [upd_ne (ne_of_none e fD)]
              exact s4 _ _ (st _ _ (sm _ _ e))
            · rw [upd_same, List.replicate_succ']
          · rintro Hx ⟨sm, fD, hD⟩
            refine ⟨D, List.replicate xs.length true, rfl, SqL.of (by rw [hD, List.map_replicate]), ?_⟩
            have ea : (List.replicate xs.length true).all id = true := List.all_eq_true.mpr fun b hb => by rw [(List.mem_replicate.mp hb).2]; rfl
            exact qB (Q := Q) ea (q _ sm)
      | non =>
        cases hy
        refine ⟨_, rfl, (by decide : 2 ≤ sizeLine), fun tp ntp => ?_⟩
        have s1 := same_upd (o := .tup [.ty "list", .ty "tuple"]) ntp
        refine ⟨.non, tp, _, _, _, _, rfl, upd_same, .cons (.ty _) (.cons (.ty _) .nil), .base .non, kitAny2 (b1 := false) (b2 := false) (kit_ty (by decide +kernel)) (kit_ty (by decide +kernel)), _, rfl, iteF ?_⟩
        refine ⟨_, rfl, _, rfl, itT rfl (iteT ?_)⟩
        refine ⟨_, rfl, _, rfl, itT rfl ⟨_, rfl, ?_⟩⟩
        exact qT (Q := Q) rfl (q _ s1)
      | bl b =>
        cases hy
        refine ⟨_, rfl, (by decide : 2 ≤ sizeLine), fun tp ntp => ?_⟩
        have s1 := same_upd (o := .tup [.ty "list", .ty "tuple"]) ntp
        refine ⟨(.bl b), tp, _, _, _, _, rfl, upd_same, .cons (.ty _) (.cons (.ty _) .nil), .base (.bl _), kitAny2 (b1 := false) (b2 := false) (kit_ty (by decide +kernel)) (kit_ty (by decide +kernel)), _, rfl, iteF ?_⟩
        refine ⟨_, rfl, _, rfl, itF (fun h => nomatch h) ⟨_, rfl, _, rfl, itF (fun h => nomatch h) ?_⟩⟩
        refine ⟨_, rfl, (.bl b), .ty "bool", .type "bool", .type "bool", true, rfl, .ty _, .base (.bl _), kit_ty (by decide +kernel), _, rfl, (.bl b), .ty "bool", .type "bool", .type "bool", true, rfl, .ty _, .base (.bl _), kit_ty (by decide +kernel), rfl, _, rfl, iteNS rfl ⟨_, rfl, (.bl b), .ty "int", .type "bool", .type "int", true, rfl, .ty _, .base (.bl _), kit_ty (by decide +kernel), _, rfl, (.bl b), .ty "int", .type "bool", .type "int", true, rfl, .ty _, .base (.bl _), kit_ty (by decide +kernel), rfl, _, rfl, iteNS rfl ?_⟩⟩
        refine ⟨_, rfl, (.bl b), .ty "str", .type "bool", .type "str", false, rfl, .ty _, .base (.bl _), kit_ty (by decide +kernel), _, rfl, (.bl b), .ty "str", .type "bool", .type "str", false, rfl, .ty _, .base (.bl _), kit_ty (by decide +kernel), rfl, _, rfl, itT rfl ⟨_, rfl, _, rfl, rfl, ?_⟩⟩
        exact qT (Q := Q) rfl (q _ s1)
      | int i =>
        cases hy
        refine ⟨_, rfl, (by decide : 2 ≤ sizeLine), fun tp ntp => ?_⟩
        have s1 := same_upd (o := .tup [.ty "list", .ty "tuple"]) ntp
        refine ⟨(.int i), tp, _, _, _, _, rfl, upd_same, .cons (.ty _) (.cons (.ty _) .nil), .base (.int _), kitAny2 (b1 := false) (b2 := false) (kit_ty (by decide +kernel)) (kit_ty (by decide +kernel)), _, rfl, iteF ?_⟩
        refine ⟨_, rfl, _, rfl, itF (fun h => nomatch h) ⟨_, rfl, _, rfl, itF (fun h => nomatch h) ?_⟩⟩
        refine ⟨_, rfl, (.int i), .ty "bool", .type "int", .type "bool", false, rfl, .ty _, .base (.int _), kit_ty (by decide +kernel), _, rfl, (.int i), .ty "bool", .type "int", .type "bool", false, rfl, .ty _, .base (.int _), kit_ty (by decide +kernel), rfl, _, rfl, iteNS rfl ⟨_, rfl, (.int i), .ty "int", .type "int", .type "int", true, rfl, .ty _, .base (.int _), kit_ty (by decide +kernel), _, rfl, (.int i), .ty "int", .type "int", .type "int", true, rfl, .ty _, .base (.int _), kit_ty (by decide +kernel), rfl, _, rfl, iteNS rfl ?_⟩⟩
        refine ⟨_, rfl, (.int i), .ty "str", .type "int", .type "str", false, rfl, .ty _, .base (.int _), kit_ty (by decide +kernel), _, rfl, (.int i), .ty "str", .type "int", .type "str", false, rfl, .ty _, .base (.int _), kit_ty (by decide +kernel), rfl, _, rfl, itT rfl ⟨_, rfl, _, rfl, rfl, ?_⟩⟩
        exact qT (Q := Q) rfl (q _ s1)
      | str z =>
        cases hy
        refine ⟨_, rfl, (by decide : 2 ≤ sizeLine), fun tp ntp => ?_⟩
        have s1 := same_upd (o := .tup [.ty "list", .ty "tuple"]) ntp
        refine ⟨(.str z), tp, _, _, _, _, rfl, upd_same, .cons (.ty _) (.cons (.ty _) .nil), .base (.str _), kitAny2 (b1 := false) (b2 := false) (kit_ty (by decide +kernel)) (kit_ty (by decide +kernel)), _, rfl, iteF ?_⟩
        refine ⟨_, rfl, _, rfl, itF (fun h => nomatch h) ⟨_, rfl, _, rfl, itF (fun h => nomatch h) ?_⟩⟩
        refine ⟨_, rfl, (.str z), .ty "bool", .type "str", .type "bool", false, rfl, .ty _, .base (.str _), kit_ty (by decide +kernel), _, rfl, (.str z), .ty "bool", .type "str", .type "bool", false, rfl, .ty _, .base (.str _), kit_ty (by decide +kernel), rfl, _, rfl, iteNS rfl ⟨_, rfl, (.str z), .ty "int", .type "str", .type "int", false, rfl, .ty _, .base (.str _), kit_ty (by decide +kernel), _, rfl, (.str z), .ty "int", .type "str", .type "int", false, rfl, .ty _, .base (.str _), kit_ty (by decide +kernel), rfl, _, rfl, iteNS rfl ?_⟩⟩
        refine ⟨_, rfl, (.str z), .ty "str", .type "str", .type "str", true, rfl, .ty _, .base (.str _), kit_ty (by decide +kernel), _, rfl, (.str z), .ty "str", .type "str", .type "str", true, rfl, .ty _, .base (.str _), kit_ty (by decide +kernel), rfl, _, rfl, itT rfl ⟨_, rfl, _, rfl, rfl, ?_⟩⟩
        exact qT (Q := Q) rfl (q _ s1)
end
end Onp
set_option maxHeartbeats 8000000
set_option autoImplicit false
namespace Onp
open PySem PySem.Spec PyProof.Rows L2 HotX L2H LamX
section
variable {P : Program} {w : World} {K : PySem.W.Frag} {mg : Str → Option Value} {base : Heap}
theorem passN {X : Cx} : Passes (L2N.CX X.prog X.w) X E0 := fun _ _ _ _ _ _ _ h => by
  obtain ⟨_, _, _, _, _, _, _, _, _, _, _, _, z⟩ := h
  exact z.elim
end
/-- a refusal that is a word alone -/
def badW (C : Addr) (z : Str) (H : Hp) (E : XK) : Prop := ∀ d, H d = none → E (.ref C) (some d) (upd H d (.xd [("word", .str z)]))
abbrev sInitBadSize : Stmt := inClass (topS 9) 0
structure MkBadSize (K : PySem.W.Frag) (mg : Str → Option Value) (C fI : Addr) (fdI : FuncData) : Prop where
  T : OexC K C
  iC : PySem.W.findIn K (.ref C) "__init__" = some (some (.ref fI))
  tI : PySem.W.typeIn K (.ref fI) = some (.type "function")
  F : Fun K "__init__" "BadSize.__init__" sInitBadSize fI fdI
  b : Binds K fdI ["self"] []
  g : mg "BadSize" = some (.ref C)
  nw : PySem.W.findIn K (.ref C) "word" = some none
theorem scIBadSize : FnScope ["self"] ["self"] (defScope sInitBadSize) := ⟨rfl, rfl, rfl, by decide +kernel, rfl, by decide +kernel, by decide +kernel⟩
theorem ok_initBadSize {P : Program} {w : World} {K : PySem.W.Frag} {mg : Str → Option Value} {base : Heap} {C fI : Addr} {fdI : FuncData} {k : Nat} (B : MkBadSize K mg C fI fdI) : FnOk P w K mg base CX0 (k + 1) fI fdI ["self"] (spWord C "badsize") := by
  refine B.F.ok scIBadSize (fun vs H Q E h => ?_) (fun cdv A outer s H vs Q E hr h => ?_)
  · obtain ⟨a, rfl, _⟩ := h
    rfl
  · obtain ⟨a, rfl, ha, q⟩ := h
    refine ⟨_, pss_one (ps_ost (pv 0) pe_str), ?_⟩
    exact ⟨_, rfl, a, C, rfl, B.T, B.nw, .inl ⟨ha, fun dx nd ne => q dx nd ne⟩⟩
abbrev sInitBadLetters : Stmt := inClass (topS 5) 0
structure MkBadLetters (K : PySem.W.Frag) (mg : Str → Option Value) (C fI : Addr) (fdI : FuncData) : Prop where
  T : OexC K C
  iC : PySem.W.findIn K (.ref C) "__init__" = some (some (.ref fI))
  tI : PySem.W.typeIn K (.ref fI) = some (.type "function")
  F : Fun K "__init__" "BadLetters.__init__" sInitBadLetters fI fdI
  b : Binds K fdI ["self"] []
  g : mg "BadLetters" = some (.ref C)
  nw : PySem.W.findIn K (.ref C) "word" = some none
theorem scIBadLetters : FnScope ["self"] ["self"] (defScope sInitBadLetters) := ⟨rfl, rfl, rfl, by decide +kernel, rfl, by decide +kernel, by decide +kernel⟩
theorem ok_initBadLetters {P : Program} {w : World} {K : PySem.W.Frag} {mg : Str → Option Value} {base : Heap} {C fI : Addr} {fdI : FuncData} {k : Nat} (B : MkBadLetters K mg C fI fdI) : FnOk P w K mg base CX0 (k + 1) fI fdI ["self"] (spWord C "badletters") := by
  refine B.F.ok scIBadLetters (fun vs H Q E h => ?_) (fun cdv A outer s H vs Q E hr h => ?_)
  · obtain ⟨a, rfl, _⟩ := h
    rfl
  · obtain ⟨a, rfl, ha, q⟩ := h
    refine ⟨_, pss_one (ps_ost (pv 0) pe_str), ?_⟩
    exact ⟨_, rfl, a, C, rfl, B.T, B.nw, .inl ⟨ha, fun dx nd ne => q dx nd ne⟩⟩
abbrev sInitBadArrow : Stmt := inClass (topS 7) 0
structure MkBadArrow (K : PySem.W.Frag) (mg : Str → Option Value) (C fI : Addr) (fdI : FuncData) : Prop where
  T : OexC K C
  iC : PySem.W.findIn K (.ref C) "__init__" = some (some (.ref fI))
  tI : PySem.W.typeIn K (.ref fI) = some (.type "function")
  F : Fun K "__init__" "BadArrow.__init__" sInitBadArrow fI fdI
  b : Binds K fdI ["self"] []
  g : mg "BadArrow" = some (.ref C)
  nw : PySem.W.findIn K (.ref C) "word" = some none
theorem scIBadArrow : FnScope ["self"] ["self"] (defScope sInitBadArrow) := ⟨rfl, rfl, rfl, by decide +kernel, rfl, by decide +kernel, by decide +kernel⟩
theorem ok_initBadArrow {P : Program} {w : World} {K : PySem.W.Frag} {mg : Str → Option Value} {base : Heap} {C fI : Addr} {fdI : FuncData} {k : Nat} (B : MkBadArrow K mg C fI fdI) : FnOk P w K mg base CX0 (k + 1) fI fdI ["self"] (spWord C "badarrow") := by
  refine B.F.ok scIBadArrow (fun vs H Q E h => ?_) (fun cdv A outer s H vs Q E hr h => ?_)
  · obtain ⟨a, rfl, _⟩ := h
    rfl
  · obtain ⟨a, rfl, ha, q⟩ := h
    refine ⟨_, pss_one (ps_ost (pv 0) pe_str), ?_⟩
    exact ⟨_, rfl, a, C, rfl, B.T, B.nw, .inl ⟨ha, fun dx nd ne => q dx nd ne⟩⟩
abbrev sInitBadRoom : Stmt := inClass (topS 6) 0
structure MkBadRoom (K : PySem.W.Frag) (mg : Str → Option Value) (C fI : Addr) (fdI : FuncData) : Prop where
  T : OexC K C
  iC : PySem.W.findIn K (.ref C) "__init__" = some (some (.ref fI))
  tI : PySem.W.typeIn K (.ref fI) = some (.type "function")
  F : Fun K "__init__" "BadRoom.__init__" sInitBadRoom fI fdI
  b : Binds K fdI ["self"] []
  g : mg "BadRoom" = some (.ref C)
  nw : PySem.W.findIn K (.ref C) "word" = some none
theorem scIBadRoom : FnScope ["self"] ["self"] (defScope sInitBadRoom) := ⟨rfl, rfl, rfl, by decide +kernel, rfl, by decide +kernel, by decide +kernel⟩
theorem ok_initBadRoom {P : Program} {w : World} {K : PySem.W.Frag} {mg : Str → Option Value} {base : Heap} {C fI : Addr} {fdI : FuncData} {k : Nat} (B : MkBadRoom K mg C fI fdI) : FnOk P w K mg base CX0 (k + 1) fI fdI ["self"] (spWord C "badroom") := by
  refine B.F.ok scIBadRoom (fun vs H Q E h => ?_) (fun cdv A outer s H vs Q E hr h => ?_)
  · obtain ⟨a, rfl, _⟩ := h
    rfl
  · obtain ⟨a, rfl, ha, q⟩ := h
    refine ⟨_, pss_one (ps_ost (pv 0) pe_str), ?_⟩
    exact ⟨_, rfl, a, C, rfl, B.T, B.nw, .inl ⟨ha, fun dx nd ne => q dx nd ne⟩⟩
abbrev sInitFull : Stmt := inClass (topS 18) 0
structure MkFull (K : PySem.W.Frag) (mg : Str → Option Value) (C fI : Addr) (fdI : FuncData) : Prop where
  T : OexC K C
  iC : PySem.W.findIn K (.ref C) "__init__" = some (some (.ref fI))
  tI : PySem.W.typeIn K (.ref fI) = some (.type "function")
  F : Fun K "__init__" "Full.__init__" sInitFull fI fdI
  b : Binds K fdI ["self"] []
  g : mg "Full" = some (.ref C)
  nw : PySem.W.findIn K (.ref C) "word" = some none
theorem scIFull : FnScope ["self"] ["self"] (defScope sInitFull) := ⟨rfl, rfl, rfl, by decide +kernel, rfl, by decide +kernel, by decide +kernel⟩
theorem ok_initFull {P : Program} {w : World} {K : PySem.W.Frag} {mg : Str → Option Value} {base : Heap} {C fI : Addr} {fdI : FuncData} {k : Nat} (B : MkFull K mg C fI fdI) : FnOk P w K mg base CX0 (k + 1) fI fdI ["self"] (spWord C "full") := by
  refine B.F.ok scIFull (fun vs H Q E h => ?_) (fun cdv A outer s H vs Q E hr h => ?_)
  · obtain ⟨a, rfl, _⟩ := h
    rfl
  · obtain ⟨a, rfl, ha, q⟩ := h
    refine ⟨_, pss_one (ps_ost (pv 0) pe_str), ?_⟩
    exact ⟨_, rfl, a, C, rfl, B.T, B.nw, .inl ⟨ha, fun dx nd ne => q dx nd ne⟩⟩
abbrev sInitUnlike : Stmt := inClass (topS 19) 0
structure MkUnlike (K : PySem.W.Frag) (mg : Str → Option Value) (C fI : Addr) (fdI : FuncData) : Prop where
  T : OexC K C
  iC : PySem.W.findIn K (.ref C) "__init__" = some (some (.ref fI))
  tI : PySem.W.typeIn K (.ref fI) = some (.type "function")
  F : Fun K "__init__" "Unlike.__init__" sInitUnlike fI fdI
  b : Binds K fdI ["self"] []
  g : mg "Unlike" = some (.ref C)
  nw : PySem.W.findIn K (.ref C) "word" = some none
theorem scIUnlike : FnScope ["self"] ["self"] (defScope sInitUnlike) := ⟨rfl, rfl, rfl, by decide +kernel, rfl, by decide +kernel, by decide +kernel⟩
theorem ok_initUnlike {P : Program} {w : World} {K : PySem.W.Frag} {mg : Str → Option Value} {base : Heap} {C fI : Addr} {fdI : FuncData} {k : Nat} (B : MkUnlike K mg C fI fdI) : FnOk P w K mg base CX0 (k + 1) fI fdI ["self"] (spWord C "unlike") := by
  refine B.F.ok scIUnlike (fun vs H Q E h => ?_) (fun cdv A outer s H vs Q E hr h => ?_)
  · obtain ⟨a, rfl, _⟩ := h
    rfl
  · obtain ⟨a, rfl, ha, q⟩ := h
    refine ⟨_, pss_one (ps_ost (pv 0) pe_str), ?_⟩
    exact ⟨_, rfl, a, C, rfl, B.T, B.nw, .inl ⟨ha, fun dx nd ne => q dx nd ne⟩⟩
end Onp
set_option maxHeartbeats 4000000
set_option autoImplicit false
/-! tables of sets with up to 2048 slots -/
namespace Onp
open PySem PySem.Spec PyProof.Rows L2
/-! ### every slot is come to from every other one -/
theorem lcgI_shift (m x : Nat) : ∀ b, lcgI m ((x * 5 + 1) % (m + 1)) b = lcgI m x (b + 1)
  | 0 => rfl
  | b + 1 => by
    show (lcgI m ((x * 5 + 1) % (m + 1)) b * 5 + 1) % (m + 1) = (lcgI m x (b + 1) * 5 + 1) % (m + 1)
    rw [lcgI_shift m x b]
/-- the slots of a round, as bits -/
def orb (m : Nat) : Nat → Nat → Nat → Nat
  | 0, _, acc => acc
  | k + 1, x, acc => orb m k ((x * 5 + 1) % (m + 1)) (acc ||| 2 ^ x)
theorem orb_bit (m j : Nat) : ∀ (k x acc : Nat), (orb m k x acc).testBit j = true → acc.testBit j = true ∨ ∃ b, b < k ∧ lcgI m x b = j
  | 0, _, _, h => .inl h
  | k + 1, x, acc, h => by
    rcases orb_bit m j k _ _ h with h | ⟨b, hb, e⟩
    · rw [Nat.testBit_or, Bool.or_eq_true] at h
      rcases h with h | h
      · exact .inl h
      · rw [Nat.testBit_two_pow, decide_eq_true_eq] at h
        exact .inr ⟨0, Nat.succ_pos _, h⟩
    · exact .inr ⟨b + 1, Nat.succ_lt_succ hb, by rw [← lcgI_shift]; exact e⟩
def MaskW (m : Nat) : Prop := m = 7 ∨ m = 31 ∨ m = 127 ∨ m = 511 ∨ m = 2047
theorem orb_7 : orb 7 8 0 0 = 2 ^ 8 - 1 := by decide +kernel
theorem orb_31 : orb 31 32 0 0 = 2 ^ 32 - 1 := by decide +kernel
theorem orb_127 : orb 127 128 0 0 = 2 ^ 128 - 1 := by decide +kernel
theorem orb_511 : orb 511 512 0 0 = 2 ^ 512 - 1 := by decide +kernel
theorem orb_2047 : orb 2047 2048 0 0 = 2 ^ 2048 - 1 := by decide +kernel
theorem orb_full {m : Nat} (hm : MaskW m) : orb m (m + 1) 0 0 = 2 ^ (m + 1) - 1 := by
  rcases hm with rfl | rfl | rfl | rfl | rfl
  · exact orb_7
  · exact orb_31
  · exact orb_127
  · exact orb_511
  · exact orb_2047
theorem from0 {m : Nat} (hm : MaskW m) {j : Nat} (hj : j ≤ m) : ∃ b, b ≤ m ∧ lcgI m 0 b = j := by
  rcases orb_bit m j (m + 1) 0 0 (by rw [orb_full hm, Nat.testBit_two_pow_sub_one, decide_eq_true_eq]; omega) with h | ⟨b, hb, e⟩
  · rw [Nat.zero_testBit] at h
    cases h
  · exact ⟨b, by omega, e⟩
theorem lcgI_le (m x : Nat) (hx : x ≤ m) : ∀ b, lcgI m x b ≤ m
  | 0 => hx
  | b + 1 => Nat.le_of_lt_succ (Nat.mod_lt _ (Nat.succ_pos _))
theorem lcgI_two (m x a : Nat) : ∀ b, lcgI m (lcgI m x a) b = lcgI m x (a + b)
  | 0 => rfl
  | b + 1 => by
    show (lcgI m (lcgI m x a) b * 5 + 1) % (m + 1) = (lcgI m x (a + b) * 5 + 1) % (m + 1)
    rw [lcgI_two m x a b]
/-- a round comes back -/
theorem round0 {m : Nat} (hm : MaskW m) : lcgI m 0 (m + 1) = 0 := by
  rcases hm with rfl | rfl | rfl | rfl | rfl <;> decide +kernel
theorem from_any {m : Nat} (hm : MaskW m) {i j : Nat} (hi : i ≤ m) (hj : j ≤ m) : ∃ k, k ≤ m ∧ lcgI m i k = j := by
  obtain ⟨a, ha, ea⟩ := from0 hm hi
  obtain ⟨b, hb, eb⟩ := from0 hm hj
  by_cases c : a ≤ b
  · exact ⟨b - a, by omega, by rw [← ea, lcgI_two, show a + (b - a) = b by omega]; exact eb⟩
  · refine ⟨m + 1 - a + b, by omega, ?_⟩
    rw [← ea, lcgI_two, show a + (m + 1 - a + b) = m + 1 + b by omega, ← lcgI_two, round0 hm]
    exact eb
/-- each slot begins a run soon -/
def Meets (m : Nat) : Prop := ∀ (h : Int) (j : Nat), j ≤ m → ∃ n, n ≤ m + 12 ∧ runI m (SetTable.bits h) n = j
theorem meets {m : Nat} (hm : MaskW m) : Meets m := fun h j hj => by
  obtain ⟨k, hk, e⟩ := from_any hm (runI_le m (SetTable.bits h) 12) hj
  exact ⟨12 + k, by omega, (runI_tail (bits_lt h) k).trans e⟩
theorem on_way {m : Nat} (M : Meets m) (h : Int) {j : Nat} (hj : j ≤ m) : ∃ k, k < 10 * SetTable.turns m ∧ way m h k = j := by
  obtain ⟨n, hn, e⟩ := M h j hj
  obtain ⟨k, hk, e2⟩ := run_nth m (SetTable.bits h) n
  refine ⟨k, ?_, ?_⟩
  · unfold SetTable.turns
    omega
  · show (nth m (runAt m (SetTable.bits h % (m + 1)) (SetTable.bits h)) k).j = j
    rw [e2]
    exact e
theorem way_in {m : Nat} (h : Int) (k : Nat) : way m h k ≤ m := by
  have hb : SetTable.bits h % (m + 1) ≤ m := Nat.le_of_lt_succ (Nat.mod_lt _ (Nat.succ_pos _))
  have e := runEnd_bd hb
  have := nth_in (m := m) k (runAt m (SetTable.bits h % (m + 1)) (SetTable.bits h)) (show SetTable.bits h % (m + 1) + (SetTable.runEnd m (SetTable.bits h % (m + 1)) - SetTable.bits h % (m + 1)) ≤ m by omega)
  exact Nat.le_trans (Nat.le_add_right _ _) this
/-! ### a table whose slots all are found again -/
structure TabW (t : SetTable) (hs : List Int) : Prop where
  ris : Ris t.place.toList
  dm : t.dummies = #[]
  sz : t.place.size = hs.length
  mok : MaskW t.mask
  bd : ∀ x ∈ t.place.toList, x ≤ t.mask
  reach : ∀ (i : Nat) (h : Int) (j : Nat), hs[i]? = some h → t.place.toList[i]? = some j → ∃ k, way t.mask h k = j ∧ ∀ k', k' < k → way t.mask h k' ∈ t.place.toList
variable {t : SetTable} {hs : List Int}
theorem TabW.first (T : TabW t hs) (hl : hs.length ≤ t.mask) (h : Int) : ∃ K, K < 10 * SetTable.turns t.mask ∧ way t.mask h K ∉ t.place.toList ∧ ∀ k, k < K → way t.mask h k ∈ t.place.toList := by
  obtain ⟨j, hj, free⟩ := st_missing t.place.toList (t.mask + 1) (by rw [Array.length_toList, T.sz]; omega)
  obtain ⟨k, hk, e⟩ := on_way (meets T.mok) h (Nat.le_of_lt_succ hj)
  obtain ⟨K, kK, atK, least⟩ := st_least (p := fun k => way t.mask h k ∉ t.place.toList) k (fun z => free (e ▸ z))
  exact ⟨K, Nat.lt_of_le_of_lt kK hk, atK, fun k' lt => Classical.not_not.mp (least k' lt)⟩
theorem TabW.before (T : TabW t hs) {h : Int} {K i j : Nat} (hK : way t.mask h K ∉ t.place.toList) (hi : hs[i]? = some h) (hj : t.place.toList[i]? = some j) : ∃ k, k < K ∧ way t.mask h k = j := by
  obtain ⟨k, e, hb⟩ := T.reach i h j hi hj
  refine ⟨k, Nat.lt_of_not_le fun le => ?_, e⟩
  rcases Nat.eq_or_lt_of_le le with z | z
  · rw [z, e] at hK
    exact hK (List.mem_of_getElem? hj)
  · exact hK (hb K z)
/-- one more put in at the first free slot of its way -/
theorem TabW.put (T : TabW t hs) {h : Int} {K : Nat} (hK : way t.mask h K ∉ t.place.toList) (hb : ∀ k, k < K → way t.mask h k ∈ t.place.toList) :
    (t.put (way t.mask h K)).2 = SetTable.below t.place (way t.mask h K) ∧ SetTable.below t.place (way t.mask h K) ≤ hs.length ∧
    TabW (t.put (way t.mask h K)).1 (hs.take (SetTable.below t.place (way t.mask h K)) ++ h :: hs.drop (SetTable.below t.place (way t.mask h K))) ∧
    (t.put (way t.mask h K)).1.mask = t.mask ∧ (t.put (way t.mask h K)).1.led = t.led ∧ (t.put (way t.mask h K)).1.plain = t.plain ∧ (t.put (way t.mask h K)).1.moves = t.moves ∧ (t.put (way t.mask h K)).1.finger = t.finger ∧
    (t.put (way t.mask h K)).1.fill = hs.length + 1 := by
  have jm : way t.mask h K ≤ t.mask := way_in h K
  generalize ej : way t.mask h K = j at hK jm
  obtain ⟨cut, _, _⟩ := below_cut T.ris j
  have len : t.place.toList.length = hs.length := by rw [Array.length_toList, T.sz]
  have cutP : SetTable.below t.place j ≤ t.place.toList.length := by rw [Array.length_toList]; exact cut
  have cutH : SetTable.below t.place j ≤ hs.length := by rw [← len]; exact cutP
  have other : t.place[SetTable.below t.place j]? ≠ some j := fun e => hK (List.mem_of_getElem? (by rw [Array.getElem?_toList]; exact e))
  have laid := put_place t j
  have size : (t.put j).1.place.size = hs.length + 1 := by rw [← Array.length_toList, laid, len_ins _ cutP, len]
  have more : ∀ x ∈ t.place.toList, x ∈ (t.put j).1.place.toList := fun x hx => by rw [laid]; exact mem_ins.2 (.inr hx)
  refine ⟨rfl, cutH, ⟨ris_insert T.ris other, put_dm T.dm j, by rw [len_ins _ cutH]; exact size, T.mok, fun x hx => ?_, fun i h' j' hi hj => ?_⟩, rfl, rfl, rfl, rfl, rfl, ?_⟩
  · rw [laid] at hx
    rcases mem_ins.1 hx with rfl | hx
    · exact jm
    · exact T.bd x hx
  · rw [tins_get hs cutH] at hi
    rw [laid, tins_get _ cutP] at hj
    show ∃ k, way t.mask h' k = j' ∧ ∀ k', k' < k → way t.mask h' k' ∈ (t.put j).1.place.toList
    have old : ∀ i', hs[i']? = some h' → t.place.toList[i']? = some j' → ∃ k, way t.mask h' k = j' ∧ ∀ k', k' < k → way t.mask h' k' ∈ (t.put j).1.place.toList := fun i' a b => by
      obtain ⟨k, e, z⟩ := T.reach i' h' j' a b
      exact ⟨k, e, fun k' lt => more _ (z k' lt)⟩
    by_cases c : i < SetTable.below t.place j
    · rw [if_pos c] at hi hj
      exact old i hi hj
    · rw [if_neg c] at hi hj
      by_cases d : i = SetTable.below t.place j
      · rw [if_pos d] at hi hj
        cases hi
        cases hj
        exact ⟨K, ej, fun k' lt => more _ (hb k' lt)⟩
      · rw [if_neg d] at hi hj
        exact old (i - 1) hi hj
  · show (t.put j).1.place.size + (t.put j).1.dummies.size = hs.length + 1
    rw [size, put_dm T.dm j]
    rfl
/-! ### all laid anew -/
theorem free_first {m : Nat} (M : Meets m) (owner : Array (Option Nat)) (h : Int) {j : Nat} (hj : j ≤ m) (hf : oAt owner j = none) :
    ∃ K, SetTable.layClean.free m owner (SetTable.turns m) (SetTable.bits h % (m + 1)) (SetTable.bits h) = some (way m h K) ∧ oAt owner (way m h K) = none ∧ ∀ k, k < K → oAt owner (way m h k) ≠ none := by
  obtain ⟨n, hn, e⟩ := M h j hj
  have at_ : way m h (off m (SetTable.bits h % (m + 1)) (SetTable.bits h) n) = j := by
    show (nth m (runAt m (SetTable.bits h % (m + 1)) (SetTable.bits h)) (off m (SetTable.bits h % (m + 1)) (SetTable.bits h) n)).j = j
    rw [nth_off, itL_run]
    exact e
  obtain ⟨K, kK, free, least⟩ := st_least (p := fun k => oAt owner (way m h k) = none) _ (show oAt owner (way m h (off m (SetTable.bits h % (m + 1)) (SetTable.bits h) n)) = none by rw [at_]; exact hf)
  refine ⟨K, free_spec m owner (SetTable.turns m) n _ _ K (by unfold SetTable.turns; omega) kK (fun k lt => ?_) ?_, free, least⟩
  · have := least k lt
    cases z : oAt owner (nth m (runAt m (SetTable.bits h % (m + 1)) (SetTable.bits h)) k).j with
    | none => exact absurd z this
    | some _ => rfl
  · rw [show oAt owner (nth m (runAt m (SetTable.bits h % (m + 1)) (SetTable.bits h)) K).j = none from free]
    rfl
theorem own_more {m : Nat} (M : Meets m) {done : List Int} {owner : Array (Option Nat)} (W : Own m done owner) (hl : done.length ≤ m) (h : Int) :
    ∃ j, SetTable.layClean.free m owner (SetTable.turns m) (SetTable.bits h % (m + 1)) (SetTable.bits h) = some j ∧ Own m (done ++ [h]) (owner.setIfInBounds j (some done.length)) := by
  obtain ⟨ps, lps, all⟩ := W.ps
  obtain ⟨j0, lt0, out⟩ := st_missing ps (m + 1) (by omega)
  have free0 : oAt owner j0 = none := by
    cases z : oAt owner j0 with
    | none => rfl
    | some k => exact absurd (all j0 (Nat.le_of_lt_succ lt0) (by rw [z]; exact fun e => nomatch e)) out
  obtain ⟨K, found, freeK, used⟩ := free_first M owner h (Nat.le_of_lt_succ lt0) free0
  have inK : way m h K ≤ m := way_in h K
  have self := oAt_set_self (owner := owner) (some done.length) (show way m h K < owner.size by rw [W.sz]; exact Nat.lt_succ_of_le inK)
  have stay : ∀ i, oAt owner i ≠ none → oAt (owner.setIfInBounds (way m h K) (some done.length)) i ≠ none := fun i hi => by
    rw [oAt_set_ne _ (show i ≠ way m h K from fun z => hi (by rw [z]; exact freeK))]
    exact hi
  refine ⟨way m h K, found, ?_, fun j k hj e => ?_, fun k hk => ?_, way m h K :: ps, ?_, fun j hj e => ?_⟩
  · rw [Array.size_setIfInBounds]
    exact W.sz
  · by_cases c : j = way m h K
    · rw [c, self] at e
      cases e
      exact ⟨h, K, by rw [List.getElem?_append_right (Nat.le_refl _), Nat.sub_self]; rfl, c.symm, fun k' lt => stay _ (used k' lt)⟩
    · rw [oAt_set_ne _ c] at e
      obtain ⟨h', K', a1, a2, a3⟩ := W.at_ j k hj e
      exact ⟨h', K', by rw [List.getElem?_append_left (List.getElem?_eq_some_iff.mp a1).1]; exact a1, a2, fun k' lt => stay _ (a3 k' lt)⟩
  · rw [List.length_append] at hk
    rcases Nat.lt_or_ge k done.length with c | c
    · obtain ⟨j, hj, e⟩ := W.all k c
      exact ⟨j, hj, by rw [oAt_set_ne _ (fun z => by rw [z, freeK] at e; cases e)]; exact e⟩
    · have : k = done.length := by
        have : k < done.length + 1 := hk
        omega
      exact ⟨way m h K, inK, by rw [this]; exact self⟩
  · rw [List.length_cons, List.length_append, lps]
    rfl
  · by_cases c : j = way m h K
    · rw [c]
      exact List.mem_cons_self
    · rw [oAt_set_ne _ c] at e
      exact List.mem_cons_of_mem _ (all j hj e)
theorem own_all {m : Nat} (M : Meets m) : ∀ (rest done : List Int) (owner : Array (Option Nat)), Own m done owner → done.length + rest.length ≤ m →
    ∃ owner', rest.foldl (stepF m) (some (owner, done.length)) = some (owner', (done ++ rest).length) ∧ Own m (done ++ rest) owner'
  | [], done, owner, W, _ => ⟨owner, by rw [List.append_nil]; rfl, by rw [List.append_nil]; exact W⟩
  | h :: rest, done, owner, W, hl => by
    have hl' : done.length + (rest.length + 1) ≤ m := hl
    obtain ⟨j, e, W1⟩ := own_more M W (by omega) h
    have l1 : (done ++ [h]).length = done.length + 1 := by rw [List.length_append]; rfl
    obtain ⟨owner', f, W2⟩ := own_all M rest (done ++ [h]) _ W1 (by rw [l1]; omega)
    have as : done ++ [h] ++ rest = done ++ h :: rest := by rw [List.append_assoc]; rfl
    rw [as] at f W2
    rw [l1] at f
    exact ⟨owner', by rw [List.foldl_cons, stepF_some e]; exact f, W2⟩
theorem lay_all {m : Nat} (M : Meets m) {hs : Array Int} (hn : hs.size ≤ m) : ∃ owner, SetTable.layClean m hs = some owner ∧ Own m hs.toList owner := by
  obtain ⟨owner, f, W⟩ := own_all M hs.toList [] _ (Own.init m) (by rw [Array.length_toList]; show 0 + hs.size ≤ m; omega)
  refine ⟨owner, ?_, W⟩
  rw [layClean_eq, show hs.toList.foldl (stepF m) (some (Array.replicate (m + 1) none, 0)) = some (owner, ([] ++ hs.toList).length) from f]
  rfl
theorem relaid_w (t : SetTable) {hs : Array Int} {wanted M : Nat} (hw : SetTable.sizeAbove wanted - 1 = M) (hM : MaskW M) (hn : hs.size ≤ M) :
    ∃ t' order, t.relaid hs wanted = some (t', order) ∧ order.toList.Perm (List.range hs.size) ∧ TabW t' (order.toList.map fun i => hs.getD i 0) ∧ t'.mask = M ∧ t'.led = t.led ∧ t'.plain = t.plain ∧ t'.dummies = #[] := by
  obtain ⟨owner, e, W⟩ := lay_all (meets hM) hn
  have new : t.relaid hs wanted = some (tabOf t M owner, ((liveOf M owner).map (·.2)).toArray) := by
    rw [relaid_eq, hw, e]
    rfl
  obtain ⟨rise, below⟩ := ris_live (fun j => owner.getD j none) (List.range (M + 1)) (by
    unfold Ris
    first | exact List.pairwise_lt_range | exact List.pairwise_lt_range _)
  have rise : Ris ((liveOf M owner).map (·.1)) := rise
  have below : ∀ x ∈ (liveOf M owner).map (·.1), x ∈ List.range (M + 1) := below
  have nd : ((liveOf M owner).map (·.1)).Nodup := List.Pairwise.imp (fun h => Nat.ne_of_lt h) rise
  have many : (liveOf M owner).length = hs.size := by
    obtain ⟨ps, lps, all⟩ := W.ps
    have up := nat_nodup_len _ ps nd fun x hx => by
      obtain ⟨⟨y, k⟩, hq, rfl⟩ := List.mem_map.mp hx
      obtain ⟨b1, b2⟩ := (mem_live W.sz).1 hq
      exact all y b1 (by rw [b2]; exact fun z => nomatch z)
    have down := nat_nodup_len (List.range hs.size) ((liveOf M owner).map (·.2)) List.nodup_range fun k hk => by
      obtain ⟨j, b1, b2⟩ := W.all k (by rw [Array.length_toList]; exact List.mem_range.mp hk)
      exact List.mem_map.mpr ⟨(j, k), (mem_live W.sz).2 ⟨b1, b2⟩, rfl⟩
    rw [List.length_map, lps] at up
    rw [List.length_map, List.length_range] at down
    have hz : hs.toList.length = hs.size := rfl
    omega
  refine ⟨_, _, new, perm_range hs.size _ ?_ (fun k hk => ?_), ⟨rise, rfl, ?_, hM, fun x hx => Nat.le_of_lt_succ (List.mem_range.mp (below x hx)), fun i h j hi hj => ?_⟩, rfl, rfl, rfl, rfl⟩
  · show ((liveOf M owner).map (·.2)).length = hs.size
    rw [List.length_map, many]
  · obtain ⟨j, b1, b2⟩ := W.all k (by rw [Array.length_toList]; exact hk)
    exact List.mem_map.mpr ⟨(j, k), (mem_live W.sz).2 ⟨b1, b2⟩, rfl⟩
  · show ((liveOf M owner).map (·.1)).toArray.size = (((liveOf M owner).map (·.2)).map fun i => hs.getD i 0).length
    rw [List.size_toArray, List.length_map, List.length_map, List.length_map]
  · have hi : (((liveOf M owner).map (·.2)).map fun i => hs.getD i 0)[i]? = some h := hi
    have hj : ((liveOf M owner).map (·.1))[i]? = some j := hj
    rw [List.getElem?_map, List.getElem?_map] at hi
    rw [List.getElem?_map] at hj
    cases hq : (liveOf M owner)[i]? with
    | none => rw [hq] at hj; cases hj
    | some q =>
      obtain ⟨y, k⟩ := q
      rw [hq] at hi hj
      cases hj
      have hk : hs.getD k 0 = h := Option.some.inj hi
      obtain ⟨b1, b2⟩ := (mem_live W.sz).1 (List.mem_of_getElem? hq)
      obtain ⟨h0, K, a1, a2, a3⟩ := W.at_ y k b1 b2
      have h00 : h0 = h := by
        rw [← hk, Array.getD_eq_getD_getElem?, ← Array.getElem?_toList, a1]
        rfl
      subst h00
      refine ⟨K, a2, fun k' lt => ?_⟩
      show way M h0 k' ∈ (liveOf M owner).map (·.1)
      cases z : oAt owner (way M h0 k') with
      | none => exact absurd z (a3 k' lt)
      | some k2 => exact List.mem_map.mpr ⟨(way M h0 k', k2), (mem_live W.sz).2 ⟨way_in _ _, z⟩, rfl⟩
theorem grow_5 : SetTable.sizeAbove (SetTable.grown 5) = 32 := by decide +kernel
theorem grow_19 : SetTable.sizeAbove (SetTable.grown 19) = 128 := by decide +kernel
theorem grow_77 : SetTable.sizeAbove (SetTable.grown 77) = 512 := by decide +kernel
theorem grow_307 : SetTable.sizeAbove (SetTable.grown 307) = 2048 := by decide +kernel
end Onp
set_option maxHeartbeats 4000000
set_option autoImplicit false
/-! sets of tuples of ints and texts, fewer than 1200 -/
namespace Onp
open PySem PySem.Spec PyProof.Rows L2
theorem mask_oddW {m : Nat} (h : MaskW m) : m % 2 = 1 := by
  rcases h with e | e | e | e | e <;> subst e <;> rfl
section
variable {P : Program} {w : World} {A : Around} {E : Value → Shared → Prop} {s : Shared}
/-! ### the set -/
structure SetW (P : Program) (w : World) (h : Heap) (a : Addr) (L : List AK) (es : Array (Int × Value)) (ep : Nat) (t : SetTable) : Prop where
  ob : ∃ o, h.get? a = some o ∧ o.ExactSet ∧ o.data = .set es ep t
  rows : es.toList = rowsM P w L
  tab : TabW t (L.map fun p => hM P w p.2)
  nd : (L.map (·.2)).Nodup
  tup : ∀ p ∈ L, IsM P w h p.2 p.1
  led : w.params.followText "set-order" = true ∨ t.led = true
  room : L.length * 5 < t.mask * 3
  few : L.length < 1200
variable {a : Addr} {L : List AK} {es : Array (Int × Value)} {ep : Nat} {t : SetTable}
theorem SetW.fits (R : SetW P w s.heap a L es ep t) : t.fits es.size = true := by
  have z1 := R.tab.sz
  rw [List.length_map] at z1
  have z2 := rowsM_len R.rows
  have z3 := R.room
  exact fitsM R.tab.dm (by omega) (by omega)
theorem SetW.entry (R : SetW P w s.heap a L es ep t) {i : Nat} {p : AK} (h : L[i]? = some p) : es[i]? = some (hM P w p.2, Value.ref p.1) := by
  rw [← Array.getElem?_toList, R.rows]
  unfold rowsM
  rw [List.getElem?_map, h]
  rfl
theorem SetW.gw (R : SetW P w s.heap a L es ep t) : ¬ t.gaveWay = true := by
  unfold SetTable.gaveWay
  rw [mask_oddW R.tab.mok]
  decide
theorem searchW (R : SetW P w s.heap a L es ep t) {x : Addr} {k : List Key} (hx : IsM P w s.heap k x) (hu : A.units < cLine) {K : Nat} (kf : K < 10 * SetTable.turns t.mask)
    (k1 : way t.mask (hM P w k) K ∉ t.place.toList) (k2 : ∀ c, c < K → way t.mask (hM P w k) c ∈ t.place.toList) {Q : SetFound → Shared → Prop}
    (yes : k ∈ L.map (·.2) → Q (.there none) s) (no : k ∉ L.map (·.2) → Q (.free (way t.mask (hM P w k) K) false) s) :
    ∀ (f c : Nat) (stand : Option SetTable.Probe), stand.getD (t.probeStart (hM P w k)) = nth t.mask (str0 t (hM P w k)) c → c ≤ K → K - c < f →
      (∀ (i : Nat) p, L[i]? = some p → p.2 = k → ∃ c', c ≤ c' ∧ c' < K ∧ t.place.toList[i]? = some (way t.mask (hM P w k) c')) →
      wpAny (model P w) A (setSearchFrom a (.ref x) (hM P w k) true f stand) Q E s
  | 0, c, stand, _, _, bad, _ => absurd bad (Nat.not_lt_zero _)
  | f + 1, c, stand, es0, hcK, hf, hre => by
    obtain ⟨ob, g1, gx, g2⟩ := R.ob
    rw [setSearchFrom_succ]
    refine wpAny_bind (wpAny_setState_of g1 g2 R.fits ?_)
    dsimp only
    refine wp_if_neg R.gw ?_
    try refine wpAny_bind (wpAny_pure ?_)
    have nd0 := nth_dummy t.mask c (str0 t (hM P w k)) rfl
    have sh : ∀ q, nth t.mask (nth t.mask (str0 t (hM P w k)) c) q = nth t.mask (str0 t (hM P w k)) (c + q) := fun q => (nth_add t.mask c _ q).symm
    have e1 : ∀ q, (nth t.mask (nth t.mask (str0 t (hM P w k)) c) q).j = way t.mask (hM P w k) (c + q) := fun q => congrArg SetTable.Probe.j (sh q)
    have hat : ∀ (i : Nat) p, L[i]? = some p → (fun i => (es[i]?.map (·.1)).getD 0) i = hM P w p.2 := fun i p hp => by
      show (es[i]?.map (·.1)).getD 0 = _
      rw [R.entry hp]
      rfl
    rcases go_spec t R.tab.ris R.tab.dm (fun i => (es[i]?.map (·.1)).getD 0) (hM P w k) (10 * SetTable.turns t.mask) (K - c) _ nd0 (by omega)
      (fun q hq => by rw [e1]; exact k2 (c + q) (by omega)) (by rw [e1, show c + (K - c) = K by omega]; exact k1) with ⟨q, i, hq, hi, hh, hno, hpr⟩ | ⟨hno, hpr⟩
    · have hpr' : t.probe (fun i => (es[i]?.map (·.1)).getD 0) (hM P w k) (stand.getD (t.probeStart (hM P w k))) = some (.candidate (way t.mask (hM P w k) (c + q)) i (nth t.mask (str0 t (hM P w k)) (c + (q + 1)))) := by
        rw [es0, ← e1, ← sh]
        exact hpr
      rw [hpr']
      dsimp only
      rw [e1] at hi
      have hil : i < L.length := by
        have z1 : i < t.place.toList.length := (List.getElem?_eq_some_iff.mp hi).1
        have z2 := R.tab.sz
        rw [List.length_map] at z2
        rw [Array.length_toList] at z1
        omega
      obtain ⟨p, hp⟩ : ∃ p, L[i]? = some p := ⟨_, List.getElem?_eq_getElem hil⟩
      have pm : p ∈ L := List.mem_of_getElem? hp
      have pt := R.tup p pm
      have rest : wpAny (model P w) A (searchRest a (.ref x) (hM P w k) true f es t (way t.mask (hM P w k) (c + q)) i (nth t.mask (str0 t (hM P w k)) (c + (q + 1)))) Q E s := by
        unfold searchRest
        rw [R.entry hp]
        dsimp only
        refine wpAny_bind (wpAny_holding (wpAny_eqBool_tuple hu pt hx ?_))
        refine wpAny_bind (wpAny_setState_of g1 g2 R.fits ?_)
        dsimp only
        by_cases kk : p.2 = k
        · refine wp_if_pos (by simp [kk]) ?_
          exact wpAny_pure (yes (List.mem_map.mpr ⟨p, pm, kk⟩))
        · refine wp_if_neg (by simp [kk]) ?_
          try refine wpAny_bind (wpAny_pure ?_)
          rw [sameMem]
          dsimp only
          have sl : t.slot (way t.mask (hM P w k) (c + q)) = .live i := slot_live R.tab.ris hi
          simp only [if_true, sl, R.entry hp]
          refine wpAny_bind (wpAny_isSame_ref_self (wpAny_bind (wpAny_pure ?_)))
          simp only [if_true]
          refine wp_if_neg (by simp [kk]) ?_
          refine searchW R hx hu kf k1 k2 yes no f (c + (q + 1)) _ rfl (by omega) (by omega) fun i0 p0 z0 hk0 => ?_
          obtain ⟨c', a1, a2, a3⟩ := hre i0 p0 z0 hk0
          refine ⟨c', ?_, a2, a3⟩
          by_cases y1 : c' < c + q
          · exfalso
            refine hno (c' - c) i0 (by omega) (by rw [e1, show c + (c' - c) = c' by omega]; exact a3) ?_
            exact (hat i0 p0 z0).trans (congrArg (hM P w) hk0)
          · by_cases y2 : c + q < c'
            · omega
            · exfalso
              have ec : c' = c + q := by omega
              rw [ec] at a3
              have s0 := slot_live R.tab.ris a3
              rw [sl] at s0
              injection s0 with s0
              rw [← s0, hp] at z0
              rw [← Option.some.inj z0] at hk0
              exact kk hk0
      by_cases hl : t.led = true
      · refine wp_if_neg (by simp [hl]) ?_
        try refine wpAny_bind (wpAny_pure ?_)
        exact rest
      · refine wp_if_pos (by simp [hl]) (wpAny_bind (seenM hx (fun y hy => ?_) ?_))
        · obtain ⟨e, he, ee⟩ := List.mem_map.mp hy
          have he1 : e ∈ es ∧ e.1 = hM P w k := by simpa using he
          have he2 : e ∈ es.toList := by simpa using he1.1
          rw [R.rows] at he2
          obtain ⟨p2, m2, q2⟩ := List.mem_map.mp he2
          exact ⟨p2.2, p2.1, by rw [← ee, ← q2], R.tup p2 m2⟩
        · refine wp_if_neg (by decide) ?_
          try refine wpAny_bind (wpAny_pure ?_)
          exact rest
    · have hpr' : t.probe (fun i => (es[i]?.map (·.1)).getD 0) (hM P w k) (stand.getD (t.probeStart (hM P w k))) = some (.empty (way t.mask (hM P w k) K) none) := by
        have e2 : way t.mask (hM P w k) K = (nth t.mask (nth t.mask (str0 t (hM P w k)) c) (K - c)).j := by
          rw [e1, show c + (K - c) = K by omega]
        rw [es0, e2]
        exact hpr
      rw [hpr']
      dsimp only
      refine wpAny_pure (no fun hm => ?_)
      obtain ⟨p0, z0, hk0⟩ := List.mem_map.mp hm
      obtain ⟨i0, hi0⟩ := List.mem_iff_getElem?.mp z0
      obtain ⟨c', a1, a2, a3⟩ := hre i0 p0 hi0 hk0
      refine hno (c' - c) i0 (by omega) (by rw [e1, show c + (c' - c) = c' by omega]; exact a3) ?_
      exact (hat i0 p0 hi0).trans (congrArg (hM P w) hk0)
theorem searchW0 (R : SetW P w s.heap a L es ep t) {x : Addr} {k : List Key} (hx : IsM P w s.heap k x) (hu : A.units < cLine) {Q : SetFound → Shared → Prop}
    (yes : k ∈ L.map (·.2) → Q (.there none) s)
    (no : ∀ K, k ∉ L.map (·.2) → way t.mask (hM P w k) K ∉ t.place.toList → (∀ c, c < K → way t.mask (hM P w k) c ∈ t.place.toList) → Q (.free (way t.mask (hM P w k) K) false) s) :
    wpAny (model P w) A (setSearch a (.ref x) (hM P w k) true) Q E s := by
  have z3 := R.room
  obtain ⟨K, kf, k1, k2⟩ := R.tab.first (by rw [List.length_map]; omega) (hM P w k)
  have big : K < 100000 := by
    have : 10 * SetTable.turns t.mask ≤ 20620 := by
      unfold SetTable.turns
      rcases R.tab.mok with e | e | e | e | e <;> omega
    omega
  unfold setSearch
  refine searchW R hx hu kf k1 k2 yes (fun z => no K z k1 k2) 100000 0 none rfl (Nat.zero_le _) (by omega) fun i p hp hk => ?_
  have hi : (L.map fun p => hM P w p.2)[i]? = some (hM P w k) := by
    rw [List.getElem?_map, hp, ← hk]
    rfl
  have hil : i < t.place.toList.length := by
    have z1 : i < L.length := (List.getElem?_eq_some_iff.mp hp).1
    have z2 := R.tab.sz
    rw [List.length_map] at z2
    rw [Array.length_toList]
    omega
  obtain ⟨c, hc, e⟩ := R.tab.before k1 hi (List.getElem?_eq_getElem hil)
  exact ⟨c, Nat.zero_le _, hc, by rw [List.getElem?_eq_getElem hil, e]⟩
theorem relayW {o : Obj} (g1 : s.heap.get? a = some o) (gx : o.ExactSet) (g2 : o.data = .set es ep t) (hr : es.toList = rowsM P w L) (z1 : t.place.size = es.size) (z2 : t.dummies = #[]) (z3 : es.size ≤ t.mask)
    (nd : (L.map (·.2)).Nodup) (tup : ∀ p ∈ L, IsM P w s.heap p.2 p.1) (ld : w.params.followText "set-order" = true ∨ t.led = true) (few : L.length < 1200) {wanted M : Nat}
    (w1 : SetTable.sizeAbove wanted - 1 = M) (w2 : MaskW M) (w3 : SetTable.sizeAbove wanted ≤ 2048) (w4 : L.length * 5 < M * 3) {Q : Unit → Shared → Prop}
    (q : ∀ h' L' es' ep' t', Heap.SameBut a s.heap h' → SetW P w h' a L' es' ep' t' → L'.Perm L → Q () { s with heap := h' }) : wpAny (model P w) A (setRelay a wanted) Q E s := by
  have sz := rowsM_len hr
  obtain ⟨t', order, e, hp, T, em, el, ep2, ed⟩ := relaid_w t (hs := es.map (·.1)) (wanted := wanted) w1 w2 (by rw [Array.size_map, sz]; omega)
  rw [Array.size_map, sz] at hp
  obtain ⟨L2, r1, r2, r3⟩ := orderM L es order hr hp
  rw [← r3] at T
  have sz2 : (order.filterMap (es[·]?)).size = es.size := by
    rw [rowsM_len r1, r2.length_eq, sz]
  rw [setRelay_eq]
  refine wpAny_bind (wpAny_setState_of g1 g2 (fitsM z2 z1 z3) ?_)
  dsimp only
  refine wp_if_neg (by rw [sizeLine_eq]; omega) ?_
  try refine wpAny_bind (wpAny_pure ?_)
  rw [e]
  dsimp only
  refine wpAny_bind (wp_if_neg (by rw [sz2]; simp) ?_)
  try refine wpAny_bind (wpAny_pure ?_)
  refine wpAny_pure ?_
  dsimp only
  refine wpAny_storeSet_of g1 g2 ?_ (by rw [sz2, sz, sizeLine_eq]; omega)
  have sb : Heap.SameBut a s.heap (s.heap.update a (Obj.putSet (order.filterMap (es[·]?)) t')) := Heap.SameBut.update ..
  refine q _ L2 (order.filterMap (es[·]?)) (ep + 1) t' sb ⟨⟨_, store_at g1 g2, ⟨gx.1, gx.2.1, gx.2.2⟩, rfl⟩, r1, T, (r2.map (·.2)).nodup_iff.mpr nd, fun p z => isM_but (tup p (r2.mem_iff.mp z)) g1 g2 sb, by rw [el]; exact ld, ?_, by rw [r2.length_eq]; exact few⟩ r2
  rw [r2.length_eq, em]
  exact w4
theorem addW (R : SetW P w s.heap a L es ep t) {x : Addr} {k : List Key} (hx : IsM P w s.heap k x) (hu : A.units < cLine) (few : L.length + 1 < 1200) {Q : Bool → Shared → Prop}
    (q : ∀ b h' L' es' ep' t', Heap.SameBut a s.heap h' → SetW P w h' a L' es' ep' t' → (k ∈ L.map (·.2) → L' = L) → (k ∉ L.map (·.2) → L'.Perm ((x, k) :: L)) → Q b { s with heap := h' }) :
    wpAny (model P w) A (setAddHashed a (.ref x) (hM P w k)) Q E s := by
  obtain ⟨ob, g1, gx, g2⟩ := R.ob
  have sz := rowsM_len R.rows
  have z3 := R.room
  unfold setAddHashed
  refine wpAny_holding ?_
  rw [show (100000 : Nat) = 99999 + 1 from rfl, setAddHashedIn_succ]
  refine wpAny_bind (wpAny_setState_of g1 g2 R.fits ?_)
  dsimp only
  refine wp_if_neg (by simp [byScan, Value.scannable]) ?_
  try refine wpAny_bind (wpAny_pure ?_)
  refine wpAny_bind (searchW0 R hx hu (fun hm => ?_) fun K hm k1 k2 => ?_)
  · dsimp only
    exact wpAny_pure (q false s.heap L es ep t (Heap.SameBut.refl a s.heap) R (fun _ => rfl) fun z => absurd hm z)
  · dsimp only
    refine wpAny_bind (wpAny_setState_of g1 g2 R.fits ?_)
    dsimp only
    obtain ⟨q1, q2, q3, q4, q5, q6, q7, q8, q9⟩ := R.tab.put k1 k2
    generalize t.put (way t.mask (hM P w k) K) = pt at q1 q3 q4 q5 q6 q7 q8 q9 ⊢
    obtain ⟨t1, p⟩ := pt
    dsimp only at q1 q3 q4 q5 q6 q7 q8 q9 ⊢
    subst q1
    have put : ∀ t2 : SetTable, TabW t2 ((L.map fun p => hM P w p.2).take (SetTable.below t.place (way t.mask (hM P w k) K)) ++ hM P w k :: (L.map fun p => hM P w p.2).drop (SetTable.below t.place (way t.mask (hM P w k) K))) → t2.mask = t.mask → t2.led = t.led → t2.fill = (L.map fun p => hM P w p.2).length + 1 →
        wpAny (model P w) A (do
          storeSet a (SetTable.insertAt es (SetTable.below t.place (way t.mask (hM P w k) K)) (hM P w k, Value.ref x)) t2
          if (!false && t2.tooFull) = true then do
            setRelay a (SetTable.grown (es.size + 1))
            pure true
          else pure true) Q E s := fun t1 q3 q4 q5 q9 => by
      generalize epp : SetTable.below t.place (way t.mask (hM P w k) K) = p at q2 q3 ⊢
      have pm := put_perm L p (x, k)
      have hin : (SetTable.insertAt es p (hM P w k, Value.ref x)).toList = rowsM P w (L.take p ++ (x, k) :: L.drop p) := by
        rw [SetTable.toList_insertAt, R.rows]
        unfold rowsM
        rw [List.map_append, List.map_cons, List.map_take, List.map_drop]
      have hhs : (L.take p ++ (x, k) :: L.drop p).map (fun p => hM P w p.2) = (L.map fun p => hM P w p.2).take p ++ hM P w k :: (L.map fun p => hM P w p.2).drop p := by
        rw [List.map_append, List.map_cons, List.map_take, List.map_drop]
      rw [← hhs] at q3
      have sz1 := rowsM_len hin
      generalize SetTable.insertAt es p (hM P w k, Value.ref x) = es1 at hin sz1 ⊢
      generalize L.take p ++ (x, k) :: L.drop p = L1 at pm q3 hin sz1
      have len1 : L1.length = L.length + 1 := pm.length_eq
      have nd1 : (L1.map (·.2)).Nodup := by
        refine (pm.map (·.2)).nodup_iff.mpr ?_
        rw [List.map_cons]
        exact List.nodup_cons.mpr ⟨hm, R.nd⟩
      refine wpAny_bind (wpAny_storeSet_of g1 g2 ?_ (by rw [sz1, len1, sizeLine_eq]; omega))
      have sb : Heap.SameBut a s.heap (s.heap.update a (Obj.putSet es1 t1)) := Heap.SameBut.update ..
      have o1 := store_at (es' := es1) (t' := t1) g1 g2
      generalize s.heap.update a (Obj.putSet es1 t1) = h1 at sb o1 ⊢
      have tup1 : ∀ p ∈ L1, IsM P w h1 p.2 p.1 := fun p hp => by
        rcases List.mem_cons.mp (pm.mem_iff.mp hp) with e | hp
        · rw [e]
          exact isM_but hx g1 g2 sb
        · exact isM_but (R.tup p hp) g1 g2 sb
      have ld1 : w.params.followText "set-order" = true ∨ t1.led = true := by rw [q5]; exact R.led
      have hfull : t1.tooFull = decide ((L.length + 1) * 5 ≥ t1.mask * 3) := by
        unfold SetTable.tooFull
        rw [q9, List.length_map]
      by_cases hf : (L.length + 1) * 5 ≥ t1.mask * 3
      · have hf' : t1.tooFull = true := by rw [hfull, decide_eq_true hf]
        first
          | (refine wpAny_bind ?_; refine wp_if_pos (by simp [hf']) ?_)
          | (refine wp_if_pos (by simp [hf']) ?_; refine wpAny_bind ?_)
        rw [sz]
        have y1 : t1.place.size = es1.size := by
          have z := q3.sz
          rw [List.length_map] at z
          rw [z, sz1]
        have two : (t.mask = 7 ∧ L.length = 4) ∨ (t.mask = 31 ∧ L.length = 18) ∨ (t.mask = 127 ∧ L.length = 76) ∨ (t.mask = 511 ∧ L.length = 306) := by
          rw [q4] at hf
          rcases R.tab.mok with e | e | e | e | e <;> rw [e] at hf z3
          · exact .inl ⟨e, by omega⟩
          · exact .inr (.inl ⟨e, by omega⟩)
          · exact .inr (.inr (.inl ⟨e, by omega⟩))
          · exact .inr (.inr (.inr ⟨e, by omega⟩))
          · omega
        have go : ∀ M, SetTable.sizeAbove (SetTable.grown (L.length + 1)) - 1 = M → MaskW M → SetTable.sizeAbove (SetTable.grown (L.length + 1)) ≤ 2048 → (L.length + 1) * 5 < M * 3 →
            wpAny (model P w) A (setRelay a (SetTable.grown (L.length + 1))) (fun _ s' => wpAny (model P w) A (pure true) Q E s') E { s with heap := h1 } := fun M m1 m2 m3 m4 => by
          refine relayW (s := { s with heap := h1 }) o1 ⟨gx.1, gx.2.1, gx.2.2⟩ rfl hin y1 q3.dm (by rw [sz1, len1, q4]; rcases two with ⟨e, e2⟩ | ⟨e, e2⟩ | ⟨e, e2⟩ | ⟨e, e2⟩ <;> omega) nd1 tup1 ld1 (by rw [len1]; exact few) m1 m2 m3 (by rw [len1]; exact m4) ?_
          exact fun h2 L2 es2 ep2 t2 sb2 R2 pm2 => wpAny_pure (q true h2 L2 es2 ep2 t2 (sb.trans sb2) R2 (fun z => absurd z hm) fun _ => pm2.trans pm)
        rcases two with ⟨_, e2⟩ | ⟨_, e2⟩ | ⟨_, e2⟩ | ⟨_, e2⟩
        · exact go 31 (by rw [e2, grow_5]) (.inr (.inl rfl)) (by rw [e2, grow_5]; decide) (by omega)
        · exact go 127 (by rw [e2, grow_19]) (.inr (.inr (.inl rfl))) (by rw [e2, grow_19]; decide) (by omega)
        · exact go 511 (by rw [e2, grow_77]) (.inr (.inr (.inr (.inl rfl)))) (by rw [e2, grow_77]; decide) (by omega)
        · exact go 2047 (by rw [e2, grow_307]) (.inr (.inr (.inr (.inr rfl)))) (by rw [e2, grow_307]; decide) (by omega)
      · have hf' : ¬ t1.tooFull = true := by
          rw [hfull, decide_eq_false hf]
          decide
        first
          | refine wp_if_neg (by simp [hf']) ?_
          | (refine wpAny_bind ?_; refine wp_if_neg (by simp [hf']) ?_; refine wpAny_pure ?_)
        exact wpAny_pure (q true h1 L1 es1 (ep + 1) t1 sb ⟨⟨_, o1, ⟨gx.1, gx.2.1, gx.2.2⟩, rfl⟩, hin, q3, nd1, tup1, ld1, by rw [len1]; omega, by rw [len1]; exact few⟩ (fun z => absurd z hm) fun _ => pm)
    have any := fun y : Bool => put (if y = true then t1 else { t1 with plain := false })
      (by cases y; exact ⟨q3.ris, q3.dm, q3.sz, q3.mok, q3.bd, q3.reach⟩; exact q3) (by cases y <;> exact q4) (by cases y <;> exact q5) (by cases y <;> exact q9)
    first
      | (refine wpAny_bind ?_; by_cases pl : t1.plain = true; exact wp_if_pos pl (hashM hx any); exact wp_if_neg pl (wpAny_pure (any true)))
      | (by_cases pl : t1.plain = true; exact wp_if_pos pl (wpAny_bind (hashM hx any)); exact wp_if_neg pl (wpAny_bind (wpAny_pure (any true))))
end
end Onp
set_option maxHeartbeats 4000000
set_option autoImplicit false
/-! set(..), len(set(..)) of fewer than 1200 tuples -/
namespace Onp
open PySem PySem.Spec PyProof.Rows L2
section
variable {P : Program} {w : World} {A : Around} {E : Value → Shared → Prop} {s : Shared}
def GW (P : Program) (w : World) (S : Addr) (ks : List AK) (i : Nat) (h : Heap) : Prop := ∃ L es ep t, SetW P w h S L es ep t ∧ GotM ks i L
theorem keepsW {S : Addr} {h0 : Heap} {ks : List AK} (hk : ∀ p ∈ ks, IsM P w h0 p.2 p.1) : KeepsSet S h0 (GW P w S ks) := fun i h h' ⟨L, es, ep, t, R, g⟩ z1 z2 => by
  obtain ⟨o, ho, r⟩ := R.ob
  refine ⟨L, es, ep, t, ⟨⟨o, z1 o ho, r⟩, R.rows, R.tab, R.nd, fun p hp => ?_, R.led, R.room, R.few⟩, g⟩
  obtain ⟨o2, its, n, y1, y2⟩ := hk p (List.mem_of_mem_take (g.sub p hp))
  exact ⟨o2, its, n, z2 _ _ y1, y2⟩
theorem addsW {S : Addr} {h0 : Heap} {ks : List AK} {its : Array Value} (hu : A.units < cLine) (hit : its.toList = ks.map fun p => Value.ref p.1) (hk : ∀ p ∈ ks, IsM P w h0 p.2 p.1) (few : ks.length < 1200) : AddsTo P w A S h0 (fun i v => its[i]? = some v) (GW P w S ks) := by
  intro i v s E pv ⟨L, es, ep, t, R, g⟩ z
  obtain ⟨p, hp, rfl⟩ : ∃ p, ks[i]? = some p ∧ v = .ref p.1 := by
    have e : its.toList[i]? = some v := by rw [Array.getElem?_toList]; exact pv
    rw [hit, List.getElem?_map] at e
    cases y : ks[i]? with
    | none => rw [y] at e; cases e
    | some p => rw [y] at e; exact ⟨p, rfl, (Option.some.inj e).symm⟩
  have hlt : i < ks.length := (List.getElem?_eq_some_iff.mp hp).1
  have hx : IsM P w s.heap p.2 p.1 := by
    obtain ⟨o2, its, n, y1, y2⟩ := hk p (List.mem_of_getElem? hp)
    exact ⟨o2, its, n, z _ _ y1, y2⟩
  unfold setAdd
  refine wpAny_holding (wpAny_bind (wpAny_pyHash_tuple hu hx ?_))
  refine addW (s := { s with toks := s.toks + (p.2.length + 1) }) R hx hu (by have := g.len; omega) fun b h' L' es' ep' t' sb R' c1 c2 => ?_
  refine ⟨h', s.toks + (p.2.length + 1), rfl, Nat.le_add_right _ _, sb, L', es', ep', t', R', ?_⟩
  by_cases c : p.2 ∈ L.map (·.2)
  · rw [c1 c]
    exact g.same hp c
  · exact g.more hp (c2 c)
theorem freshW {h : Heap} {S : Addr} {ks : List AK} (e : h.get? S = some (set0 w)) : GW P w S ks 0 h := by
  refine ⟨[], #[], 0, .fresh 0 0 (!w.params.followText "set-order"), ⟨⟨_, e, ⟨rfl, rfl, rfl⟩, rfl⟩, rfl, ⟨List.Pairwise.nil, rfl, rfl, .inl rfl, fun x hx => (by cases hx), fun i h j hi => (by simp at hi)⟩, List.nodup_nil, fun p hp => (by cases hp), ?_, by show 0 * 5 < 7 * 3; decide, by show 0 < 1200; decide⟩, ⟨fun p hp => (by cases hp), fun p hp => (by simp at hp), Nat.le_refl _⟩⟩
  show _ ∨ (!w.params.followText "set-order") = true
  cases w.params.followText "set-order"
  · exact .inr rfl
  · exact .inl rfl
end
section
variable {X : Cx}
def tLenSetW (K : PySem.W.Frag) (ta : TE) : TE := fun σ H Q => ta σ H fun x H1 => ∃ (l : Addr) (ks : List AK), x = .ref l ∧ (SqL K H1 l (ks.map fun p => V.ref p.1) ∨ SqT K H1 l (ks.map fun p => V.ref p.1)) ∧ (∀ p ∈ ks, SqT K H1 p.1 (p.2.map kV)) ∧ ks.length < 1200 ∧
  ∀ n : Nat, n ≤ ks.length → (n < ks.length ↔ ¬ (ks.map (·.2)).Nodup) → Q (.int n) H1
theorem pe_lenSetW {a : Expr} {ta : TE} {p p2 q pos : Pos} (hc : X.calm = true) (hu : X.A.units + 64 < cLine) (hg : Gl X "len") (hm : X.mg "len" = none) (hg2 : Gl X "set") (hm2 : X.mg "set" = none) (ha : PE X a ta)
    (na : starEach [a] X.env = (false, eval a X.env) :: starEach [] X.env := by rfl) : PE X (.Call (.Name "len" p) [.Call (.Name "set" p2) [a] [] q] [] pos) (tLenSetW X.K ta) := by
  refine ⟨fun pins s σ H Q I h => ?_⟩
  refine Call_ (ld_blt I hg hm PySem.boot_len (PyProof.Rows.callWith_builtin1 (PyProof.Rows.args_cons ?_ rfl) rfl rfl))
  refine Call_ (ld_blt I hg2 hm2 PyProof.Rows.boot_set (PyProof.Rows.callWith_type1 (PyProof.Rows.args_cons (thn (ha.run pins s σ H _ I h) fun v s1 ⟨x, H1, I1, r1, q1⟩ => PyProof.Rows.args_nil ?_) na) na rfl))
  obtain ⟨l, ks, rfl, hq, hk, few, q1⟩ := q1
  cases r1
  have tu : ∀ p ∈ ks, IsM X.prog X.w s1.heap p.2 p.1 := fun p hp => inv_isM I1 (hk p hp)
  have fin : ∀ (its : Array Value), its.size = ks.length → ∀ (h' : Heap) (tk : Nat), GW X.prog X.w s1.heap.objs.size ks its.size h' → (∀ b o, s1.heap.get? b = some o → h'.get? b = some o) →
      wpAny (model X.prog X.w) X.A (spliced (backTo pos (starEach [] X.env))) (fun vs s₂ => wpAny (model X.prog X.w) X.A (call (.builtin "len") (Value.ref s1.heap.objs.size :: vs)) (EP X pins σ Q) X.xe s₂) X.xe { s1 with heap := h', toks := tk } := fun its sz h' tk g kp => by
    refine PyProof.Rows.args_nil ?_
    obtain ⟨L, es, ep, t, R, g⟩ := g
    rw [sz, ] at g
    have I2 : Inv X pins σ H1 { s1 with heap := h', toks := tk } := I1.kept fun b o e => kp b o e
    obtain ⟨o, ho, hex, hd⟩ := R.ob
    have ez := rowsM_len R.rows
    have cn := count_nd (l := L.map (·.2)) (D := ks.map (·.2)) R.nd (fun x hx => by
      obtain ⟨p, hp, rfl⟩ := List.mem_map.mp hx
      exact List.mem_map_of_mem (List.mem_of_mem_take (g.sub p hp))) (fun x hx => by
      obtain ⟨p, hp, rfl⟩ := List.mem_map.mp hx
      exact g.all p (by rw [List.take_length]; exact hp))
    simp only [List.length_map] at cn
    refine call_len_set ho hex hd (R.fits (s := { s1 with heap := h', toks := tk })) (by rw [ez]; omega) ⟨.int L.length, H1, I2.tok _, ⟨_, by rw [ez]⟩, q1 L.length cn.1 cn.2⟩
  rcases hq with hq | hq
  · obtain ⟨its, r, pl, hz⟩ := I1.list hq
    have sz : its.toArray.size = ks.length := by rw [List.size_toArray, ← r.length, List.length_map]
    exact callSet_list (I1.ok.hd hc) pl.isList (GW X.prog X.w s1.heap.objs.size ks) (addsW (by show X.A.in1.in1.in1.units < cLine; simp; omega) (by simpa using refsM r) tu few) (keepsW tu) (fun h e => freshW e) fun h' tk g kp => fin its.toArray sz h' tk g kp
  · obtain ⟨its, r, pl, hz⟩ := I1.tuple hq
    have sz : its.toArray.size = ks.length := by rw [List.size_toArray, ← r.length, List.length_map]
    exact callSet_tuple (I1.ok.hd hc) pl (GW X.prog X.w s1.heap.objs.size ks) (addsW (by show X.A.in1.in1.in1.units < cLine; simp; omega) (by simpa using refsM r) tu few) (keepsW tu) (fun h e => freshW e) fun h' tk g kp => fin its.toArray sz h' tk g kp
end
end Onp
set_option maxHeartbeats 8000000
set_option autoImplicit false
namespace Onp
open PySem PySem.Spec PyProof.Rows L2 HotX L2H LamX
/-! ### Machine(..), of whatever is handed in -/
def arwG (n : Int) (ls : List Nat) (as : List Arw) : Prop := (∀ a ∈ as, arrB n ls a = true) ∧ as.Nodup
instance (n : Int) (ls : List Nat) (as : List Arw) : Decidable (arwG n ls as) := by unfold arwG; exact inferInstance
def rooG (n : Int) (ns : List Int) : Prop := (∀ r ∈ ns, rooB n r = true) ∧ ns.Nodup
instance (n : Int) (ns : List Int) : Decidable (rooG n ns) := by unfold rooG; exact inferInstance
/-- why it is refused -/
def whyM (M : AM) : Option Str := if ¬ (1 ≤ M.n ∧ M.n ≤ 8) then some "BadSize" else if letB M.ls = false then some "BadLetters" else if ¬ arwG M.n M.ls M.as then some "BadArrow" else if 40 < M.as.length then some "Full" else if ¬ rooG M.n M.fs then some "BadRoom" else if ¬ rooG M.n M.gs then some "BadRoom" else none
theorem wo_size : wordOf "BadSize" = "badsize" := by decide +kernel
theorem wo_letters : wordOf "BadLetters" = "badletters" := by decide +kernel
theorem wo_arrow : wordOf "BadArrow" = "badarrow" := by decide +kernel
theorem wo_full : wordOf "Full" = "full" := by decide +kernel
theorem wo_room : wordOf "BadRoom" = "badroom" := by decide +kernel
section
variable {P : Program} {w : World} {K : PySem.W.Frag} {mg : Str → Option Value} {base : Heap}
def spNeedAX (K : PySem.W.Frag) (CA CF : Addr) : Sp := fun vs H Q E => ∃ (l : Addr) (ps : List AR) (n : Int) (ls : List Nat), vs = [.ref l, .int n, .str (Sx ls)] ∧ SqA K H l (rfs ps) ∧ RowAt K H ps ∧ (∀ p ∈ ps, p.2.2.1.length ≤ sizeLine) ∧ ps.length < 1000 ∧
  (¬ arwG n ls (ps.map (·.2)) → ∀ H', Same H H' → badW CA "badarrow" H' E) ∧ (arwG n ls (ps.map (·.2)) → 40 < ps.length → ∀ H', Same H H' → badW CF "full" H' E) ∧ (arwG n ls (ps.map (·.2)) → ps.length ≤ 40 → ∀ H', Same H H' → Q .non H')
theorem ok_needAX {f fA fL tD CA CF iA iF : Addr} {fd fdA fdL fdiA fdiF : FuncData} {k : Nat} (F : Fun K "need_arrows" "need_arrows" sNeedA f fd) (Ia : FnM K mg fA fdA "is_arrow" sIsA ["arrow", "rooms", "letters"]) (Il : FnM K mg fL fdL "is_letter" sIsL ["text", "letters"]) (SA : MkBadArrow K mg CA iA fdiA) (SF : MkFull K mg CF iF fdiF) (B : Bl1 mg) (C : CsM K mg tD) :
    FnOk P w K mg base (L2N.CX P w) (k + 3) f fd ["arrows", "rooms", "letters"] (spNeedAX K CA CF) := by
  have GA : FnOk P w K mg base CX0 (k + 2) fA fdA ["arrow", "rooms", "letters"] (spIsA K) := ok_isA Ia.F Il B C
  obtain ⟨t1, gA⟩ := C.arrows
  refine okN F scNeedA (fun vs H Q E h => ?_) (fun cdv A outer s H vs Q E hr h => ?_)
  · obtain ⟨l, ps, n, ls, rfl, _⟩ := h
    rfl
  · obtain ⟨l, ps, n, ls, rfl, hl, hR, hA, hfew, eA, eF, q⟩ := h
    refine ⟨_, pss_cons (ps_if (PW.pt (pw_or (pt_not (pt_val (pe_callB (cr_all rfl) (by rfl) B.all (by decide +kernel) (pa_cons (pe_lc (own := [("arrow", 3)]) (g := gName 3) (tt := tYes) (te := tCall (spIsA K) [] E0 (tCons (tVar 3) (tCons (tVar 1) (tCons (tVar 2) tNil)))) rfl scNeedA.nd
          (pi_any (pv 0)) (blkOk_by (own := [("arrow", 3)]) (N := NNa) (sc := defScope sNeedA) (by decide +kernel)) (fun _ _ _ _ _ => pg_name (i := 3) scNeedA.nd rfl (.inl rfl)) (fun _ _ _ _ _ => pts_nil)
          (fun _ _ _ _ _ => pe_call GA hr (by rfl) Ia.g Ia.F.kp Ia.b .nil pass0 (pa_cons (pv 3) (pa_cons (pv 1) (pa_cons (pv 2) pa_nil))))) pa_nil))))
          (pw_or1 (pt_cmpR op_lt (pe_lenSetW rfl hr.units (by rfl) B.len (by rfl) B.set (pv 0)) (pe_callB call_len_seq (by rfl) B.len PySem.boot_len (pa_cons (pv 0) pa_nil)) (nomark _))))) (pss_one (L2N.ps_raise rfl (L2N.takes_of rfl rfl rfl rfl) (pmk_word (k := k + 1) SA.T SA.iC SA.tI (ok_initBadArrow SA) hr SA.b (by rfl) SA.g))) pss_nil)
      (pss_one (ps_if (pt_cmpR op_gt (pe_callB call_len_seq (by rfl) B.len PySem.boot_len (pa_cons (pv 0) pa_nil)) (pe_glob (v := .int 40) rfl gA ⟨_, rfl⟩) (nomark _)) (pss_one (L2N.ps_raise rfl (L2N.takes_of rfl rfl rfl rfl) (pmk_word (k := k + 1) SF.T SF.iC SF.tI (ok_initFull SF) hr SF.b (by rfl) SF.g))) pss_nil)), ?_⟩
    refine ⟨_, rfl, l, rfs ps, rfl, hl, fun J G W hG D nD => ?_⟩
    have hlen : (rfs ps).length = ps.length := List.length_map ..
    have hbig : 5000 ≤ sizeLine := by decide
    refine lc_it W (fun i H' => Same H H' ∧ H' D = some (.lst (((ps.take i).map fun p => arrB n ls p.2).map V.bl))) ⟨same_upd nD, upd_same⟩ (fun i H' _ ⟨sm, _⟩ => hG H' sm) ?_ ?_
    · rintro i v H1 H2 hi ⟨sm, hD⟩ ⟨rfl, hv⟩
      rw [hlen] at hi
      have hp : ps[i]? = some ps[i] := List.getElem?_eq_getElem hi
      have ev : v = .ref ps[i].1 := by
        unfold rfs at hv
        rw [List.getElem?_map, hp] at hv
        exact (Option.some.inj hv).symm
      subst ev
      refine ⟨rfl, ?_⟩
      refine yes2 ?_
      refine ⟨_, rfl, _, rfl, _, rfl, ps[i].1, ps[i].2, n, ls, rfl, same_seqT sm (hR _ (List.getElem_mem hi)), hA _ (List.getElem_mem hi), ?_⟩
      refine ⟨_, hD, ?_, fun b o e => ?_, ?_⟩
      · rw [List.length_map, List.length_map, List.length_take]
        omega
      · rw [upd_ne (ne_of_none e nD)]
        exact sm _ _ e
      · rw [upd_same, take_next hp, List.map_append, List.map_append]
        rfl
    · rintro H1 ⟨s1, hD⟩
      rw [hlen, List.take_length] at hD
      refine ⟨D, _, rfl, SqL.of hD, _, rfl, ?_⟩
      have ea : (ps.map fun p => arrB n ls p.2).all id = decide (∀ a ∈ (ps.map fun p : AR => p.2), arrB n ls a = true) := by
        rw [Bool.eq_iff_iff, List.all_eq_true, decide_eq_true_eq]
        constructor
        · intro h a ha
          obtain ⟨p, hp, rfl⟩ := List.mem_map.mp ha
          exact h _ (List.mem_map.mpr ⟨p, hp, rfl⟩)
        · intro h b hb
          obtain ⟨p, hp, rfl⟩ := List.mem_map.mp hb
          exact h p.2 (List.mem_map_of_mem hp)
      rw [ea]
      rcases Classical.em (∀ a ∈ (ps.map fun p : AR => p.2), arrB n ls a = true) with hall | hall
      rotate_left
      · rw [decide_eq_false hall]
        exact iteT (fun d hd => eA (fun g => hall g.1) H1 s1 d hd)
      rw [decide_eq_true hall]
      have hl1 := sqA_same s1 hl
      refine iteF ⟨_, rfl, l, ps.map fun p => (p.1, akey p.2), rfl, ?_, ?_, by rw [List.length_map]; omega, fun m m1 m2 => ?_⟩
      · have e : ((ps.map fun p => (p.1, akey p.2)).map fun p => V.ref p.1) = rfs ps := by
          unfold rfs
          rw [List.map_map]
          rfl
        rw [e]
        exact hl1
      · intro p hp
        obtain ⟨a, ha, rfl⟩ := List.mem_map.mp hp
        exact same_seqT s1 (hR a ha)
      · rw [List.length_map] at m1 m2
        have enk : (ps.map fun p => (p.1, akey p.2)).map (·.2) = (ps.map (·.2)).map akey := by
          rw [List.map_map, List.map_map]
          rfl
        rw [enk] at m2
        refine ⟨_, rfl, l, rfs ps, rfl, hl1, _, _, rfl, rfl, _, rfl, ?_⟩
        by_cases hnd : (ps.map (·.2)).Nodup
        · have em : m = ps.length := by
            by_cases h : m < ps.length
            · exact absurd (nodup_map_inj (fun _ _ => akey_inj) hnd) (m2.mp h)
            · omega
          subst em
          refine itF (by rw [hlen]; omega) ?_
          refine ⟨_, rfl, l, rfs ps, rfl, hl1, _, _, rfl, rfl, _, rfl, ?_⟩
          by_cases h40 : 40 < ps.length
          · refine itT (show ((rfs ps).length : Int) > 40 by rw [hlen]; omega) (fun d hd => eF ⟨hall, hnd⟩ h40 H1 s1 d hd)
          · exact itF (show ¬ ((rfs ps).length : Int) > 40 by rw [hlen]; omega) (q ⟨hall, hnd⟩ (by omega) H1 s1)
        · have hk : ¬ ((ps.map (·.2)).map akey).Nodup := fun z => hnd (List.Pairwise.of_map akey (fun a b h e => h (by rw [e])) z)
          have hm := m2.mpr hk
          exact itT (by rw [hlen]; omega) (fun d hd => eA (fun g => hnd g.2) H1 s1 d hd)
/-! ### need_rooms -/
def spNeedRX (K : PySem.W.Frag) (CR : Addr) : Sp := fun vs H Q E => ∃ (l : Addr) (ns : List Int) (n : Int), vs = [.ref l, .int n] ∧ SqA K H l (ns.map V.int) ∧ ns.length ≤ 100 ∧ (¬ rooG n ns → ∀ H', Same H H' → badW CR "badroom" H' E) ∧ (rooG n ns → ∀ H', Same H H' → Q .non H')
theorem ok_needRX {f CR iR : Addr} {fd fdiR : FuncData} {k : Nat} (F : Fun K "need_rooms" "need_rooms" sNeedR f fd) (SR : MkBadRoom K mg CR iR fdiR) (B : Bl1 mg) : FnOk P w K mg base (L2N.CX P w) (k + 3) f fd ["some", "rooms"] (spNeedRX K CR) := by
  refine okN F scNeedR (fun vs H Q E h => ?_) (fun cdv A outer s H vs Q E hr h => ?_)
  · obtain ⟨l, ns, n, rfl, _⟩ := h
    rfl
  · obtain ⟨l, ns, n, rfl, hl, hfew, eR, q⟩ := h
    refine ⟨_, pss_one (ps_if (PW.pt (pw_or (pt_not (pt_val (pe_callB (cr_all rfl) (by rfl) B.all (by decide +kernel) (pa_cons (pe_lc (own := [("room", 2)]) (g := gName 2) (tt := tYes) rfl scNeedR.nd
          (pi_any (pv 0)) (blkOk_by (own := [("room", 2)]) (N := NNr) (sc := defScope sNeedR) (by decide +kernel)) (fun _ _ _ _ _ => pg_name (i := 2) scNeedR.nd rfl (.inl rfl)) (fun _ _ _ _ _ => pts_nil)
          (fun _ _ _ _ _ => pe_chain op_le op_lt pe_int (pv 2) (pv 1))) pa_nil))))
          (pw_or1 (pt_cmpR op_lt (pe_lenSetK rfl (by rfl) B.len (by rfl) B.set (pv 0)) (pe_callB call_len_seq (by rfl) B.len PySem.boot_len (pa_cons (pv 0) pa_nil)) (nomark _))))) (pss_one (L2N.ps_raise rfl (L2N.takes_of rfl rfl rfl rfl) (pmk_word (k := k + 1) SR.T SR.iC SR.tI (ok_initBadRoom SR) hr SR.b (by rfl) SR.g))) pss_nil), ?_⟩
    have hlen : (ns.map V.int).length = ns.length := List.length_map ..
    have hbig : 5000 ≤ sizeLine := by decide
    refine ⟨_, rfl, l, ns.map V.int, rfl, hl, fun J G W hG D nD => ?_⟩
    refine lc_it W (fun i H' => Same H H' ∧ H' D = some (.lst (((ns.take i).map fun r => rooB n r).map V.bl))) ⟨same_upd nD, upd_same⟩ (fun i H' _ ⟨sm, _⟩ => hG H' sm) ?_ ?_
    · rintro i v H1 H2 hi ⟨sm, hD⟩ ⟨rfl, hv⟩
      rw [hlen] at hi
      have hp : ns[i]? = some ns[i] := List.getElem?_eq_getElem hi
      rw [List.getElem?_map, hp] at hv
      obtain rfl := Option.some.inj hv
      refine ⟨rfl, ?_⟩
      refine yes2 ?_
      have fin : ∃ acc, H2 D = some (.lst acc) ∧ acc.length < sizeLine ∧ Same H (upd H2 D (.lst (acc ++ [V.bl (rooB n ns[i])]))) ∧ (upd H2 D (.lst (acc ++ [V.bl (rooB n ns[i])]))) D = some (.lst (((ns.take (i + 1)).map fun r => rooB n r).map V.bl)) := by
        refine ⟨_, hD, ?_, fun b o e => ?_, ?_⟩
        · rw [List.length_map, List.length_map, List.length_take]
          omega
        · rw [upd_ne (ne_of_none e nD)]
          exact sm _ _ e
        · rw [upd_same, take_next hp, List.map_append, List.map_append]
          rfl
      by_cases h0 : 0 ≤ ns[i]
      · refine ⟨_, rfl, _, _, rfl, rfl, _, rfl, itT h0 ⟨_, rfl, _, _, rfl, rfl, ?_⟩⟩
        have eb : rooB n ns[i] = decide (ns[i] < n) := by
          unfold rooB
          rw [decide_eq_true h0, Bool.true_and]
        rw [eb] at fin
        exact fin
      · refine ⟨_, rfl, _, _, rfl, rfl, _, rfl, itF h0 ?_⟩
        have eb : rooB n ns[i] = false := by
          unfold rooB
          rw [decide_eq_false h0, Bool.false_and]
        rw [eb] at fin
        exact fin
    · rintro H1 ⟨s1, hD⟩
      rw [hlen, List.take_length] at hD
      refine ⟨D, _, rfl, SqL.of hD, _, rfl, ?_⟩
      have ea : (ns.map fun r => rooB n r).all id = decide (∀ r ∈ ns, rooB n r = true) := by
        rw [Bool.eq_iff_iff, List.all_eq_true, decide_eq_true_eq]
        constructor
        · intro h r hr
          exact h _ (List.mem_map.mpr ⟨r, hr, rfl⟩)
        · intro h b hb
          obtain ⟨r, hr, rfl⟩ := List.mem_map.mp hb
          exact h r hr
      rw [ea]
      rcases Classical.em (∀ r ∈ ns, rooB n r = true) with hall | hall
      rotate_left
      · rw [decide_eq_false hall]
        exact iteT (fun d hd => eR (fun g => hall g.1) H1 s1 d hd)
      rw [decide_eq_true hall]
      have hl1 := sqA_same s1 hl
      refine iteF ⟨_, rfl, l, ns.map Sum.inl, rfl, ?_, by rw [List.length_map]; omega, fun m m1 m2 => ?_⟩
      · have e : (ns.map Sum.inl).map kV = ns.map V.int := by
          rw [List.map_map]
          rfl
        rw [e]
        exact hl1
      · rw [List.length_map] at m1 m2
        refine ⟨_, rfl, l, ns.map V.int, rfl, hl1, _, _, rfl, rfl, _, rfl, ?_⟩
        by_cases hnd : ns.Nodup
        · have em : m = ns.length := by
            by_cases h : m < ns.length
            · exact absurd (nodup_map_inj (fun _ _ e => Sum.inl.inj e) hnd) (m2.mp h)
            · omega
          subst em
          exact itF (by rw [hlen]; omega) (q ⟨hall, hnd⟩ H1 s1)
        · have hk : ¬ (ns.map (Sum.inl : Int → L2.Key)).Nodup := fun z => hnd (List.Pairwise.of_map Sum.inl (fun a b h e => h (by rw [e])) z)
          have hm := m2.mpr hk
          exact itT (by rw [hlen]; omega) (fun d hd => eR (fun g => hnd g.2) H1 s1 d hd)
/-! ### Machine.__init__ -/
def spMInitX (K : PySem.W.Frag) (C : Addr) (ec : Str → Addr) : Sp := fun vs H Q E => ∃ (x dx la lf lg : Addr) (ps : List AR) (M : AM), vs = [.ref x, .int M.n, .str (Sx M.ls), .ref la, .ref lf, .ref lg] ∧ H x = some (.ins C dx []) ∧ SqA K H la (rfs ps) ∧ RowAt K H ps ∧ ps.map (·.2) = M.as ∧ (∀ p ∈ ps, p.2.2.1.length ≤ sizeLine) ∧ ps.length < 1000 ∧ SqA K H lf (M.fs.map V.int) ∧ SqA K H lg (M.gs.map V.int) ∧ M.ls.length ≤ 1000 ∧ M.fs.length ≤ 100 ∧ M.gs.length ≤ 100 ∧
  (∀ nm, whyM M = some nm → ∀ H', Same H H' → badW (ec nm) (wordOf nm) H' E) ∧ (whyM M = none → ∀ H', Keep x H H' → MachAt K C H' x M.srt → Q .non H')
theorem ok_minitX {f C fAl fIl fIa fNa fNr fSb tD iS iL iA iF iR : Addr} {fd fdAl fdIl fdIa fdNa fdNr fdSb fdiS fdiL fdiA fdiF fdiR : FuncData} {ec : Str → Addr} {k : Nat} {dvs : List V} {kws : List (Str × V)} (F : FunD K "__init__" "Machine.__init__" (defArgs sMInit) (defBody sMInit) (defScope sMInit) dvs kws f fd)
    (Al : FnM K mg fAl fdAl "are_letters" sAreL ["text"]) (Il : FnM K mg fIl fdIl "is_letter" sIsL ["text", "letters"]) (Ia : FnM K mg fIa fdIa "is_arrow" sIsA ["arrow", "rooms", "letters"]) (Na : FnM K mg fNa fdNa "need_arrows" sNeedA ["arrows", "rooms", "letters"]) (Nr : FnM K mg fNr fdNr "need_rooms" sNeedR ["some", "rooms"]) (Sb : FnM K mg fSb fdSb "steps_by_start" sStepsB ["arrows"])
    (SS : MkBadSize K mg (ec "BadSize") iS fdiS) (SL : MkBadLetters K mg (ec "BadLetters") iL fdiL) (SA : MkBadArrow K mg (ec "BadArrow") iA fdiA) (SF : MkFull K mg (ec "Full") iF fdiF) (SR : MkBadRoom K mg (ec "BadRoom") iR fdiR)
    (B : Bl1 mg) (B2 : Bl2 mg) (Cs : CsM K mg tD) (T : ClsM K C) : FnOk P w K mg base (L2N.CX P w) (k + 4) f fd psMI (spMInitX K C ec) := by
  have GAl : FnOk P w K mg base CX0 (k + 3) fAl fdAl ["text"] spAreL := ok_areL Al.F B Cs
  have GNa : FnOk P w K mg base (L2N.CX P w) (k + 3) fNa fdNa ["arrows", "rooms", "letters"] (spNeedAX K (ec "BadArrow") (ec "Full")) := ok_needAX Na.F Ia Il SA SF B Cs
  have GNr : FnOk P w K mg base (L2N.CX P w) (k + 3) fNr fdNr ["some", "rooms"] (spNeedRX K (ec "BadRoom")) := ok_needRX Nr.F SR B
  have GSb : FnOk P w K mg base CX0 (k + 3) fSb fdSb ["arrows"] (spStepsB K) := ok_stepsB Sb.F
  obtain ⟨t1, gR⟩ := Cs.rooms
  refine F.ok scMInit (fun vs H Q E h => ?_) (fun cdv A outer s H vs Q E hr h => ?_)
  · obtain ⟨x, dx, la, lf, lg, ps, M, rfl, _⟩ := h
    rfl
  · obtain ⟨x, dx, la, lf, lg, ps, M, rfl, hx, hla, hR, eas, hpl, hp64, hlf, hlg, l1, o11, o12, er, q⟩ := h
    have hu : (cxOf (L2N.CX P w) P w K mg base psMI "Machine.__init__" (defScope sMInit) f cdv A outer s H E).A.units + 64 < cLine := hr.units
    refine ⟨_, pss_cons (ps_if (pt_not (pt_chain op_le op_le pe_int (pv 1) (pe_glob (v := .int 8) rfl gR ⟨_, rfl⟩))) (pss_one (L2N.ps_raise rfl (L2N.takes_of rfl rfl rfl rfl) (pmk_word (k := k + 2) SS.T SS.iC SS.tI (ok_initBadSize SS) hr SS.b (by rfl) SS.g))) pss_nil)
      (pss_cons (ps_if (pt_not (pt_val (pe_call GAl hr (by rfl) Al.g Al.F.kp Al.b .nil pass0 (pa_cons (pv 2) pa_nil)))) (pss_one (L2N.ps_raise rfl (L2N.takes_of rfl rfl rfl rfl) (pmk_word (k := k + 2) SL.T SL.iC SL.tI (ok_initBadLetters SL) hr SL.b (by rfl) SL.g))) pss_nil)
      (pss_cons (ps_expr (pe_call (E := E) GNa hr (by rfl) Na.g Na.F.kp Na.b .nil (L2N.passes_call (L2N.takes_of (E := E) rfl rfl rfl rfl) fun _ _ _ _ z => z) (pa_cons (pv 3) (pa_cons (pv 1) (pa_cons (pv 2) pa_nil)))))
      (pss_cons (ps_expr (pe_call (E := E) GNr hr (by rfl) Nr.g Nr.F.kp Nr.b .nil (L2N.passes_call (L2N.takes_of (E := E) rfl rfl rfl rfl) fun _ _ _ _ z => z) (pa_cons (pv 4) (pa_cons (pv 1) pa_nil))))
      (pss_cons (ps_expr (pe_call (E := E) GNr hr (by rfl) Nr.g Nr.F.kp Nr.b .nil (L2N.passes_call (L2N.takes_of (E := E) rfl rfl rfl rfl) fun _ _ _ _ z => z) (pa_cons (pv 5) (pa_cons (pv 1) pa_nil))))
      (pss_cons (ps_fld (pv 0) (pv 1) rfl)
      (pss_cons (ps_fld (pv 0) (pv 2) rfl)
      (pss_cons (ps_fld (pv 0) (pe_callTy call_tuple_of (by rfl) B2.tuple (by decide +kernel) (pa_cons (pe_callB (cr_sortD hu) (by rfl) B2.sorted (by decide +kernel) (pa_cons (pv 3) pa_nil)) pa_nil)) rfl)
      (pss_cons (ps_fld (pv 0) (pe_callTy call_tuple_of (by rfl) B2.tuple (by decide +kernel) (pa_cons (pe_callB (cr_sortD hu) (by rfl) B2.sorted (by decide +kernel) (pa_cons (pv 4) pa_nil)) pa_nil)) rfl)
      (pss_cons (ps_fld (pv 0) (pe_callTy call_tuple_of (by rfl) B2.tuple (by decide +kernel) (pa_cons (pe_callB (cr_sortD hu) (by rfl) B2.sorted (by decide +kernel) (pa_cons (pv 5) pa_nil)) pa_nil)) rfl)
      (pss_one (ps_fld (pv 0) (pe_call GSb hr (by rfl) Sb.g Sb.F.kp Sb.b .nil pass0 (pa_cons (pe_fld (pv 0) rfl) pa_nil)) rfl))))))))))), ?_⟩
    have er' : ∀ {nm wd : Str}, whyM M = some nm → wordOf nm = wd → ∀ H', Same H H' → badW (ec nm) wd H' E := fun h e => by
      subst e
      exact er _ h
    have eS : ¬ (1 ≤ M.n ∧ M.n ≤ 8) → ∀ d, H d = none → E (.ref (ec "BadSize")) (some d) (upd H d (.xd [("word", .str "badsize")])) := fun hc => er' (by unfold whyM; rw [if_pos hc]) wo_size H (fun _ _ h => h)
    refine ⟨_, rfl, _, _, rfl, rfl, _, rfl, ?_⟩
    rcases Classical.em (1 ≤ M.n) with c1 | c1
    rotate_left
    · exact itF c1 ⟨_, rfl, iteT (eS fun z => c1 z.1)⟩
    refine itT c1 ⟨_, _, rfl, rfl, _, rfl, ?_⟩
    rcases Classical.em (M.n ≤ 8) with c2 | c2
    rotate_left
    · rw [decide_eq_false c2]
      exact iteT (eS fun z => c2 z.2)
    rw [decide_eq_true c2]
    have c12 : ¬ ¬ (1 ≤ M.n ∧ M.n ≤ 8) := fun z => z ⟨c1, c2⟩
    refine iteF ⟨_, rfl, M.ls, rfl, by omega, fun H1 s1 => ⟨_, rfl, ?_⟩⟩
    cases o3 : letB M.ls with
    | false => exact iteT (fun d hd => er' (by unfold whyM; rw [if_neg c12, if_pos o3]) wo_letters H1 s1 d hd)
    | true =>
    have c3 : ¬ letB M.ls = false := fun z => by rw [o3] at z; cases z
    have ela : ps.length = M.as.length := by rw [← eas, List.length_map]
    refine iteF ⟨_, rfl, _, rfl, _, rfl, la, ps, M.n, M.ls, rfl, sqA_same s1 hla, hR.same s1, hpl, hp64, fun ng H2 s2 => er' (by unfold whyM; rw [if_neg c12, if_neg c3, if_pos (by rw [← eas]; exact ng)]) wo_arrow H2 (s1.trans s2), fun g h40 H2 s2 => er' (by unfold whyM; rw [if_neg c12, if_neg c3, if_neg (fun z => z (by rw [← eas]; exact g)), if_pos (by omega)]) wo_full H2 (s1.trans s2), fun g h40 H2 s2 => ?_⟩
    have c4 : ¬ ¬ arwG M.n M.ls M.as := fun z => z (by rw [← eas]; exact g)
    have c5 : ¬ 40 < M.as.length := by omega
    refine ⟨_, rfl, _, rfl, lf, M.fs, M.n, rfl, sqA_same (s1.trans s2) hlf, o11, fun ng H3 s3 => er' (by unfold whyM; rw [if_neg c12, if_neg c3, if_neg c4, if_neg c5, if_pos ng]) wo_room H3 (s1.trans (s2.trans s3)), fun gf H3 s3 => ?_⟩
    have c6 : ¬ ¬ rooG M.n M.fs := fun z => z gf
    refine ⟨_, rfl, _, rfl, lg, M.gs, M.n, rfl, sqA_same (s1.trans (s2.trans s3)) hlg, o12, fun ng H4 s4 => er' (by unfold whyM; rw [if_neg c12, if_neg c3, if_neg c4, if_neg c5, if_neg c6, if_pos ng]) wo_room H4 (s1.trans (s2.trans (s3.trans s4))), fun gg H4 s4 => ?_⟩
    have q := q (by unfold whyM; rw [if_neg c12, if_neg c3, if_neg c4, if_neg c5, if_neg c6, if_neg (fun z => z gg)])
    have s14 : Same H H4 := s1.trans (s2.trans (s3.trans s4))
    have hx4 := s14 _ _ hx
    -- rooms, letters
    refine ⟨_, rfl, _, rfl, x, C, dx, _, rfl, hx4, T.cl, T.n1, (by decide : 0 < 1000), ?_⟩
    refine ⟨_, rfl, _, rfl, x, C, dx, _, rfl, upd_same, T.cl, T.n2, Nat.lt_of_le_of_lt (mlen (Nat.le_refl 0)) (by decide), ?_⟩
    have k6 : Keep x H4 (upd (upd H4 x (.ins C dx (putF "room_count" (.int M.n) []))) x (.ins C dx (putF "letter_text" (.str (Sx M.ls)) (putF "room_count" (.int M.n) [])))) := Keep.upd.trans Keep.upd
    have hx6 : (upd (upd H4 x (.ins C dx (putF "room_count" (.int M.n) []))) x (.ins C dx (putF "letter_text" (.str (Sx M.ls)) (putF "room_count" (.int M.n) [])))) x = some (.ins C dx (putF "letter_text" (.str (Sx M.ls)) (putF "room_count" (.int M.n) []))) := upd_same
    generalize upd (upd H4 x (.ins C dx (putF "room_count" (.int M.n) []))) x (.ins C dx (putF "letter_text" (.str (Sx M.ls)) (putF "room_count" (.int M.n) []))) = H6 at k6 hx6
    have kx6 : Keep x H H6 := (Keep.of s14).trans k6
    -- arrows
    refine ⟨_, rfl, la, ps.map vdA, rfl, ?_, ?_, al_A ps, so_A ps, dep_A ps, fun p1 np1 => ?_⟩
    · rw [vdA_fst]
      exact keepI_A hx kx6 hla
    · intro p hp
      obtain ⟨a, ha, rfl⟩ := List.mem_map.mp hp
      exact dp_arw (keepI_T hx kx6 (hR a ha))
    rw [srtD_A, vdA_fst]
    refine ⟨p1, _, rfl, .inl ⟨SqL.of upd_same, fun ta nta => ?_⟩⟩
    have e7 := (same_upd (o := .lst (rfs (srtR ps))) np1).trans (same_upd (o := .tup (rfs (srtR ps))) nta)
    have hta : (upd (upd H6 p1 (.lst (rfs (srtR ps)))) ta (.tup (rfs (srtR ps)))) ta = some (.tup (rfs (srtR ps))) := upd_same
    generalize upd (upd H6 p1 (.lst (rfs (srtR ps)))) ta (.tup (rfs (srtR ps))) = H7 at e7 hta
    have hx7 := e7 _ _ hx6
    have kx7 : Keep x H H7 := kx6.trans (Keep.of e7)
    have nta : ta ≠ x := ne_of hta hx7 (fun z => nomatch z)
    refine ⟨_, rfl, x, C, dx, _, rfl, hx7, T.cl, T.n3, Nat.lt_of_le_of_lt (mlen (mlen (Nat.le_refl 0))) (by decide), ?_⟩
    have k8 : Keep x H7 (upd H7 x (.ins C dx (putF "arrow_row" (.ref ta) (putF "letter_text" (.str (Sx M.ls)) (putF "room_count" (.int M.n) []))))) := Keep.upd
    have hx8 : (upd H7 x (.ins C dx (putF "arrow_row" (.ref ta) (putF "letter_text" (.str (Sx M.ls)) (putF "room_count" (.int M.n) []))))) x = some (.ins C dx (putF "arrow_row" (.ref ta) (putF "letter_text" (.str (Sx M.ls)) (putF "room_count" (.int M.n) [])))) := upd_same
    generalize upd H7 x (.ins C dx (putF "arrow_row" (.ref ta) (putF "letter_text" (.str (Sx M.ls)) (putF "room_count" (.int M.n) [])))) = H8 at k8 hx8
    have kx8 : Keep x H H8 := kx7.trans k8
    have hta8 := k8 _ _ nta hta
    -- firsts
    refine ⟨_, rfl, lf, M.fs.map vdI, rfl, ?_, ?_, al_I _, so_I _, dep_I _, fun p2 np2 => ?_⟩
    · rw [vdI_fst]
      exact keepI_A hx kx8 hlf
    · intro p hp
      obtain ⟨a, ha, rfl⟩ := List.mem_map.mp hp
      exact .int a
    rw [srtD_I, vdI_fst]
    refine ⟨p2, _, rfl, .inl ⟨SqL.of upd_same, fun tf ntf => ?_⟩⟩
    have e9 := (same_upd (o := .lst ((sortI M.fs).map V.int)) np2).trans (same_upd (o := .tup ((sortI M.fs).map V.int)) ntf)
    have htf : (upd (upd H8 p2 (.lst ((sortI M.fs).map V.int))) tf (.tup ((sortI M.fs).map V.int))) tf = some (.tup ((sortI M.fs).map V.int)) := upd_same
    generalize upd (upd H8 p2 (.lst ((sortI M.fs).map V.int))) tf (.tup ((sortI M.fs).map V.int)) = H9 at e9 htf
    have hx9 := e9 _ _ hx8
    have kx9 : Keep x H H9 := kx8.trans (Keep.of e9)
    have ntf : tf ≠ x := ne_of htf hx9 (fun z => nomatch z)
    refine ⟨_, rfl, x, C, dx, _, rfl, hx9, T.cl, T.n4, Nat.lt_of_le_of_lt (mlen (mlen (mlen (Nat.le_refl 0)))) (by decide), ?_⟩
    have k10 : Keep x H9 (upd H9 x (.ins C dx (putF "first_row" (.ref tf) (putF "arrow_row" (.ref ta) (putF "letter_text" (.str (Sx M.ls)) (putF "room_count" (.int M.n) [])))))) := Keep.upd
    have hx10 : (upd H9 x (.ins C dx (putF "first_row" (.ref tf) (putF "arrow_row" (.ref ta) (putF "letter_text" (.str (Sx M.ls)) (putF "room_count" (.int M.n) [])))))) x = some (.ins C dx (putF "first_row" (.ref tf) (putF "arrow_row" (.ref ta) (putF "letter_text" (.str (Sx M.ls)) (putF "room_count" (.int M.n) []))))) := upd_same
    generalize upd H9 x (.ins C dx (putF "first_row" (.ref tf) (putF "arrow_row" (.ref ta) (putF "letter_text" (.str (Sx M.ls)) (putF "room_count" (.int M.n) []))))) = H10 at k10 hx10
    have kx10 : Keep x H H10 := kx9.trans k10
    have hta10 := k10 _ _ nta (e9 _ _ hta8)
    have htf10 := k10 _ _ ntf htf
    -- lasts
    refine ⟨_, rfl, lg, M.gs.map vdI, rfl, ?_, ?_, al_I _, so_I _, dep_I _, fun p3 np3 => ?_⟩
    · rw [vdI_fst]
      exact keepI_A hx kx10 hlg
    · intro p hp
      obtain ⟨a, ha, rfl⟩ := List.mem_map.mp hp
      exact .int a
    rw [srtD_I, vdI_fst]
    refine ⟨p3, _, rfl, .inl ⟨SqL.of upd_same, fun tg ntg => ?_⟩⟩
    have e11 := (same_upd (o := .lst ((sortI M.gs).map V.int)) np3).trans (same_upd (o := .tup ((sortI M.gs).map V.int)) ntg)
    have htg : (upd (upd H10 p3 (.lst ((sortI M.gs).map V.int))) tg (.tup ((sortI M.gs).map V.int))) tg = some (.tup ((sortI M.gs).map V.int)) := upd_same
    generalize upd (upd H10 p3 (.lst ((sortI M.gs).map V.int))) tg (.tup ((sortI M.gs).map V.int)) = H11 at e11 htg
    have hx11 := e11 _ _ hx10
    have kx11 : Keep x H H11 := kx10.trans (Keep.of e11)
    have ntg : tg ≠ x := ne_of htg hx11 (fun z => nomatch z)
    refine ⟨_, rfl, x, C, dx, _, rfl, hx11, T.cl, T.n5, Nat.lt_of_le_of_lt (mlen (mlen (mlen (mlen (Nat.le_refl 0))))) (by decide), ?_⟩
    have k12 : Keep x H11 (upd H11 x (.ins C dx (putF "last_row" (.ref tg) (putF "first_row" (.ref tf) (putF "arrow_row" (.ref ta) (putF "letter_text" (.str (Sx M.ls)) (putF "room_count" (.int M.n) []))))))) := Keep.upd
    have hx12 : (upd H11 x (.ins C dx (putF "last_row" (.ref tg) (putF "first_row" (.ref tf) (putF "arrow_row" (.ref ta) (putF "letter_text" (.str (Sx M.ls)) (putF "room_count" (.int M.n) []))))))) x = some (.ins C dx (putF "last_row" (.ref tg) (putF "first_row" (.ref tf) (putF "arrow_row" (.ref ta) (putF "letter_text" (.str (Sx M.ls)) (putF "room_count" (.int M.n) [])))))) := upd_same
    generalize upd H11 x (.ins C dx (putF "last_row" (.ref tg) (putF "first_row" (.ref tf) (putF "arrow_row" (.ref ta) (putF "letter_text" (.str (Sx M.ls)) (putF "room_count" (.int M.n) [])))))) = H12 at k12 hx12
    have kx12 : Keep x H H12 := kx11.trans k12
    have hta12 := k12 _ _ nta (e11 _ _ hta10)
    have htf12 := k12 _ _ ntf (e11 _ _ htf10)
    have htg12 := k12 _ _ ntg htg
    have hR12 : RowAt K H12 (srtR ps) := fun p hp => keepI_T hx kx12 (hR p (srtR_mem.mp hp))
    -- the steps
    have lk : (putF "last_row" (.ref tg) (putF "first_row" (.ref tf) (putF "arrow_row" (.ref ta) (putF "letter_text" (.str (Sx M.ls)) (putF "room_count" (.int M.n) []))))).lookup ("arrow_row" : Str) = some (V.ref ta) := by
      rw [lookup_putF, if_neg (by decide +kernel), lookup_putF, if_neg (by decide +kernel), lookup_putF, if_pos rfl]
    refine ⟨_, rfl, x, C, dx, _, _, rfl, hx12, T.cl, T.n3, lk, ta, srtR ps, rfl, SqT.of hta12, hR12, by rw [srtR_len]; omega, fun D H13 nD s13 S13 => ?_⟩
    have hx13 := s13 _ _ hx12
    refine ⟨_, rfl, x, C, dx, _, rfl, hx13, T.cl, T.n6, Nat.lt_of_le_of_lt (mlen (mlen (mlen (mlen (mlen (Nat.le_refl 0)))))) (by decide), q _ (kx12.trans ((Keep.of s13).trans Keep.upd)) ?_⟩
    have S14 := S13.rd
    have hk : ∀ b o, b ≠ x → H13 b = some o → (upd H13 x (.ins C dx (mfl M.n M.ls ta tf tg D))) b = some o := fun b o n e => by rw [upd_ne n]; exact e
    refine ⟨dx, ta, tf, tg, D, srtR ps, upd_same, hk _ _ nta (s13 _ _ hta12), fun p hp => ?_, ?_, hk _ _ ntf (s13 _ _ htf12), hk _ _ ntg (s13 _ _ htg12), ?_⟩
    · exact keepI_T hx13 Keep.upd (same_seqT s13 (hR12 p hp))
    · rw [srtR_as, eas]
      rfl
    · rw [srtR_as, eas] at S14
      obtain ⟨kvs, h1, h2, h3⟩ := S14
      refine ⟨kvs, hk _ _ (ne_of h1 hx13 (fun z => nomatch z)) h1, h2, fun r l h => ?_⟩
      obtain ⟨a, xs, ea, x1, x2, x3⟩ := h3 r l h
      exact ⟨a, xs, ea, hk _ _ (ne_of x1 hx13 (fun z => nomatch z)) x1, fun y hy => hk _ _ (ne_of (x2 y hy) hx13 (fun z => nomatch z)) (x2 y hy), x3⟩
end
end Onp
set_option maxHeartbeats 8000000
set_option autoImplicit false
namespace Onp
open PySem PySem.Spec PyProof.Rows L2
abbrev sMRooms : Stmt := inClass sMach 1
abbrev sMLets : Stmt := inClass sMach 2
abbrev sMArrs : Stmt := inClass sMach 3
abbrev sMFsts : Stmt := inClass sMach 4
abbrev sMLsts : Stmt := inClass sMach 5
section
variable {P : Program} {w : World} {K : PySem.W.Frag} {mg : Str → Option Value} {base : Heap}
/-! ### what a machine tells of itself -/
theorem scMRooms : FnScope ["self"] ["self"] (defScope sMRooms) := ⟨rfl, rfl, rfl, by decide +kernel, rfl, by decide +kernel, by decide +kernel⟩
theorem scMLets : FnScope ["self"] ["self"] (defScope sMLets) := ⟨rfl, rfl, rfl, by decide +kernel, rfl, by decide +kernel, by decide +kernel⟩
theorem scMArrs : FnScope ["self"] ["self"] (defScope sMArrs) := ⟨rfl, rfl, rfl, by decide +kernel, rfl, by decide +kernel, by decide +kernel⟩
theorem scMFsts : FnScope ["self"] ["self"] (defScope sMFsts) := ⟨rfl, rfl, rfl, by decide +kernel, rfl, by decide +kernel, by decide +kernel⟩
theorem scMLsts : FnScope ["self"] ["self"] (defScope sMLsts) := ⟨rfl, rfl, rfl, by decide +kernel, rfl, by decide +kernel, by decide +kernel⟩
def spMRooms (K : PySem.W.Frag) (C : Addr) : Sp := fun vs H Q _ => ∃ (a : Addr) (M : AM), vs = [.ref a] ∧ MachAt K C H a M ∧ Q (.int M.n) H
def spMLets (K : PySem.W.Frag) (C : Addr) : Sp := fun vs H Q _ => ∃ (a : Addr) (M : AM), vs = [.ref a] ∧ MachAt K C H a M ∧ Q (.str (Sx M.ls)) H
def spMArrs (K : PySem.W.Frag) (C : Addr) : Sp := fun vs H Q _ => ∃ (a : Addr) (M : AM), vs = [.ref a] ∧ MachAt K C H a M ∧ ∀ (l : Addr) (ps : List AR), H l = none → RowAt K H ps → ps.map (·.2) = M.as → Q (.ref l) (upd H l (.lst (rfs ps)))
def spMFsts (K : PySem.W.Frag) (C : Addr) : Sp := fun vs H Q _ => ∃ (a : Addr) (M : AM), vs = [.ref a] ∧ MachAt K C H a M ∧ ∀ l, H l = none → Q (.ref l) (upd H l (.lst (M.fs.map V.int)))
def spMLsts (K : PySem.W.Frag) (C : Addr) : Sp := fun vs H Q _ => ∃ (a : Addr) (M : AM), vs = [.ref a] ∧ MachAt K C H a M ∧ ∀ l, H l = none → Q (.ref l) (upd H l (.lst (M.gs.map V.int)))
theorem ok_mrooms {f C : Addr} {fd : FuncData} {k : Nat} (F : Fun K "rooms" "Machine.rooms" sMRooms f fd) (T : ClsM K C) : FnOk P w K mg base CX0 (k + 1) f fd ["self"] (spMRooms K C) := by
  refine F.ok scMRooms (fun vs H Q E h => ?_) (fun cdv A outer s H vs Q E hr h => ?_)
  · obtain ⟨a, M, rfl, _⟩ := h
    rfl
  · obtain ⟨a, M, rfl, ⟨dx, ta, tf, tg, D, ps, h1, _⟩, q⟩ := h
    exact ⟨_, pss_one (ps_ret (pe_fld (pv 0) rfl)), _, rfl, a, C, dx, _, _, rfl, h1, T.cl, T.n1, mfl_rooms, q⟩
theorem ok_mlets {f C : Addr} {fd : FuncData} {k : Nat} (F : Fun K "letters" "Machine.letters" sMLets f fd) (T : ClsM K C) : FnOk P w K mg base CX0 (k + 1) f fd ["self"] (spMLets K C) := by
  refine F.ok scMLets (fun vs H Q E h => ?_) (fun cdv A outer s H vs Q E hr h => ?_)
  · obtain ⟨a, M, rfl, _⟩ := h
    rfl
  · obtain ⟨a, M, rfl, ⟨dx, ta, tf, tg, D, ps, h1, _⟩, q⟩ := h
    exact ⟨_, pss_one (ps_ret (pe_fld (pv 0) rfl)), _, rfl, a, C, dx, _, _, rfl, h1, T.cl, T.n2, mfl_letters, q⟩
theorem ok_marrs {f C : Addr} {fd : FuncData} {k : Nat} (F : Fun K "arrows" "Machine.arrows" sMArrs f fd) (T : ClsM K C) (ml : mg "list" = none) : FnOk P w K mg base CX0 (k + 1) f fd ["self"] (spMArrs K C) := by
  refine F.ok scMArrs (fun vs H Q E h => ?_) (fun cdv A outer s H vs Q E hr h => ?_)
  · obtain ⟨a, M, rfl, _⟩ := h
    rfl
  · obtain ⟨a, M, rfl, ⟨dx, ta, tf, tg, D, ps, h1, h2, h3, h4, _⟩, q⟩ := h
    exact ⟨_, pss_one (ps_ret (pe_callTy call_list_of (by rfl) ml (by decide +kernel) (pa_cons (pe_fld (pv 0) rfl) pa_nil))), _, rfl, a, C, dx, _, _, rfl, h1, T.cl, T.n3, mfl_arrows, ta, rfs ps, rfl, .inr (SqT.of h2), fun l nl => q l ps nl h3 h4⟩
theorem ok_mfsts {f C : Addr} {fd : FuncData} {k : Nat} (F : Fun K "firsts" "Machine.firsts" sMFsts f fd) (T : ClsM K C) (ml : mg "list" = none) : FnOk P w K mg base CX0 (k + 1) f fd ["self"] (spMFsts K C) := by
  refine F.ok scMFsts (fun vs H Q E h => ?_) (fun cdv A outer s H vs Q E hr h => ?_)
  · obtain ⟨a, M, rfl, _⟩ := h
    rfl
  · obtain ⟨a, M, rfl, ⟨dx, ta, tf, tg, D, ps, h1, h2, h3, h4, h5, h6, _⟩, q⟩ := h
    exact ⟨_, pss_one (ps_ret (pe_callTy call_list_of (by rfl) ml (by decide +kernel) (pa_cons (pe_fld (pv 0) rfl) pa_nil))), _, rfl, a, C, dx, _, _, rfl, h1, T.cl, T.n4, mfl_firsts, tf, _, rfl, .inr (SqT.of h5), q⟩
theorem ok_mlsts {f C : Addr} {fd : FuncData} {k : Nat} (F : Fun K "lasts" "Machine.lasts" sMLsts f fd) (T : ClsM K C) (ml : mg "list" = none) : FnOk P w K mg base CX0 (k + 1) f fd ["self"] (spMLsts K C) := by
  refine F.ok scMLsts (fun vs H Q E h => ?_) (fun cdv A outer s H vs Q E hr h => ?_)
  · obtain ⟨a, M, rfl, _⟩ := h
    rfl
  · obtain ⟨a, M, rfl, ⟨dx, ta, tf, tg, D, ps, h1, h2, h3, h4, h5, h6, _⟩, q⟩ := h
    exact ⟨_, pss_one (ps_ret (pe_callTy call_list_of (by rfl) ml (by decide +kernel) (pa_cons (pe_fld (pv 0) rfl) pa_nil))), _, rfl, a, C, dx, _, _, rfl, h1, T.cl, T.n5, mfl_lasts, tg, _, rfl, .inr (SqT.of h6), q⟩
end
end Onp
set_option maxHeartbeats 8000000
set_option autoImplicit false
namespace Onp
open PySem PySem.Spec PyProof.Rows L2 HotX L2H LamX
abbrev sMadeP : Stmt := topS 43
section
variable {P : Program} {w : World} {K : PySem.W.Frag} {mg : Str → Option Value} {base : Heap}
/-! ### made, of some rooms -/
def spMadeP (K : PySem.W.Frag) (C : Addr) (ec : Str → Addr) : Sp := fun vs H Q E => ∃ (la lf lg : Addr) (ps : List AR) (M : AM), vs = [.int M.n, .str (Sx M.ls), .ref la, .ref lf, .ref lg] ∧ 1 ≤ M.n ∧ SqA K H la (rfs ps) ∧ RowAt K H ps ∧ ps.map (·.2) = M.as ∧ (∀ p ∈ ps, p.2.2.1.length ≤ sizeLine) ∧ ps.length < 1000 ∧ SqA K H lf (M.fs.map V.int) ∧ SqA K H lg (M.gs.map V.int) ∧ M.ls.length ≤ 1000 ∧ M.fs.length ≤ 100 ∧ M.gs.length ≤ 100 ∧
  (8 < M.n → ∀ H', Same H H' → badW (ec "Full") "full" H' E) ∧ (M.n ≤ 8 → ∀ nm, whyM M = some nm → ∀ H', Same H H' → badW (ec nm) (wordOf nm) H' E) ∧ (M.n ≤ 8 → whyM M = none → ∀ (m : Addr) H', H m = none → Same H H' → MachAt K C H' m M.srt → Q (.ref m) H')
def psMp : List Str := ["rooms", "letters", "arrows", "firsts", "lasts"]
theorem scMadeP : FnScope psMp psMp (defScope sMadeP) := ⟨rfl, rfl, rfl, by decide +kernel, rfl, by decide +kernel, by decide +kernel⟩
theorem ok_madeP {f C fI iF : Addr} {fd fdI fdiF : FuncData} {ec : Str → Addr} {k : Nat} {dvs : List V} {kws : List (Str × V)} (F : Fun K "made" "made" sMadeP f fd) (T : MkM K mg C fdI fI dvs kws) (SF : MkFull K mg (ec "Full") iF fdiF) (GI : FnOk P w K mg base (L2N.CX P w) (k + 2) fI fdI psMI (spMInitX K C ec)) {tk : Tok} (gR : mg "MOST_ROOMS" = some (.int 8 tk)) : FnOk P w K mg base (L2N.CX P w) (k + 4) f fd psMp (spMadeP K C ec) := by
  obtain ⟨gg, KB⟩ := kb_made T.F T.nd T.one
  refine okN F scMadeP (fun vs H Q E h => ?_) (fun cdv A outer s H vs Q E hr h => ?_)
  · obtain ⟨la, lf, lg, ps, M, rfl, _⟩ := h
    rfl
  · obtain ⟨la, lf, lg, ps, M, rfl, hn1, hla, hR, eas, hpl, hp64, hlf, hlg, l1, l2, l3, e8, er, q⟩ := h
    refine ⟨_, pss_cons (ps_if (pt_cmpR op_eq (pv 0) pe_int (nomark _)) pss_never pss_nil)
      (pss_cons (ps_if (pt_cmpR op_gt (pv 0) (pe_glob (v := .int 8) rfl gR ⟨_, rfl⟩) (nomark _)) (pss_one (L2N.ps_raise rfl (L2N.takes_of rfl rfl rfl rfl) (pmk_word (k := k + 2) SF.T SF.iC SF.tI (ok_initFull SF) hr SF.b (by rfl) SF.g))) pss_nil)
      (pss_one (ps_ret (pe_makeN (E := E) (n := 3) (ks := ["firsts", "lasts"]) T.mak GI hr (by rfl) T.g KB (L2N.passes_call (L2N.takes_of (E := E) rfl rfl rfl rfl) fun _ _ _ _ z => z) (pa_cons (pv 0) (pa_cons (pv 1) (pa_cons (pv 2) pa_nil))) (pk_cons (pv 3) (pk_cons (pv 4) pk_nil)))))), ?_⟩
    refine ⟨_, rfl, rfl, _, rfl, itF (fun z => by have := V.int.inj z; omega) ?_⟩
    refine ⟨_, rfl, _, _, rfl, rfl, _, rfl, ?_⟩
    by_cases h8 : M.n > 8
    · exact itT h8 (fun d hd => e8 h8 H (fun _ _ h => h) d hd)
    refine itF h8 ?_
    refine ⟨_, rfl, _, rfl, _, rfl, _, rfl, _, rfl, rfl, rfl, fun x dx nx ndx ne => ?_⟩
    have sx : Same H (upd (upd H dx (.own x)) x (.ins C dx [])) := fun b o hb => by
      rw [upd_ne (ne_of_none hb nx), upd_ne (ne_of_none hb ndx)]
      exact hb
    refine ⟨x, dx, la, lf, lg, ps, M, rfl, upd_same, sqA_same sx hla, hR.same sx, eas, hpl, hp64, sqA_same sx hlf, sqA_same sx hlg, l1, l2, l3, fun nm hw H' s' => er (by omega) nm hw H' (sx.trans s'), fun hw H' k' mm => ⟨rfl, q (by omega) hw x H' nx (fun b o hb => ?_) mm⟩⟩
    exact k' _ _ (ne_of_none hb nx) (sx _ _ hb)
end
end Onp
set_option maxHeartbeats 8000000
set_option autoImplicit false
namespace Onp
open PySem PySem.Spec PyProof.Rows L2 HotX L2H LamX
/-- the machine of one room and nothing else -/
def idleM (ls : List Nat) : AM := ⟨1, ls, [], [], []⟩
theorem idle_ok {ls : List Nat} (h : letB ls = true) : (idleM ls).ok := ⟨(show (1 : Int) ≤ 1 by decide), (show (1 : Int) ≤ 8 by decide), h, (fun _ z => nomatch z), .nil, (show 0 ≤ 40 by decide), (fun _ z => nomatch z), .nil, (fun _ z => nomatch z), .nil, (show 0 ≤ 100 by decide), (show 0 ≤ 100 by decide)⟩
section
variable {P : Program} {w : World} {K : PySem.W.Frag} {mg : Str → Option Value} {base : Heap}
/-! ### Machine(a, b, firsts=.., lasts=..): no arrows handed in -/
theorem kb_made0 {f : Addr} {fd : FuncData} {dvs : List V} {kws : List (Str × V)} (F : FunD K "__init__" "Machine.__init__" (defArgs sMInit) (defBody sMInit) (defScope sMInit) dvs kws f fd) (hd : dvs ≠ []) (h1 : dvs.length = 1) :
    ∃ g : List Value → List Value → List Value, KBn K fd psMI 3 ["firsts", "lasts"] g (fun vs zs => vs ++ (dvs ++ zs)) := by
  obtain ⟨its, h⟩ := F.kbindsD (ps := psMI) 3 ["firsts", "lasts"] (fun us ds ws => us ++ (ds ++ ws)) hd (fun r1 r2 r3 => r1.append (r2.append r3)) (fun T kV doc pm an cdv ct us its ws l1 l2 l3 => by
    rw [h1] at l2
    match us, l1, ws, l3, its, l2 with
    | [a, b, c], _, [e, f], _, [z], _ => exact ⟨_, rfl, rfl⟩)
  exact ⟨_, h⟩
def spMadeQ (K : PySem.W.Frag) (C : Addr) (ec : Str → Addr) : Sp := fun vs H Q E => ∃ (la lf lg : Addr) (n : Int) (ls : List Nat), vs = [.int n, .str (Sx ls), .ref la, .ref lf, .ref lg] ∧
  ((n = 0 ∧ letB ls = true ∧ ∀ (m : Addr) H', H m = none → Same H H' → MachAt K C H' m (idleM ls).srt → Q (.ref m) H') ∨ spMadeP K C ec vs H Q E)
theorem ok_madeQ {f C fI iF D : Addr} {fd fdI fdiF : FuncData} {ec : Str → Addr} {k : Nat} {kws : List (Str × V)} (F : Fun K "made" "made" sMadeP f fd) (T : MkM K mg C fdI fI [.ref D] kws) (SF : MkFull K mg (ec "Full") iF fdiF) (GI0 : FnOk P w K mg base CX0 (k + 2) fI fdI psMI (spMInit K C)) (GI : FnOk P w K mg base (L2N.CX P w) (k + 2) fI fdI psMI (spMInitX K C ec)) (hD : ∀ H, SqT K H D []) {tk : Tok} (gR : mg "MOST_ROOMS" = some (.int 8 tk)) : FnOk P w K mg base (L2N.CX P w) (k + 4) f fd psMp (spMadeQ K C ec) := by
  obtain ⟨gg, KB⟩ := kb_made T.F T.nd T.one
  obtain ⟨gg0, KB0⟩ := kb_made0 T.F T.nd T.one
  refine okN F scMadeP (fun vs H Q E h => ?_) (fun cdv A outer s H vs Q E hr h => ?_)
  · obtain ⟨la, lf, lg, n, ls, rfl, _⟩ := h
    rfl
  · obtain ⟨la, lf, lg, n, ls, rfl, h⟩ := h
    refine ⟨_, pss_cons (ps_if (pt_cmpR op_eq (pv 0) pe_int (nomark _)) (pss_one (ps_ret (pe_makeN (n := 2) (ks := ["firsts", "lasts"]) T.mak GI0 hr (by rfl) T.g KB0 pass0 (pa_cons pe_int (pa_cons (pv 1) pa_nil)) (pk_cons (pe_tup pa_nil) (pk_cons (pe_tup pa_nil) pk_nil))))) pss_nil)
      (pss_cons (ps_if (pt_cmpR op_gt (pv 0) (pe_glob (v := .int 8) rfl gR ⟨_, rfl⟩) (nomark _)) (pss_one (L2N.ps_raise rfl (L2N.takes_of rfl rfl rfl rfl) (pmk_word (k := k + 2) SF.T SF.iC SF.tI (ok_initFull SF) hr SF.b (by rfl) SF.g))) pss_nil)
      (pss_one (ps_ret (pe_makeN (E := E) (n := 3) (ks := ["firsts", "lasts"]) T.mak GI hr (by rfl) T.g KB (L2N.passes_call (L2N.takes_of (E := E) rfl rfl rfl rfl) fun _ _ _ _ z => z) (pa_cons (pv 0) (pa_cons (pv 1) (pa_cons (pv 2) pa_nil))) (pk_cons (pv 3) (pk_cons (pv 4) pk_nil)))))), ?_⟩
    refine ⟨_, rfl, rfl, _, rfl, ?_⟩
    rcases h with ⟨rfl, hls, q⟩ | ⟨la', lf', lg', ps, M, ev, hn1, hla, hR, eas, hpl, hp64, hlf, hlg, l1, l2, l3, e8, er, q⟩
    · refine itT rfl ?_
      refine ⟨_, rfl, (by decide : 0 ≤ sizeLine), fun t1 nt1 => ?_⟩
      have s1 := same_upd (o := .tup []) nt1
      have h1 : (upd H t1 (.tup [])) t1 = some (.tup []) := upd_same
      generalize upd H t1 (.tup []) = H1 at s1 h1
      refine ⟨(by decide : 0 ≤ sizeLine), fun t2 nt2 => ?_⟩
      have s2 := same_upd (o := .tup []) nt2
      have h2 : (upd H1 t2 (.tup [])) t2 = some (.tup []) := upd_same
      generalize upd H1 t2 (.tup []) = H2 at s2 h2
      refine ⟨rfl, rfl, fun x dx nx ndx ne => ?_⟩
      have sx : Same H2 (upd (upd H2 dx (.own x)) x (.ins C dx [])) := fun b o hb => by
        rw [upd_ne (ne_of_none hb nx), upd_ne (ne_of_none hb ndx)]
        exact hb
      have s02 := s1.trans s2
      refine ⟨x, dx, D, t1, t2, [], idleM ls, rfl, upd_same, .inr (hD _), (fun _ z => nomatch z), rfl, .inr (SqT.of (sx _ _ (s2 _ _ h1))), .inr (SqT.of (sx _ _ h2)), idle_ok hls, fun H' k' mm => ⟨rfl, q x H' (s02.free nx) (fun b o hb => ?_) mm⟩⟩
      exact k' _ _ (ne_of_none (s02 _ _ hb) nx) (sx _ _ (s02 _ _ hb))
    · obtain ⟨v1, v2⟩ := List.cons.inj ev
      obtain ⟨v3, v4⟩ := List.cons.inj v2
      obtain ⟨v5, v6⟩ := List.cons.inj v4
      obtain ⟨v7, v8⟩ := List.cons.inj v6
      obtain ⟨v9, _⟩ := List.cons.inj v8
      obtain rfl := V.int.inj v1
      have v3 := V.str.inj v3
      obtain rfl := V.ref.inj v5
      obtain rfl := V.ref.inj v7
      obtain rfl := V.ref.inj v9
      refine itF (fun z => by have := V.int.inj z; omega) ?_
      refine ⟨_, rfl, _, _, rfl, rfl, _, rfl, ?_⟩
      by_cases h8 : M.n > 8
      · exact itT h8 (fun d hd => e8 h8 H (fun _ _ h => h) d hd)
      refine itF h8 ?_
      refine ⟨_, rfl, _, rfl, _, rfl, _, rfl, _, rfl, rfl, rfl, fun x dx nx ndx ne => ?_⟩
      have sx : Same H (upd (upd H dx (.own x)) x (.ins C dx [])) := fun b o hb => by
        rw [upd_ne (ne_of_none hb nx), upd_ne (ne_of_none hb ndx)]
        exact hb
      refine ⟨x, dx, la, lf, lg, ps, M, by rw [v3]; rfl, upd_same, sqA_same sx hla, hR.same sx, eas, hpl, hp64, sqA_same sx hlf, sqA_same sx hlg, l1, l2, l3, fun nm hw H' s' => er (by omega) nm hw H' (sx.trans s'), fun hw H' k' mm => ⟨rfl, q (by omega) hw x H' nx (fun b o hb => ?_) mm⟩⟩
      exact k' _ _ (ne_of_none hb nx) (sx _ _ hb)
end
end Onp
set_option maxHeartbeats 8000000
set_option autoImplicit false
namespace Onp
open PySem PySem.Spec PyProof.Rows L2
def keepA (a : Arw) : Arw := (a.1, a.2.1, "keep", a.2.2.2)
section
variable {P : Program} {w : World} {K : PySem.W.Frag} {mg : Str → Option Value} {base : Heap}
/-! ### once_each of arrows -/
theorem once_arws {K : PySem.W.Frag} {H : Hp} {l : Addr} {ps : List AR} {Q : VK} {E : XK} (hl : SqL K H l (aks ps)) (hp : AkAt H ps) (hn : ps.length ≤ 5000) (q : ∀ (r : Addr) (qs : List AR) H', Same H H' → H r = none → H' r = some (.lst (aks qs)) → AkAt H' qs → qs.map (·.2) = onceL (ps.map (·.2)) → Q (.ref r) H') : spOnceT K [.ref l] H Q E := by
  refine ⟨l, akK ps, rfl, by rw [akK_ref]; exact hl, akK_at hp, by unfold akK; rw [List.length_map]; exact hn, fun r qs H' s nr hr hq he => ?_⟩
  rw [akK_keys, onceL_map (fun _ _ => akey_inj)] at he
  obtain ⟨bs, e1, e2, e3⟩ := ak_back hq he
  exact q r bs H' s nr (by rw [hr, e1]) e2 e3
end
end Onp
set_option maxHeartbeats 2000000
set_option autoImplicit false
/-! enumerate of a tuple -/
namespace EnT
open PySem PySem.Spec PyProof.Rows L2
def itO (t : Addr) : Obj := { cls := .type "tuple_iterator", data := .fields #[.ref t, .int 0 0] }
def enO (it : Addr) : Obj := { cls := .type "enumerate", data := .fields #[.none, .bool false, .ref it, rawInt 0, .none, .none] }
theorem meets_new (t : Addr) (items : Array Value) :
    Meets (Builtin.«enumerate.__new__» ⟨[.type "enumerate", .ref t], []⟩) (fun _ R s => s.heap.IsTuple t items ∧ R (.ok (.ret (.ref (s.heap.objs.size + 1)))) { s with heap := (s.heap.push (itO t)).push (enO s.heap.objs.size) }) :=
  .of_wp fun prog w A R s h => by
    obtain ⟨ht, h⟩ := h
    have hsub := sub_enumerate
    have e1 : (s.heap.push (itO t)).objs.size = s.heap.objs.size + 1 := Heap.size_push ..
    rw [← e1] at h
    obtain ⟨hp, g, d, tk, os⟩ := s
    have walk : ∀ {A' : Around} {E : Value → Shared → Prop} {Q : Value → Shared → Prop}, Q (.ref hp.objs.size) ⟨hp.push (itO t), g, d, tk, os⟩ → wpAny (model prog w) A' (pyIter (.ref t)) Q E ⟨hp, g, d, tk, os⟩ := fun q => wpAny_pyIter_tuple ht q
    obtain ⟨o, ho, hc, n, hd⟩ := ht
    obtain ⟨c, dct, dt, sl⟩ := o
    obtain rfl : c = .type "tuple" := hc
    obtain rfl : dt = .seq items n := hd
    wp_walk using walk, AutoSeq1.wpAny_loadPart' ho
    refine wpAny_stack_any fun st => wpAny_pure ?_
    split
    · rename_i c _ _ _ _ _
      cases (c == Value.type "enumerate") <;> (wp_walk using walk, AutoSeq1.wpAny_loadPart' ho; exact ⟨_, rfl, h⟩)
    · wp_walk using walk, AutoSeq1.wpAny_loadPart' ho
      exact ⟨_, rfl, h⟩
theorem call_new {prog : Program} {w : World} {A : Around} {E : Value → Shared → Prop} {s : Shared} {t : Addr} {items : Array Value} {Q : Value → Shared → Prop} (ht : s.heap.IsTuple t items)
    (h : Q (.ref (s.heap.objs.size + 1)) { s with heap := (s.heap.push (itO t)).push (enO s.heap.objs.size) }) : wpAny (model prog w) A (call (.type "enumerate") [.ref t]) Q E s := by
  have e1 : (s.heap.push (itO t)).objs.size = s.heap.objs.size + 1 := Heap.size_push ..
  refine callType_new F.called_enumerate (by decide) (F.typeCall_enumerate_1 _) (F.newCall_enumerate_1 _) (fun obj => F.args_object_init_2 obj _) F.entry_enumerate_new (meets_new t items) ⟨ht, ⟨enO s.heap.objs.size, ?_, rfl⟩, h⟩
  rw [← e1]
  exact Heap.get?_push_size _ rfl
/-- the tuple at a as it stands at each turn: the place and the item, in a new pair -/
def IteT (K : PySem.W.Frag) (a : Addr) : It :=
  ⟨fun i H => ∃ (xs : List V) (x : V), SqT K H a xs ∧ xs[i]? = some x,
   fun i H v H' => ∃ (T : Addr) (x : V), v = .ref T ∧ H T = none ∧ H' = upd H T (.tup [.int (i : Nat), x]) ∧ ∀ xs, SqT K H a xs → xs[i]? = some x,
   fun i H => ∃ xs : List V, SqT K H a xs ∧ xs.length = i⟩
def TnE (a e it : Addr) (i : Nat) (h : Heap) : Prop := (∃ old, IsEnum h e it ((i : Nat) : Int) old) ∧ h.IsTupleIter it a i ∧ e ≠ it ∧ a ≠ it ∧ a ≠ e
theorem turn_enumT {P : Program} {w : World} {K : PySem.W.Frag} {elts : List Expr} {kk : Nat} {tpos : Pos} (a e it : Addr) : Turn P w K (.Tuple elts kk tpos) (IteT K a) [e, it] e (TnE a e it) where
  mem := List.mem_cons_self
  obj := fun i h st b hb => by
    obtain ⟨⟨old, he⟩, ⟨o, ho, _, hd⟩, _⟩ := st
    rcases List.mem_cons.mp hb with rfl | hb
    · exact ⟨_, he, fun v q => nomatch q⟩
    · obtain rfl := List.mem_singleton.mp hb
      exact ⟨o, ho, fun v q => by rw [hd] at q; cases q⟩
  keep := fun i h h' st k => by
    obtain ⟨⟨old, he⟩, hi, r⟩ := st
    exact ⟨⟨old, k e List.mem_cons_self _ he⟩, hi.at fun o q => k it (List.mem_cons_of_mem _ List.mem_cons_self) o q, r⟩
  item := by
    intro X hP hw hK hc i pins s σ H E I hf st hg
    subst hP hw hK
    obtain ⟨⟨old, he⟩, hit, hne, ha1, ha2⟩ := st
    obtain ⟨xs, x, hq, hx⟩ := hg
    obtain ⟨its, rv, p, hz⟩ := I.tuple hq
    obtain ⟨u, hu, ru⟩ := rv.get hx
    have hil : it < s.heap.objs.size := by
      obtain ⟨_, q, _⟩ := hit
      exact Heap.lt_size q
    have hel : e < s.heap.objs.size := Heap.lt_size he
    have hlt : i < its.toArray.size := by
      rw [List.size_toArray]
      exact (List.getElem?_eq_some_iff.mp hu).1
    have D : Draws X.prog X.w X.A.in1 it [it, a] its.toArray.size _ _ := Draws.tuple (A := X.A.in1) (I.ok.hd hc) it a ha1 its.toArray
    refine wpAny_pyNext_enum_itemD D he ⟨hit, p⟩ hlt hne (fun q => ?_) fun y h' tk hy ho hst hT hsz hk => ?_
    · rcases List.mem_cons.mp q with q | q
      · exact hne q
      · exact ha2 (List.mem_singleton.mp q).symm
    obtain rfl : u = y := by
      have hy : its.toArray[i]? = some y := hy
      rw [List.getElem?_toArray, hu] at hy
      exact Option.some.inj hy
    refine ⟨_, rfl, wpAny_letOwnedTupleGo_enum (s := { s with heap := h', toks := tk + 1 }) ho fun h'' he' sb => ?_⟩
    have hT2 : h''.get? s.heap.objs.size = some { cls := .type "tuple", data := .seq #[.int i tk, u] } := (sb.2 _ (Nat.ne_of_gt hel)).trans hT
    have out : ∀ c o, c ∉ [e, it] → s.heap.get? c = some o → h''.get? c = some o := fun c o hn q =>
      (sb.2 c fun z => hn (z ▸ List.mem_cons_self)).trans (hk c o (fun z => hn (z ▸ List.mem_cons_self)) (fun z => hn (z ▸ List.mem_cons_of_mem _ List.mem_cons_self)) q)
    have J := I.turnedNew (t' := tk + 1) (ob := .tup [.int (i : Nat), x]) out hf (Nat.le_refl _) (show ObjOk X.prog X.w _ h'' s.heap.objs.size (.tup [.int (i : Nat), x]) from ⟨(by decide : 2 ≤ sizeLine), [.int i tk, u], .cons ⟨tk, rfl⟩ (.cons ru .nil), _, hT2, rfl, _, rfl⟩)
    refine ⟨.ref s.heap.objs.size, _, J, rfl, ⟨_, x, rfl, I.hok.fresh (Nat.le_refl _), rfl, fun ys hy => by rw [I.tuple_inj hy hq]; exact hx⟩, ⟨⟨u, ?_⟩, hst.1.at fun o q => (sb.2 it (Ne.symm hne)).trans q, hne, ha1, ha2⟩, fun b hb => ?_⟩
    · rw [show ((i + 1 : Nat) : Int) = (i : Int) + 1 by omega]
      exact he'
    · have hb' : b < s.heap.objs.size := by
        rcases List.mem_cons.mp hb with rfl | hb
        · exact hel
        · rw [List.mem_singleton.mp hb]
          exact hil
      rw [upd_ne (Nat.ne_of_lt hb')]
      exact (hf b hb).1
  done := by
    intro X hP hw hK hc i pins s σ H E I hf st hg
    subst hP hw hK
    obtain ⟨⟨old, he⟩, hit, hne, ha1, ha2⟩ := st
    obtain ⟨xs, hq, hx⟩ := hg
    obtain ⟨its, rv, p, hz⟩ := I.tuple hq
    have hl : its.toArray.size = i := by
      rw [List.size_toArray, ← rv.length, hx]
    have D : Draws X.prog X.w X.A.in1 it [it, a] its.toArray.size _ _ := Draws.tuple (A := X.A.in1) (I.ok.hd hc) it a ha1 its.toArray
    rw [← hl] at hit
    exact wpAny_pyNext_enum_endD D he ⟨hit, p⟩ fun h' eb => ⟨rfl, I.turnedL (t' := s.toks) (fun b o hb q => eb b o (fun z => hb (z ▸ List.mem_cons_of_mem _ List.mem_cons_self)) q) hf⟩
  self := fun A i s Q E st h => by
    obtain ⟨⟨_, he⟩, _⟩ := st
    exact wpAny_pyIter_enum he h
def iEnumT (K : PySem.W.Frag) (ta : TA) : TI := fun σ H R => ta σ H fun vs H1 => ∃ a xs, vs = [.ref a] ∧ SqT K H1 a xs ∧ R (IteT K a) H1
theorem pi_enumT {X : Cx} {e : Expr} {ta : TA} {p pos tpos : Pos} {elts : List Expr} {kk : Nat} (hg : Gl X "enumerate") (hm : X.mg "enumerate" = none) (ha : PA X [e] ta) (hs : starEach [e] X.env = [(false, eval e X.env)] := by rfl) :
    PI X (.Tuple elts kk tpos) (.Call (.Name "enumerate" p) [e] [] pos) (iEnumT X.K ta) := by
  refine ⟨fun pins s σ H R I h => Call_ (ld_blt I hg hm boot_enumerate (PyProof.Rows.callWith_type1 (thn (ha.run pos pins s σ H _ I h) fun us s1 q => ?_) hs rfl))⟩
  obtain ⟨vs, H1, I1, r1, a, xs, rfl, hq, q⟩ := q
  obtain ⟨u, rfl, ru⟩ := vals1 r1
  obtain rfl : u = Value.ref a := ru
  obtain ⟨its, rv, pt, hz⟩ := I1.tuple hq
  have la : a < s1.heap.objs.size := by
    obtain ⟨_, e0, _⟩ := id pt
    exact Heap.lt_size e0
  have sz : (s1.heap.push (itO a)).objs.size = s1.heap.objs.size + 1 := Heap.size_push ..
  refine call_new (items := its.toArray) pt ?_
  have he : IsEnum ((s1.heap.push (itO a)).push (enO s1.heap.objs.size)) (s1.heap.objs.size + 1) s1.heap.objs.size 0 .none := by
    have z := Heap.get?_push_size (s1.heap.push (itO a)) (o := enO s1.heap.objs.size) rfl
    rw [sz] at z
    exact z
  refine wpAny_pyIter_enum he ?_
  refine ⟨s1.heap.objs.size + 1, [s1.heap.objs.size + 1, s1.heap.objs.size], _, _, H1, rfl, I1.kept (t' := s1.toks) fun b o z => Heap.get?_push_of_some _ (Heap.get?_push_of_some _ z), turn_enumT a _ _,
    ⟨⟨.none, he⟩, ⟨_, Heap.get?_push_of_some _ (Heap.get?_push_size _ rfl), rfl, rfl⟩, Nat.succ_ne_self _, Nat.ne_of_lt la, Nat.ne_of_lt (Nat.lt_succ_of_lt la)⟩, fun b hb => ?_, q⟩
  have hle : s1.heap.objs.size ≤ b := by
    rcases List.mem_cons.mp hb with z | z
    · rw [z]
      exact Nat.le_succ _
    · rw [List.mem_singleton.mp z]
      exact Nat.le_refl _
  exact I1.fpOk hle (I1.hok.fresh hle)
theorem lc_enumT {K : PySem.W.Frag} {a : Addr} {xs : List V} {g : TG} {tt : TT} {te : TE} {vs : List Nat} {σ : L2.St} {H1 : Hp} {D : Addr} {Qd : Hp → Prop} (Pv : Nat → Hp → Prop) (h0 : Pv 0 (upd H1 D (.lst []))) (hq : ∀ i H, Pv i H → SqT K H a xs)
    (hs : ∀ i x T H, xs[i]? = some x → Pv i H → H T = none → g (.ref T) (wipe σ vs) (upd H T (.tup [.int (i : Nat), x])) fun σ2 H2 => wipe σ2 vs = wipe σ vs ∧ tt σ2 H2 fun b H3 =>
      if b = true then te σ2 H3 fun y H4 => ∃ acc, H4 D = some (.lst acc) ∧ acc.length < sizeLine ∧ Pv (i + 1) (upd H4 D (.lst (acc ++ [y]))) else Pv (i + 1) H3) (hd : ∀ H, Pv xs.length H → Qd H) :
    ∃ W : Nat → Nat → Hp → Prop, (∃ m, W 0 m (upd H1 D (.lst []))) ∧ ∀ i m H, W i m H →
      ((IteT K a).stop i H ∧ Qd H) ∨ ((IteT K a).go i H ∧ ∃ Nx : Hp → Prop, (∀ H', Nx H' → ∃ m', m' < m ∧ W (i + 1) m' H') ∧ ∀ x H', (IteT K a).yld i H x H' → g x (wipe σ vs) H' fun σ2 H2 => wipe σ2 vs = wipe σ vs ∧ tt σ2 H2 fun b H3 =>
        if b = true then te σ2 H3 fun y H4 => ∃ acc, H4 D = some (.lst acc) ∧ acc.length < sizeLine ∧ Nx (upd H4 D (.lst (acc ++ [y]))) else Nx H3) := by
  refine ⟨fun i m H => m + i = xs.length ∧ Pv i H, ⟨xs.length, rfl, h0⟩, fun i m H ⟨em, p⟩ => ?_⟩
  have q := hq i H p
  rcases Nat.lt_or_ge i xs.length with hlt | hge
  · refine .inr ⟨⟨xs, xs[i], q, List.getElem?_eq_getElem hlt⟩, Pv (i + 1), fun H' p' => ⟨m - 1, by omega, by omega, p'⟩, fun v H' y => ?_⟩
    obtain ⟨T, x, rfl, nT, rfl, hx⟩ := y
    exact hs i x T H (hx xs q) p nT
  · obtain rfl : i = xs.length := by omega
    exact .inl ⟨⟨xs, q, rfl⟩, hd H p⟩
end EnT
set_option maxHeartbeats 8000000
set_option autoImplicit false
namespace Onp
open PySem PySem.Spec PyProof.Rows L2 HotX L2H LamX
abbrev sNumd : Stmt := topS 44
/-! ### rooms that are tuples, numbered anew -/
def numQ (rs : List Rm) (r : Rm) : Int := ((rs.idxOf r : Nat) : Int)
def dQk (k : Nat) (rs : List Rm) : List (List L2.Key × V) := (rs.zipIdx k).map fun p => (rmk p.1, V.int (p.2 : Nat))
def dQ (rs : List Rm) : List (List L2.Key × V) := dQk 0 rs
theorem dQ_len (rs : List Rm) : (dQ rs).length = rs.length := by
  unfold dQ dQk
  rw [List.length_map, List.length_zipIdx]
theorem dQk_val : ∀ (rs : List Rm) (k : Nat) (r : Rm), valV (dQk k rs) (rmk r) = if r ∈ rs then some (V.int ((k + rs.idxOf r : Nat) : Int)) else none
  | [], _, _ => rfl
  | x :: xs, k, r => by
    have e : dQk k (x :: xs) = (rmk x, V.int (k : Nat)) :: dQk (k + 1) xs := by
      unfold dQk
      rw [List.zipIdx_cons, List.map_cons]
    rw [e]
    by_cases h : x = r
    · subst h
      rw [valV_pos rfl, if_pos List.mem_cons_self, List.idxOf_cons_self]
      rfl
    · rw [valV_neg (fun z => h (rmk_inj z)), dQk_val xs (k + 1) r]
      by_cases hm : r ∈ xs
      · rw [if_pos hm, if_pos (List.mem_cons_of_mem _ hm), List.idxOf_cons, show (x == r) = false from beq_eq_false_iff_ne.mpr h, cond_false]
        congr 2
        omega
      · rw [if_neg hm, if_neg (fun z => (List.mem_cons.mp z).elim (fun z => h z.symm) hm)]
theorem dQ_val (rs : List Rm) (r : Rm) : valV (dQ rs) (rmk r) = if r ∈ rs then some (V.int (numQ rs r)) else none := by
  have := dQk_val rs 0 r
  rw [Nat.zero_add] at this
  exact this
theorem dQ_put {rs : List Rm} {i : Nat} {r : Rm} (hn : rs.Nodup) (h : rs[i]? = some r) : putK (dQ (rs.take i)) (rmk r) (.int (i : Nat)) = dQ (rs.take (i + 1)) := by
  have e : rs.take (i + 1) = rs.take i ++ [r] := take_next h
  have hil := (List.getElem?_eq_some_iff.mp h).1
  have hni : r ∉ rs.take i := fun hm => by
    have h2 : (rs.take (i + 1)).Nodup := hn.sublist (List.take_sublist _ _)
    rw [e, List.nodup_append] at h2
    exact h2.2.2 r hm r List.mem_cons_self rfl
  rw [putK_new _ (by rw [dQ_val, if_neg hni]), e]
  unfold dQ dQk
  rw [List.zipIdx_append, List.map_append, List.length_take, Nat.min_eq_left (by omega), Nat.zero_add]
  rfl
def numW (rs : List Rm) (a : WA) : Arw := (numQ rs a.1, a.2.1, a.2.2.1, numQ rs a.2.2.2)
def numWs (rs : List Rm) (as : List WA) : List Arw := (as.filter fun a => decide (a.1 ∈ rs) && decide (a.2.2.2 ∈ rs)).map (numW rs)
def numR (rs fs : List Rm) : List Int := (fs.filter fun r => decide (r ∈ rs)).map (numQ rs)
def numT (rs : List Rm) (ls : List Nat) (as : List WA) (fs gs : List Rm) : AM := ⟨(rs.length : Nat), ls, onceL (numWs rs as), numR rs fs, numR rs gs⟩
section
variable {P : Program} {w : World} {K : PySem.W.Frag} {mg : Str → Option Value} {base : Heap}
def NNu : List Str := ["rooms", "letters", "arrows", "firsts", "lasts", "number", "kept", "starts", "ends", "at", "room", "start", "letter", "deed", "end"]
def psNu : List Str := ["rooms", "letters", "arrows", "firsts", "lasts"]
theorem scNumd : FnScope NNu psNu (defScope sNumd) := ⟨rfl, rfl, rfl, by decide +kernel, rfl, by decide +kernel, by decide +kernel⟩
/-- a machine that is made, or why it is not -/
def madeOr (K : PySem.W.Frag) (C : Addr) (ec : Str → Addr) (M : AM) (H : Hp) (Q : VK) (E : XK) : Prop :=
  (8 < M.n → ∀ H', Same H H' → badW (ec "Full") "full" H' E) ∧ (M.n ≤ 8 → ∀ nm, whyM M = some nm → ∀ H', Same H H' → badW (ec nm) (wordOf nm) H' E) ∧ (M.n ≤ 8 → whyM M = none → ∀ (m : Addr) H', H m = none → Same H H' → MachAt K C H' m M.srt → Q (.ref m) H')
def spNumT (K : PySem.W.Frag) (C : Addr) (ec : Str → Addr) : Sp := fun vs H Q E => ∃ (lr la lf lg : Addr) (rs : List RmA) (ls : List Nat) (ws : List WR) (fs gs : List RmA), vs = [.ref lr, .str (Sx ls), .ref la, .ref lf, .ref lg] ∧ SqL K H lr (rms rs) ∧ RmAt H rs ∧ (rs.map (·.2)).Nodup ∧ rs.length ≤ 5000 ∧ SqL K H la (wrs ws) ∧ WrAt H ws ∧ ws.length ≤ 3000 ∧
  SqL K H lf (rms fs) ∧ RmAt H fs ∧ fs.length ≤ 1000 ∧ SqL K H lg (rms gs) ∧ RmAt H gs ∧ gs.length ≤ 1000 ∧ letB ls = true ∧ (∀ w ∈ ws, w.v.2.1.length ≤ sizeLine) ∧ (onceL (numWs (rs.map (·.2)) (ws.map (·.v)))).length < 1000 ∧ (numR (rs.map (·.2)) (fs.map (·.2))).length ≤ 100 ∧ (numR (rs.map (·.2)) (gs.map (·.2))).length ≤ 100 ∧
  (rs = [] → ∀ (m : Addr) H', H m = none → Same H H' → MachAt K C H' m (idleM ls).srt → Q (.ref m) H') ∧ (rs ≠ [] → madeOr K C ec (numT (rs.map (·.2)) ls (ws.map (·.v)) (fs.map (·.2)) (gs.map (·.2))) H Q E)
theorem ok_numT {f C fMp fOn : Addr} {fd fdMp fdOn : FuncData} {ec : Str → Addr} {k : Nat} (F : Fun K "numbered" "numbered" sNumd f fd) (Mp : FnM K mg fMp fdMp "made" sMadeP psMp) (GMp : FnOk P w K mg base (L2N.CX P w) (k + 1) fMp fdMp psMp (spMadeQ K C ec)) (On : FnM K mg fOn fdOn "once_each" sOnce ["things"]) (ml : mg "list" = none) (mlen : mg "len" = none) (me : mg "enumerate" = none) : FnOk P w K mg base (L2N.CX P w) (k + 2) f fd psNu (spNumT K C ec) := by
  have GO : FnOk P w K mg base CX0 (k + 1) fOn fdOn ["things"] (spOnceT K) := ok_onceT On.F ml
  refine okN F scNumd (fun vs H Q E h => ?_) (fun cdv A outer s H vs Q E hr h => ?_)
  · obtain ⟨lr, la, lf, lg, rs, ls, ws, fs, gs, rfl, _⟩ := h
    rfl
  · obtain ⟨lr, la, lf, lg, rs0, ls, ws, fs0, gs0, rfl, hlr, hRs, hrn, hrl, hla, hW, hpl, hlf, hFs, hfl, hlg, hGs, hgl, hls, hlet, ho1, hf1, hg1, q0, q1⟩ := h
    have hu : (cxOf (L2N.CX P w) P w K mg base NNu "numbered" (defScope sNumd) f cdv A outer s H E).A.units + 64 < cLine := hr.units
    obtain ⟨rs, ers⟩ : ∃ rs, rs = rs0.map (·.2) := ⟨_, rfl⟩
    have hrl2 : rs.length = rs0.length := by rw [ers, List.length_map]
    rw [← ers] at hrn ho1 hf1 hg1 q1
    refine ⟨_, (pss_cutM (ps_set (i := 5) scNumd.nd rfl (.inr rfl) (pe_dcG (own := [("at", 9), ("room", 10)]) (g := (gTup K 2 (gCons (gName 9) (gCons (gName 10) gNil)))) (tt := tYes) (tk := (tVar 10)) (tv := (tVar 9)) (newT_ok _ _) (putT_ok _ _) hu rfl scNumd.nd
          (pi_enum (by rfl) me (pa_cons (pv 0) pa_nil)) (blkOk_by (own := [("at", 9), ("room", 10)]) (N := NNu) (sc := defScope sNumd) (by decide +kernel)) (fun _ _ _ _ _ => (pg_tup rfl (pgs_cons (pg_name (i := 9) scNumd.nd rfl (.inl rfl)) (pgs_cons (pg_name (i := 10) scNumd.nd rfl (.inl rfl)) pgs_nil))))
          (fun _ _ _ _ _ => pts_nil) (fun _ _ _ _ _ => (pv 10)) (fun _ _ _ _ _ => (pv 9))))
      (pss_cutM (ps_setLc (i := 6) (own := [("start", 11), ("letter", 12), ("deed", 13), ("end", 14)]) (g := (gTup K 4 (gCons (gName 11) (gCons (gName 12) (gCons (gName 13) (gCons (gName 14) gNil)))))) (tt := (tAnd (tB (tDIn (tVar 11) (tVar 5))) (tB (tDIn (tVar 14) (tVar 5))))) (te := (tTup (tCons (tDGet (tVar 5) (tVar 11)) (tCons (tVar 12) (tCons (tVar 13) (tCons (tDGet (tVar 5) (tVar 14)) tNil)))))) rfl scNumd.nd rfl rfl (sw_true rfl rfl rfl (by decide +kernel))
          (pi_list (pv 2)) (blkOk_by (own := [("start", 11), ("letter", 12), ("deed", 13), ("end", 14)]) (N := NNu) (sc := defScope sNumd) (by decide +kernel)) (fun _ _ _ _ _ => (pg_tup rfl (pgs_cons (pg_name (i := 11) scNumd.nd rfl (.inl rfl)) (pgs_cons (pg_name (i := 12) scNumd.nd rfl (.inl rfl)) (pgs_cons (pg_name (i := 13) scNumd.nd rfl (.inl rfl)) (pgs_cons (pg_name (i := 14) scNumd.nd rfl (.inl rfl)) pgs_nil))))))
          (fun _ _ _ _ _ => (pts_one (PW.pt (pw_and (pt_cmp (pc_din (hu1 hu) (pv 11) (pv 5))) (pw_and1 (pt_cmp (pc_din (hu1 hu) (pv 14) (pv 5)))))))) (fun _ _ _ _ _ => (pe_tup (pa_cons (pe_dget (hu1 hu) (pv 5) (pv 11) (fun _ _ => rfl)) (pa_cons (pv 12) (pa_cons (pv 13) (pa_cons (pe_dget (hu1 hu) (pv 5) (pv 14) (fun _ _ => rfl)) pa_nil)))))))
      (pss_cutM (ps_setLc (i := 7) (own := [("room", 10)]) (g := (gName 10)) (tt := (tB (tDIn (tVar 10) (tVar 5)))) (te := (tDGet (tVar 5) (tVar 10))) rfl scNumd.nd rfl rfl (sw_true rfl rfl rfl (by decide +kernel))
          (pi_list (pv 3)) (blkOk_by (own := [("room", 10)]) (N := NNu) (sc := defScope sNumd) (by decide +kernel)) (fun _ _ _ _ _ => (pg_name (i := 10) scNumd.nd rfl (.inl rfl)))
          (fun _ _ _ _ _ => (pts_one (pt_cmp (pc_din (hu1 hu) (pv 10) (pv 5))))) (fun _ _ _ _ _ => (pe_dget (hu1 hu) (pv 5) (pv 10) (fun _ _ => rfl))))
      (pss_cutM (ps_setLc (i := 8) (own := [("room", 10)]) (g := (gName 10)) (tt := (tB (tDIn (tVar 10) (tVar 5)))) (te := (tDGet (tVar 5) (tVar 10))) rfl scNumd.nd rfl rfl (sw_true rfl rfl rfl (by decide +kernel))
          (pi_list (pv 4)) (blkOk_by (own := [("room", 10)]) (N := NNu) (sc := defScope sNumd) (by decide +kernel)) (fun _ _ _ _ _ => (pg_name (i := 10) scNumd.nd rfl (.inl rfl)))
          (fun _ _ _ _ _ => (pts_one (pt_cmp (pc_din (hu1 hu) (pv 10) (pv 5))))) (fun _ _ _ _ _ => (pe_dget (hu1 hu) (pv 5) (pv 10) (fun _ _ => rfl))))
      (pss_one (ps_ret (pe_call (E := E) GMp hr (by rfl) Mp.g Mp.F.kp Mp.b .nil (L2N.passes_call (L2N.takes_of (E := E) rfl rfl rfl rfl) fun _ _ _ _ z => z) (pa_cons (pe_callB call_len_seq (by rfl) mlen PySem.boot_len (pa_cons (pv 0) pa_nil)) (pa_cons (pv 1) (pa_cons (pe_call GO hr (by rfl) On.g On.F.kp On.b .nil pass0 (pa_cons (pv 6) pa_nil)) (pa_cons (pv 7) (pa_cons (pv 8) pa_nil)))))))))))), ?_⟩
    have hbig : 10000 < sizeLine := by decide
    -- the numbers
    refine ⟨fun σ' H' => ∃ D : Addr, σ' = [some (.ref lr), some (.str (Sx ls)), some (.ref la), some (.ref lf), some (.ref lg), some (.ref D), none, none, none, none, none, none, none, none, none] ∧ Same H H' ∧ H' D = some (.dT (dQ rs)), ?_, ?_⟩
    · refine ⟨_, rfl, lr, rms rs0, rfl, hlr, fun D nD => ?_⟩
      refine lcG walk_enum (fun i H' => Same H H' ∧ H' D = some (.dT (dQ (rs.take i)))) ⟨same_upd nD, upd_same⟩ (fun i H' _ ⟨sm, _⟩ => sm.seq hlr) ?_ ?_
      · rintro i v H4 H5 hi ⟨sm, hD⟩ ⟨T, x, y, rfl, nT, rfl, ex, ey⟩
        obtain rfl := Option.some.inj ex
        obtain ⟨p, hp', rfl⟩ := rms_at ey
        have hil := (List.getElem?_eq_some_iff.mp hp').1
        have hp2 : rs[i]? = some p.2 := by rw [ers, List.getElem?_map, hp']; rfl
        have s5 := same_upd (o := .tup [.int (i : Nat), .ref p.1]) nT
        refine ⟨T, [.int (i : Nat), .ref p.1], rfl, SqT.of upd_same, rfl, _, _, rfl, _, _, rfl, rfl, rfl, ?_⟩
        refine yes2 ?_
        refine ⟨_, rfl, _, rfl, _, ⟨_, rmk p.2, p.1, s5 _ _ hD, rfl, by rw [rmk_V]; exact s5 _ _ (sm _ _ (hRs p (List.mem_of_getElem? hp'))), ?_, rfl⟩, fun b o e => ?_, ?_⟩
        · rw [dQ_len, List.length_take]
          omega
        · rw [upd_ne (ne_of_none e nD)]
          exact s5 _ _ (sm b o e)
        · rw [upd_same, dQ_put hrn hp2]
      · rintro H1 ⟨sm, hD⟩
        rw [rms_len, ← hrl2, List.take_length] at hD
        exact ⟨D, rfl, sm, hD⟩
    rintro σ H1 ⟨D, rfl, s1, hD⟩
    -- the arrows that are kept
    refine ⟨fun σ' H' => ∃ (L : Addr) (qs : List AR), σ' = [some (.ref lr), some (.str (Sx ls)), some (.ref la), some (.ref lf), some (.ref lg), some (.ref D), some (.ref L), none, none, none, none, none, none, none, none] ∧ Same H1 H' ∧ H' L = some (.lst (aks qs)) ∧ AkAt H' qs ∧ qs.length ≤ ws.length ∧ qs.map (·.2) = numWs rs (ws.map (·.v)), ?_, ?_⟩
    · refine ⟨_, rfl, la, rfl, ⟨_, s1.seq hla⟩, fun C nC => ?_⟩
      refine lc_list (K := K) (a := la) (xs := wrs ws) (fun i H' => Same H1 H' ∧ ∃ qs : List AR, H' C = some (.lst (aks qs)) ∧ AkAt H' qs ∧ qs.length ≤ i ∧ qs.map (·.2) = ((((ws.map (·.v)).take i).filter fun a => decide (a.1 ∈ rs) && decide (a.2.2.2 ∈ rs)).map (numW rs))) ⟨same_upd nC, [], upd_same, (fun _ h => nomatch h), Nat.le_refl _, rfl⟩ (fun i H' _ ⟨sm, _⟩ => sm.seq (s1.seq hla)) (fun i x H' hx ⟨sm, qs, hC, hQ, hql, hqe⟩ => ?_) (fun H2 ⟨s2, qs, hC, hQ, hql, hqe⟩ => ?_)
      · obtain ⟨p, hp, rfl⟩ := wrs_at hx
        have hil := (List.getElem?_eq_some_iff.mp hp).1
        have hsn := filt_snocG (c := fun a : WA => decide (a.1 ∈ rs) && decide (a.2.2.2 ∈ rs)) (f := numW rs) (xs := ws.map (·.v)) (i := i) (x := p.v) (by rw [List.getElem?_map, hp]; rfl)
        obtain ⟨w1, w2, w3⟩ := (hW.same (s1.trans sm)) p (List.mem_of_getElem? hp)
        have hDs := sm _ _ hD
        have gda : DGet H' D (.ref p.a) (valV (dQ rs) (rmk p.v.1)) := DGet.t (k := rmk p.v.1) hDs (by rw [rmk_V]; exact w2)
        have gdb : DGet H' D (.ref p.b) (valV (dQ rs) (rmk p.v.2.2.2)) := DGet.t (k := rmk p.v.2.2.2) hDs (by rw [rmk_V]; exact w3)
        refine ⟨p.p, _, rfl, SqT.of w1, rfl, _, _, rfl, _, _, rfl, _, _, rfl, _, _, rfl, rfl, ?_⟩
        refine ⟨rfl, ?_⟩
        refine ⟨_, rfl, _, rfl, D, _, rfl, gda, _, rfl, ?_⟩
        rw [dQ_val] at gda ⊢
        by_cases c : p.v.1 ∈ rs
        · rw [if_pos c] at gda ⊢
          refine iteT ?_
          refine ⟨_, rfl, _, rfl, D, _, rfl, gdb, _, rfl, ?_⟩
          rw [dQ_val] at gdb ⊢
          by_cases c2 : p.v.2.2.2 ∈ rs
          · rw [if_pos c2] at gdb ⊢
            refine iteT ?_
            refine ⟨_, rfl, _, rfl, D, _, rfl, gda, ?_⟩
            refine ⟨_, rfl, _, rfl, _, rfl, _, rfl, D, _, rfl, gdb, ?_⟩
            refine ⟨(by decide : 4 ≤ sizeLine), fun t nt => ?_⟩
            obtain ⟨acc, a1, a2, a3, a4, a5⟩ := grow_ak (x := numW rs p.v) nC sm hC hQ (by have : (wrs ws).length = ws.length := wrs_len ws; omega) nt
            exact ⟨acc, a1, a2, a3, _, a4, a5, by rw [List.length_append]; exact Nat.succ_le_succ hql, by simp only [hsn, List.map_append, hqe, if_pos (show (decide (p.v.1 ∈ rs) && decide (p.v.2.2.2 ∈ rs)) = true by rw [decide_eq_true c, decide_eq_true c2]; rfl), List.map_cons, List.map_nil]⟩
          · rw [if_neg c2]
            exact iteF ⟨sm, qs, hC, hQ, by omega, by rw [hsn, hqe, if_neg (by rw [decide_eq_true c, decide_eq_false c2]; exact Bool.false_ne_true), List.append_nil]⟩
        · rw [if_neg c]
          exact iteF ⟨sm, qs, hC, hQ, by omega, by rw [hsn, hqe, if_neg (by rw [decide_eq_false c]; exact Bool.false_ne_true), List.append_nil]⟩
      rw [wrs_len] at hql
      rw [show (wrs ws).length = (ws.map (·.v)).length by rw [List.length_map]; exact List.length_map .., List.take_length] at hqe
      exact ⟨C, qs, rfl, s2, hC, hQ, hql, hqe⟩
    rintro σ H2 ⟨L, qs, rfl, s2, hL, hQ, hql, hqe⟩
    have someR : ∀ {Hx : Hp} {C : Addr} {ns : List RmA}, RmAt Hx ns → Hx D = some (.dT (dQ rs)) → Hx C = none → ns.length ≤ 1000 → ∀ (i : Nat) (v : V) (H' : Hp), (rms ns)[i]? = some v → Same Hx H' → H' C = some (.lst (((((ns.map (·.2)).take i).filter fun r => decide (r ∈ rs)).map (numQ rs)).map V.int)) →
        ∃ (a : Addr) (r : Rm), v = .ref a ∧ DGet H' D (.ref a) (valV (dQ rs) (rmk r)) ∧ (r ∉ rs → H' C = some (.lst (((((ns.map (·.2)).take (i + 1)).filter fun r => decide (r ∈ rs)).map (numQ rs)).map V.int))) ∧ (r ∈ rs → ∃ acc, H' C = some (.lst acc) ∧ acc.length < sizeLine ∧ Same Hx (upd H' C (.lst (acc ++ [V.int (numQ rs r)]))) ∧ (upd H' C (.lst (acc ++ [V.int (numQ rs r)]))) C = some (.lst (((((ns.map (·.2)).take (i + 1)).filter fun r => decide (r ∈ rs)).map (numQ rs)).map V.int))) := fun {Hx C ns} hN hDx nC hnl i v H' hv sm hC => by
      obtain ⟨p, hp, rfl⟩ := rms_at hv
      have hp2 : (ns.map (·.2))[i]? = some p.2 := by rw [List.getElem?_map, hp]; rfl
      have hsn := filt_snocG (c := fun r : Rm => decide (r ∈ rs)) (f := numQ rs) (xs := ns.map (·.2)) hp2
      refine ⟨p.1, p.2, rfl, DGet.t (k := rmk p.2) (sm _ _ hDx) (by rw [rmk_V]; exact sm _ _ (hN p (List.mem_of_getElem? hp))), fun c => ?_, fun c => ⟨_, hC, ?_, fun b o e => ?_, ?_⟩⟩
      · rw [hC, hsn, if_neg (by rw [decide_eq_false c]; exact Bool.false_ne_true), List.append_nil]
      · rw [List.length_map, List.length_map]
        have := List.length_filter_le (fun r : Rm => decide (r ∈ rs)) ((ns.map (·.2)).take i)
        rw [List.length_take, List.length_map] at this
        omega
      · rw [upd_ne (ne_of_none e nC)]
        exact sm b o e
      · rw [upd_same, hsn, if_pos (decide_eq_true c), List.map_append]
        rfl
    refine ⟨fun σ' H' => ∃ (S : Addr), σ' = [some (.ref lr), some (.str (Sx ls)), some (.ref la), some (.ref lf), some (.ref lg), some (.ref D), some (.ref L), some (.ref S), none, none, none, none, none, none, none] ∧ Same H2 H' ∧ H' S = some (.lst ((numR rs (fs0.map (·.2))).map V.int)), ?_, ?_⟩
    · have hlx := (s1.trans s2).seq hlf
      have hNx := hFs.same (s1.trans s2)
      refine ⟨_, rfl, lf, rfl, ⟨_, hlx⟩, fun C nC => ?_⟩
      refine lc_list (K := K) (a := lf) (xs := rms fs0) (fun i H' => Same H2 H' ∧ H' C = some (.lst (((((fs0.map (·.2)).take i).filter fun r => decide (r ∈ rs)).map (numQ rs)).map V.int))) ⟨same_upd nC, upd_same⟩ (fun i H' _ ⟨sm, _⟩ => sm.seq hlx) (fun i x H' hx ⟨sm, hC⟩ => ?_) (fun Hz ⟨sz, hC⟩ => ?_)
      · obtain ⟨a, r, rfl, gd, hno, hyes⟩ := someR hNx (s2 _ _ hD) nC hfl i x H' hx sm hC
        refine ⟨rfl, ?_⟩
        refine ⟨_, rfl, _, rfl, D, _, rfl, gd, _, rfl, ?_⟩
        rw [dQ_val] at gd ⊢
        by_cases c : r ∈ rs
        · rw [if_pos c] at gd ⊢
          obtain ⟨acc, a1, a2, a3, a4⟩ := hyes c
          exact iteT ⟨_, rfl, _, rfl, D, _, rfl, gd, acc, a1, a2, a3, a4⟩
        · rw [if_neg c]
          exact iteF ⟨sm, hno c⟩
      rw [show (rms fs0).length = (fs0.map (·.2)).length by rw [List.length_map]; exact List.length_map .., List.take_length] at hC
      exact ⟨C, rfl, sz, hC⟩
    rintro σ H3 ⟨S, rfl, s3, hS⟩
    refine ⟨fun σ' H' => ∃ (G : Addr), σ' = [some (.ref lr), some (.str (Sx ls)), some (.ref la), some (.ref lf), some (.ref lg), some (.ref D), some (.ref L), some (.ref S), some (.ref G), none, none, none, none, none, none] ∧ Same H3 H' ∧ H' G = some (.lst ((numR rs (gs0.map (·.2))).map V.int)), ?_, ?_⟩
    · have hlx := (s1.trans (s2.trans s3)).seq hlg
      have hNx := hGs.same (s1.trans (s2.trans s3))
      refine ⟨_, rfl, lg, rfl, ⟨_, hlx⟩, fun C nC => ?_⟩
      refine lc_list (K := K) (a := lg) (xs := rms gs0) (fun i H' => Same H3 H' ∧ H' C = some (.lst (((((gs0.map (·.2)).take i).filter fun r => decide (r ∈ rs)).map (numQ rs)).map V.int))) ⟨same_upd nC, upd_same⟩ (fun i H' _ ⟨sm, _⟩ => sm.seq hlx) (fun i x H' hx ⟨sm, hC⟩ => ?_) (fun Hz ⟨sz, hC⟩ => ?_)
      · obtain ⟨a, r, rfl, gd, hno, hyes⟩ := someR hNx (s3 _ _ (s2 _ _ hD)) nC hgl i x H' hx sm hC
        refine ⟨rfl, ?_⟩
        refine ⟨_, rfl, _, rfl, D, _, rfl, gd, _, rfl, ?_⟩
        rw [dQ_val] at gd ⊢
        by_cases c : r ∈ rs
        · rw [if_pos c] at gd ⊢
          obtain ⟨acc, a1, a2, a3, a4⟩ := hyes c
          exact iteT ⟨_, rfl, _, rfl, D, _, rfl, gd, acc, a1, a2, a3, a4⟩
        · rw [if_neg c]
          exact iteF ⟨sm, hno c⟩
      rw [show (rms gs0).length = (gs0.map (·.2)).length by rw [List.length_map]; exact List.length_map .., List.take_length] at hC
      exact ⟨C, rfl, sz, hC⟩
    rintro σ H4 ⟨G, rfl, s4, hG⟩
    -- the machine
    have s04 := s1.trans (s2.trans (s3.trans s4))
    have s24 := s3.trans s4
    refine ⟨_, rfl, lr, rms rs0, rfl, .inl (s04.seq hlr), ?_⟩
    refine ⟨_, rfl, _, rfl, ?_⟩
    dsimp only [tNil]
    refine once_arws (E := E0) (SqL.of (s24 _ _ hL)) (hQ.same s24) (by omega) fun lo os H5 s5 nlo hlo hos hoe => ?_
    refine ⟨_, rfl, _, rfl, ?_⟩
    have s05 := s04.trans s5
    have hone : os.map (·.2) = onceL (numWs rs (ws.map (·.v))) := by rw [hoe, hqe]
    refine ⟨lo, S, G, _, ls, rfl, ?_⟩
    rw [rms_len]
    by_cases hrs : rs0 = []
    · exact .inl ⟨by rw [hrs]; rfl, hls, fun m H6 nm s6 mm => q0 hrs m H6 (s05.free nm) (s05.trans s6) mm⟩
    · obtain ⟨e8, er, q⟩ := q1 hrs
      have hn1 : 1 ≤ rs0.length := List.length_pos_iff.mpr hrs
      have hMa : (numT rs ls (ws.map (·.v)) (fs0.map (·.2)) (gs0.map (·.2))).as = onceL (numWs rs (ws.map (·.v))) := rfl
      refine .inr ⟨lo, S, G, os, numT rs ls (ws.map fun z : WR => z.v) (fs0.map fun z : RmA => z.2) (gs0.map fun z : RmA => z.2), ?_, ?_, .inl (SqL.of hlo), hos.row, hone, ?_, ?_, .inl (SqL.of (s5 _ _ (s4 _ _ hS))), .inl (SqL.of (s5 _ _ hG)), ?_, hf1, hg1, fun h8 H' s' => e8 h8 H' (s05.trans s'), fun h8 nm hw H' s' => er h8 nm hw H' (s05.trans s'), fun h8 hw m H' nm s' mm => q h8 hw m H' (s05.free nm) (s05.trans s') mm⟩
      · show _ = [V.int ((rs.length : Nat) : Int), _, _, _, _]
        rw [hrl2]
        rfl
      · show (1 : Int) ≤ ((rs.length : Nat) : Int)
        rw [hrl2]
        omega
      · intro p hp
        have h1 : p.2 ∈ os.map (·.2) := List.mem_map_of_mem hp
        rw [hone, onceL_mem] at h1
        obtain ⟨a, ha, e⟩ := List.mem_map.mp h1
        have ha := (List.mem_filter.mp ha).1
        obtain ⟨w, hw, rfl⟩ := List.mem_map.mp ha
        rw [← e]
        exact hlet w hw
      · have h1 := congrArg List.length hone
        rw [List.length_map] at h1
        omega
      · have h1 := letB_pos hls
        show ls.length ≤ 1000
        omega
end
end Onp
set_option maxHeartbeats 8000000
set_option autoImplicit false
namespace Onp
open PySem PySem.Spec PyProof.Rows L2
abbrev sAllP : Stmt := topS 47
/-! ### all_pairs -/
abbrev PR := Addr × V × V
def prs (xs ys : List V) : List (V × V) := xs.flatMap fun x => ys.map fun y => (x, y)
def prV (qs : List PR) : List V := qs.map fun q => .ref q.1
def PrAt (H : Hp) (qs : List PR) : Prop := ∀ q ∈ qs, H q.1 = some (.tup [q.2.1, q.2.2])
theorem prs_snoc (xs : List V) (x : V) (ys : List V) : prs (xs ++ [x]) ys = prs xs ys ++ ys.map fun y => (x, y) := by
  unfold prs
  rw [List.flatMap_append, List.flatMap_cons, List.flatMap_nil, List.append_nil]
theorem prs_len (xs ys : List V) : (prs xs ys).length = xs.length * ys.length := by
  induction xs with
  | nil => simp [prs]
  | cons x xs ih =>
    have e : prs (x :: xs) ys = (ys.map fun y => (x, y)) ++ prs xs ys := List.flatMap_cons ..
    rw [e, List.length_append, List.length_map, ih, List.length_cons, Nat.succ_mul, Nat.add_comm]
theorem prV_len (qs : List PR) : (prV qs).length = qs.length := List.length_map ..
theorem prV_app (a b : List PR) : prV (a ++ b) = prV a ++ prV b := List.map_append ..
theorem PrAt.same {H H' : Hp} {qs : List PR} (x : PrAt H qs) (s : Same H H') : PrAt H' qs := fun q hq => s _ _ (x q hq)
theorem prV_at {qs : List PR} {i : Nat} {v : V} (h : (prV qs)[i]? = some v) : ∃ q : PR, qs[i]? = some q ∧ v = .ref q.1 := by
  unfold prV at h
  rw [List.getElem?_map] at h
  cases e : qs[i]? with
  | none => rw [e] at h; cases h
  | some y => rw [e] at h; exact ⟨y, rfl, (Option.some.inj h).symm⟩
section
variable {P : Program} {w : World} {K : PySem.W.Frag} {mg : Str → Option Value} {base : Heap}
def NAp : List Str := ["some", "others", "one", "other"]
theorem scAllP : FnScope NAp ["some", "others"] (defScope sAllP) := ⟨rfl, rfl, rfl, by decide +kernel, rfl, by decide +kernel, by decide +kernel⟩
def spAllP (K : PySem.W.Frag) : Sp := fun vs H Q _ => ∃ (la lb : Addr) (xs ys : List V), vs = [.ref la, .ref lb] ∧ SqL K H la xs ∧ SqL K H lb ys ∧ xs.length ≤ 64 ∧ ys.length ≤ 64 ∧ ∀ (r : Addr) (qs : List PR) H', Same H H' → H r = none → H' r = some (.lst (prV qs)) → PrAt H' qs → qs.map (·.2) = prs xs ys → Q (.ref r) H'
theorem ok_allp {f : Addr} {fd : FuncData} {k : Nat} (F : Fun K "all_pairs" "all_pairs" sAllP f fd) : FnOk P w K mg base CX0 (k + 1) f fd ["some", "others"] (spAllP K) := by
  refine F.ok scAllP (fun vs H Q E h => ?_) (fun cdv A outer s H vs Q E hr h => ?_)
  · obtain ⟨la, lb, xs, ys, rfl, _⟩ := h
    rfl
  · obtain ⟨la, lb, xs, ys, rfl, hla, hlb, hx, hy, q⟩ := h
    refine ⟨_, (pss_one (ps_ret (pe_lc2 (own := [("one", 2), ("other", 3)]) (vs1 := [3]) (g := (gName 2)) (tt := tYes) (wi1 := (iList K (tVar 1))) (g1 := (gName 3)) (tt1 := tYes) (te := (tTup (tCons (tVar 2) (tCons (tVar 3) tNil)))) rfl scAllP.nd
          (pi_list (pv 0)) (blkOk_by (own := [("one", 2), ("other", 3)]) (N := NAp) (sc := defScope sAllP) (by decide +kernel)) (by decide)
          (fun _ _ _ _ _ => (pg_name (i := 2) scAllP.nd rfl (.inl rfl))) (fun _ _ _ _ _ => pts_nil) (fun _ _ _ _ _ => (pi_list (pv 1)))
          (fun _ _ _ _ _ => (pg_name (i := 3) scAllP.nd rfl (.inl rfl))) (fun _ _ _ _ _ => pts_nil) (fun _ _ _ _ _ => (pe_tup (pa_cons (pv 2) (pa_cons (pv 3) pa_nil))))))), ?_⟩
    have hbig : 50000 ≤ sizeLine := by decide
    refine ⟨_, rfl, la, rfl, ⟨_, hla⟩, fun D nD => ?_⟩
    have same_of : ∀ {H2 H3 : Hp}, Same H H2 → Keep D H2 H3 → Same H H3 := fun s1 k a o e => k a o (ne_of_none e nD) (s1 a o e)
    refine lcG (walk_list (xs := xs)) (fun i H' => Same H H' ∧ ∃ qs : List PR, H' D = some (.lst (prV qs)) ∧ PrAt H' qs ∧ qs.map (·.2) = prs (xs.take i) ys) ⟨same_upd nD, [], upd_same, (fun _ h => nomatch h), rfl⟩ (fun i H' _ ⟨sm, _⟩ => sm.seq hla) ?_ ?_
    · rintro i x _ H2 hi ⟨sm, qs, hD, hA, he⟩ ⟨rfl, hxi⟩
      have hnx : prs (xs.take (i + 1)) ys = prs (xs.take i) ys ++ ys.map fun y => (x, y) := by
        rw [take_next hxi, prs_snoc]
      have hql : qs.length ≤ 4096 := by
        have e1 := congrArg List.length he
        rw [List.length_map, prs_len, List.length_take] at e1
        have e2 : min i xs.length * ys.length ≤ 64 * 64 := Nat.mul_le_mul (by omega) hy
        omega
      refine ⟨rfl, ?_⟩
      refine yes2 ?_
      refine ⟨_, rfl, lb, rfl, ⟨_, sm.seq hlb⟩, ?_⟩
      refine lcG (walk_list (xs := ys)) (fun j H' => Keep D H2 H' ∧ ∃ qs' : List PR, H' D = some (.lst (prV qs')) ∧ PrAt H' qs' ∧ qs'.map (·.2) = prs (xs.take i) ys ++ (ys.take j).map fun y => (x, y)) ⟨Keep.refl _, qs, hD, hA, by rw [he, List.take_zero, List.map_nil, List.append_nil]⟩ (fun j H' _ ⟨kp, _⟩ => (same_of sm kp).seq hlb) ?_ ?_
      · rintro j y _ H4 hj ⟨kp, qs', hD4, hA4, he4⟩ ⟨rfl, hyj⟩
        refine ⟨rfl, ?_⟩
        refine yes2 ?_
        refine ⟨_, rfl, _, rfl, ?_⟩
        refine ⟨(by decide : 2 ≤ sizeLine), fun t nt => ?_⟩
        have nt' : t ≠ D := fun z => by rw [z, hD4] at nt; cases nt
        have st := same_upd (o := .tup [x, y]) nt
        have ht : (upd H4 t (.tup [x, y])) t = some (.tup [x, y]) := upd_same
        generalize upd H4 t (.tup [x, y]) = H5 at st ht
        have hD5 := st _ _ hD4
        refine ⟨_, hD5, ?_, fun p o np e => ?_, qs' ++ [(t, x, y)], ?_, ?_, ?_⟩
        · have e1 := congrArg List.length he4
          rw [List.length_map, List.length_append, prs_len, List.length_take, List.length_map, List.length_take] at e1
          have e2 : min i xs.length * ys.length ≤ 64 * 64 := Nat.mul_le_mul (by omega) hy
          rw [prV_len]
          omega
        · rw [upd_ne np]
          exact st _ _ (kp _ _ np e)
        · rw [upd_same, prV_app]
          rfl
        · intro z hz
          have : z.1 ≠ D ∧ H5 z.1 = some (.tup [z.2.1, z.2.2]) := by
            rcases List.mem_append.mp hz with h | h
            · have h3 := st _ _ (hA4 z h)
              exact ⟨fun e => (by rw [e, hD5] at h3; cases h3), h3⟩
            · rw [List.mem_singleton.mp h]
              exact ⟨nt', ht⟩
          rw [upd_ne this.1]
          exact this.2
        · rw [List.map_append, he4, take_next hyj, List.map_append, List.append_assoc]
          rfl
      · rintro H4 ⟨kp, qs', hD4, hA4, he4⟩
        rw [List.take_length] at he4
        exact ⟨same_of sm kp, qs', hD4, hA4, by rw [hnx, he4]⟩
    · rintro H2 ⟨sm, qs, hD, hA, he⟩
      rw [List.take_length] at he
      exact q D qs H2 sm nD hD hA he
end
end Onp
set_option autoImplicit false
/-! sorted rows do not ask for the order that they come in -/
namespace Onp
open PySem PySem.Spec PyProof.Rows L2
theorem toks_adat {a b : Arw} (h : PySem.W.keyToks (adat a) = PySem.W.keyToks (adat b)) : a = b := by
  obtain ⟨a1, a2, a3, a4⟩ := a
  obtain ⟨b1, b2, b3, b4⟩ := b
  unfold adat at h
  simp only [PySem.W.keyToks, PySem.W.keyToksAll, List.cons_append, List.nil_append, List.cons.injEq, Sum.inl.injEq, Sum.inr.injEq, and_true, true_and] at h
  obtain ⟨h1, h2, h3, h4⟩ := h
  have e2 : a2 = b2 := by
    obtain ⟨⟨x⟩⟩ := a2
    obtain ⟨⟨y⟩⟩ := b2
    have : x = y := h2
    rw [this]
  have e3 : a3 = b3 := by
    obtain ⟨⟨x⟩⟩ := a3
    obtain ⟨⟨y⟩⟩ := b3
    have : x = y := h3
    rw [this]
  rw [h1, e2, e3, h4]
theorem sortA_eq {as bs : List Arw} (p : as.Perm bs) : sortA as = sortA bs := by
  have tt := PySem.W.sortLe_total (listOrd itemOrd) false (fun a : Arw => PySem.W.keyToks (adat a))
  have tot : ∀ a b : Arw, (PySem.W.dataLe false adat a b || PySem.W.dataLe false adat b a) = true := fun a b => by
    rcases tt.total a b with h | h
    · rw [show PySem.W.dataLe false adat a b = true from h, Bool.true_or]
    · rw [show PySem.W.dataLe false adat b a = true from h, Bool.or_true]
  unfold sortA
  refine PySem.W.Srt.the_of_perm _ (fun a b c => tt.trans a b c) tot (fun x y h1 h2 => ?_) ((List.mergeSort_perm as _).trans p) (List.pairwise_mergeSort (fun a b c => tt.trans a b c) tot as)
  have g1 : (!(listOrd itemOrd).blt (PySem.W.keyToks (adat y)) (PySem.W.keyToks (adat x))) = true := h1
  have g2 : (!(listOrd itemOrd).blt (PySem.W.keyToks (adat x)) (PySem.W.keyToks (adat y))) = true := h2
  rw [Bool.not_eq_true'] at g1 g2
  exact toks_adat ((listOrd itemOrd).total _ _ g2 g1)
theorem sortI_eq {as bs : List Int} (p : as.Perm bs) : sortI as = sortI bs := by
  unfold sortI
  have tot : ∀ a b : Int, (decide (a ≤ b) || decide (b ≤ a)) = true := fun a b => by
    rw [Bool.or_eq_true, decide_eq_true_eq, decide_eq_true_eq]
    omega
  have tr : ∀ a b c : Int, decide (a ≤ b) = true → decide (b ≤ c) = true → decide (a ≤ c) = true := fun a b c h1 h2 => by
    rw [decide_eq_true_eq] at *
    omega
  refine PySem.W.Srt.the_of_perm _ tr tot (fun x y h1 h2 => ?_) ((List.mergeSort_perm as _).trans p) (List.pairwise_mergeSort tr tot as)
  rw [decide_eq_true_eq] at h1 h2
  omega
end Onp
set_option maxHeartbeats 4000000
set_option autoImplicit false
/-! sorted(xs) of tuples of ints -/
namespace Onp
open PySem PySem.Spec PyProof.Rows L2 PySem.W
theorem toks_ints : ∀ a b : Rm, keyToksAll (a.map PyData.int) = keyToksAll (b.map PyData.int) → a = b
  | [], [], _ => rfl
  | [], y :: b, h => by simp [keyToksAll, keyToks] at h
  | x :: a, [], h => by simp [keyToksAll, keyToks] at h
  | x :: a, y :: b, h => by
    simp only [List.map_cons, keyToksAll, keyToks, List.cons_append, List.nil_append, List.cons.injEq, Sum.inl.injEq, true_and] at h
    rw [h.1, toks_ints a b h.2]
theorem toks_rdat {a b : Rm} (h : keyToks (rdat a) = keyToks (rdat b)) : a = b := by
  unfold rdat at h
  simp only [keyToks] at h
  exact toks_ints a b h
def sortRm (rs : List Rm) : List Rm := rs.mergeSort (dataLe false rdat)
theorem sortRm_perm (rs : List Rm) : (sortRm rs).Perm rs := List.mergeSort_perm ..
theorem sortRm_len (rs : List Rm) : (sortRm rs).length = rs.length := List.length_mergeSort ..
theorem sortRm_eq {as bs : List Rm} (p : as.Perm bs) : sortRm as = sortRm bs := by
  have tt := PySem.W.sortLe_total (listOrd itemOrd) false (fun a : Rm => PySem.W.keyToks (rdat a))
  have tot : ∀ a b : Rm, (PySem.W.dataLe false rdat a b || PySem.W.dataLe false rdat b a) = true := fun a b => by
    rcases tt.total a b with h | h
    · rw [show PySem.W.dataLe false rdat a b = true from h, Bool.true_or]
    · rw [show PySem.W.dataLe false rdat b a = true from h, Bool.or_true]
  unfold sortRm
  refine PySem.W.Srt.the_of_perm _ (fun a b c => tt.trans a b c) tot (fun x y h1 h2 => ?_) ((List.mergeSort_perm as _).trans p) (List.pairwise_mergeSort (fun a b c => tt.trans a b c) tot as)
  have g1 : (!(listOrd itemOrd).blt (PySem.W.keyToks (rdat y)) (PySem.W.keyToks (rdat x))) = true := h1
  have g2 : (!(listOrd itemOrd).blt (PySem.W.keyToks (rdat x)) (PySem.W.keyToks (rdat y))) = true := h2
  rw [Bool.not_eq_true'] at g1 g2
  exact toks_rdat ((listOrd itemOrd).total _ _ g2 g1)
def vdRm (p : RmA) : VD := (.ref p.1, rdat p.2)
def srtRm (xs : List RmA) : List RmA := xs.mergeSort (dataLe false fun p => rdat p.2)
theorem srtRm_perm (xs : List RmA) : (srtRm xs).Perm xs := List.mergeSort_perm ..
theorem srtD_Rm (xs : List RmA) : srtD (xs.map vdRm) = (srtRm xs).map vdRm := (PySem.W.sort_maps vdRm (fun _ _ _ _ => rfl)).symm
theorem srtRm_val (xs : List RmA) : (srtRm xs).map (·.2) = sortRm (xs.map (·.2)) := PySem.W.sort_maps (fun p : RmA => p.2) (fun _ _ _ _ => rfl)
theorem alike_ints : ∀ a b : Rm, alikeAll (a.map PyData.int) (b.map PyData.int) = true
  | [], _ => by simp [alikeAll]
  | _ :: _, [] => by simp [alikeAll]
  | x :: a, y :: b => by
    simp only [List.map_cons, alikeAll, alike, Bool.true_and]
    exact alike_ints a b
theorem al_Rm (xs : List RmA) : AllAlike ((xs.map vdRm).map (·.2)) := fun d hd d' hd' => by
  rw [List.map_map] at hd hd'
  obtain ⟨r, _, rfl⟩ := List.mem_map.mp hd
  obtain ⟨r', _, rfl⟩ := List.mem_map.mp hd'
  show alike (rdat r.2) (rdat r'.2) = true
  unfold rdat
  simp only [alike]
  exact alike_ints _ _
theorem so_Rm (xs : List RmA) (h : ∀ p ∈ xs, p.2 ≠ []) : Sortable ((xs.map vdRm).map (·.2)) := .inl fun d hd => by
  rw [List.map_map] at hd
  obtain ⟨r, hr, rfl⟩ := List.mem_map.mp hd
  show ∃ _ _, rdat r.2 = _
  have h2 := h r hr
  cases e : r.2 with
  | nil => exact absurd e h2
  | cons x l => exact ⟨_, _, rfl⟩
/-- what sorted(xs) wants of a row of such tuples -/
theorem use_sortRm {K : PySem.W.Frag} {H : Hp} {a : Addr} {xs : List RmA} {Q : VK} (h : SqL K H a (rms xs) ∨ SqT K H a (rms xs)) (hx : RmAt H xs) (hne : ∀ p ∈ xs, p.2 ≠ []) (q : ∀ (p : Addr) (ys : List RmA) H', Same H H' → H p = none → H' p = some (.lst (rms ys)) → RmAt H' ys → ys.Perm xs → ys.map (·.2) = sortRm (xs.map (·.2)) → Q (.ref p) H') : rSortD K [.ref a] H Q := by
  have e1 : (xs.map vdRm).map (·.1) = rms xs := by
    rw [List.map_map]
    rfl
  refine ⟨a, xs.map vdRm, rfl, by rw [e1]; exact h, fun d hd => ?_, al_Rm xs, so_Rm xs hne, fun d hd => ?_, fun p np => ?_⟩
  · obtain ⟨r, hr, rfl⟩ := List.mem_map.mp hd
    exact dp_rm (hx r hr)
  · obtain ⟨r, hr, rfl⟩ := List.mem_map.mp hd
    show (rdat r.2).depth ≤ 8
    rw [dep_rdat]
    decide
  · have pm := srtRm_perm xs
    have e2 : (srtD (xs.map vdRm)).map (·.1) = rms (srtRm xs) := by
      rw [srtD_Rm, List.map_map]
      rfl
    rw [e2]
    have s1 : Same H (upd H p (.lst (rms (srtRm xs)))) := fun b o e => by
      rw [upd_ne (ne_of_none e np)]
      exact e
    have hR : RmAt H (srtRm xs) := fun r hr => hx r (pm.mem_iff.mp hr)
    exact q p (srtRm xs) _ s1 np upd_same (hR.same s1) pm (srtRm_val xs)
end Onp
set_option maxHeartbeats 8000000
set_option autoImplicit false
namespace Onp
open PySem PySem.Spec PyProof.Rows L2 HotX L2H LamX
abbrev sNeedLk : Stmt := topS 46
abbrev sWithin : Stmt := topS 48
/-! ### machines within machines -/
def prG {α β : Type} (xs : List α) (ys : List β) : List (α × β) := xs.flatMap fun x => ys.map fun y => (x, y)
theorem prG_len {α β : Type} (xs : List α) (ys : List β) : (prG xs ys).length = xs.length * ys.length := by
  induction xs with
  | nil => simp [prG]
  | cons x xs ih =>
    have e : prG (x :: xs) ys = (ys.map fun y => (x, y)) ++ prG xs ys := List.flatMap_cons ..
    rw [e, List.length_append, List.length_map, ih, List.length_cons, Nat.succ_mul, Nat.add_comm]
theorem prG_map {α β γ δ : Type} (f : α → γ) (g : β → δ) (xs : List α) (ys : List β) : prG (xs.map f) (ys.map g) = (prG xs ys).map fun z => (f z.1, g z.2) := by
  induction xs with
  | nil => rfl
  | cons x xs ih =>
    have e : prG (x :: xs) ys = (ys.map fun y => (x, y)) ++ prG xs ys := List.flatMap_cons ..
    have e2 : prG ((x :: xs).map f) (ys.map g) = ((ys.map g).map fun y => (f x, y)) ++ prG (xs.map f) (ys.map g) := List.flatMap_cons ..
    rw [e, e2, ih, List.map_append, List.map_map, List.map_map]
    rfl
theorem prG_mem {α β : Type} {xs : List α} {ys : List β} {z : α × β} : z ∈ prG xs ys ↔ z.1 ∈ xs ∧ z.2 ∈ ys := by
  unfold prG
  rw [List.mem_flatMap]
  constructor
  · rintro ⟨x, hx, hz⟩
    obtain ⟨y, hy, rfl⟩ := List.mem_map.mp hz
    exact ⟨hx, hy⟩
  · rintro ⟨h1, h2⟩
    exact ⟨z.1, h1, List.mem_map.mpr ⟨z.2, h2, rfl⟩⟩
theorem prs_G (xs ys : List V) : prs xs ys = prG xs ys := rfl
def wprd (z : Arw × Arw) : WA := ([z.1.1, z.2.1], z.1.2.1, z.1.2.2.1, [z.1.2.2.2, z.2.2.2.2])
def prodW (as bs : List Arw) : List WA := ((prG as bs).filter fun z => decide (z.1.2.1 = z.2.2.1)).map wprd
def prodR (xs ys : List Int) : List Rm := (prG xs ys).map fun z => [z.1, z.2]
theorem prodW_len (as bs : List Arw) : (prodW as bs).length ≤ as.length * bs.length := by
  unfold prodW
  rw [List.length_map, ← prG_len]
  exact List.length_filter_le ..
theorem prodR_len (xs ys : List Int) : (prodR xs ys).length = xs.length * ys.length := by
  unfold prodR
  rw [List.length_map, prG_len]
theorem pr_rm : ∀ (qs : List PR) (zs : List (Int × Int)), qs.map (·.2) = zs.map (fun z => (V.int z.1, V.int z.2)) → ∃ xs : List RmA, prV qs = rms xs ∧ (∀ {H : Hp}, PrAt H qs → RmAt H xs) ∧ xs.map (·.2) = zs.map fun z => [z.1, z.2]
  | [], [], _ => ⟨[], rfl, (fun _ _ h => nomatch h), rfl⟩
  | [], _ :: _, h => nomatch h
  | _ :: _, [], h => nomatch h
  | q :: qs, z :: zs, h => by
    obtain ⟨h1, h2⟩ := List.cons.inj h
    obtain ⟨xs, e1, e2, e3⟩ := pr_rm qs zs h2
    refine ⟨(q.1, [z.1, z.2]) :: xs, ?_, fun hA p hp => ?_, ?_⟩
    · show V.ref q.1 :: prV qs = V.ref q.1 :: rms xs
      rw [e1]
    · rcases List.mem_cons.mp hp with rfl | hp
      · have h3 := hA q List.mem_cons_self
        rw [show q.2.1 = V.int z.1 from congrArg (·.1) h1, show q.2.2 = V.int z.2 from congrArg (·.2) h1] at h3
        exact h3
      · exact e2 (fun r hr => hA r (List.mem_cons_of_mem _ hr)) p hp
    · rw [List.map_cons, List.map_cons, e3]
theorem perm_mem {κ : Type} [DecidableEq κ] {as bs : List κ} (ha : as.Nodup) (hb : bs.Nodup) (h : ∀ x, x ∈ as ↔ x ∈ bs) : as.Perm bs :=
  (List.perm_ext_iff_of_nodup ha hb).mpr h
theorem rch_ne {as bs : List Arw} {xs ys : List Int} {r : Rm} (h : Rch (prodR xs ys) (edW (prodW as bs)) r) : r ≠ [] := by
  cases h with
  | start h =>
    obtain ⟨z, _, rfl⟩ := List.mem_map.mp h
    exact fun e => nomatch e
  | step _ h =>
    obtain ⟨w, hw, e⟩ := List.mem_map.mp h
    obtain ⟨z, _, rfl⟩ := List.mem_map.mp hw
    have e2 := (congrArg (·.2) e).symm
    exact fun z => nomatch z.symm.trans e2
theorem madeOr.same {K : PySem.W.Frag} {C : Addr} {ec : Str → Addr} {M : AM} {H H2 : Hp} {Q : VK} {E : XK} (h : madeOr K C ec M H Q E) (s : Same H H2) : madeOr K C ec M H2 Q E :=
  ⟨fun a H' t => h.1 a H' (s.trans t), fun a nm b H' t => h.2.1 a nm b H' (s.trans t), fun a b m H' n t => h.2.2 a b m H' (s.free n) (s.trans t)⟩
section
variable {P : Program} {w : World} {K : PySem.W.Frag} {mg : Str → Option Value} {base : Heap}
/-! ### need_like -/
def spNeedLk (K : PySem.W.Frag) (C CU : Addr) : Sp := fun vs H Q E => ∃ (a b : Addr) (M N : AM), vs = [.ref a, .ref b] ∧ MachAt K C H a M ∧ MachAt K C H b N ∧ (M.ls = N.ls → Q .non H) ∧ (M.ls ≠ N.ls → badW CU "unlike" H E)
theorem scNeedLk : FnScope ["one", "other"] ["one", "other"] (defScope sNeedLk) := ⟨rfl, rfl, rfl, by decide +kernel, rfl, by decide +kernel, by decide +kernel⟩
theorem ok_needLk {f C CU fLt iU : Addr} {fd fdLt fdiU : FuncData} {k : Nat} (F : Fun K "need_like" "need_like" sNeedLk f fd) (T : ClsM K C) (FLt : Fun K "letters" "Machine.letters" sMLets fLt fdLt) (bLt : Binds K fdLt ["self"] []) (mLt : Meth K C "letters" fLt) (SU : MkUnlike K mg CU iU fdiU) : FnOk P w K mg base (L2N.CX P w) (k + 3) f fd ["one", "other"] (spNeedLk K C CU) := by
  have G2 : FnOk P w K mg base CX0 (k + 2) fLt fdLt ["self"] (spMLets K C) := ok_mlets FLt T
  refine okN F scNeedLk (fun vs H Q E h => ?_) (fun cdv A outer s H vs Q E hr h => ?_)
  · obtain ⟨a, b, M, N, rfl, _⟩ := h
    rfl
  · obtain ⟨a, b, M, N, rfl, mA, mB, q, e⟩ := h
    obtain ⟨dx, ta, tf, tg, D0, ps0, h1, _⟩ := id mA
    obtain ⟨dy, tb, tf', tg', D1, ps1, h2, _⟩ := id mB
    refine ⟨_, pss_one (ps_if (pt_cmpR op_ne (pe_meth0 (pv 0) T.cl mLt G2 hr bLt .nil pass0) (pe_meth0 (pv 1) T.cl mLt G2 hr bLt .nil pass0) (nomark _)) (pss_one (L2N.ps_raise rfl (L2N.takes_of rfl rfl rfl rfl) (pmk_word (k := k + 1) SU.T SU.iC SU.tI (ok_initUnlike SU) hr SU.b (by rfl) SU.g))) pss_nil), ?_⟩
    refine ⟨_, rfl, a, dx, _, rfl, h1, mfl_none (by decide +kernel), a, M, rfl, mA, ?_⟩
    refine ⟨_, rfl, b, dy, _, rfl, h2, mfl_none (by decide +kernel), b, N, rfl, mB, rfl, _, rfl, ?_⟩
    show if (!decide (V.str (Sx M.ls) = V.str (Sx N.ls))) = true then _ else _
    by_cases hl : M.ls = N.ls
    · rw [decide_eq_true (by rw [hl])]
      exact iteF (q hl)
    · rw [decide_eq_false (fun z => hl (sx_inj (V.str.inj z)))]
      exact iteT (fun d hd => e hl d hd)
/-! ### within -/
def NWn : List Str := ["machine", "sieve", "arrows", "firsts", "lasts", "one", "other"]
theorem scWithin : FnScope NWn ["machine", "sieve"] (defScope sWithin) := ⟨rfl, rfl, rfl, by decide +kernel, rfl, by decide +kernel, by decide +kernel⟩
def spWithin (K : PySem.W.Frag) (C : Addr) (ec : Str → Addr) : Sp := fun vs H Q E => ∃ (a b : Addr) (M N : AM) (rs : List Rm), vs = [.ref a, .ref b] ∧ MachAt K C H a M ∧ MachAt K C H b N ∧ (M.ls ≠ N.ls → badW (ec "Unlike") "unlike" H E) ∧
  (M.ls = N.ls → M.as.length ≤ 40 ∧ N.as.length ≤ 24 ∧ M.fs.length * N.fs.length ≤ 64 ∧ M.gs.length * N.gs.length ≤ 64 ∧ M.fs.length ≤ 8 ∧ N.fs.length ≤ 8 ∧ M.gs.length ≤ 8 ∧ N.gs.length ≤ 8 ∧ letB M.ls = true ∧ (∀ x ∈ M.as, x.2.1.length ≤ sizeLine) ∧ rs.Nodup ∧ rs.length ≤ 5000 ∧
    (∀ x, x ∈ rs ↔ Rch (prodR M.fs N.fs) (edW (prodW M.as N.as)) x) ∧
    (rs = [] → ∀ (m : Addr) H', H m = none → Same H H' → MachAt K C H' m (idleM M.ls).srt → Q (.ref m) H') ∧ (rs ≠ [] → madeOr K C ec (numT (sortRm rs) M.ls (prodW M.as N.as) (prodR M.fs N.fs) (prodR M.gs N.gs)) H Q E))
theorem ok_within {f C fLk fAp fCt fNu fMp fOn fLt fAr fFs fLs iU : Addr} {fd fdLk fdAp fdCt fdNu fdMp fdOn fdLt fdAr fdFs fdLs fdiU : FuncData} {ec : Str → Addr} {k : Nat} (F : Fun K "within" "within" sWithin f fd) (T : ClsM K C) (Lk : FnM K mg fLk fdLk "need_like" sNeedLk ["one", "other"]) (SU : MkUnlike K mg (ec "Unlike") iU fdiU) (Ap : FnM K mg fAp fdAp "all_pairs" sAllP ["some", "others"]) (Ct : FnM K mg fCt fdCt "come_to" sCome ["starts", "arrows"]) (Nu : FnM K mg fNu fdNu "numbered" sNumd psNu) (Mp : FnM K mg fMp fdMp "made" sMadeP psMp) (GMp : FnOk P w K mg base (L2N.CX P w) (k + 2) fMp fdMp psMp (spMadeQ K C ec)) (On : FnM K mg fOn fdOn "once_each" sOnce ["things"])
    (FLt : Fun K "letters" "Machine.letters" sMLets fLt fdLt) (bLt : Binds K fdLt ["self"] []) (mLt : Meth K C "letters" fLt) (FAr : Fun K "arrows" "Machine.arrows" sMArrs fAr fdAr) (bAr : Binds K fdAr ["self"] []) (mAr : Meth K C "arrows" fAr)
    (FFs : Fun K "firsts" "Machine.firsts" sMFsts fFs fdFs) (bFs : Binds K fdFs ["self"] []) (mFs : Meth K C "firsts" fFs) (FLs : Fun K "lasts" "Machine.lasts" sMLsts fLs fdLs) (bLs : Binds K fdLs ["self"] []) (mLs : Meth K C "lasts" fLs) (ml : mg "list" = none) (mlen : mg "len" = none) (me : mg "enumerate" = none) (ms : mg "sorted" = none) : FnOk P w K mg base (L2N.CX P w) (k + 4) f fd ["machine", "sieve"] (spWithin K C ec) := by
  have G0 : FnOk P w K mg base (L2N.CX P w) (k + 3) fLk fdLk ["one", "other"] (spNeedLk K C (ec "Unlike")) := ok_needLk Lk.F T FLt bLt mLt SU
  have GA : FnOk P w K mg base CX0 (k + 3) fAp fdAp ["some", "others"] (spAllP K) := ok_allp Ap.F
  have GC : FnOk P w K mg base CX0 (k + 3) fCt fdCt ["starts", "arrows"] (spComeT K) := ok_comeT Ct.F On ml
  have GN : FnOk P w K mg base (L2N.CX P w) (k + 3) fNu fdNu psNu (spNumT K C ec) := ok_numT Nu.F Mp GMp On ml mlen me
  have GLt : FnOk P w K mg base CX0 (k + 3) fLt fdLt ["self"] (spMLets K C) := ok_mlets FLt T
  have GAr : FnOk P w K mg base CX0 (k + 3) fAr fdAr ["self"] (spMArrs K C) := ok_marrs FAr T ml
  have GFs : FnOk P w K mg base CX0 (k + 3) fFs fdFs ["self"] (spMFsts K C) := ok_mfsts FFs T ml
  have GLs : FnOk P w K mg base CX0 (k + 3) fLs fdLs ["self"] (spMLsts K C) := ok_mlsts FLs T ml
  refine okN F scWithin (fun vs H Q E h => ?_) (fun cdv A outer s H vs Q E hr h => ?_)
  · obtain ⟨a, b, M, N, rs, rfl, _⟩ := h
    rfl
  · obtain ⟨a, b, M, N, rs, rfl, mA, mB, eU, hL⟩ := h
    obtain ⟨dx, ta, tf, tg, D0, ps0, h1, _⟩ := id mA
    obtain ⟨dy, tb, tf', tg', D1, ps1, h2, _⟩ := id mB
    have hu : (cxOf (L2N.CX P w) P w K mg base NWn "within" (defScope sWithin) f cdv A outer s H E).A.units + 64 < cLine := hr.units
    refine ⟨_, (pss_cutM (ps_expr (pe_call (E := E) G0 hr (by rfl) Lk.g Lk.F.kp Lk.b .nil (L2N.passes_call (L2N.takes_of (E := E) rfl rfl rfl rfl) fun _ _ _ _ z => z) (pa_cons (pv 0) (pa_cons (pv 1) pa_nil))))
      (pss_cutM (ps_setLc (i := 2) (own := [("one", 5), ("other", 6)]) (g := (gTup K 2 (gCons (gName 5) (gCons (gName 6) gNil)))) (tt := (tTest (tOp rEq (tOp (rIxT K) (tVar 5) (tC (.int 1))) (tOp (rIxT K) (tVar 6) (tC (.int 1)))))) (te := (tTup (tCons (tTup (tCons (tOp (rIxT K) (tVar 5) (tC (.int 0))) (tCons (tOp (rIxT K) (tVar 6) (tC (.int 0))) tNil))) (tCons (tOp (rIxT K) (tVar 5) (tC (.int 1))) (tCons (tOp (rIxT K) (tVar 5) (tC (.int 2))) (tCons (tTup (tCons (tOp (rIxT K) (tVar 5) (tC (.int 3))) (tCons (tOp (rIxT K) (tVar 6) (tC (.int 3))) tNil))) tNil)))))) rfl scWithin.nd rfl rfl (sw_true rfl rfl rfl (by decide +kernel))
          (pi_list (pe_call GA hr (by rfl) Ap.g Ap.F.kp Ap.b .nil pass0 (pa_cons (pe_meth0 (pv 0) T.cl mAr GAr hr bAr .nil pass0) (pa_cons (pe_meth0 (pv 1) T.cl mAr GAr hr bAr .nil pass0) pa_nil)))) (blkOk_by (own := [("one", 5), ("other", 6)]) (N := NWn) (sc := defScope sWithin) (by decide +kernel)) (fun _ _ _ _ _ => (pg_tup rfl (pgs_cons (pg_name (i := 5) scWithin.nd rfl (.inl rfl)) (pgs_cons (pg_name (i := 6) scWithin.nd rfl (.inl rfl)) pgs_nil))))
          (fun _ _ _ _ _ => (pts_one (pt_cmpR op_eq (pe_ix ix_tup (pv 5) pe_int (fun _ _ => rfl)) (pe_ix ix_tup (pv 6) pe_int (fun _ _ => rfl)) (nomark _)))) (fun _ _ _ _ _ => (pe_tup (pa_cons (pe_tup (pa_cons (pe_ix ix_tup (pv 5) pe_int (fun _ _ => rfl)) (pa_cons (pe_ix ix_tup (pv 6) pe_int (fun _ _ => rfl)) pa_nil))) (pa_cons (pe_ix ix_tup (pv 5) pe_int (fun _ _ => rfl)) (pa_cons (pe_ix ix_tup (pv 5) pe_int (fun _ _ => rfl)) (pa_cons (pe_tup (pa_cons (pe_ix ix_tup (pv 5) pe_int (fun _ _ => rfl)) (pa_cons (pe_ix ix_tup (pv 6) pe_int (fun _ _ => rfl)) pa_nil))) pa_nil)))))))
      (pss_cutM (ps_set (i := 3) scWithin.nd rfl (.inl rfl) (pe_call GA hr (by rfl) Ap.g Ap.F.kp Ap.b .nil pass0 (pa_cons (pe_meth0 (pv 0) T.cl mFs GFs hr bFs .nil pass0) (pa_cons (pe_meth0 (pv 1) T.cl mFs GFs hr bFs .nil pass0) pa_nil))))
      (pss_cutM (ps_set (i := 4) scWithin.nd rfl (.inl rfl) (pe_call GA hr (by rfl) Ap.g Ap.F.kp Ap.b .nil pass0 (pa_cons (pe_meth0 (pv 0) T.cl mLs GLs hr bLs .nil pass0) (pa_cons (pe_meth0 (pv 1) T.cl mLs GLs hr bLs .nil pass0) pa_nil))))
      (pss_one (ps_ret (pe_call (E := E) GN hr (by rfl) Nu.g Nu.F.kp Nu.b .nil (L2N.passes_call (L2N.takes_of (E := E) rfl rfl rfl rfl) fun _ _ _ _ z => z) (pa_cons (pe_callB (cr_sortD hr.units) (by rfl) ms (by decide +kernel) (pa_cons (pe_call GC hr (by rfl) Ct.g Ct.F.kp Ct.b .nil pass0 (pa_cons (pv 3) (pa_cons (pv 2) pa_nil))) pa_nil)) (pa_cons (pe_meth0 (pv 0) T.cl mLt GLt hr bLt .nil pass0) (pa_cons (pv 2) (pa_cons (pv 3) (pa_cons (pv 4) pa_nil)))))))))))), ?_⟩
    have hbig : 50000 ≤ sizeLine := by decide
    -- like
    refine ⟨fun σ' H' => σ' = [some (.ref a), some (.ref b), none, none, none, none, none] ∧ H = H' ∧ M.ls = N.ls, ⟨_, rfl, _, rfl, a, b, M, N, rfl, mA, mB, fun hlk => ⟨rfl, rfl, hlk⟩, eU⟩, ?_⟩
    rintro σ _ ⟨rfl, rfl, hlk⟩
    obtain ⟨hM40, hN24, hFF, hGG, hf1, hf2, hg1, hg2, hls, hlet, hrn, hrl, hrr, q0, q1⟩ := hL hlk
    have hpw : M.as.length * N.as.length ≤ 960 := (Nat.mul_le_mul hM40 hN24 : _ ≤ 40 * 24)
    -- arrows
    refine ⟨fun σ' H' => ∃ (L : Addr) (ws : List WR), σ' = [some (.ref a), some (.ref b), some (.ref L), none, none, none, none] ∧ Same H' H' ∧ Same H H' ∧ H' L = some (.lst (wrs ws)) ∧ WrAt H' ws ∧ ws.map (·.v) = prodW M.as N.as, ?_, ?_⟩
    · refine ⟨_, rfl, a, dx, _, rfl, h1, mfl_none (by decide +kernel), a, M, rfl, mA, fun l1 ps nl1 hR he => ?_⟩
      have s1 := same_upd (o := .lst (rfs ps)) nl1
      have hl1 : (upd H l1 (.lst (rfs ps))) l1 = some (.lst (rfs ps)) := upd_same
      generalize upd H l1 (.lst (rfs ps)) = H1 at s1 hl1
      refine ⟨_, rfl, b, dy, _, rfl, s1 _ _ h2, mfl_none (by decide +kernel), b, N, rfl, mB.same s1, fun l2 ps' nl2 hR' he' => ?_⟩
      have s2 := same_upd (o := .lst (rfs ps')) nl2
      have hl2 : (upd H1 l2 (.lst (rfs ps'))) l2 = some (.lst (rfs ps')) := upd_same
      generalize upd H1 l2 (.lst (rfs ps')) = H2 at s2 hl2
      have hpl : ps.length = M.as.length := by
        have := congrArg List.length he
        rw [List.length_map] at this
        exact this
      have hpl' : ps'.length = N.as.length := by
        have := congrArg List.length he'
        rw [List.length_map] at this
        exact this
      have hrf : ∀ xs : List AR, (rfs xs).length = xs.length := fun xs => List.length_map ..
      refine ⟨l1, l2, rfs ps, rfs ps', rfl, .of (s2 _ _ hl1), .of hl2, by rw [hrf]; omega, by rw [hrf]; omega, fun r qs H3 s3 nr hr3 hA hq => ?_⟩
      have s03 : Same H H3 := s1.trans (s2.trans s3)
      have hRa := hR.same s03
      have hRb := hR'.same (s2.trans s3)
      have hqe : qs.map (·.2) = (prG ps ps').map fun z => ((V.ref z.1.1, V.ref z.2.1) : V × V) := by
        rw [hq, prs_G]
        exact prG_map (fun p : AR => V.ref p.1) (fun p : AR => V.ref p.1) ps ps'
      have hze : (prG ps ps').map (fun z => (z.1.2, z.2.2)) = prG M.as N.as := by
        rw [← he, ← he', prG_map]
      have hzl : qs.length = (prG ps ps').length := by
        have := congrArg List.length hqe
        rw [List.length_map, List.length_map] at this
        exact this
      have hz960 : (prG ps ps').length ≤ 960 := by
        rw [prG_len, hpl, hpl']
        exact hpw
      refine ⟨r, rfl, ⟨_, SqL.of hr3⟩, fun D nD => ?_⟩
      refine lc_list (K := K) (a := r) (xs := prV qs) (fun i H' => Same H3 H' ∧ ∃ ws : List WR, H' D = some (.lst (wrs ws)) ∧ WrAt H' ws ∧ ws.length ≤ i ∧ ws.map (·.v) = (((prG M.as N.as).take i).filter fun z => decide (z.1.2.1 = z.2.2.1)).map wprd) ⟨same_upd nD, [], upd_same, (fun _ h => nomatch h), Nat.le_refl _, rfl⟩ (fun i H' _ ⟨sm, _⟩ => sm.seq (SqL.of hr3)) (fun i x H' hx ⟨sm, ws, hD, hW, hwl, hwe⟩ => ?_) (fun H4 ⟨s4, ws, hD, hW, hwl, hwe⟩ => ?_)
      · obtain ⟨p, hp, rfl⟩ := prV_at hx
        have hil := (List.getElem?_eq_some_iff.mp hp).1
        obtain ⟨z, hz⟩ : ∃ z, (prG ps ps')[i]? = some z := ⟨_, List.getElem?_eq_getElem (by omega)⟩
        have hp2 : p.2 = (V.ref z.1.1, V.ref z.2.1) := by
          have e1 := congrArg (·[i]?) hqe
          rw [List.getElem?_map, List.getElem?_map, hp, hz] at e1
          exact Option.some.inj e1
        have hzm := prG_mem.mp (List.mem_of_getElem? hz)
        have w0 := sm _ _ (hA p (List.mem_of_getElem? hp))
        rw [show p.2.1 = V.ref z.1.1 from congrArg (·.1) hp2, show p.2.2 = V.ref z.2.1 from congrArg (·.2) hp2] at w0
        have w1 := (hRa.same sm) z.1 hzm.1
        have w2 := (hRb.same sm) z.2 hzm.2
        have hsn := filt_snocG (c := fun z : Arw × Arw => decide (z.1.2.1 = z.2.2.1)) (f := wprd) (xs := prG M.as N.as) (i := i) (x := (z.1.2, z.2.2)) (by rw [← hze, List.getElem?_map, hz]; rfl)
        refine ⟨p.1, _, rfl, SqT.of w0, rfl, _, _, rfl, _, _, rfl, rfl, ?_⟩
        refine ⟨rfl, ?_⟩
        refine ⟨_, rfl, z.1.1, _, 1, _, rfl, rfl, w1, rfl, _, rfl, z.2.1, _, 1, _, rfl, rfl, w2, rfl, rfl, _, rfl, ?_⟩
        by_cases c : z.1.2.2.1 = z.2.2.2.1
        · rw [decide_eq_true (show V.str z.1.2.2.1 = V.str z.2.2.2.1 by rw [c])]
          refine iteT ?_
          refine ⟨_, rfl, z.1.1, _, 0, _, rfl, rfl, w1, rfl, _, rfl, z.2.1, _, 0, _, rfl, rfl, w2, rfl, (by decide : 2 ≤ sizeLine), fun t1 nt1 => ?_⟩
          have st1 := same_upd (o := .tup [.int z.1.2.1, .int z.2.2.1]) nt1
          have ht1 : (upd H' t1 (.tup [.int z.1.2.1, .int z.2.2.1])) t1 = some (.tup [.int z.1.2.1, .int z.2.2.1]) := upd_same
          have nt1D : t1 ≠ D := fun e => by rw [e, hD] at nt1; cases nt1
          generalize upd H' t1 (.tup [.int z.1.2.1, .int z.2.2.1]) = H5 at st1 ht1
          have w15 := (hRa.same (sm.trans st1)) z.1 hzm.1
          have w25 := (hRb.same (sm.trans st1)) z.2 hzm.2
          refine ⟨_, rfl, z.1.1, _, 1, _, rfl, rfl, w15, rfl, _, rfl, z.1.1, _, 2, _, rfl, rfl, w15, rfl, ?_⟩
          refine ⟨_, rfl, z.1.1, _, 3, _, rfl, rfl, w15, rfl, _, rfl, z.2.1, _, 3, _, rfl, rfl, w25, rfl, (by decide : 2 ≤ sizeLine), fun t2 nt2 => ?_⟩
          have st2 := same_upd (o := .tup [.int z.1.2.2.2.2, .int z.2.2.2.2.2]) nt2
          have ht2 : (upd H5 t2 (.tup [.int z.1.2.2.2.2, .int z.2.2.2.2.2])) t2 = some (.tup [.int z.1.2.2.2.2, .int z.2.2.2.2.2]) := upd_same
          have nt2D : t2 ≠ D := fun e => by rw [e, st1 _ _ hD] at nt2; cases nt2
          generalize upd H5 t2 (.tup [.int z.1.2.2.2.2, .int z.2.2.2.2.2]) = H6 at st2 ht2
          refine ⟨(by decide : 4 ≤ sizeLine), fun t3 nt3 => ?_⟩
          have st3 := same_upd (o := .tup [V.ref t1, V.str z.1.2.2.1, V.str z.1.2.2.2.1, V.ref t2]) nt3
          have ht3 : (upd H6 t3 (.tup [V.ref t1, V.str z.1.2.2.1, V.str z.1.2.2.2.1, V.ref t2])) t3 = some (.tup [V.ref t1, V.str z.1.2.2.1, V.str z.1.2.2.2.1, V.ref t2]) := upd_same
          have nt3D : t3 ≠ D := fun e => by rw [e, (st1.trans st2) _ _ hD] at nt3; cases nt3
          generalize upd H6 t3 (.tup [V.ref t1, V.str z.1.2.2.1, V.str z.1.2.2.2.1, V.ref t2]) = H7 at st3 ht3
          have s17 : Same H' H7 := st1.trans (st2.trans st3)
          have hD7 := s17 _ _ hD
          have kD : ∀ {q : Addr} {ys : List V}, q ≠ D → H7 q = some (.tup ys) → (upd H7 D (.lst (wrs ws ++ [V.ref t3]))) q = some (.tup ys) := fun n e => by
            rw [upd_ne n]
            exact e
          have neD : ∀ {q : Addr} {ys : List V}, H7 q = some (.tup ys) → q ≠ D := fun e z => by
            rw [z, hD7] at e
            cases e
          refine ⟨_, hD7, ?_, fun b o e => ?_, ws ++ [⟨t3, t1, t2, wprd (z.1.2, z.2.2)⟩], ?_, ?_, ?_, ?_⟩
          · rw [wrs_len]
            have : (prV qs).length = qs.length := prV_len qs
            omega
          · rw [upd_ne (ne_of_none e nD)]
            exact s17 _ _ (sm b o e)
          · rw [upd_same, wrs_app]
            rfl
          · intro y hy
            have hy7 : H7 y.p = some (.tup (wrV y)) ∧ H7 y.a = some (.tup (rmV y.v.1)) ∧ H7 y.b = some (.tup (rmV y.v.2.2.2)) := by
              rcases List.mem_append.mp hy with h | h
              · exact (hW.same s17) y h
              · rw [List.mem_singleton.mp h]
                exact ⟨ht3, (st2.trans st3) _ _ ht1, st3 _ _ ht2⟩
            exact ⟨kD (neD hy7.1) hy7.1, kD (neD hy7.2.1) hy7.2.1, kD (neD hy7.2.2) hy7.2.2⟩
          · rw [List.length_append]
            exact Nat.succ_le_succ hwl
          · rw [List.map_append, hwe, hsn, if_pos (decide_eq_true c)]
            rfl
        · rw [decide_eq_false (fun e => c (V.str.inj e))]
          exact iteF ⟨sm, ws, hD, hW, by omega, by rw [hwe, hsn, if_neg (fun e => c (of_decide_eq_true e)), List.append_nil]⟩
      · rw [prV_len, hzl, show (prG ps ps').length = (prG M.as N.as).length by rw [prG_len, prG_len, hpl, hpl'], List.take_length] at hwe
        exact ⟨D, ws, rfl, fun _ _ h => h, s03.trans s4, hD, hW, hwe⟩
    rintro σ H1 ⟨L, ws, rfl, _, s1, hL1, hW, hwe⟩
    -- firsts
    refine ⟨fun σ' H' => ∃ (lf : Addr) (fs : List RmA), σ' = [some (.ref a), some (.ref b), some (.ref L), some (.ref lf), none, none, none] ∧ Same H1 H' ∧ H' lf = some (.lst (rms fs)) ∧ RmAt H' fs ∧ fs.map (·.2) = prodR M.fs N.fs, ?_, ?_⟩
    · refine ⟨_, rfl, a, dx, _, rfl, s1 _ _ h1, mfl_none (by decide +kernel), a, M, rfl, mA.same s1, fun l1 nl1 => ?_⟩
      have s2 := same_upd (o := .lst (M.fs.map V.int)) nl1
      have hl1 : (upd H1 l1 (.lst (M.fs.map V.int))) l1 = some (.lst (M.fs.map V.int)) := upd_same
      generalize upd H1 l1 (.lst (M.fs.map V.int)) = H2 at s2 hl1
      refine ⟨_, rfl, b, dy, _, rfl, (s1.trans s2) _ _ h2, mfl_none (by decide +kernel), b, N, rfl, mB.same (s1.trans s2), fun l2 nl2 => ?_⟩
      have s3 := same_upd (o := .lst (N.fs.map V.int)) nl2
      have hl2 : (upd H2 l2 (.lst (N.fs.map V.int))) l2 = some (.lst (N.fs.map V.int)) := upd_same
      generalize upd H2 l2 (.lst (N.fs.map V.int)) = H3 at s3 hl2
      refine ⟨l1, l2, M.fs.map V.int, N.fs.map V.int, rfl, .of (s3 _ _ hl1), .of hl2, by rw [List.length_map]; omega, by rw [List.length_map]; omega, fun r qs H4 s4 nr hr4 hA hq => ?_⟩
      obtain ⟨xs, e1, e2, e3⟩ := pr_rm qs (prG M.fs N.fs) (by rw [hq, prs_G]; exact prG_map V.int V.int _ _)
      exact ⟨r, xs, rfl, s2.trans (s3.trans s4), by rw [hr4, e1], e2 hA, e3⟩
    rintro σ H2 ⟨lf, fs, rfl, s2, hlf, hFs, hfe⟩
    have s02 := s1.trans s2
    -- lasts
    refine ⟨fun σ' H' => ∃ (lg : Addr) (gs : List RmA), σ' = [some (.ref a), some (.ref b), some (.ref L), some (.ref lf), some (.ref lg), none, none] ∧ Same H2 H' ∧ H' lg = some (.lst (rms gs)) ∧ RmAt H' gs ∧ gs.map (·.2) = prodR M.gs N.gs, ?_, ?_⟩
    · refine ⟨_, rfl, a, dx, _, rfl, s02 _ _ h1, mfl_none (by decide +kernel), a, M, rfl, mA.same s02, fun l1 nl1 => ?_⟩
      have s3 := same_upd (o := .lst (M.gs.map V.int)) nl1
      have hl1 : (upd H2 l1 (.lst (M.gs.map V.int))) l1 = some (.lst (M.gs.map V.int)) := upd_same
      generalize upd H2 l1 (.lst (M.gs.map V.int)) = H3 at s3 hl1
      refine ⟨_, rfl, b, dy, _, rfl, (s02.trans s3) _ _ h2, mfl_none (by decide +kernel), b, N, rfl, mB.same (s02.trans s3), fun l2 nl2 => ?_⟩
      have s4 := same_upd (o := .lst (N.gs.map V.int)) nl2
      have hl2 : (upd H3 l2 (.lst (N.gs.map V.int))) l2 = some (.lst (N.gs.map V.int)) := upd_same
      generalize upd H3 l2 (.lst (N.gs.map V.int)) = H4 at s4 hl2
      refine ⟨l1, l2, M.gs.map V.int, N.gs.map V.int, rfl, .of (s4 _ _ hl1), .of hl2, by rw [List.length_map]; omega, by rw [List.length_map]; omega, fun r qs H5 s5 nr hr5 hA hq => ?_⟩
      obtain ⟨xs, e1, e2, e3⟩ := pr_rm qs (prG M.gs N.gs) (by rw [hq, prs_G]; exact prG_map V.int V.int _ _)
      exact ⟨r, xs, rfl, s3.trans (s4.trans s5), by rw [hr5, e1], e2 hA, e3⟩
    rintro σ H3 ⟨lg, gs, rfl, s3, hlg, hGs, hge⟩
    have s03 := s02.trans s3
    have hfl : fs.length ≤ 64 := by
      have := congrArg List.length hfe
      rw [List.length_map, prodR_len] at this
      omega
    have hgl : gs.length ≤ 64 := by
      have := congrArg List.length hge
      rw [List.length_map, prodR_len] at this
      omega
    have hwl : ws.length ≤ 960 := by
      have := congrArg List.length hwe
      rw [List.length_map] at this
      have h := prodW_len M.as N.as
      omega
    have hW3 := hW.same (s2.trans s3)
    have hF3 := hFs.same s3
    -- the rooms
    refine ⟨_, rfl, _, rfl, lf, L, fs, ws, rfl, SqL.of (s3 _ _ hlf), hF3, SqL.of ((s2.trans s3) _ _ hL1), hW3, by omega, by omega, fun r fk H4 s4 nr hr4 hfk hnd hmem => ?_⟩
    rw [hfe, hwe] at hmem
    have hne : ∀ p ∈ fk, p.2 ≠ [] := fun p hp => rch_ne ((hmem p.2).mp (List.mem_map_of_mem hp))
    dsimp only [tNil]
    refine use_sortRm (.inl (SqL.of hr4)) hfk hne fun p ys H5 s5 np hp5 hys pm ey => ?_
    have s05 := s03.trans (s4.trans s5)
    have hys2 : ys.map (·.2) = sortRm rs := by
      rw [ey]
      exact sortRm_eq (perm_mem hnd hrn fun x => (hmem x).trans (hrr x).symm)
    have hyl : ys.length = rs.length := by
      have := congrArg List.length hys2
      rw [List.length_map, sortRm_len] at this
      exact this
    refine ⟨_, rfl, a, dx, _, rfl, s05 _ _ h1, mfl_none (by decide +kernel), a, M, rfl, mA.same s05, _, rfl, _, rfl, _, rfl, ?_⟩
    have s35 := s4.trans s5
    refine ⟨p, L, lf, lg, ys, M.ls, ws, fs, gs, rfl, SqL.of hp5, hys, ?_, by omega, SqL.of ((s2.trans (s3.trans s35)) _ _ hL1), hW3.same s35, by omega, SqL.of ((s3.trans s35) _ _ hlf), hF3.same s35, by omega, SqL.of (s35 _ _ hlg), hGs.same s35, by omega, hls, ?_, ?_, ?_, ?_, ?_, ?_⟩
    · rw [hys2]
      exact (sortRm_perm rs).nodup_iff.mpr hrn
    · intro y hy
      have h1 : y.v ∈ prodW M.as N.as := by
        rw [← hwe]
        exact List.mem_map_of_mem hy
      obtain ⟨z, hz, e⟩ := List.mem_map.mp h1
      rw [← e]
      exact hlet z.1 (prG_mem.mp (List.mem_filter.mp hz).1).1
    · refine Nat.lt_of_le_of_lt (onceL_len _) ?_
      unfold numWs
      rw [List.length_map]
      refine Nat.lt_of_le_of_lt (List.length_filter_le ..) ?_
      rw [List.length_map]
      omega
    · unfold numR
      rw [List.length_map]
      refine Nat.le_trans (List.length_filter_le ..) ?_
      rw [List.length_map]
      omega
    · unfold numR
      rw [List.length_map]
      refine Nat.le_trans (List.length_filter_le ..) ?_
      rw [List.length_map]
      omega
    · intro e m H' nm s' mm
      exact q0 (List.length_eq_zero_iff.mp (by rw [← hyl, e]; rfl)) m H' (s05.free nm) (s05.trans s') mm
    · intro e
      rw [hys2, hwe, hfe, hge]
      exact (q1 fun z => e (List.length_eq_zero_iff.mp (by rw [hyl, z]; rfl))).same s05
end
end Onp
set_option maxHeartbeats 8000000
set_option autoImplicit false
namespace Onp
open PySem PySem.Spec PyProof.Rows L2 HotX L2H LamX
abbrev sLPr : Stmt := topS 67
/-! ### the pairs that the law comes to -/
theorem intAt {ns : List Int} {i : Nat} {v : V} (h : (ns.map V.int)[i]? = some v) : ∃ p, ns[i]? = some p ∧ v = .int p := by
  rw [List.getElem?_map] at h
  cases e : ns[i]? with
  | none => rw [e] at h; cases h
  | some y => rw [e] at h; exact ⟨y, rfl, (Option.some.inj h).symm⟩
theorem rfsAt {ps : List AR} {i : Nat} {v : V} (h : (rfs ps)[i]? = some v) : ∃ p : AR, ps[i]? = some p ∧ v = .ref p.1 := by
  unfold rfs at h
  rw [List.getElem?_map] at h
  cases e : ps[i]? with
  | none => rw [e] at h; cases h
  | some y => rw [e] at h; exact ⟨y, rfl, (Option.some.inj h).symm⟩
theorem edge_iff {as bs : List Arw} {x y : Rm} : (x, y) ∈ edW (prodW as bs) ↔ ∃ a ∈ as, ∃ b ∈ bs, a.2.1 = b.2.1 ∧ x = [a.1, b.1] ∧ y = [a.2.2.2, b.2.2.2] := by
  unfold edW prodW
  rw [List.map_map, List.mem_map]
  constructor
  · rintro ⟨z, hz, e⟩
    obtain ⟨h1, h2⟩ := List.mem_filter.mp hz
    obtain ⟨h3, h4⟩ := prG_mem.mp h1
    exact ⟨z.1, h3, z.2, h4, of_decide_eq_true h2, (congrArg (·.1) e).symm, (congrArg (·.2) e).symm⟩
  · rintro ⟨a, ha, b, hb, e, rfl, rfl⟩
    exact ⟨(a, b), List.mem_filter.mpr ⟨prG_mem.mpr ⟨ha, hb⟩, decide_eq_true e⟩, rfl⟩
theorem rch_two {as bs : List Arw} {xs ys : List Int} {r : Rm} (h : Rch (prodR xs ys) (edW (prodW as bs)) r) : ∃ x y, r = [x, y] := by
  cases h with
  | start h =>
    obtain ⟨z, _, rfl⟩ := List.mem_map.mp h
    exact ⟨_, _, rfl⟩
  | step _ h =>
    obtain ⟨a, _, b, _, _, _, rfl⟩ := edge_iff.mp h
    exact ⟨_, _, rfl⟩
theorem prodR_snoc (xs : List Int) (x : Int) (ys : List Int) : prodR (xs ++ [x]) ys = prodR xs ys ++ ys.map fun y => [x, y] := by
  unfold prodR prG
  rw [List.flatMap_append, List.flatMap_cons, List.flatMap_nil, List.append_nil, List.map_append, List.map_map]
  rfl
theorem prodR_nd {xs ys : List Int} (hx : xs.Nodup) (hy : ys.Nodup) : (prodR xs ys).Nodup := by
  induction xs with
  | nil => exact .nil
  | cons x xs ih =>
    obtain ⟨h1, h2⟩ := List.nodup_cons.mp hx
    have e : prodR (x :: xs) ys = (ys.map fun y => [x, y]) ++ prodR xs ys := by
      unfold prodR prG
      rw [List.flatMap_cons, List.map_append, List.map_map]
      rfl
    rw [e, List.nodup_append]
    refine ⟨nodup_map_inj (fun a b e => by simpa using e) hy, ih h2, fun a ha b hb e => ?_⟩
    obtain ⟨y, _, rfl⟩ := List.mem_map.mp ha
    obtain ⟨z, hz, rfl⟩ := List.mem_map.mp hb
    have := (List.cons.inj e).1
    exact h1 (this ▸ (prG_mem.mp hz).1)
def k3 (a b : Int) (x : Str) : PyData := .tuple [.int a, .int b, .str x]
theorem eqv_k3 (a b c d : Int) (x y : Str) : PyData.eqv (k3 a b x) (k3 c d y) = decide (a = c ∧ b = d ∧ x = y) := by
  unfold k3
  simp only [PyData.eqv, PyData.eqvAll, Bool.and_true]
  rw [Bool.eq_iff_iff]
  simp
theorem sh_k3 (a b : Int) {x : Str} (h : PyData.strOk x = true) : SeqAt.shaped (k3 a b x) = true := by
  unfold SeqAt.shaped k3
  simp [PyData.canLay0, PyData.canLayAll0, PyData.depth, PyData.depthAll, h]
section
variable {P : Program} {w : World} {K : PySem.W.Frag} {mg : Str → Option Value} {base : Heap}
def NLp : List Str := ["_law_m", "_law_sieve", "_law_found", "_law_room", "_law_start", "_law_at", "_law_here", "_law_letter", "_law_deed_here", "_law_to", "_law_begin", "_law_sign", "_law_idle", "_law_end"]
theorem scLPr : FnScope NLp ["_law_m", "_law_sieve"] (defScope sLPr) := ⟨rfl, rfl, rfl, by decide +kernel, rfl, by decide +kernel, by decide +kernel⟩
def spLPr (K : PySem.W.Frag) : Sp := fun vs H Q _ => ∃ (t u : Addr) (M N : AM), vs = [.ref t, .ref u] ∧ DrawnAt K H t M ∧ DrawnAt K H u N ∧ M.ok ∧ N.ok ∧ M.fs.length ≤ 8 ∧ N.fs.length ≤ 8 ∧ ∀ (r : Addr) (ys : List RmA) (rs : List Rm) H', Same H H' → H' r = some (.lst (rms ys)) → RmAt H' ys → ys.map (·.2) = sortRm rs → rs.Nodup → rs.length ≤ 2000 → (∀ x, x ∈ rs ↔ Rch (prodR M.fs N.fs) (edW (prodW M.as N.as)) x) → Q (.ref r) H'
theorem ok_lpr {f : Addr} {fd : FuncData} {k : Nat} (F : Fun K "_law_pairs_of" "_law_pairs_of" sLPr f fd) (mlen : mg "len" = none) (ms : mg "sorted" = none) : FnOk P w K mg base CX0 (k + 1) f fd ["_law_m", "_law_sieve"] (spLPr K) := by
  refine F.ok scLPr (fun vs H Q E h => ?_) (fun cdv A outer s H vs Q E hr h => ?_)
  · obtain ⟨t, u, M, N, rfl, _⟩ := h
    rfl
  · obtain ⟨t, u, M, N, rfl, dM, dN, okM, okN, hf1, hf2, q⟩ := h
    have hu : (cxOf CX0 P w K mg base NLp "_law_pairs_of" (defScope sLPr) f cdv A outer s H E).A.units + 64 < cLine := hr.units
    refine ⟨_, (pss_cons (ps_set (i := 2) scLPr.nd rfl (.inl rfl) (pe_lst pa_nil))
      (pss_cons (ps_for PassesOwn.never rfl (pi_list (pe_ix ix_tup (pv 0) pe_int (fun _ _ => rfl))) (pg_name (i := 3) scLPr.nd rfl (.inr rfl))
        (pss_one (ps_set (i := 2) scLPr.nd rfl (.inl rfl) (pe_op op_cat (pv 2) (pe_lc (own := [("_law_start", 4)]) (g := (gName 4)) (tt := tYes) (te := (tTup (tCons (tVar 3) (tCons (tVar 4) tNil)))) rfl scLPr.nd
          (pi_list (pe_ix ix_tup (pv 1) pe_int (fun _ _ => rfl))) (blkOk_by (own := [("_law_start", 4)]) (N := NLp) (sc := defScope sLPr) (by decide +kernel)) (fun _ _ _ _ _ => (pg_name (i := 4) scLPr.nd rfl (.inl rfl)))
          (fun _ _ _ _ _ => pts_nil) (fun _ _ _ _ _ => (pe_tup (pa_cons (pv 3) (pa_cons (pv 4) pa_nil)))))))))
      (pss_cons (ps_set (i := 5) scLPr.nd rfl (.inl rfl) pe_int)
      (pss_cons (ps_while PassesOwn.never (pt_cmpR op_lt (pv 5) (pe_callB call_len_seq (by rfl) mlen PySem.boot_len (pa_cons (pv 2) pa_nil)) (nomark _)) (pss_cons (ps_asg (pe_ix ix_list (pv 2) (pv 5) (fun _ _ => rfl)) (pg_tup rfl (pgs_cons (pg_name (i := 3) scLPr.nd rfl (.inr rfl)) (pgs_cons (pg_name (i := 4) scLPr.nd rfl (.inl rfl)) pgs_nil))))
      (pss_cons (ps_set (i := 5) scLPr.nd rfl (.inl rfl) (pe_op op_add (pv 5) pe_int))
      (pss_one (ps_for PassesOwn.never rfl (pi_list (pe_ix ix_tup (pv 0) pe_int (fun _ _ => rfl))) (pg_tup rfl (pgs_cons (pg_name (i := 6) scLPr.nd rfl (.inl rfl)) (pgs_cons (pg_name (i := 7) scLPr.nd rfl (.inl rfl)) (pgs_cons (pg_name (i := 8) scLPr.nd rfl (.inl rfl)) (pgs_cons (pg_name (i := 9) scLPr.nd rfl (.inl rfl)) pgs_nil)))))
        (pss_one (ps_for PassesOwn.never rfl (pi_list (pe_ix ix_tup (pv 1) pe_int (fun _ _ => rfl))) (pg_tup rfl (pgs_cons (pg_name (i := 10) scLPr.nd rfl (.inl rfl)) (pgs_cons (pg_name (i := 11) scLPr.nd rfl (.inl rfl)) (pgs_cons (pg_name (i := 12) scLPr.nd rfl (.inl rfl)) (pgs_cons (pg_name (i := 13) scLPr.nd rfl (.inl rfl)) pgs_nil)))))
        (pss_one (ps_if (PW.pt (pw_and (pt_cmpR (op_eqD hr.units) (pe_tup (pa_cons (pv 6) (pa_cons (pv 10) (pa_cons (pv 11) pa_nil)))) (pe_tup (pa_cons (pv 3) (pa_cons (pv 4) (pa_cons (pv 7) pa_nil)))) (nomark _)) (pw_and1 (pt_cmpR (op_notInD (room65 hr)) (pe_tup (pa_cons (pv 9) (pa_cons (pv 13) pa_nil))) (pv 2) (by rfl))))) (pss_one (ps_expr (pe_bm PySem.F.plainAttrs_list PySem.F.slot_list_append PySem.F.type_list_append mt_append (pv 2) (pa_cons (pe_tup (pa_cons (pv 9) (pa_cons (pv 13) pa_nil))) pa_nil)))) pss_nil)))))))))
      (pss_one (ps_ret (pe_callB (cr_sortD hr.units) (by rfl) ms (by decide +kernel) (pa_cons (pv 2) pa_nil)))))))), ?_⟩
    have hbig : 50000 ≤ sizeLine := by decide
    obtain ⟨la, lf, lg, ps, d1, d2, d3, d4, d5, d6⟩ := dM
    obtain ⟨la', lf', lg', ps', e1, e2, e3, e4, e5, e6⟩ := dN
    have hpl : ps.length ≤ 40 := by
      have := congrArg List.length d4
      rw [List.length_map] at this
      have := okM.2.2.2.2.2.1
      omega
    have hpl' : ps'.length ≤ 40 := by
      have := congrArg List.length e4
      rw [List.length_map] at this
      have := okN.2.2.2.2.2.1
      omega
    refine ⟨(by decide : 0 ≤ sizeLine), fun l0 nl0 => ?_⟩
    have s0 := same_upd (o := .lst []) nl0
    have hl0 : (upd H l0 (.lst [])) l0 = some (.lst (rms [])) := upd_same
    generalize upd H l0 (.lst []) = H0 at s0 hl0
    -- the pairs that begin
    refine ⟨_, rfl, t, _, 3, _, rfl, rfl, SqT.of (s0 _ _ d1), rfl, lf, rfl, ⟨_, SqL.of (s0 _ _ d5)⟩, for_list (K := K) (a := lf) (xs := M.fs.map V.int)
      (fun i σ H' => ∃ (l : Addr) (xs : List RmA) (y3 : Option V), σ = [some (.ref t), some (.ref u), some (.ref l), y3, none, none, none, none, none, none, none, none, none, none] ∧ Same H H' ∧ H l = none ∧ H' l = some (.lst (rms xs)) ∧ RmAt H' xs ∧ xs.map (·.2) = prodR (M.fs.take i) N.fs)
      ⟨l0, [], _, rfl, s0, nl0, hl0, (fun _ h => nomatch h), rfl⟩ (fun i σ H' _ ⟨_, _, _, _, sm, _⟩ => SqL.of (sm _ _ d5)) (fun i x σ H' hx hI => ?_) (fun σ H1 hI => ?_)⟩
    · obtain ⟨l, xs, y3, rfl, sm, nl, hl, hX, hxe⟩ := hI
      obtain ⟨r, hr', rfl⟩ := intAt hx
      have hxl : xs.length ≤ 64 := by
        have := congrArg List.length hxe
        rw [List.length_map, prodR_len, List.length_take] at this
        have h : min i M.fs.length * N.fs.length ≤ 8 * 8 := Nat.mul_le_mul (by omega) hf2
        omega
      refine ⟨_, rfl, ?_⟩
      refine ⟨_, rfl, u, _, 3, _, rfl, rfl, SqT.of (sm _ _ e1), rfl, lf', rfl, ⟨_, SqL.of (sm _ _ e5)⟩, fun D nD => ?_⟩
      refine lc_list (K := K) (a := lf') (xs := N.fs.map V.int) (fun j H'' => Same H' H'' ∧ ∃ zs : List RmA, H'' D = some (.lst (rms zs)) ∧ RmAt H'' zs ∧ zs.length ≤ j ∧ zs.map (·.2) = (N.fs.take j).map fun y => [r, y]) ⟨same_upd nD, [], upd_same, (fun _ h => nomatch h), Nat.le_refl _, rfl⟩ (fun j H'' _ ⟨sm', _⟩ => SqL.of ((sm.trans sm') _ _ e5)) (fun j x H'' hx ⟨sm', zs, hD, hZ, hzl, hze⟩ => ?_) (fun H2 ⟨s2, zs, hD, hZ, hzl, hze⟩ => ?_)
      · obtain ⟨y, hy, rfl⟩ := intAt hx
        have hjl := (List.getElem?_eq_some_iff.mp hy).1
        refine ⟨rfl, ?_⟩
        refine yes2 ?_
        refine ⟨_, rfl, _, rfl, (by decide : 2 ≤ sizeLine), fun tt nt => ?_⟩
        have st := same_upd (o := .tup [.int r, .int y]) nt
        have ht : (upd H'' tt (.tup [.int r, .int y])) tt = some (.tup [.int r, .int y]) := upd_same
        generalize upd H'' tt (.tup [.int r, .int y]) = H3 at st ht
        have hD3 := st _ _ hD
        refine ⟨_, hD3, ?_, fun b o e => ?_, zs ++ [(tt, [r, y])], ?_, ?_, ?_, ?_⟩
        · rw [rms_len]
          omega
        · rw [upd_ne (ne_of_none e nD)]
          exact st _ _ (sm' b o e)
        · rw [upd_same, rms_app]
          rfl
        · have h1 := (hZ.same st).put (zs := rms zs ++ [V.ref tt]) hD3
          intro z hz
          rcases List.mem_append.mp hz with h | h
          · exact h1 z h
          · rw [List.mem_singleton.mp h]
            rw [upd_ne (ne_of ht hD3 (fun z => nomatch z))]
            exact ht
        · rw [List.length_append]
          exact Nat.succ_le_succ hzl
        · rw [List.map_append, hze, take_next hy, List.map_append]
          rfl
      · rw [List.length_map, List.take_length] at hze
        rw [List.length_map] at hzl
        have hl2 := s2 _ _ hl
        refine ⟨l, D, rms xs, rms zs, rfl, rfl, hl2, hD, by rw [rms_len, rms_len]; omega, fun p np => ?_⟩
        have s3 := same_upd (o := .lst (rms xs ++ rms zs)) np
        refine ⟨p, xs ++ zs, _, rfl, (sm.trans s2).trans s3, (sm.trans s2).free np, by rw [upd_same, rms_app], ?_, ?_⟩
        · intro z hz
          rcases List.mem_append.mp hz with h | h
          · exact (hX.same (s2.trans s3)) z h
          · exact (hZ.same s3) z h
        · rw [List.map_append, hxe, hze, take_next hr', prodR_snoc]
    obtain ⟨l, xs, y3, rfl, s1, nl, hl, hX, hxe⟩ := hI
    rw [List.length_map, List.take_length] at hxe
    have hSl : (prodR M.fs N.fs).length ≤ 64 := by
      rw [prodR_len]
      exact (Nat.mul_le_mul hf1 hf2 : _ ≤ 8 * 8)
    have hEl : (edW (prodW M.as N.as)).length ≤ 1600 := by
      unfold edW
      rw [List.length_map]
      have h := prodW_len M.as N.as
      have h2 : M.as.length * N.as.length ≤ 40 * 40 := Nat.mul_le_mul okM.2.2.2.2.2.1 okN.2.2.2.2.2.1
      omega
    have hle : ∀ F : List Rm, F.Nodup → (∀ x ∈ F, Rch (prodR M.fs N.fs) (edW (prodW M.as N.as)) x) → F.length ≤ 1664 := fun F h1 h2 => by
      have h3 := nd_le F _ h1 fun x hx => (h2 x hx).all
      rw [List.length_append, List.length_map] at h3
      omega
    have hSn := prodR_nd okM.2.2.2.2.2.2.2.1 okN.2.2.2.2.2.2.2.1
    -- more of them
    refine ⟨fun m σ' H' => ∃ (xs : List RmA) (k : Nat) (y3 y4 y6 y7 y8 y9 y10 y11 y12 y13 : Option V), σ' = [some (.ref t), some (.ref u), some (.ref l), y3, y4, some (.int (k : Nat)), y6, y7, y8, y9, y10, y11, y12, y13] ∧ Same H H' ∧ H' l = some (.lst (rms xs)) ∧ RmAt H' xs ∧ (xs.map (·.2)).Nodup ∧ (∀ x ∈ prodR M.fs N.fs, x ∈ xs.map (·.2)) ∧ (∀ x ∈ xs.map (·.2), Rch (prodR M.fs N.fs) (edW (prodW M.as N.as)) x) ∧ (∀ x y, (x, y) ∈ edW (prodW M.as N.as) → x ∈ (xs.map (·.2)).take k → y ∈ xs.map (·.2)) ∧ k ≤ xs.length ∧ m = 2000 - k,
      ⟨_, xs, 0, _, _, _, _, _, _, _, _, _, _, rfl, s1, hl, hX, by rw [hxe]; exact hSn, fun x hx => by rw [hxe]; exact hx, fun x hx => .start (by rw [← hxe]; exact hx), (fun _ _ _ h => nomatch h), Nat.zero_le _, rfl⟩, ?_⟩
    clear s1 hl hX hxe xs y3
    rintro m σ H1 ⟨xs, k, y3, y4, y6, y7, y8, y9, y10, y11, y12, y13, rfl, s1, hl, hX, hnd, hS, hRc, hcl, hk, rfl⟩
    have hxl := hle _ hnd hRc
    rw [List.length_map] at hxl
    refine ⟨_, rfl, _, rfl, l, rms xs, rfl, .inl (SqL.of hl), _, _, rfl, rfl, _, rfl, ?_⟩
    rw [rms_len]
    by_cases hkl : ((k : Nat) : Int) < ((xs.length : Nat) : Int)
    rotate_left
    · rw [decide_eq_false hkl]
      refine iteF ?_
      have ek : k = xs.length := by omega
      subst ek
      refine ⟨_, rfl, ?_⟩
      dsimp only [tNil]
      refine use_sortRm (.inl (SqL.of hl)) hX (fun p hp => rch_ne (hRc p.2 (List.mem_map_of_mem hp))) fun p ys H5 s5 np hp5 hys pm ey => ?_
      refine q p ys (xs.map (·.2)) H5 (s1.trans s5) hp5 hys ey hnd (by rw [List.length_map]; omega) fun x => ⟨hRc x, fun h => h.into hS fun a b e ha => hcl a b e ?_⟩
      rw [show xs.length = (xs.map (·.2)).length by rw [List.length_map], List.take_length]
      exact ha
    rw [decide_eq_true hkl]
    have hkn : k < xs.length := by omega
    refine iteT ⟨fun σ' H' => ∃ m', m' < 2000 - k ∧ ∃ (xs : List RmA) (k : Nat) (y3 y4 y6 y7 y8 y9 y10 y11 y12 y13 : Option V), σ' = [some (.ref t), some (.ref u), some (.ref l), y3, y4, some (.int (k : Nat)), y6, y7, y8, y9, y10, y11, y12, y13] ∧ Same H H' ∧ H' l = some (.lst (rms xs)) ∧ RmAt H' xs ∧ (xs.map (·.2)).Nodup ∧ (∀ x ∈ prodR M.fs N.fs, x ∈ xs.map (·.2)) ∧ (∀ x ∈ xs.map (·.2), Rch (prodR M.fs N.fs) (edW (prodW M.as N.as)) x) ∧ (∀ x y, (x, y) ∈ edW (prodW M.as N.as) → x ∈ (xs.map (·.2)).take k → y ∈ xs.map (·.2)) ∧ k ≤ xs.length ∧ m' = 2000 - k, fun _ _ h => h, ?_⟩
    obtain ⟨p, hp⟩ : ∃ p, xs[k]? = some p := ⟨_, List.getElem?_eq_getElem hkn⟩
    have hpm := List.mem_of_getElem? hp
    obtain ⟨r, c, epr⟩ := rch_two (hRc p.2 (List.mem_map_of_mem hpm))
    have hp1 := hX p hpm
    rw [epr] at hp1
    obtain ⟨F, eF⟩ : ∃ F, F = xs.map (·.2) := ⟨_, rfl⟩
    have hFk : F[k]? = some [r, c] := by rw [eF, List.getElem?_map, hp, ← epr]; rfl
    have htk : F.take (k + 1) = F.take k ++ [[r, c]] := take_next hFk
    have hFl : F.length = xs.length := by rw [eF, List.length_map]
    have hcur : Rch (prodR M.fs N.fs) (edW (prodW M.as N.as)) [r, c] := hRc _ (by rw [← eF]; exact List.mem_of_getElem? hFk)
    refine ⟨_, rfl, _, rfl, l, rms xs, (k : Nat), .ref p.1, rfl, rfl, SqL.of hl, atI_nat (by unfold rms; rw [List.getElem?_map, hp]; rfl), p.1, _, rfl, SqT.of hp1, rfl, _, _, rfl, _, _, rfl, rfl, _, rfl, _, _, rfl, rfl, ?_⟩
    refine ⟨_, rfl, t, _, 2, _, rfl, rfl, SqT.of (s1 _ _ d1), rfl, la, rfl, ⟨_, SqL.of (s1 _ _ d2)⟩, for_list (K := K) (a := la) (xs := rfs ps)
      (fun i σ H' => ∃ (xs' : List RmA) (more : List Rm) (y6 y7 y8 y9 y10 y11 y12 y13 : Option V), σ = [some (.ref t), some (.ref u), some (.ref l), some (.int r), some (.int c), some (.int ((k : Nat) + 1)), y6, y7, y8, y9, y10, y11, y12, y13] ∧ Same H H' ∧ H' l = some (.lst (rms xs')) ∧ RmAt H' xs' ∧ xs'.map (·.2) = F ++ more ∧ (F ++ more).Nodup ∧ (∀ x ∈ more, Rch (prodR M.fs N.fs) (edW (prodW M.as N.as)) x) ∧ (∀ a ∈ (ps.map (·.2)).take i, ∀ b ∈ ps'.map (·.2), a.1 = r → b.1 = c → b.2.1 = a.2.1 → [a.2.2.2, b.2.2.2] ∈ F ++ more))
      ⟨xs, [], _, _, _, _, _, _, _, _, rfl, s1, hl, hX, by rw [List.append_nil, eF], by rw [List.append_nil, eF]; exact hnd, (fun _ h => nomatch h), (fun _ h => nomatch h)⟩ (fun i σ H' _ ⟨_, _, _, _, _, _, _, _, _, _, _, sm, _⟩ => SqL.of (sm _ _ d2)) (fun i x σ H' hx hI => ?_) (fun σ H' hI => ?_)⟩
    · obtain ⟨xs1, more1, z6, z7, z8, z9, z10, z11, z12, z13, rfl, sm, hl1, hX1, he1, hn1, hr1, hc1⟩ := hI
      obtain ⟨a, ha, rfl⟩ := rfsAt hx
      have ham := List.mem_of_getElem? ha
      have haT := sameT sm (d3 a ham)
      have haok := arrB_okS okM.2.2.1 (okM.2.2.2.1 a.2 (by rw [← d4]; exact List.mem_map_of_mem ham))
      have hatk : (ps.map (·.2)).take (i + 1) = (ps.map (·.2)).take i ++ [a.2] := take_next (by rw [List.getElem?_map, ha]; rfl)
      refine ⟨a.1, _, rfl, haT, rfl, _, _, rfl, _, _, rfl, _, _, rfl, _, _, rfl, rfl, ?_⟩
      refine ⟨_, rfl, u, _, 2, _, rfl, rfl, SqT.of (sm _ _ e1), rfl, la', rfl, ⟨_, SqL.of (sm _ _ e2)⟩, for_list (K := K) (a := la') (xs := rfs ps')
        (fun j σ H' => ∃ (xs' : List RmA) (more : List Rm) (y10 y11 y12 y13 : Option V), σ = [some (.ref t), some (.ref u), some (.ref l), some (.int r), some (.int c), some (.int ((k : Nat) + 1)), some (.int a.2.1), some (.str a.2.2.1), some (.str a.2.2.2.1), some (.int a.2.2.2.2), y10, y11, y12, y13] ∧ Same H H' ∧ H' l = some (.lst (rms xs')) ∧ RmAt H' xs' ∧ xs'.map (·.2) = F ++ more ∧ (F ++ more).Nodup ∧ (∀ x ∈ more, Rch (prodR M.fs N.fs) (edW (prodW M.as N.as)) x) ∧ (∀ x ∈ more1, x ∈ more) ∧ (∀ b ∈ (ps'.map (·.2)).take j, a.2.1 = r → b.1 = c → b.2.1 = a.2.2.1 → [a.2.2.2.2, b.2.2.2] ∈ F ++ more))
        ⟨xs1, more1, _, _, _, _, rfl, sm, hl1, hX1, he1, hn1, hr1, (fun _ h => h), (fun _ h => nomatch h)⟩ (fun j σ H' _ ⟨_, _, _, _, _, _, _, sm, _⟩ => SqL.of (sm _ _ e2)) (fun j x σ H' hx hI => ?_) (fun σ H' hI => ?_)⟩
      · obtain ⟨xs2, more2, w10, w11, w12, w13, rfl, sn, hl2, hX2, he2, hn2, hr2, hm2, hc2⟩ := hI
        obtain ⟨b, hb, rfl⟩ := rfsAt hx
        have hbm := List.mem_of_getElem? hb
        have hbT := sameT sn (e3 b hbm)
        have hbok := arrB_okS okN.2.2.1 (okN.2.2.2.1 b.2 (by rw [← e4]; exact List.mem_map_of_mem hbm))
        have hbtk : (ps'.map (·.2)).take (j + 1) = (ps'.map (·.2)).take j ++ [b.2] := take_next (by rw [List.getElem?_map, hb]; rfl)
        have hx2l : xs2.length ≤ 1664 := by
          have h1 := congrArg List.length he2
          rw [List.length_map] at h1
          have h2 := hle (F ++ more2) hn2 fun x hx => by
            rcases List.mem_append.mp hx with h | h
            · exact hRc x (by rw [← eF]; exact h)
            · exact hr2 x h
          omega
        refine ⟨b.1, _, rfl, hbT, rfl, _, _, rfl, _, _, rfl, _, _, rfl, _, _, rfl, rfl, ?_⟩
        refine ⟨_, rfl, _, rfl, _, rfl, (by decide : 3 ≤ sizeLine), fun t1 n1 => ?_⟩
        have st1 := same_upd (o := .tup [.int a.2.1, .int b.2.1, .str b.2.2.1]) n1
        have ht1 : (upd H' t1 (.tup [.int a.2.1, .int b.2.1, .str b.2.2.1])) t1 = some (.tup [.int a.2.1, .int b.2.1, .str b.2.2.1]) := upd_same
        generalize upd H' t1 (.tup [.int a.2.1, .int b.2.1, .str b.2.2.1]) = H2 at st1 ht1
        refine ⟨_, rfl, _, rfl, _, rfl, (by decide : 3 ≤ sizeLine), fun t2 n2 => ?_⟩
        have st2 := same_upd (o := .tup [.int r, .int c, .str a.2.2.1]) n2
        have ht2 : (upd H2 t2 (.tup [.int r, .int c, .str a.2.2.1])) t2 = some (.tup [.int r, .int c, .str a.2.2.1]) := upd_same
        generalize upd H2 t2 (.tup [.int r, .int c, .str a.2.2.1]) = H3 at st2 ht2
        refine ⟨k3 a.2.1 b.2.1 b.2.2.1, k3 r c a.2.2.1, .tup (SqT.of (st2 _ _ ht1)) (.cons (.int _) (.cons (.int _) (.cons (.str _) .nil))), .tup (SqT.of ht2) (.cons (.int _) (.cons (.int _) (.cons (.str _) .nil))), sh_k3 _ _ hbok.1, sh_k3 _ _ haok.1, _, rfl, ?_⟩
        rw [eqv_k3]
        have s12 := st1.trans st2
        have nodo : ∀ H'' , Same H' H'' → (a.2.1 = r → b.2.1 = c → b.2.2.1 = a.2.2.1 → [a.2.2.2.2, b.2.2.2.2] ∈ F ++ more2) → ∃ (xs' : List RmA) (more : List Rm) (y10 y11 y12 y13 : Option V), [some (.ref t), some (.ref u), some (.ref l), some (.int r), some (.int c), some (.int ((k : Nat) + 1)), some (.int a.2.1), some (.str a.2.2.1), some (.str a.2.2.2.1), some (.int a.2.2.2.2), some (.int b.2.1), some (.str b.2.2.1), some (.str b.2.2.2.1), some (.int b.2.2.2.2)] = [some (.ref t), some (.ref u), some (.ref l), some (.int r), some (.int c), some (.int ((k : Nat) + 1)), some (.int a.2.1), some (.str a.2.2.1), some (.str a.2.2.2.1), some (.int a.2.2.2.2), y10, y11, y12, y13] ∧ Same H H'' ∧ H'' l = some (.lst (rms xs')) ∧ RmAt H'' xs' ∧ xs'.map (·.2) = F ++ more ∧ (F ++ more).Nodup ∧ (∀ x ∈ more, Rch (prodR M.fs N.fs) (edW (prodW M.as N.as)) x) ∧ (∀ x ∈ more1, x ∈ more) ∧ (∀ b ∈ (ps'.map (·.2)).take (j + 1), a.2.1 = r → b.1 = c → b.2.1 = a.2.2.1 → [a.2.2.2.2, b.2.2.2] ∈ F ++ more) := fun H'' ss hh =>
          ⟨xs2, more2, _, _, _, _, rfl, sn.trans ss, ss _ _ hl2, hX2.same ss, he2, hn2, hr2, hm2, fun b' hb' g1 g2 g3 => by
            rw [hbtk] at hb'
            rcases List.mem_append.mp hb' with h | h
            · exact hc2 b' h g1 g2 g3
            · rw [List.mem_singleton.mp h] at g2 g3 ⊢
              exact hh g1 g2 g3⟩
        by_cases hit : a.2.1 = r ∧ b.2.1 = c ∧ b.2.2.1 = a.2.2.1
        · rw [decide_eq_true hit]
          refine iteT ?_
          refine ⟨_, rfl, _, rfl, (by decide : 2 ≤ sizeLine), fun t3 n3 => ?_⟩
          have st3 := same_upd (o := .tup (rmV [a.2.2.2.2, b.2.2.2.2])) n3
          have ht3 : (upd H3 t3 (.tup (rmV [a.2.2.2.2, b.2.2.2.2]))) t3 = some (.tup (rmV [a.2.2.2.2, b.2.2.2.2])) := upd_same
          have s13 := s12.trans st3
          refine ⟨_, rfl, rdat [a.2.2.2.2, b.2.2.2.2], (xs2.map (·.2)).map rdat, dp_rm ht3, .lst (SqL.of (s13 _ _ hl2)) (dp_rms (hX2.same s13)), sh_rdat _, sh_rdats _, _, rfl, ?_⟩
          rw [any_rdat, he2]
          by_cases hin : [a.2.2.2.2, b.2.2.2.2] ∈ F ++ more2
          · rw [decide_eq_true hin]
            exact iteF (nodo _ s13 fun _ _ _ => hin)
          · rw [decide_eq_false hin]
            refine iteT ⟨_, rfl, .inl ⟨rfl, _, SqL.of (s13 _ _ hl2)⟩, _, rfl, _, rfl, (by decide : 2 ≤ sizeLine), fun t4 n4 => ?_⟩
            have st4 := same_upd (o := .tup (rmV [a.2.2.2.2, b.2.2.2.2])) n4
            have ht4 : (upd (upd H3 t3 (.tup (rmV [a.2.2.2.2, b.2.2.2.2]))) t4 (.tup (rmV [a.2.2.2.2, b.2.2.2.2]))) t4 = some (.tup (rmV [a.2.2.2.2, b.2.2.2.2])) := upd_same
            have s14 := s13.trans st4
            have hl4 := s14 _ _ hl2
            have hX4 := hX2.same s14
            refine ⟨l, rms xs2, .ref t4, rfl, rfl, hl4, by rw [rms_len]; omega, xs2 ++ [(t4, [a.2.2.2.2, b.2.2.2.2])], more2 ++ [[a.2.2.2.2, b.2.2.2.2]], _, _, _, _, rfl, fun o v e => ?_, by rw [upd_same, rms_app]; rfl, ?_, ?_, ?_, ?_, fun x hx => List.mem_append_left _ (hm2 x hx), ?_⟩
            · rw [upd_ne (ne_of_none e nl)]
              exact s14 _ _ (sn o v e)
            · intro z hz
              rcases List.mem_append.mp hz with h | h
              · exact (hX4.put hl4) z h
              · rw [List.mem_singleton.mp h]
                rw [upd_ne (ne_of ht4 hl4 (fun z => nomatch z))]
                exact ht4
            · rw [List.map_append, he2, List.append_assoc]
              rfl
            · rw [← List.append_assoc, List.nodup_append]
              exact ⟨hn2, by simp, fun x hx y hy e => hin (by rw [← List.mem_singleton.mp hy, ← e]; exact hx)⟩
            · intro x hx
              rcases List.mem_append.mp hx with h | h
              · exact hr2 x h
              · rw [List.mem_singleton.mp h]
                refine hcur.step (edge_iff.mpr ⟨a.2, by rw [← d4]; exact List.mem_map_of_mem ham, b.2, by rw [← e4]; exact List.mem_map_of_mem hbm, hit.2.2.symm, by rw [hit.1, hit.2.1], rfl⟩)
            · intro b' hb' g1 g2 g3
              rw [hbtk] at hb'
              rw [← List.append_assoc]
              rcases List.mem_append.mp hb' with h | h
              · exact List.mem_append_left _ (hc2 b' h g1 g2 g3)
              · rw [List.mem_singleton.mp h]
                exact List.mem_append_right _ List.mem_cons_self
        · rw [decide_eq_false hit]
          exact iteF (iteF (nodo _ s12 fun g1 g2 g3 => absurd ⟨g1, g2, g3⟩ hit))
      · obtain ⟨xs2, more2, w10, w11, w12, w13, rfl, sn, hl2, hX2, he2, hn2, hr2, hm2, hc2⟩ := hI
        rw [show (rfs ps').length = (ps'.map (·.2)).length by rw [List.length_map]; exact List.length_map .., List.take_length] at hc2
        refine ⟨xs2, more2, _, _, _, _, _, _, _, _, rfl, sn, hl2, hX2, he2, hn2, hr2, fun a' ha' b hb g1 g2 g3 => ?_⟩
        rw [hatk] at ha'
        rcases List.mem_append.mp ha' with h | h
        · rcases List.mem_append.mp (hc1 a' h b hb g1 g2 g3) with h1 | h1
          · exact List.mem_append_left _ h1
          · exact List.mem_append_right _ (hm2 _ h1)
        · rw [List.mem_singleton.mp h] at g1 g3 ⊢
          exact hc2 b hb g1 g2 g3
    · obtain ⟨xs1, more1, z6, z7, z8, z9, z10, z11, z12, z13, rfl, sm, hl1, hX1, he1, hn1, hr1, hc1⟩ := hI
      rw [show (rfs ps).length = (ps.map (·.2)).length by rw [List.length_map]; exact List.length_map .., List.take_length, d4, e4] at hc1
      have hx1 : xs1.length = F.length + more1.length := by
        have := congrArg List.length he1
        rw [List.length_map, List.length_append] at this
        exact this
      refine ⟨2000 - (k + 1), by omega, xs1, k + 1, _, _, _, _, _, _, _, _, _, _, rfl, sm, hl1, hX1, by rw [he1]; exact hn1, fun x hx => ?_, fun x hx => ?_, fun x y e hx => ?_, by omega, rfl⟩
      · rw [he1]
        exact List.mem_append_left _ (by rw [eF]; exact hS x hx)
      · rw [he1] at hx
        rcases List.mem_append.mp hx with h | h
        · exact hRc x (by rw [← eF]; exact h)
        · exact hr1 x h
      · rw [he1, List.take_append_of_le_length (by omega), htk] at hx
        rw [he1]
        rcases List.mem_append.mp hx with h | h
        · exact List.mem_append_left _ (by rw [eF]; exact hcl x y e (by rw [← eF]; exact h))
        · obtain ⟨a, ha, b, hb, g, ex, rfl⟩ := edge_iff.mp e
          rw [List.mem_singleton.mp h] at ex
          have e1 := List.cons.inj ex
          have e2 := List.cons.inj e1.2
          exact hc1 a ha b hb e1.1.symm e2.1.symm g.symm
end
end Onp
set_option maxHeartbeats 8000000
set_option autoImplicit false
namespace Onp
open PySem PySem.Spec PyProof.Rows L2 HotX L2H LamX
abbrev sPrd : Stmt := topS 68
/-! ### the machine within, as the law has it -/
def opnL (rs S : List Rm) : List Int := ((List.range rs.length).filter fun i => decide (rs.getD i [] ∈ S)).map fun i => ((i : Nat) : Int)
def prodD (M N : AM) (rs : List Rm) : AM := if rs = [] then idleM M.ls else ⟨(rs.length : Nat), M.ls, onceL (numWs rs (prodW M.as N.as)), opnL rs (prodR M.fs N.fs), opnL rs (prodR M.gs N.gs)⟩
def wsel (R : List Rm) (zs : List (Arw × Arw)) : List Arw := (zs.filter fun z => decide (z.1.2.1 = z.2.2.1) && decide ([z.1.1, z.2.1] ∈ R)).map fun z => numW R (wprd z)
theorem wsel_snoc (R : List Rm) (zs : List (Arw × Arw)) (z : Arw × Arw) : wsel R (zs ++ [z]) = wsel R zs ++ (if z.1.2.1 = z.2.2.1 ∧ [z.1.1, z.2.1] ∈ R then [numW R (wprd z)] else []) := by
  unfold wsel
  rw [List.filter_append, List.map_append]
  congr 1
  by_cases h1 : z.1.2.1 = z.2.2.1
  · by_cases h2 : [z.1.1, z.2.1] ∈ R
    · rw [if_pos ⟨h1, h2⟩, List.filter_cons, if_pos (by rw [decide_eq_true h1, decide_eq_true h2]; rfl)]
      rfl
    · rw [if_neg (fun z => h2 z.2), List.filter_cons, if_neg (by rw [decide_eq_false h2, Bool.and_false]; exact Bool.false_ne_true)]
      rfl
  · rw [if_neg (fun z => h1 z.1), List.filter_cons, if_neg (by rw [decide_eq_false h1]; exact Bool.false_ne_true)]
    rfl
theorem wsel_len (R : List Rm) (zs : List (Arw × Arw)) : (wsel R zs).length ≤ zs.length := by
  unfold wsel
  rw [List.length_map]
  exact List.length_filter_le ..
theorem wsel_all {R : List Rm} {as bs : List Arw} (hcl : ∀ x y, (x, y) ∈ edW (prodW as bs) → x ∈ R → y ∈ R) : wsel R (prG as bs) = numWs R (prodW as bs) := by
  unfold wsel numWs prodW
  rw [List.filter_map, List.filter_filter, List.map_map]
  have e : ∀ z ∈ prG as bs, (decide (z.1.2.1 = z.2.2.1) && decide ([z.1.1, z.2.1] ∈ R)) = (((fun a : WA => decide (a.1 ∈ R) && decide (a.2.2.2 ∈ R)) ∘ wprd) z && decide (z.1.2.1 = z.2.2.1)) := fun z hz => by
    obtain ⟨h1, h2⟩ := prG_mem.mp hz
    show _ = ((decide ([z.1.1, z.2.1] ∈ R) && decide ([z.1.2.2.2, z.2.2.2.2] ∈ R)) && decide (z.1.2.1 = z.2.2.1))
    by_cases c1 : z.1.2.1 = z.2.2.1
    · by_cases c2 : [z.1.1, z.2.1] ∈ R
      · have c3 := hcl _ _ (edge_iff.mpr ⟨z.1, h1, z.2, h2, c1, rfl, rfl⟩) c2
        rw [decide_eq_true c1, decide_eq_true c2, decide_eq_true c3]
        rfl
      · rw [decide_eq_true c1, decide_eq_false c2]
        rfl
    · rw [decide_eq_false c1, Bool.and_false]
      rfl
  rw [List.filter_congr e]
  rfl
theorem idxR {R : List Rm} {r : Rm} (h : r ∈ R) : (R.map rdat)[R.idxOf r]? = some (rdat r) ∧ PyData.eqv (rdat r) (rdat r) = true ∧ ∀ (m : Nat) (z' : PyData), m < R.idxOf r → (R.map rdat)[m]? = some z' → PyData.eqv z' (rdat r) = false := by
  have hl : R.idxOf r < R.length := List.idxOf_lt_length_of_mem h
  refine ⟨by rw [List.getElem?_map, List.getElem?_eq_getElem hl, List.getElem_idxOf hl]; rfl, by rw [eqv_rdat]; exact decide_eq_true rfl, fun m z' hm hz => ?_⟩
  rw [List.getElem?_map] at hz
  cases e : R[m]? with
  | none => rw [e] at hz; cases hz
  | some x =>
    rw [e] at hz
    obtain rfl := Option.some.inj hz
    rw [eqv_rdat, decide_eq_false]
    intro ex
    obtain ⟨hl2, e3⟩ := List.getElem?_eq_some_iff.mp e
    have := List.not_of_lt_findIdx (xs := R) (p := (· == r)) hm
    rw [e3, ex] at this
    simp at this
theorem eqv_rnil (R : List Rm) : PyData.eqv (.list (R.map rdat)) (.list []) = decide (R = []) := by
  cases R with
  | nil => rfl
  | cons x R =>
    rw [decide_eq_false (fun z => nomatch z)]
    simp [PyData.eqv, PyData.eqvAll]
theorem opn_snoc {R S : List Rm} {i : Nat} {r : Rm} (h : R[i]? = some r) : ((List.range (i + 1)).filter fun i => decide (R.getD i [] ∈ S)).map (fun i => ((i : Nat) : Int)) = ((List.range i).filter fun i => decide (R.getD i [] ∈ S)).map (fun i => ((i : Nat) : Int)) ++ (if r ∈ S then [((i : Nat) : Int)] else []) := by
  rw [List.range_succ, List.filter_append, List.map_append]
  congr 1
  have e : R.getD i [] = r := by rw [List.getD_eq_getElem?_getD, h]; rfl
  by_cases hr : r ∈ S
  · rw [if_pos hr, List.filter_cons, if_pos (by rw [e]; exact decide_eq_true hr)]
    rfl
  · rw [if_neg hr, List.filter_cons, if_neg (by rw [e]; exact fun z => hr (of_decide_eq_true z))]
    rfl
theorem mem_two {xs ys : List Int} {x y : Int} : [x, y] ∈ prodR xs ys ↔ x ∈ xs ∧ y ∈ ys := by
  unfold prodR
  rw [List.mem_map]
  constructor
  · rintro ⟨z, hz, e⟩
    have h1 := List.cons.inj e
    have h2 := List.cons.inj h1.2
    have h3 := prG_mem.mp hz
    rw [h1.1, h2.1] at h3
    exact h3
  · rintro ⟨h1, h2⟩
    exact ⟨(x, y), prG_mem.mpr ⟨h1, h2⟩, rfl⟩
section
variable {P : Program} {w : World} {K : PySem.W.Frag} {mg : Str → Option Value} {base : Heap}
theorem arw_put {H : Hp} {la t : Addr} {ps : List AR} {a : Arw} {i j : Nat} {σ : L2.St} {Q : VK} (hla : H la = some (.lst (rfs ps))) (hR : RowAt K H ps) (hok : ∀ b ∈ ps.map (·.2), okS b) (hl : ps.length ≤ 2000) (ha : okS a) (ht : H t = some (.tup (aV a))) (ei : σ[i]? = some (some (.ref la))) (ej : σ[j]? = some (some (.ref t)))
    (q : ∀ H' p ps', Same H H' → H' p = some (.lst (rfs ps')) → RowAt K H' ps' → ps'.map (·.2) = onceS (ps.map (·.2)) a → Q (.ref p) H') :
    tOp rCat (tVar i) (tOp rRep (tLst (tCons (tVar j) tNil)) (tCB (fun xs H Q => (∃ i, xs = [.int i] ∧ Q (.int i) H) ∨ ∃ k, xs = [.bl k] ∧ Q (.int (if k then 1 else 0)) H) (tCons (tOp (rNotInD K) (tVar j) (tVar i)) tNil))) σ H Q := by
  have hbig : 5000 ≤ sizeLine := by decide
  refine ⟨.ref la, ei, _, ej, (by decide : 1 ≤ sizeLine), fun p np => ?_⟩
  have s7 := same_upd (o := .lst [.ref t]) np
  have hp7 : upd H p (.lst [.ref t]) p = some (.lst [.ref t]) := upd_same
  have hla7 := s7 _ _ hla
  have hR7 := hR.same s7
  have ht7 := s7 _ _ ht
  generalize upd H p (.lst [.ref t]) = H7 at s7 hp7 hla7 hR7 ht7
  refine ⟨.ref t, ej, .ref la, ei, adat a, (ps.map fun p : AR => p.2).map adat, dp_arw (p := (t, a)) (SqT.of ht7), .lst (SqL.of hla7) (dpRow hR7), shA ha, shR hok, .inr ⟨_, rfl, ?_⟩⟩
  rw [any_adat]
  by_cases hin : a ∈ ps.map (·.2)
  · rw [decide_eq_true hin]
    refine ⟨p, 0, [.ref t], rfl, rfl, hp7, by decide, by decide, (show 1 * 0 ≤ sizeLine by decide), fun p8 np8 => ?_⟩
    have s8 := same_upd (o := .lst (List.replicate (Int.toNat 0) [V.ref t]).flatten) np8
    refine ⟨la, p8, rfs ps, [], rfl, rfl, s8 _ _ hla7, upd_same, ?_, fun p9 np9 => ?_⟩
    · unfold rfs
      rw [List.length_map]
      show ps.length + 0 ≤ sizeLine
      omega
    · have s9 := s8.trans (same_upd (o := .lst (rfs ps ++ [])) np9)
      exact q _ p9 ps (s7.trans s9) (by rw [upd_same, List.append_nil]) (hR7.same s9) (by unfold onceS; rw [if_pos hin])
  · rw [decide_eq_false hin]
    refine ⟨p, 1, [.ref t], rfl, rfl, hp7, by decide, by decide, (by decide : 1 ≤ sizeLine), fun p8 np8 => ?_⟩
    have s8 := same_upd (o := .lst (List.replicate (Int.toNat 1) [V.ref t]).flatten) np8
    refine ⟨la, p8, rfs ps, [.ref t], rfl, rfl, s8 _ _ hla7, upd_same, ?_, fun p9 np9 => ?_⟩
    · unfold rfs
      rw [List.length_map]
      show ps.length + 1 ≤ sizeLine
      omega
    · have s9 := s8.trans (same_upd (o := .lst (rfs ps ++ [V.ref t])) np9)
      refine q _ p9 (ps ++ [(t, a)]) (s7.trans s9) (by rw [upd_same]; unfold rfs; rw [List.map_append]; rfl) ?_ (by unfold onceS; rw [if_neg hin, List.map_append]; rfl)
      intro z hz
      rcases List.mem_append.mp hz with h | h
      · exact (hR7.same s9) z h
      · rw [List.mem_singleton.mp h]
        exact SqT.of (s9 _ _ ht7)
def NPd : List Str := ["_law_m", "_law_sieve", "_law_pairs", "_law_arrows", "_law_room", "_law_letter", "_law_deed_here", "_law_to", "_law_begin", "_law_sign", "_law_idle", "_law_end", "_law_arrow_here", "_law_opens", "_law_ends", "_law_at", "_law_pair"]
theorem scPrd : FnScope NPd ["_law_m", "_law_sieve"] (defScope sPrd) := ⟨rfl, rfl, rfl, by decide +kernel, rfl, by decide +kernel, by decide +kernel⟩
def spPrd (K : PySem.W.Frag) : Sp := fun vs H Q _ => ∃ (t u : Addr) (M N : AM), vs = [.ref t, .ref u] ∧ DrawnAt K H t M ∧ DrawnAt K H u N ∧ M.ok ∧ N.ok ∧ M.fs.length ≤ 8 ∧ N.fs.length ≤ 8 ∧ ∀ (r : Addr) (rs : List Rm) H', Same H H' → rs.Nodup → rs.length ≤ 2000 → (∀ x, x ∈ rs ↔ Rch (prodR M.fs N.fs) (edW (prodW M.as N.as)) x) → DrawnAt K H' r (prodD M N (sortRm rs)) → Q (.ref r) H'
theorem ok_prd {f fPr : Addr} {fd fdPr : FuncData} {k : Nat} (F : Fun K "_law_product" "_law_product" sPrd f fd) (Pr : FnM K mg fPr fdPr "_law_pairs_of" sLPr ["_law_m", "_law_sieve"]) (mlen : mg "len" = none) (ms : mg "sorted" = none) (me : mg "enumerate" = none) (mi : mg "int" = none) : FnOk P w K mg base CX0 (k + 2) f fd ["_law_m", "_law_sieve"] (spPrd K) := by
  have GPr : FnOk P w K mg base CX0 (k + 1) fPr fdPr ["_law_m", "_law_sieve"] (spLPr K) := ok_lpr Pr.F mlen ms
  refine F.ok scPrd (fun vs H Q E h => ?_) (fun cdv A outer s H vs Q E hr h => ?_)
  · obtain ⟨t, u, M, N, rfl, _⟩ := h
    rfl
  · obtain ⟨t, u, M, N, rfl, dM, dN, okM, okN, hf1, hf2, q⟩ := h
    refine ⟨_, (pss_cutM (ps_set (i := 2) scPrd.nd rfl (.inl rfl) (pe_call GPr hr (by rfl) Pr.g Pr.F.kp Pr.b .nil pass0 (pa_cons (pv 0) (pa_cons (pv 1) pa_nil))))
      (pss_cutM (ps_if (pt_cmpR (op_eqD hr.units) (pv 2) (pe_lst pa_nil) (nomark _)) (pss_one (ps_ret (pe_tup (pa_cons pe_int (pa_cons (pe_ix ix_tup (pv 0) pe_int (fun _ _ => rfl)) (pa_cons (pe_lst pa_nil) (pa_cons (pe_lst pa_nil) (pa_cons (pe_lst pa_nil) pa_nil)))))))) pss_nil)
      (pss_cons (ps_set (i := 3) scPrd.nd rfl (.inl rfl) (pe_lst pa_nil))
      (pss_cutM (ps_for PassesOwn.never rfl (pi_list (pe_ix ix_tup (pv 0) pe_int (fun _ _ => rfl))) (pg_tup rfl (pgs_cons (pg_name (i := 4) scPrd.nd rfl (.inl rfl)) (pgs_cons (pg_name (i := 5) scPrd.nd rfl (.inl rfl)) (pgs_cons (pg_name (i := 6) scPrd.nd rfl (.inl rfl)) (pgs_cons (pg_name (i := 7) scPrd.nd rfl (.inl rfl)) pgs_nil)))))
        (pss_one (ps_for PassesOwn.never rfl (pi_list (pe_ix ix_tup (pv 1) pe_int (fun _ _ => rfl))) (pg_tup rfl (pgs_cons (pg_name (i := 8) scPrd.nd rfl (.inl rfl)) (pgs_cons (pg_name (i := 9) scPrd.nd rfl (.inl rfl)) (pgs_cons (pg_name (i := 10) scPrd.nd rfl (.inl rfl)) (pgs_cons (pg_name (i := 11) scPrd.nd rfl (.inl rfl)) pgs_nil)))))
        (pss_one (ps_if (PW.pt (pw_and (pt_cmpR op_eq (pv 9) (pv 5) (nomark _)) (pw_and1 (pt_cmpR (op_inD (room65 hr)) (pe_tup (pa_cons (pv 4) (pa_cons (pv 8) pa_nil))) (pv 2) (by rfl))))) (pss_cons (ps_set (i := 12) scPrd.nd rfl (.inl rfl) (pe_tup (pa_cons (pe_bm PySem.F.plainAttrs_list PySem.F.slot_list_index PySem.F.type_list_index (mt_indexD (room65 hr)) (pv 2) (pa_cons (pe_tup (pa_cons (pv 4) (pa_cons (pv 8) pa_nil))) pa_nil)) (pa_cons (pv 5) (pa_cons (pv 6) (pa_cons (pe_bm PySem.F.plainAttrs_list PySem.F.slot_list_index PySem.F.type_list_index (mt_indexD (room65 hr)) (pv 2) (pa_cons (pe_tup (pa_cons (pv 7) (pa_cons (pv 11) pa_nil))) pa_nil)) pa_nil))))))
      (pss_one (ps_set (i := 3) scPrd.nd rfl (.inl rfl) (pe_op op_cat (pv 3) (pe_op op_rep (pe_lst (pa_cons (pv 12) pa_nil)) (pe_callTy call_int1 (by rfl) mi (by decide +kernel) (pa_cons (pe_cmpR (op_notInD (room65 hr)) (pv 12) (pv 3) (by rfl)) pa_nil))))))) pss_nil)))))
      (pss_cutM (ps_setLc (i := 13) (own := [("_law_at", 15), ("_law_pair", 16)]) (g := (gTup K 2 (gCons (gName 15) (gCons (gName 16) gNil)))) (tt := (tAnd (tTest (tOp (rIn K false) (tOp (rIxT K) (tVar 16) (tC (.int 0))) (tOp (rIxT K) (tVar 0) (tC (.int 3))))) (tTest (tOp (rIn K false) (tOp (rIxT K) (tVar 16) (tC (.int 1))) (tOp (rIxT K) (tVar 1) (tC (.int 3))))))) (te := (tVar 15)) rfl scPrd.nd rfl rfl (sw_true rfl rfl rfl (by decide +kernel))
          (pi_enum (by rfl) me (pa_cons (pv 2) pa_nil)) (blkOk_by (own := [("_law_at", 15), ("_law_pair", 16)]) (N := NPd) (sc := defScope sPrd) (by decide +kernel)) (fun _ _ _ _ _ => (pg_tup rfl (pgs_cons (pg_name (i := 15) scPrd.nd rfl (.inl rfl)) (pgs_cons (pg_name (i := 16) scPrd.nd rfl (.inl rfl)) pgs_nil))))
          (fun _ _ _ _ _ => (pts_one (PW.pt (pw_and (pt_cmpR op_in_seq (pe_ix ix_tup (pv 16) pe_int (fun _ _ => rfl)) (pe_ix ix_tup (pv 0) pe_int (fun _ _ => rfl)) (by rfl)) (pw_and1 (pt_cmpR op_in_seq (pe_ix ix_tup (pv 16) pe_int (fun _ _ => rfl)) (pe_ix ix_tup (pv 1) pe_int (fun _ _ => rfl)) (by rfl))))))) (fun _ _ _ _ _ => (pv 15)))
      (pss_cutM (ps_setLc (i := 14) (own := [("_law_at", 15), ("_law_pair", 16)]) (g := (gTup K 2 (gCons (gName 15) (gCons (gName 16) gNil)))) (tt := (tAnd (tTest (tOp (rIn K false) (tOp (rIxT K) (tVar 16) (tC (.int 0))) (tOp (rIxT K) (tVar 0) (tC (.int 4))))) (tTest (tOp (rIn K false) (tOp (rIxT K) (tVar 16) (tC (.int 1))) (tOp (rIxT K) (tVar 1) (tC (.int 4))))))) (te := (tVar 15)) rfl scPrd.nd rfl rfl (sw_true rfl rfl rfl (by decide +kernel))
          (pi_enum (by rfl) me (pa_cons (pv 2) pa_nil)) (blkOk_by (own := [("_law_at", 15), ("_law_pair", 16)]) (N := NPd) (sc := defScope sPrd) (by decide +kernel)) (fun _ _ _ _ _ => (pg_tup rfl (pgs_cons (pg_name (i := 15) scPrd.nd rfl (.inl rfl)) (pgs_cons (pg_name (i := 16) scPrd.nd rfl (.inl rfl)) pgs_nil))))
          (fun _ _ _ _ _ => (pts_one (PW.pt (pw_and (pt_cmpR op_in_seq (pe_ix ix_tup (pv 16) pe_int (fun _ _ => rfl)) (pe_ix ix_tup (pv 0) pe_int (fun _ _ => rfl)) (by rfl)) (pw_and1 (pt_cmpR op_in_seq (pe_ix ix_tup (pv 16) pe_int (fun _ _ => rfl)) (pe_ix ix_tup (pv 1) pe_int (fun _ _ => rfl)) (by rfl))))))) (fun _ _ _ _ _ => (pv 15)))
      (pss_one (ps_ret (pe_tup (pa_cons (pe_callB call_len_seq (by rfl) mlen PySem.boot_len (pa_cons (pv 2) pa_nil)) (pa_cons (pe_ix ix_tup (pv 0) pe_int (fun _ _ => rfl)) (pa_cons (pv 3) (pa_cons (pv 13) (pa_cons (pv 14) pa_nil)))))))))))))), ?_⟩
    have hbig : 50000 ≤ sizeLine := by decide
    obtain ⟨la, lf, lg, ps, d1, d2, d3, d4, d5, d6⟩ := id dM
    obtain ⟨la', lf', lg', ps', e1, e2, e3, e4, e5, e6⟩ := id dN
    have hM40 := okM.2.2.2.2.2.1
    have hN40 := okN.2.2.2.2.2.1
    have hpl : ps.length = M.as.length := by
      have := congrArg List.length d4
      rw [List.length_map] at this
      exact this
    have hpl' : ps'.length = N.as.length := by
      have := congrArg List.length e4
      rw [List.length_map] at this
      exact this
    -- the pairs
    refine ⟨fun σ' H' => ∃ (l : Addr) (ys : List RmA) (rs : List Rm), σ' = [some (.ref t), some (.ref u), some (.ref l), none, none, none, none, none, none, none, none, none, none, none, none, none, none] ∧ Same H H' ∧ H' l = some (.lst (rms ys)) ∧ RmAt H' ys ∧ ys.map (·.2) = sortRm rs ∧ rs.Nodup ∧ rs.length ≤ 2000 ∧ (∀ x, x ∈ rs ↔ Rch (prodR M.fs N.fs) (edW (prodW M.as N.as)) x), ⟨_, rfl, _, rfl, t, u, M, N, rfl, dM, dN, okM, okN, hf1, hf2, fun r ys rs H' s' hr' hy he hn hl hm => ⟨r, ys, rs, rfl, s', hr', hy, he, hn, hl, hm⟩⟩, ?_⟩
    rintro σ H1 ⟨l, ys, rs, rfl, s1, hl, hys, hRe, hrn, hrl, hmem⟩
    obtain ⟨R, eR⟩ : ∃ R, R = sortRm rs := ⟨_, rfl⟩
    rw [← eR] at hRe
    have hRm : ∀ x, x ∈ R ↔ Rch (prodR M.fs N.fs) (edW (prodW M.as N.as)) x := fun x => by
      rw [eR, (sortRm_perm rs).mem_iff]
      exact hmem x
    have hRtwo : ∀ x ∈ R, ∃ a b, x = [a, b] := fun x hx => rch_two ((hRm x).mp hx)
    have hRl : R.length ≤ 2000 := by rw [eR, sortRm_len]; exact hrl
    have hyl : ys.length = R.length := by rw [← hRe, List.length_map]
    have qq : ∀ (r : Addr) H', Same H H' → DrawnAt K H' r (prodD M N R) → Q (.ref r) H' := fun r H' s' d => q r rs H' s' hrn hrl hmem (by rw [← eR]; exact d)
    clear q
    -- none
    refine ⟨fun σ' H' => σ' = [some (.ref t), some (.ref u), some (.ref l), none, none, none, none, none, none, none, none, none, none, none, none, none, none] ∧ Same H1 H' ∧ R ≠ [], ?_, ?_⟩
    · refine ⟨_, rfl, (by decide : 0 ≤ sizeLine), fun z nz => ?_⟩
      have s4 := same_upd (o := .lst []) nz
      refine ⟨.list (R.map rdat), .list [], .lst (SqL.of (s4 _ _ hl)) (by rw [← hRe]; exact dp_rms (hys.same s4)), .lst (SqL.of upd_same) .nil, sh_rdats _, by decide +kernel, _, rfl, ?_⟩
      rw [eqv_rnil]
      generalize upd H1 z (.lst []) = H4 at s4
      by_cases hn : R = []
      · rw [decide_eq_true hn]
        have s14 := s1.trans s4
        refine iteT ?_
        refine ⟨_, rfl, t, _, 1, _, rfl, rfl, SqT.of (s14 _ _ d1), rfl, (by decide : 0 ≤ sizeLine), fun l1 n1 => ?_⟩
        have s5 := same_upd (o := .lst []) n1
        have f1 : (upd H4 l1 (.lst [])) l1 = some (.lst []) := upd_same
        generalize upd H4 l1 (.lst []) = H5 at s5 f1
        refine ⟨(by decide : 0 ≤ sizeLine), fun l2 n2 => ?_⟩
        have s6 := same_upd (o := .lst []) n2
        have f2 : (upd H5 l2 (.lst [])) l2 = some (.lst []) := upd_same
        generalize upd H5 l2 (.lst []) = H6 at s6 f2
        refine ⟨(by decide : 0 ≤ sizeLine), fun l3 n3 => ?_⟩
        have s7 := same_upd (o := .lst []) n3
        have f3 : (upd H6 l3 (.lst [])) l3 = some (.lst []) := upd_same
        generalize upd H6 l3 (.lst []) = H7 at s7 f3
        refine ⟨(by decide : 5 ≤ sizeLine), fun tp ntp => ?_⟩
        have s8 := same_upd (o := .tup [.int 1, .str (Sx M.ls), .ref l1, .ref l2, .ref l3]) ntp
        have s78 := s7.trans s8
        refine qq tp _ (s14.trans (s5.trans (s6.trans s78))) ?_
        rw [show prodD M N R = idleM M.ls from if_pos hn]
        exact ⟨l1, l2, l3, [], upd_same, (s6.trans s78) _ _ f1, (fun _ z => nomatch z), rfl, s78 _ _ f2, s8 _ _ f3⟩
      · rw [decide_eq_false hn]
        exact iteF ⟨rfl, s4, hn⟩
    rintro σ H2 ⟨rfl, s12, hne⟩
    have s2 := s1.trans s12
    have hl2 := s12 _ _ hl
    have hys2 := hys.same s12
    clear hl hys
    have hl := hl2
    have hys := hys2
    clear hl2 hys2
    -- arrows
    have hokA : ∀ {a b : Arw}, a ∈ M.as → okS a → okS (numW R (wprd (a, b))) := fun _ h => h
    refine ⟨(by decide : 0 ≤ sizeLine), fun L nL => ?_⟩
    have s5 := same_upd (o := .lst []) nL
    have hL5 : (upd H2 L (.lst [])) L = some (.lst (rfs [])) := upd_same
    generalize upd H2 L (.lst []) = H5 at s5 hL5
    refine ⟨fun σ' H' => ∃ (L : Addr) (qs : List AR) (y4 y5 y6 y7 y8 y9 y10 y11 y12 : Option V), σ' = [some (.ref t), some (.ref u), some (.ref l), some (.ref L), y4, y5, y6, y7, y8, y9, y10, y11, y12, none, none, none, none] ∧ Same H2 H' ∧ H' L = some (.lst (rfs qs)) ∧ RowAt K H' qs ∧ qs.map (·.2) = onceL (wsel R (prG M.as N.as)), ?_, ?_⟩
    · refine ⟨_, rfl, t, _, 2, _, rfl, rfl, SqT.of (s5 _ _ (s2 _ _ d1)), rfl, la, rfl, ⟨_, SqL.of (s5 _ _ (s2 _ _ d2))⟩, for_list (K := K) (a := la) (xs := rfs ps)
        (fun i σ H' => ∃ (L : Addr) (qs : List AR) (y4 y5 y6 y7 y8 y9 y10 y11 y12 : Option V), σ = [some (.ref t), some (.ref u), some (.ref l), some (.ref L), y4, y5, y6, y7, y8, y9, y10, y11, y12, none, none, none, none] ∧ Same H2 H' ∧ H' L = some (.lst (rfs qs)) ∧ RowAt K H' qs ∧ qs.map (·.2) = onceL (wsel R (prG ((ps.map (·.2)).take i) N.as)))
        ⟨L, [], _, _, _, _, _, _, _, _, _, rfl, s5, hL5, (fun _ h => nomatch h), rfl⟩ (fun i σ H' _ ⟨_, _, _, _, _, _, _, _, _, _, _, _, sm, _⟩ => SqL.of ((s2.trans sm) _ _ d2)) (fun i x σ H' hx hI => ?_) (fun σ H' hI => ?_)⟩
      · obtain ⟨L1, qs1, z4, z5, z6, z7, z8, z9, z10, z11, z12, rfl, sm, hL1, hQ1, he1⟩ := hI
        obtain ⟨a, ha, rfl⟩ := rfsAt hx
        have ham := List.mem_of_getElem? ha
        have hamM : a.2 ∈ M.as := by rw [← d4]; exact List.mem_map_of_mem ham
        have haT := sameT (s2.trans sm) (d3 a ham)
        have haok := arrB_okS okM.2.2.1 (okM.2.2.2.1 a.2 hamM)
        have hatk : (ps.map (·.2)).take (i + 1) = (ps.map (·.2)).take i ++ [a.2] := take_next (by rw [List.getElem?_map, ha]; rfl)
        refine ⟨a.1, _, rfl, haT, rfl, _, _, rfl, _, _, rfl, _, _, rfl, _, _, rfl, rfl, ?_⟩
        refine ⟨_, rfl, u, _, 2, _, rfl, rfl, SqT.of ((s2.trans sm) _ _ e1), rfl, la', rfl, ⟨_, SqL.of ((s2.trans sm) _ _ e2)⟩, for_list (K := K) (a := la') (xs := rfs ps')
          (fun j σ H' => ∃ (L : Addr) (qs : List AR) (y8 y9 y10 y11 y12 : Option V), σ = [some (.ref t), some (.ref u), some (.ref l), some (.ref L), some (.int a.2.1), some (.str a.2.2.1), some (.str a.2.2.2.1), some (.int a.2.2.2.2), y8, y9, y10, y11, y12, none, none, none, none] ∧ Same H2 H' ∧ H' L = some (.lst (rfs qs)) ∧ RowAt K H' qs ∧ qs.map (·.2) = onceL (wsel R (prG ((ps.map (·.2)).take i) N.as ++ ((ps'.map (·.2)).take j).map fun b => (a.2, b))))
          ⟨L1, qs1, _, _, _, _, _, rfl, sm, hL1, hQ1, by rw [he1, List.take_zero, List.map_nil, List.append_nil]⟩ (fun j σ H' _ ⟨_, _, _, _, _, _, _, _, sm, _⟩ => SqL.of ((s2.trans sm) _ _ e2)) (fun j x σ H' hx hI => ?_) (fun σ H' hI => ?_)⟩
        · obtain ⟨L2, qs2, w8, w9, w10, w11, w12, rfl, sn, hL2, hQ2, he2⟩ := hI
          obtain ⟨b, hb, rfl⟩ := rfsAt hx
          have hbm := List.mem_of_getElem? hb
          have hbmN : b.2 ∈ N.as := by rw [← e4]; exact List.mem_map_of_mem hbm
          have hbT := sameT (s2.trans sn) (e3 b hbm)
          have hbtk : (ps'.map (·.2)).take (j + 1) = (ps'.map (·.2)).take j ++ [b.2] := take_next (by rw [List.getElem?_map, hb]; rfl)
          have hws : wsel R (prG ((ps.map (·.2)).take i) N.as ++ ((ps'.map (·.2)).take (j + 1)).map fun b => (a.2, b)) = wsel R (prG ((ps.map (·.2)).take i) N.as ++ ((ps'.map (·.2)).take j).map fun b => (a.2, b)) ++ (if a.2.2.1 = b.2.2.1 ∧ [a.2.1, b.2.1] ∈ R then [numW R (wprd (a.2, b.2))] else []) := by
            rw [hbtk, List.map_append, ← List.append_assoc]
            exact wsel_snoc R _ (a.2, b.2)
          have hq2l : qs2.length ≤ 2000 := by
            have h1 := congrArg List.length he2
            rw [List.length_map] at h1
            have h2 := onceL_len (wsel R (prG ((ps.map (·.2)).take i) N.as ++ ((ps'.map (·.2)).take j).map fun b => (a.2, b)))
            have h3 := wsel_len R (prG ((ps.map (·.2)).take i) N.as ++ ((ps'.map (·.2)).take j).map fun b => (a.2, b))
            rw [List.length_append, List.length_map, List.length_take, List.length_map, prG_len, List.length_take, List.length_map] at h3
            have h4 : min i ps.length * N.as.length ≤ 40 * 40 := Nat.mul_le_mul (by omega) hN40
            omega
          refine ⟨b.1, _, rfl, hbT, rfl, _, _, rfl, _, _, rfl, _, _, rfl, _, _, rfl, rfl, ?_⟩
          refine ⟨_, rfl, _, rfl, rfl, _, rfl, ?_⟩
          by_cases c1 : b.2.2.1 = a.2.2.1
          · rw [decide_eq_true (show V.str b.2.2.1 = V.str a.2.2.1 by rw [c1])]
            refine iteT ?_
            refine ⟨_, rfl, _, rfl, (by decide : 2 ≤ sizeLine), fun t3 n3 => ?_⟩
            have st3 := same_upd (o := .tup [.int a.2.1, .int b.2.1]) n3
            have ht3 : (upd H' t3 (.tup [.int a.2.1, .int b.2.1])) t3 = some (.tup [.int a.2.1, .int b.2.1]) := upd_same
            have sl3 := (sn.trans st3) _ _ hl
            have hy3 := hys.same (sn.trans st3)
            refine ⟨_, rfl, rdat [a.2.1, b.2.1], R.map rdat, dp_rm ht3, .lst (SqL.of sl3) (by rw [← hRe]; exact dp_rms hy3), sh_rdat _, sh_rdats _, _, rfl, ?_⟩
            rw [any_rdat]
            by_cases c2 : [a.2.1, b.2.1] ∈ R
            · rw [decide_eq_true c2]
              have c3 : [a.2.2.2.2, b.2.2.2.2] ∈ R := (hRm _).mpr (((hRm _).mp c2).step (edge_iff.mpr ⟨a.2, hamM, b.2, hbmN, c1.symm, rfl, rfl⟩))
              obtain ⟨i1, i2, i3⟩ := idxR c2
              obtain ⟨j1, j2, j3⟩ := idxR c3
              refine iteT ?_
              generalize upd H' t3 (.tup [.int a.2.1, .int b.2.1]) = H6 at st3 ht3 sl3 hy3
              refine ⟨_, rfl, .inl ⟨rfl, _, SqL.of sl3⟩, _, rfl, _, rfl, (by decide : 2 ≤ sizeLine), fun t4 n4 => ?_⟩
              have st4 := same_upd (o := .tup [.int a.2.1, .int b.2.1]) n4
              have ht4 : (upd H6 t4 (.tup [.int a.2.1, .int b.2.1])) t4 = some (.tup [.int a.2.1, .int b.2.1]) := upd_same
              have sl4 := st4 _ _ sl3
              have hy4 := hy3.same st4
              refine ⟨l, .ref t4, rdat [a.2.1, b.2.1], R.map rdat, R.idxOf [a.2.1, b.2.1], _, rfl, rfl, .lst (SqL.of sl4) (by rw [← hRe]; exact dp_rms hy4), dp_rm ht4, sh_rdats _, sh_rdat _, i1, i2, i3, ?_⟩
              generalize upd H6 t4 (.tup [.int a.2.1, .int b.2.1]) = H7 at st4 ht4 sl4 hy4
              refine ⟨_, rfl, _, rfl, _, rfl, .inl ⟨rfl, _, SqL.of sl4⟩, _, rfl, _, rfl, (by decide : 2 ≤ sizeLine), fun t5 n5 => ?_⟩
              have st5 := same_upd (o := .tup [.int a.2.2.2.2, .int b.2.2.2.2]) n5
              have ht5 : (upd H7 t5 (.tup [.int a.2.2.2.2, .int b.2.2.2.2])) t5 = some (.tup [.int a.2.2.2.2, .int b.2.2.2.2]) := upd_same
              have sl5 := st5 _ _ sl4
              have hy5 := hy4.same st5
              refine ⟨l, .ref t5, rdat [a.2.2.2.2, b.2.2.2.2], R.map rdat, R.idxOf [a.2.2.2.2, b.2.2.2.2], _, rfl, rfl, .lst (SqL.of sl5) (by rw [← hRe]; exact dp_rms hy5), dp_rm ht5, sh_rdats _, sh_rdat _, j1, j2, j3, ?_⟩
              generalize upd H7 t5 (.tup [.int a.2.2.2.2, .int b.2.2.2.2]) = H8 at st5 ht5 sl5 hy5
              refine ⟨(by decide : 4 ≤ sizeLine), fun t6 n6 => ?_⟩
              have st6 := same_upd (o := .tup (aV (numW R (wprd (a.2, b.2))))) n6
              have ht6 : (upd H8 t6 (.tup (aV (numW R (wprd (a.2, b.2)))))) t6 = some (.tup (aV (numW R (wprd (a.2, b.2))))) := upd_same
              have s38 := st3.trans (st4.trans (st5.trans st6))
              have hL8 := s38 _ _ hL2
              have hQ8 := hQ2.same s38
              refine arw_put (i := 3) (j := 12) (a := numW R (wprd (a.2, b.2))) hL8 hQ8 ?_ hq2l (hokA hamM haok) ht6 rfl rfl fun H9 p qs9 s9 hp9 hQ9 he9 => ⟨p, qs9, _, _, _, _, _, rfl, sn.trans (s38.trans s9), hp9, hQ9, ?_⟩
              · intro x hx
                rw [he2, onceL_mem] at hx
                obtain ⟨z, hz, rfl⟩ := List.mem_map.mp hx
                have hz1 := (List.mem_filter.mp hz).1
                have hzM : z.1 ∈ M.as := by
                  rcases List.mem_append.mp hz1 with h | h
                  · have h := (prG_mem.mp h).1
                    rw [d4] at h
                    exact List.mem_of_mem_take h
                  · obtain ⟨y, _, rfl⟩ := List.mem_map.mp h
                    exact hamM
                have hz2 : okS z.1 := arrB_okS okM.2.2.1 (okM.2.2.2.1 z.1 hzM)
                exact hz2
              · rw [he9, he2, hws, if_pos ⟨c1.symm, c2⟩, onceL_snoc]
            · rw [decide_eq_false c2]
              exact iteF ⟨L2, qs2, _, _, _, _, _, rfl, sn.trans st3, st3 _ _ hL2, hQ2.same st3, by rw [he2, hws, if_neg (fun z => c2 z.2), List.append_nil]⟩
          · rw [decide_eq_false (fun z => c1 (V.str.inj z))]
            exact iteF (iteF ⟨L2, qs2, _, _, _, _, _, rfl, sn, hL2, hQ2, by rw [he2, hws, if_neg (fun z => c1 z.1.symm), List.append_nil]⟩)
        · obtain ⟨L2, qs2, w8, w9, w10, w11, w12, rfl, sn, hL2, hQ2, he2⟩ := hI
          rw [show (rfs ps').length = (ps'.map (·.2)).length by rw [List.length_map]; exact List.length_map .., List.take_length, e4] at he2
          refine ⟨L2, qs2, _, _, _, _, _, _, _, _, _, rfl, sn, hL2, hQ2, ?_⟩
          rw [he2, hatk]
          unfold prG
          rw [List.flatMap_append, List.flatMap_cons, List.flatMap_nil, List.append_nil]
      · obtain ⟨L1, qs1, z4, z5, z6, z7, z8, z9, z10, z11, z12, rfl, sm, hL1, hQ1, he1⟩ := hI
        rw [show (rfs ps).length = (ps.map (·.2)).length by rw [List.length_map]; exact List.length_map .., List.take_length, d4] at he1
        exact ⟨L1, qs1, _, _, _, _, _, _, _, _, _, rfl, sm, hL1, hQ1, he1⟩
    clear hL5 s5 nL L
    rintro σ H3 ⟨L, qs, y4, y5, y6, y7, y8, y9, y10, y11, y12, rfl, s23, hL3, hQ3, hqe⟩
    rw [wsel_all (fun x y e hx => (hRm y).mpr (((hRm x).mp hx).step e))] at hqe
    have s2L_H3 := s23
    refine ⟨fun σ' H' => ∃ (O : Addr), σ' = [some (.ref t), some (.ref u), some (.ref l), some (.ref L), y4, y5, y6, y7, y8, y9, y10, y11, y12, some (.ref O), none, none, none] ∧ Same H3 H' ∧ H' O = some (.lst ((opnL R (prodR M.fs N.fs)).map V.int)), ?_, ?_⟩
    · refine ⟨_, rfl, l, rms ys, rfl, SqL.of (s2L_H3 _ _ hl), fun D nD => ?_⟩
      refine lcG walk_enum (fun i H' => Same H3 H' ∧ H' D = some (.lst ((((List.range i).filter fun i => decide (R.getD i [] ∈ prodR M.fs N.fs)).map fun i => ((i : Nat) : Int)).map V.int))) ⟨same_upd nD, upd_same⟩ (fun i H' _ ⟨sm, _⟩ => SqL.of (sm _ _ (s2L_H3 _ _ hl))) ?_ ?_
      · rintro i v Hx Hy hi ⟨sm, hD⟩ ⟨T, x, y, rfl, nT, rfl, ex, ey⟩
        obtain rfl := Option.some.inj ex
        obtain ⟨p, hp', rfl⟩ := rms_at ey
        have hil := (List.getElem?_eq_some_iff.mp hp').1
        have hp2 : R[i]? = some p.2 := by rw [← hRe, List.getElem?_map, hp']; rfl
        obtain ⟨p1, p2, epr⟩ := hRtwo p.2 (List.mem_of_getElem? hp2)
        have s5 := same_upd (o := .tup [.int (i : Nat), .ref p.1]) nT
        have sT := s2L_H3.trans (sm.trans s5)
        have hpt := (hys.same sT) p (List.mem_of_getElem? hp')
        have hDT := s5 _ _ hD
        have hTn : (upd Hx T (.tup [.int (i : Nat), .ref p.1])) T = some (.tup [.int (i : Nat), .ref p.1]) := upd_same
        generalize upd Hx T (.tup [.int (i : Nat), .ref p.1]) = H6 at s5 sT hpt hDT hTn
        rw [epr] at hpt
        have hsn := opn_snoc (S := prodR M.fs N.fs) hp2
        have hlen : ((((List.range i).filter fun i => decide (R.getD i [] ∈ prodR M.fs N.fs)).map fun i => ((i : Nat) : Int)).map V.int).length ≤ i := by
          rw [List.length_map, List.length_map]
          refine Nat.le_trans (List.length_filter_le ..) ?_
          rw [List.length_range]
          exact Nat.le_refl _
        refine ⟨T, _, rfl, SqT.of hTn, rfl, _, _, rfl, _, _, rfl, rfl, rfl, ?_⟩
        refine ⟨_, rfl, p.1, _, 0, _, rfl, rfl, SqT.of hpt, rfl, _, rfl, t, _, 3, _, rfl, rfl, SqT.of ((s2.trans sT) _ _ d1), rfl, lf, M.fs.map V.int, rfl, .inl (SqL.of ((s2.trans sT) _ _ d5)), rfl, flatInts _, _, rfl, ?_⟩
        rw [if_neg Bool.false_ne_true, inV_ints]
        have no : ¬ (p1 ∈ M.fs ∧ p2 ∈ N.fs) → Same H3 H6 ∧ H6 D = some (.lst ((((List.range (i + 1)).filter fun i => decide (R.getD i [] ∈ prodR M.fs N.fs)).map fun i => ((i : Nat) : Int)).map V.int)) := fun h => ⟨sm.trans s5, by rw [hDT, hsn, if_neg (fun z => h (mem_two.mp (by rw [← epr]; exact z))), List.append_nil]⟩
        by_cases c1 : p1 ∈ M.fs
        · rw [decide_eq_true c1]
          refine iteT ?_
          refine ⟨_, rfl, p.1, _, 1, _, rfl, rfl, SqT.of hpt, rfl, _, rfl, u, _, 3, _, rfl, rfl, SqT.of ((s2.trans sT) _ _ e1), rfl, lf', N.fs.map V.int, rfl, .inl (SqL.of ((s2.trans sT) _ _ e5)), rfl, flatInts _, _, rfl, ?_⟩
          rw [if_neg Bool.false_ne_true, inV_ints]
          by_cases c2 : p2 ∈ N.fs
          · rw [decide_eq_true c2]
            refine iteT ⟨_, rfl, _, hDT, by omega, fun b o e => ?_, ?_⟩
            · rw [upd_ne (ne_of_none e nD)]
              exact (sm.trans s5) b o e
            · rw [upd_same, hsn, if_pos (by rw [epr]; exact mem_two.mpr ⟨c1, c2⟩), List.map_append]
              rfl
          · rw [decide_eq_false c2]
            exact iteF (no fun z => c2 z.2)
        · rw [decide_eq_false c1]
          exact iteF (iteF (no fun z => c1 z.1))
      · rintro Hx ⟨sm, hD⟩
        rw [rms_len, show ys.length = R.length by rw [← hRe, List.length_map]] at hD
        exact ⟨D, rfl, sm, hD⟩
    rintro σ H4 ⟨O1, rfl, s34, hO1⟩
    have s2L_H4 := s23.trans s34
    refine ⟨fun σ' H' => ∃ (O : Addr), σ' = [some (.ref t), some (.ref u), some (.ref l), some (.ref L), y4, y5, y6, y7, y8, y9, y10, y11, y12, some (.ref O1), some (.ref O), none, none] ∧ Same H4 H' ∧ H' O = some (.lst ((opnL R (prodR M.gs N.gs)).map V.int)), ?_, ?_⟩
    · refine ⟨_, rfl, l, rms ys, rfl, SqL.of (s2L_H4 _ _ hl), fun D nD => ?_⟩
      refine lcG walk_enum (fun i H' => Same H4 H' ∧ H' D = some (.lst ((((List.range i).filter fun i => decide (R.getD i [] ∈ prodR M.gs N.gs)).map fun i => ((i : Nat) : Int)).map V.int))) ⟨same_upd nD, upd_same⟩ (fun i H' _ ⟨sm, _⟩ => SqL.of (sm _ _ (s2L_H4 _ _ hl))) ?_ ?_
      · rintro i v Hx Hy hi ⟨sm, hD⟩ ⟨T, x, y, rfl, nT, rfl, ex, ey⟩
        obtain rfl := Option.some.inj ex
        obtain ⟨p, hp', rfl⟩ := rms_at ey
        have hil := (List.getElem?_eq_some_iff.mp hp').1
        have hp2 : R[i]? = some p.2 := by rw [← hRe, List.getElem?_map, hp']; rfl
        obtain ⟨p1, p2, epr⟩ := hRtwo p.2 (List.mem_of_getElem? hp2)
        have s5 := same_upd (o := .tup [.int (i : Nat), .ref p.1]) nT
        have sT := s2L_H4.trans (sm.trans s5)
        have hpt := (hys.same sT) p (List.mem_of_getElem? hp')
        have hDT := s5 _ _ hD
        have hTn : (upd Hx T (.tup [.int (i : Nat), .ref p.1])) T = some (.tup [.int (i : Nat), .ref p.1]) := upd_same
        generalize upd Hx T (.tup [.int (i : Nat), .ref p.1]) = H6 at s5 sT hpt hDT hTn
        rw [epr] at hpt
        have hsn := opn_snoc (S := prodR M.gs N.gs) hp2
        have hlen : ((((List.range i).filter fun i => decide (R.getD i [] ∈ prodR M.gs N.gs)).map fun i => ((i : Nat) : Int)).map V.int).length ≤ i := by
          rw [List.length_map, List.length_map]
          refine Nat.le_trans (List.length_filter_le ..) ?_
          rw [List.length_range]
          exact Nat.le_refl _
        refine ⟨T, _, rfl, SqT.of hTn, rfl, _, _, rfl, _, _, rfl, rfl, rfl, ?_⟩
        refine ⟨_, rfl, p.1, _, 0, _, rfl, rfl, SqT.of hpt, rfl, _, rfl, t, _, 4, _, rfl, rfl, SqT.of ((s2.trans sT) _ _ d1), rfl, lg, M.gs.map V.int, rfl, .inl (SqL.of ((s2.trans sT) _ _ d6)), rfl, flatInts _, _, rfl, ?_⟩
        rw [if_neg Bool.false_ne_true, inV_ints]
        have no : ¬ (p1 ∈ M.gs ∧ p2 ∈ N.gs) → Same H4 H6 ∧ H6 D = some (.lst ((((List.range (i + 1)).filter fun i => decide (R.getD i [] ∈ prodR M.gs N.gs)).map fun i => ((i : Nat) : Int)).map V.int)) := fun h => ⟨sm.trans s5, by rw [hDT, hsn, if_neg (fun z => h (mem_two.mp (by rw [← epr]; exact z))), List.append_nil]⟩
        by_cases c1 : p1 ∈ M.gs
        · rw [decide_eq_true c1]
          refine iteT ?_
          refine ⟨_, rfl, p.1, _, 1, _, rfl, rfl, SqT.of hpt, rfl, _, rfl, u, _, 4, _, rfl, rfl, SqT.of ((s2.trans sT) _ _ e1), rfl, lg', N.gs.map V.int, rfl, .inl (SqL.of ((s2.trans sT) _ _ e6)), rfl, flatInts _, _, rfl, ?_⟩
          rw [if_neg Bool.false_ne_true, inV_ints]
          by_cases c2 : p2 ∈ N.gs
          · rw [decide_eq_true c2]
            refine iteT ⟨_, rfl, _, hDT, by omega, fun b o e => ?_, ?_⟩
            · rw [upd_ne (ne_of_none e nD)]
              exact (sm.trans s5) b o e
            · rw [upd_same, hsn, if_pos (by rw [epr]; exact mem_two.mpr ⟨c1, c2⟩), List.map_append]
              rfl
          · rw [decide_eq_false c2]
            exact iteF (no fun z => c2 z.2)
        · rw [decide_eq_false c1]
          exact iteF (iteF (no fun z => c1 z.1))
      · rintro Hx ⟨sm, hD⟩
        rw [rms_len, show ys.length = R.length by rw [← hRe, List.length_map]] at hD
        exact ⟨D, rfl, sm, hD⟩
    rintro σ H5 ⟨O2, rfl, s45, hO2⟩
    have s25 := s2L_H4.trans s45
    refine ⟨_, rfl, l, rms ys, rfl, .inl (SqL.of (s25 _ _ hl)), ?_⟩
    refine ⟨_, rfl, t, _, 1, _, rfl, rfl, SqT.of ((s2.trans s25) _ _ d1), rfl, _, rfl, _, rfl, _, rfl, (by decide : 5 ≤ sizeLine), fun tp ntp => ?_⟩
    have s9 := same_upd (o := .tup [.int ((rms ys).length : Nat), .str (Sx M.ls), .ref L, .ref O1, .ref O2]) ntp
    have h9 : (upd H5 tp (.tup [.int ((rms ys).length : Nat), .str (Sx M.ls), .ref L, .ref O1, .ref O2])) tp = some (.tup [.int ((R.length : Nat)), .str (Sx M.ls), .ref L, .ref O1, .ref O2]) := by rw [upd_same, rms_len, hyl]
    refine qq tp _ (s2.trans (s25.trans s9)) ?_
    rw [show prodD M N R = ⟨(R.length : Nat), M.ls, onceL (numWs R (prodW M.as N.as)), opnL R (prodR M.fs N.fs), opnL R (prodR M.gs N.gs)⟩ from if_neg hne]
    have s39 := s34.trans (s45.trans s9)
    exact ⟨L, O1, O2, qs, h9, s39 _ _ hL3, hQ3.same s39, hqe, (s45.trans s9) _ _ hO1, s9 _ _ hO2⟩
end
end Onp
set_option maxHeartbeats 8000000
set_option autoImplicit false
namespace Onp
open PySem PySem.Spec PyProof.Rows L2 HotX L2H LamX
section
variable {P : Program} {w : World} {K : PySem.W.Frag} {mg : Str → Option Value} {base : Heap}
/-! ### Machine(a, b, c, firsts=..) and Machine(a, b): the rest by default -/
theorem kb_first {f D D1 D2 : Addr} {fd : FuncData} (F : FunD K "__init__" "Machine.__init__" (defArgs sMInit) (defBody sMInit) (defScope sMInit) [.ref D] [("firsts", .ref D1), ("lasts", .ref D2)] f fd) :
    ∃ g : List Value → List Value → List Value, KBn K fd psMI 4 ["firsts"] g (fun vs zs => vs ++ (zs ++ [V.ref D2])) := by
  obtain ⟨its, mv, h⟩ := F.kbinds (ps := psMI) 4 ["firsts"] [("lasts", .ref D2)] (fun us _ mv ws => us ++ (ws ++ mv)) (fun z => nomatch z) (fun z => nomatch z) (fun q hq => by rw [List.mem_singleton.mp hq]; exact List.mem_cons_of_mem _ List.mem_cons_self) (fun r1 _ r3 r4 => r1.append (r4.append r3)) (fun T Dd doc pm an cdv ct us its mv ws l1 l2 l3 l4 => by
    match us, l1, its, l2, mv, l3, ws, l4 with
    | [a, b, c, d], _, [z], _, [m], _, [w], _ => exact ⟨_, rfl, ⟨_, _, _, _, _, _, rfl, rfl, rfl⟩⟩)
  exact ⟨_, h⟩
theorem kb_none {f D D1 D2 : Addr} {fd : FuncData} (F : FunD K "__init__" "Machine.__init__" (defArgs sMInit) (defBody sMInit) (defScope sMInit) [.ref D] [("firsts", .ref D1), ("lasts", .ref D2)] f fd) :
    ∃ ds, Vals [V.ref D, V.ref D1, V.ref D2] ds ∧ Binds K fd psMI ds :=
  F.binds (ps := psMI) 3 0 (fun z => nomatch z) rfl (fun T Dd doc pm an cdv ct us its ks l1 l2 l3 => by
    match us, l1, its, l2, ks, l3 with
    | [a, b, c], _, [z], _, [m, n], _ => exact ⟨_, rfl, ⟨_, _, _, _, _, _, rfl, rfl, ⟨_, _, _, _, _, _, rfl, rfl, rfl⟩⟩⟩) (fun z => nomatch z)
end
end Onp
set_option maxHeartbeats 4000000
set_option autoImplicit false
namespace Onp
open PySem PySem.Spec PyProof.Rows L2 HotX L2H LamX
/-! ### a lambda with one parameter, which has a whole number as its default and isn't used -/
abbrev dOb (q : Str) (ar : Arguments) (e : Expr) (sc : Scope) (cl : List (Str × Addr)) (T : Addr) (dc pm : Value) (c' : Addr) (ct : Value) : Obj := PySem.W.kdv_obj "<lambda>" q ar (.expr e) sc cl (.ref T) dc pm c' ct
structure LamD (sc scope : Scope) (x : Str) : Prop where
  kind : scope.kind = .function
  co : scope.isCoroutine = false
  gen : scope.isGenerator = false
  own : ∀ y ∈ scope.names, y.2 ≠ .cell ∧ (y.2 = .local → y.1 = x)
  par : scope.names.lookup x = some .local
  free : ∀ y ∈ scope.names, y.2 = .free → sc.names.lookup y.1 = some .cell ∨ sc.names.lookup y.1 = some .free
  non : ∀ y ∈ scope.names, y.1 ≠ ("" : Str)
def lamDB (sc scope : Scope) (x : Str) : Bool :=
  decide (scope.kind = .function) && !scope.isCoroutine && !scope.isGenerator && decide (scope.names.lookup x = some .local) &&
    scope.names.all fun y => !decide (y.2 = .cell) && (!decide (y.2 = .local) || decide (y.1 = x)) && !decide (y.1 = ("" : Str)) && (!decide (y.2 = .free) || decide (sc.names.lookup y.1 = some .cell) || decide (sc.names.lookup y.1 = some .free))
theorem lamD_by {sc scope : Scope} {x : Str} (h : lamDB sc scope x = true) : LamD sc scope x := by
  unfold lamDB at h
  simp only [Bool.and_eq_true, Bool.or_eq_true, Bool.not_eq_true', decide_eq_true_eq, decide_eq_false_iff_not, List.all_eq_true] at h
  obtain ⟨⟨⟨⟨h1, h2⟩, h3⟩, h5⟩, h4⟩ := h
  refine ⟨h1, h2, h3, fun y hy => ⟨(h4 y hy).1.1.1, fun z => ?_⟩, h5, fun y hy e => ?_, fun y hy => (h4 y hy).1.2⟩
  · exact (h4 y hy).1.1.2.elim (fun q => absurd z q) id
  · exact (h4 y hy).2.elim (fun q => q.elim (fun q => absurd e q) .inl) .inr
theorem LamD.has {X : Cx} {scope : Scope} {x : Str} (L : LamD X.env.scope scope x) (ok : X.Ok) : ∀ y ∈ scope.names, y.2 = .free → ∃ c, X.env.cells.lookup y.1 = some c := fun y hy e =>
  (L.free y hy e).elim (fun k => ok.has _ (.inl k)) (fun k => ok.has _ (.inr k))
def mask (x y : Str) : Str := if y = x then "" else y
def lamCxD (X : Cx) (A : Around) (outer : List Env) (s : Shared) (H : Hp) (E : XK) (scope : Scope) (f c' : Addr) (x : Str) : Cx := { lamCxN X A outer s H E scope f c' with N := X.N.map (mask x) }
section
variable {X : Cx} {pins : List (Addr × Obj)} {σ : L2.St} {H : Hp} {s : Shared}
theorem lam_makeD {T : List (Addr × Str)} {c P : Addr} {ar : Arguments} {body : Expr} {sc : Scope} {pos p0 : Pos} {z : Int} {u0 : Nat} {Er : Value → Shared → Prop} {Qv : Value → Shared → Prop} (I : Inv X pins σ H s) (TB : TabB X.base X.mg c P) (hcode : X.env.code = .ref c)
    (hm : (P, X.env.qual ++ "<lambda>") ∈ T) (hu : ∀ p ∈ T, p.1 = P → p.2 = X.env.qual ++ "<lambda>") (hT : Tabs T H) (hd1 : ar.defaults = [.Constant (.int z) u0 p0]) (hd2 : ar.kw_defaults = []) (hfree : ∀ y ∈ sc.names, y.2 = .free → ∃ c, X.env.cells.lookup y.1 = some c)
    (h : ∀ (f c' t : Addr) (dc pm ct : Value) (H1 : Hp) (s' : Shared), Inv X pins σ H1 s' → ExtN H H1 → Tabs T H1 → s'.heap.get? f = some (dOb (X.env.qual ++ "<lambda>") ar body sc (cloFrom X.env.cells sc.names []) t dc pm c' ct) →
      H1 f = none → f ∉ frs X.stack → H1 c' = some (CodeO c' (X.env.qual ++ "<lambda>")) → H1 t = some (.tup [.int z]) → Qv (.ref f) s') :
    wpAny (model X.prog X.w) X.A (eval (.Lambda ar body sc pos) X.env) Qv Er s := by
  refine PySem.W.kdv_lam (by rw [hd1]; rfl) hd2 ?_
  rw [hd1]
  refine PySem.W.kdv_all1 (wpAny_Constant_int (PySem.W.kdv_all0 ?_))
  have I1 := I.tok (s.toks + 1)
  have r1 : RelV (.int z) (.int z s.toks) := ⟨_, rfl⟩
  generalize (Value.int z s.toks) = uv at r1
  generalize ({ s with toks := s.toks + 1 } : Shared) = s1 at I1
  rw [makeFunction_eq]
  simp only [List.zip_nil_right, List.filterMap_nil, List.isEmpty_nil, if_true, pure_bind, List.isEmpty_cons, Bool.false_eq_true, if_false]
  refine wpAny_bind (wpAny_newTextTuple ?_)
  have nT : H s1.heap.objs.size = none := I1.hok.fresh (Nat.le_refl _)
  have I2 : Inv X pins σ (upd H s1.heap.objs.size (.tup [.int z])) { s1 with heap := s1.heap.push { cls := .type "tuple", data := .seq [uv].toArray } } :=
    I1.laid (t' := s1.toks) (fun b u e => Heap.get?_push_of_some _ e) (Nat.le_refl _) ⟨(by decide : 1 ≤ sizeLine), [uv], .cons r1 .nil, ⟨_, Heap.get?_push_size _ rfl, rfl, _, rfl⟩⟩
  have hT2 : Tabs T (upd H s1.heap.objs.size (.tup [.int z])) := hT.ext fun b o e => by
    rw [upd_ne (ne_of_none e nT)]
    exact e
  have e2 : ExtN H (upd H s1.heap.objs.size (.tup [.int z])) := ExtN.of fun b o e => by
    rw [upd_ne (ne_of_none e nT)]
    exact e
  have hTt : (upd H s1.heap.objs.size (.tup [.int z])) s1.heap.objs.size = some (.tup [.int z]) := upd_same
  generalize upd H s1.heap.objs.size (.tup [.int z]) = H2 at I2 hT2 e2 hTt
  generalize s1.heap.objs.size = t at hTt
  generalize ({ s1 with heap := s1.heap.push { cls := .type "tuple", data := .seq [uv].toArray } } : Shared) = s2 at I2
  obtain ⟨ps, hP, ht, ha⟩ := hT2 _ hm
  have bP : s2.heap.BuiltinsAt X.mg P := TB.bm.keeps I2.bk
  have hP' : s2.heap.get? P = some { cls := .none, data := .fields ps } := I2.hok P _ hP
  have nofr : ∀ f, s2.heap.objs.size ≤ f → f ∉ frs X.stack := fun f hf w => by
    rcases List.mem_cons.mp (I2.stkSub _ w) with e | e
    · have q := I2.lt
      rw [← e] at q
      exact absurd (Nat.lt_of_lt_of_le q hf) (Nat.lt_irrefl f)
    · exact I2.nofs hf e
  cases hc : codeAmong pos ps.toList with
  | none =>
    refine PySem.W.kdv_makeTail (mg := X.mg) (c := c) (P := P) (ps := ps) (dV := .ref t) (closure_ok hfree) I2.ok.glob (I2.mod.glob.keeps I2.bk) hcode (TB.code.keeps I2.bk) hP' ht hc TB.gP bP fun c' ct dc h' tk hx hge hlt hrec htb => ?_
    obtain ⟨c2, oc, vs, tq, e3, hoc, hd, hv⟩ := hrec
    cases e3
    have hsz : s2.heap.objs.size ≤ h'.objs.size := by omega
    have nC : H2 c' = none := I2.hok.fresh hge
    have J := inv_table (t' := tk) (more := #[rawInt pos.line, rawInt pos.col, .ref c']) (h' := h'.push (dOb (X.env.qual ++ "<lambda>") ar body sc (cloFrom X.env.cells sc.names []) t dc ((X.mg "__name__").getD .none) c' ct)) I2 hP
      (fun b o hb e => Heap.get?_push_of_some _ (hx b o hb e)) (Heap.get?_push_of_some _ htb) hge ⟨oc, vs, tq, Heap.get?_push_of_some _ hoc, hd, hv⟩
    have hE : ExtN H2 (upd (upd H2 P (.tbl (ps ++ #[rawInt pos.line, rawInt pos.col, .ref c']))) c' (CodeO c' (X.env.qual ++ "<lambda>"))) := fun b o e n => by
      rw [upd_ne (ne_of_none e nC), upd_ne (fun w => n ps (Option.some.inj (e.symm.trans (by rw [w]; exact hP))))]
      exact e
    have eL : (ps ++ #[rawInt pos.line, rawInt pos.col, .ref c']).toList = ps.toList ++ [rawInt pos.line, rawInt pos.col, .ref c'] := by simp
    refine h h'.objs.size c' t dc ((X.mg "__name__").getD .none) ct _ _ J (e2.trans hE) (fun p hp => ?_) (Heap.get?_push_size _ rfl) ?_ (nofr _ hsz) upd_same (hE _ _ hTt fun ps w => by cases w)
    · by_cases hb : p.1 = P
      · rw [hu p hp hb, hb]
        refine ⟨_, by rw [upd_ne (ne_of_none hP nC), upd_same], by rw [eL]; exact PySem.TriplesOk_snoc _ _ _ _ ht, fun p' cv hcv => ?_⟩
        rw [eL] at hcv
        rcases among_app _ ht hcv with w | w
        · obtain ⟨c0, q1, q2⟩ := ha p' cv w
          exact ⟨c0, q1, hE _ _ q2 codeO_ne⟩
        · exact ⟨c', w, upd_same⟩
      · obtain ⟨ps', a1, a2, a3⟩ := hT2 p hp
        refine ⟨ps', by rw [upd_ne (ne_of_none a1 nC), upd_ne hb]; exact a1, a2, fun p' cv hcv => ?_⟩
        obtain ⟨c0, q1, q2⟩ := a3 p' cv hcv
        exact ⟨c0, q1, hE _ _ q2 codeO_ne⟩
    · have n1 : h'.objs.size ≠ c' := by omega
      have n2 : h'.objs.size ≠ P := by
        exact Nat.ne_of_gt (Nat.lt_of_lt_of_le (Heap.lt_size hP') (by omega))
      rw [upd_ne n1, upd_ne n2]
      exact I2.hok.fresh hsz
  | some cv =>
    obtain ⟨c', e, hco⟩ := ha pos cv hc
    subst e
    refine PySem.W.kdv_makeTailHit (mg := X.mg) (c := c) (P := P) (ps := ps) (dV := .ref t) (closure_ok hfree) I2.ok.glob (I2.mod.glob.keeps I2.bk) hcode (TB.code.keeps I2.bk) hP' ht hc bP fun ct dc h' tk hx hsz => ?_
    have J : Inv X pins σ H2 { s2 with heap := h'.push (dOb (X.env.qual ++ "<lambda>") ar body sc (cloFrom X.env.cells sc.names []) t dc ((X.mg "__name__").getD .none) c' ct), toks := tk } := I2.kept fun b o e => Heap.get?_push_of_some _ (hx b o e)
    exact h h'.objs.size c' t dc ((X.mg "__name__").getD .none) ct H2 _ J e2 hT2 (Heap.get?_push_size _ rfl) (I2.hok.fresh hsz) (nofr _ hsz) hco hTt
theorem lam_startD {HZ : Hp} {s1 : Shared} {A : Around} {outer : List Env} {E : XK} {sc : Scope} {f c' : Addr} {x : Str} {uz : Value} {j : Heap} {tk : Nat} (I : Inv X pins σ H s) (L : LamD X.env.scope sc x) (e0 : Env0 X.prog X.w X.K X.mg X.base A outer s1 HZ) (hd : A.handled = none)
    (un : Un (frs X.stack) [] H HZ s.heap s1.heap) (hns : j.Ns s1.heap.objs.size fun y => ([(x, uz)] : List (Str × Value)).reverse.lookup y) (kp : ∀ b o, s1.heap.get? b = some o → j.get? b = some o) : Inv (lamCxD X A outer s1 HZ E sc f c' x) [] σ HZ { s1 with heap := j, toks := tk } := by
  have hfree := L.has I.ok
  have cm : ∀ {y c}, (cloFrom X.env.cells sc.names []).lookup y = some c → X.env.cells.lookup y = some c := fun {y c} e => by
    rcases cloFrom_mem (PySem.mem_of_lookup e) with q | ⟨q1, q2⟩
    · cases q
    · obtain ⟨c1, hc⟩ := hfree _ q1 rfl
      have hc : X.env.cells.lookup y = some c1 := hc
      rw [hc] at q2
      rw [q2]
      exact hc
  have look : ∀ {y}, sc.names.lookup y = some .free → ∃ c, (cloFrom X.env.cells sc.names []).lookup y = some c := fun {y} q => mem_lookup (cloFrom_has (cells := X.env.cells) (acc := []) (PySem.mem_of_lookup q))
  have cellK : ∀ {c : Addr} {v : Option Value}, H c = none → s.heap.IsCell c v → j.IsCell c v := fun {c v} n ⟨o, ho, hd⟩ => by
    obtain ⟨sl, q⟩ := un.any ho n (by simp)
    exact ⟨_, kp _ _ q, hd⟩
  have noA : ∀ b : Addr, b ∉ (lamCxD X A outer s1 HZ E sc f c' x).ex := fun b w => nomatch (show b ∈ ([] : List Addr) from w)
  refine ⟨⟨e0.mod, L.kind, rfl, rfl, Nat.le_refl _, fun y w c e1 e2 => I.ok.inj y w c (cm e1) (cm e2), fun y hy => ?_, fun y c w _ => ?_, fun _ => hd, Around.frames_deeper e0.frames, .inr ⟨rfl, rfl⟩, fun b w => absurd w (noA b), e0.bs, e0.bsz, fun b _ _ => noA b,
      fun b w => absurd w (noA b), e0.funs, e0.frf⟩, rfl, e0.bare, Un.kept kp, ⟨_, hns, fun i y v e1 e2 e3 => ?_⟩, fun y c e => ?_, e0.hok.fresh (Nat.le_refl _), fun y c e => ?_, fun q hq => (nomatch (show q ∈ ([] : List (Addr × Obj)) from hq)), e0.hok.kept kp, ?_⟩
  · have hy : sc.names.lookup y = some .cell ∨ sc.names.lookup y = some .free := hy
    rcases hy with hy | hy
    · exact absurd rfl (L.own _ (PySem.mem_of_lookup hy)).1
    · exact look hy
  · exact absurd (show false = true from w) (by decide)
  · have e1 : (X.N.map (mask x))[i]? = some y := e1
    rw [List.getElem?_map] at e1
    obtain ⟨y0, ey, em⟩ := Option.map_eq_some_iff.mp e1
    have e3 : Vis sc y := e3
    by_cases hx : y0 = x
    · have ym : y = "" := by
        rw [← em]
        unfold mask
        rw [if_pos hx]
      rcases e3 with k | k | k <;> exact absurd ym (L.non _ (PySem.mem_of_lookup k))
    · have ym : y0 = y := by
        rw [← em]
        unfold mask
        rw [if_neg hx]
      subst ym
      rcases e3 with k | k | k
      · exact absurd ((L.own _ (PySem.mem_of_lookup k)).2 rfl) hx
      · exact absurd rfl (L.own _ (PySem.mem_of_lookup k)).1
      · obtain ⟨m, hn, hl⟩ := I.loc
        have hf := L.free _ (PySem.mem_of_lookup k) rfl
        have hvis : Vis X.env.scope y0 := hf.elim (fun k => .inr (.inl k)) (fun k => .inr (.inr k))
        obtain ⟨u', r, q⟩ := hl i y0 v ey e2 hvis
        obtain ⟨c2, h2⟩ := look k
        refine ⟨u', r, .inr ⟨.inr k, c2, h2, ?_⟩⟩
        have c1 := cm h2
        rcases q with ⟨k', _⟩ | ⟨_, c3, e', w⟩
        · have k' : X.env.scope.names.lookup y0 = some .local := k'
          rcases hf with k2 | k2 <;> rw [show X.env.scope.names.lookup y0 = _ from k2] at k' <;> cases k'
        · rw [c1] at e'
          cases e'
          exact cellK (I.freeC y0 _ c1) w
  · obtain ⟨u', w⟩ := I.cell y c (cm e)
    exact ⟨u', cellK (I.freeC y c (cm e)) w⟩
  · obtain ⟨v, o, ho, hd⟩ := I.cell y c (cm e)
    exact un.free c o ho (I.freeC y c (cm e)) (by simp)
  · show σ.length = (X.N.map (mask x)).length
    rw [List.length_map]
    exact I.len
/-- how a default is bound -/
def BindD (ar : Arguments) (body : Expr) (sc : Scope) (x : Str) : Prop := ∀ (q : Str) (cl : List (Str × Addr)) (T : Addr) (dc pm cv ct : Value), ∃ k, bindArgs (PySem.W.kdv_fn "<lambda>" q ar (.expr body) sc cl (.ref T) dc pm cv ct) ⟨[], []⟩ = seqItems? (.ref T) >>= k ∧ ∀ u, k (some #[u]) = pure [(x, u)]
theorem pe_actD {CXg : CXT} {Eg : XK} {Ng : List Str} {qg : Str} {sg : Scope} {g f c' t : Addr} {cdg dc pm ct : Value} {ar : Arguments} {body : Expr} {sc : Scope} {k i : Nat} {a x : Str} {z : Int} {pn : List (Addr × Obj)} {xe : Value → Shared → Prop} {W : WX} {E : XK} {tb : TE} {p1 p2 : Pos}
    (I : Inv X pins σ H s) (L : LamD X.env.scope sc x) (hf : s.heap.get? f = some (dOb (X.env.qual ++ "<lambda>") ar body sc (cloFrom X.env.cells sc.names []) t dc pm c' ct)) (hfn : H f = none) (hfr : f ∉ frs X.stack) (hbind : BindD ar body sc x)
    (tk : L2N.Takes ((cxOf CXg X.prog X.w X.K X.mg X.base Ng qg sg g cdg X.A X.stack s H Eg).tr pn xe) W) (hW : ∀ cls d σ' H', E cls d H' → W cls d σ' H') (hr : Room (k + 1) (X.A.deeper (envOfC qg sg s.heap.objs.size g cdg)))
    (hbody : ∀ (A : Around) (outer : List Env) (s : Shared) (H : Hp), Room k (A.deeper (lamEnv X sc s.heap.objs.size f c')) → PE (lamCxD X A outer s H E sc f c' x) body tb)
    (hN : Ng[i]? = some a) (hv : Vis sg a) (hd : (a == ("__debug__" : Str)) = false) (hcd : (a == ("__classdict__" : Str)) = false) :
    PE ((cxOf CXg X.prog X.w X.K X.mg X.base Ng qg sg g cdg X.A X.stack s H Eg).tr pn xe) (.Call (.Name a p1) [] [] p2) (fun σZ HZ Q => σZ[i]? = some (some (.ref f)) ∧ HZ c' = some (CodeO c' (X.env.qual ++ "<lambda>")) ∧ HZ t = some (.tup [.int z]) ∧ tb σ HZ Q) := by
  refine ⟨fun pinsZ sZ σZ HZ Q IZ ⟨hs, hc, hz, ht⟩ => ?_⟩
  refine wpAny_Call_Name_kw (thn ((pe_var (pos := p1) (i := i) hN hv hd hcd).run pinsZ sZ σZ HZ (fun v H1 => v = .ref f ∧ H1 = HZ) IZ ⟨.ref f, hs, rfl, rfl⟩) fun u s1 ⟨v, H1, I1, r1, ev, eH⟩ => ?_)
  subst ev
  rw [eH] at I1
  obtain rfl : u = Value.ref f := r1
  have of1 := I1.base.keep f _ hf hfn hfr (fun w => nomatch (show f ∈ ([] : List Addr) from w))
  refine PySem.W.callWith_F0 ⟨_, _, _, _, of1⟩ ?_
  obtain ⟨⟨oc, vs, tq, hoc, hdc, hvc⟩, _, _⟩ := I1.hok c' _ hc
  obtain ⟨_, us, rz, ⟨ot, hot, hcl, n, hdt⟩⟩ := I1.hok t _ hz
  obtain ⟨uz, rfl⟩ : ∃ uz, us = [uz] := by
    cases rz with
    | cons r1 r2 =>
      cases r2
      exact ⟨_, rfl⟩
  obtain ⟨kb, b1, b2⟩ := hbind (X.env.qual ++ "<lambda>") (cloFrom X.env.cells sc.names []) t dc pm (.ref c') ct
  have rc : codeAny (model X.prog X.w) (X.A.deeper (envOfC qg sg s.heap.objs.size g cdg)) (.call (.ref f) ⟨[], []⟩) (CR (L2N.CX X.prog X.w) (envOfC qg sg s.heap.objs.size g cdg :: X.stack) X.prog X.w HZ s1 Q E) s1 := by
    refine PySem.W.kla_callFunE hr.depth of1 rfl L.co L.gen rfl ⟨c', oc, vs, tq, rfl, hoc, hdc, hvc⟩ (BindsTo.of_defaults (T := t) rfl hot hdt b1 (b2 uz) _ _ _ _ ?_)
    refine wpAny_newFunctionEnv (fun y hy => (L.own y hy).1) (fun y hy => ?_) (fun j hns hsb => ⟨I1.nolimit.fresh _ hsb, ?_⟩) L.kind
    · rw [List.mem_singleton.mp hy]
      exact L.par
    show codeAny _ _ (.expr body (lamEnv X sc s1.heap.objs.size f c')) _ _
    have kp : ∀ b o, s1.heap.get? b = some o → j.get? b = some o := fun b o e => hsb.extBut b o (Nat.ne_of_lt (Heap.lt_size e)) (Heap.get?_push_of_some _ e)
    have J : Inv (lamCxD X (X.A.deeper (envOfC qg sg s.heap.objs.size g cdg)) (envOfC qg sg s.heap.objs.size g cdg :: X.stack) s1 HZ E sc f c' x) [] σ HZ { s1 with heap := j, toks := s1.toks + ([(x, uz)] : List (Str × Value)).length } := lam_startD I L I1.env0 hr.hd I1.base hns kp
    refine PySem.W.kla_codeExpr (wpAny_mono ((hbody _ _ s1 HZ (hr.deeper _)).run [] _ _ HZ Q J ht) (fun v s' hq => ?_) fun e s' hq => hq)
    obtain ⟨w', H', J', rv, q⟩ := hq
    exact ⟨w', H', J'.os, J'.bare, J'.base, J'.hok, rv, q⟩
  have hx := L2N.passes_call tk hW
  refine wpAny_call (codeAny_mono rc fun r s' hq => ?_)
  rcases r with e | fl
  · exact hx pinsZ σZ HZ s1 e s' I1 hq
  · cases fl with
    | ret u => exact I1.after hq
    | next => exact False.elim hq
    | brk => exact False.elim hq
    | cont => exact False.elim hq
/-- what the def makes of the lambda may also be told that a fact of the heap holds -/
def Adds (TT : (XK → Hp → VK → Prop) → Hp → VK → Prop) : Prop := ∀ (c : Hp → Prop) (tl : XK → Hp → VK → Prop) (H : Hp) (Q : VK), c H → TT tl H Q → TT (fun E H' Q' => c H' ∧ tl E H' Q') H Q
theorem pe_lamD {T : List (Addr × Str)} {TT : (XK → Hp → VK → Prop) → Hp → VK → Prop} {x a y : Str} {g c P : Addr} {k : Nat} {pg : Arguments} {bg : List Stmt} {sg : Scope} {dV kV doc pm cdv ct oc : Value} {an od : Option Addr} {osl : Array (Option Value)} {Ng : List Str}
    {ar : Arguments} {body : Expr} {sc : Scope} {t : XK → TE} {z : Int} {u0 : Nat} {p p0 lpos pos : Pos} (hg : Gl X x) (hm : X.mg x = some (.ref g)) (hk : PySem.W.keepIn X.K (.ref g) = true) (lk : X.K.lookup g = some ⟨oc, od, .func (PySem.W.fnOf x x pg bg sg dV kV doc pm an cdv ct), osl⟩)
    (hcg : PySem.W.codeIn X.K cdv x = true) (hb : L2.Binds X.K (PySem.W.fnOf x x pg bg sg dV kV doc pm an cdv ct) [a] []) (Sg : FnScope Ng [a] sg) (hNg : Ng[0]? = some a) (hva : Vis sg a) (hG : GivesN X k Ng x sg g cdv bg a (X.env.qual ++ "<lambda>") TT) (hA : Adds TT)
    (TB : TabB X.base X.mg c P) (hcode : X.env.code = .ref c) (hmT : (P, X.env.qual ++ "<lambda>") ∈ T) (hu : ∀ p ∈ T, p.1 = P → p.2 = X.env.qual ++ "<lambda>") (hr : Room (k + 2) X.A) (L : LamD X.env.scope sc y) (hd1 : ar.defaults = [.Constant (.int z) u0 p0]) (hd2 : ar.kw_defaults = []) (hbind : BindD ar body sc y)
    (hbody : ∀ (A : Around) (outer : List Env) (s : Shared) (H : Hp) (E : XK) (f c' : Addr), Room k (A.deeper (lamEnv X sc s.heap.objs.size f c')) → PE (lamCxD X A outer s H E sc f c' y) body (t E))
    (hdb : (x == ("__debug__" : Str)) = false := by decide) (hd : (a == ("__debug__" : Str)) = false := by decide) (hcd : (a == ("__classdict__" : Str)) = false := by decide) : PE X (.Call (.Name x p) [.Lambda ar body sc lpos] [] pos) (tLam T TT t) := by
  refine ⟨fun pins s σ H Q I ⟨hT, h⟩ => wpAny_Call_Name_kw (ld_glob I hg hm ?_ hdb)⟩
  refine PySem.W.callWith_K (h₀ := X.base) I.ok.mod.kin hk ?_ (by rfl) (by rfl)
  show wpAny _ _ (spliced ((false, eval (.Lambda ar body sc lpos) X.env) :: backTo pos (starEach [] X.env))) _ _ s
  refine Calls.spliced_cons (lam_makeD I TB hcode hmT hu hT hd1 hd2 (L.has I.ok) fun f c' tt dc pm' ctv H1 s' I1 eN T1 hf hfn hfr hco htt => Calls.spliced_nil ⟨I1.kIn, ?_⟩)
  have rc : codeAny (model X.prog X.w) X.A (.call (.ref g) ⟨[.ref f], []⟩) (CR CX0 X.stack X.prog X.w H1 s' Q E0) s' := by
    refine run_ofS (N := Ng) (ps := [a]) (us := [.ref f]) (vs := [.ref f]) lk hcg Sg hr I1.env0 (hb s' [.ref f] I1.kIn rfl) (.cons rfl .nil) rfl fun hr' => ?_
    obtain ⟨t', ht', hq'⟩ := hG f c' s' H1 Q (fun E H' Q' => H' tt = some (.tup [.int z]) ∧ t E σ H' Q') hr' (fun W pn xe E p1 p2 tk hW => pe_actD (i := 0) I1 L hf hfn hfr hbind tk hW hr' (fun A outer s H hr2 => hbody A outer s H E f c' hr2) hNg hva hd hcd) hco (hA _ _ _ _ htt (h H1 eN T1))
    exact ⟨t', ht'.nox, hq'⟩
  refine wpAny_call (codeAny_mono rc fun r s2 hq => ?_)
  rcases r with e | fl
  · exact (show False from hq).elim
  · cases fl with
    | ret u => exact I1.after hq
    | next => exact False.elim hq
    | brk => exact False.elim hq
    | cont => exact False.elim hq
end
end Onp
set_option maxHeartbeats 8000000
set_option autoImplicit false
/-! what laws with refusals want of the heap -/
namespace Onp
open PySem PySem.Spec PyProof.Rows L2 HotX L2H LamX
theorem tabs_keep {T : List (Addr × Str)} {H H' : Hp} {g : Bid} (t : Tabs T H) (B : Bg H g) (k : Keep g.b H H') : Tabs T H' := fun p hp => by
  obtain ⟨ps, h1, h2, h3⟩ := t p hp
  obtain ⟨i, r, sd, c, hb, _⟩ := B
  refine ⟨ps, k _ _ (ne_of h1 hb (fun z => by cases z)) h1, h2, fun pos cv hc => ?_⟩
  obtain ⟨c0, e1, e2⟩ := h3 pos cv hc
  refine ⟨c0, e1, k _ _ (ne_of e2 hb (fun z => ?_)) e2⟩
  unfold CodeO bagV at z
  cases z
theorem bg_ext {H H' : Hp} {g : Bid} (B : Bg H g) (e : ExtN H H') : Bg H' g := by
  obtain ⟨i, r, sd, c, h1, h2, h3⟩ := B
  exact ⟨i, r, sd, c, e _ _ h1 (fun ps z => by cases z), e _ _ h2 (fun ps z => by cases z), h3⟩
theorem tabs_put {T : List (Addr × Str)} {H : Hp} {a : Addr} {xs ys : List V} (t : Tabs T H) (h : H a = some (.lst xs)) : Tabs T (upd H a (.lst ys)) := fun p hp => by
  obtain ⟨ps, h1, h2, h3⟩ := t p hp
  refine ⟨ps, by rw [upd_ne (ne_of h1 h (fun z => by cases z))]; exact h1, h2, fun pos cv hc => ?_⟩
  obtain ⟨c0, e1, e2⟩ := h3 pos cv hc
  refine ⟨c0, e1, ?_⟩
  rw [upd_ne (ne_of e2 h (fun z => ?_))]
  · exact e2
  · unfold CodeO at z
    cases z
theorem Bg.neSt {g : Bid} {H : Hp} {a : Addr} {xs : List ST} (B : Bg H g) (h : H a = some (.lst (xs.map fun x => V.ref x.1))) : a ≠ g.b := fun e => by
  subst e
  obtain ⟨i, r, z, c, h1, h2, h3⟩ := B
  rw [h1] at h
  unfold bagV at h
  have h' : [V.ref g.l, V.int i, V.int r, V.int z, V.int c] = xs.map fun x => V.ref x.1 := HO.lst.inj (Option.some.inj h)
  have : V.int i ∈ xs.map fun x => V.ref x.1 := by rw [← h']; simp
  obtain ⟨p, _, e⟩ := List.mem_map.mp this
  cases e
theorem MachAt.keep {K : PySem.W.Frag} {C : Addr} {H H' : Hp} {m : Addr} {M : AM} {g : Bid} (h : MachAt K C H m M) (B : Bg H g) (k : Keep g.b H H') : MachAt K C H' m M := by
  obtain ⟨dx, ta, tf, tg, D, ps, h1, h2, h3, h4, h5, h6, kvs, h7, h8, h9⟩ := h
  have B' := B
  obtain ⟨i, r, z, c, hb, _⟩ := B'
  refine ⟨dx, ta, tf, tg, D, ps, k _ _ (fun e => by rw [e, hb] at h1; cases h1) h1, k _ _ (B.neTup h2) h2, B.keepRow k h3, h4, k _ _ (B.neTup h5) h5, k _ _ (B.neTup h6) h6, kvs, k _ _ (fun e => by rw [e, hb] at h7; cases h7) h7, h8, fun r l h => ?_⟩
  obtain ⟨a, xs, ea, x1, x2, x3⟩ := h9 r l h
  exact ⟨a, xs, ea, k _ _ (B.neSt x1) x1, fun x hx => k _ _ (B.neTup (x2 x hx)) (x2 x hx), x3⟩
theorem sqT_extN {K : PySem.W.Frag} {H H' : Hp} {a : Addr} {xs : List V} (e : ExtN H H') (h : SqT K H a xs) : SqT K H' a xs := by
  rcases h with (h | ⟨o, h⟩) | h
  · exact .inl (.inl (e _ _ h (fun ps z => by cases z)))
  · exact .inl (.inr ⟨o, e _ _ h (fun ps z => by cases z)⟩)
  · exact .inr h
theorem MachAt.extN {K : PySem.W.Frag} {C : Addr} {H H' : Hp} {m : Addr} {M : AM} (h : MachAt K C H m M) (e : ExtN H H') : MachAt K C H' m M := by
  obtain ⟨dx, ta, tf, tg, D, ps, h1, h2, h3, h4, h5, h6, kvs, h7, h8, h9⟩ := h
  refine ⟨dx, ta, tf, tg, D, ps, e _ _ h1 (fun ps z => by cases z), e _ _ h2 (fun ps z => by cases z), fun p hp => sqT_extN e (h3 p hp), h4, e _ _ h5 (fun ps z => by cases z), e _ _ h6 (fun ps z => by cases z), kvs, e _ _ h7 (fun ps z => by cases z), h8, fun r l h => ?_⟩
  obtain ⟨a, xs, ea, x1, x2, x3⟩ := h9 r l h
  exact ⟨a, xs, ea, e _ _ x1 (fun ps z => by cases z), fun x hx => e _ _ (x2 x hx) (fun ps z => by cases z), x3⟩
/-- a refusal that is a word alone, as it is told -/
theorem eh_w {ec : Str → Addr} {us : List Str} {Q : VK} {H : Hp} {nm wd : Str} (hu : nm ∈ us) (hw : wordOf nm = wd) (ht : nm ≠ "TooWide") (h : ∀ H' p, Same H H' → H' p = some (.tup [.str wd, .non]) → Q (.ref p) H') : badW (ec nm) wd H (Eh ec us Q) := fun dd ndd => by
  refine ⟨nm, dd, _, hu, rfl, rfl, upd_same, by rw [hw]; rfl, fun z => absurd z ht, fun H2 p s2 np => ?_⟩
  refine h _ p (((same_upd ndd).trans s2).trans (same_upd np)) ?_
  rw [hw, upd_same]
  unfold secV
  rw [if_neg ht]
theorem same_extN {H H' : Hp} (s : Same H H') : ExtN H H' := ExtN.of s
/-- a list that was not there, put anew -/
theorem extN_put {H0 H : Hp} {a : Addr} {o : HO} (e : ExtN H0 H) (n : ∀ b o, H0 b = some o → (∀ ps, o ≠ .tbl ps) → b ≠ a) : ExtN H0 (upd H a o) := fun b o' h t => by
  rw [upd_ne (n b o' h t)]
  exact e b o' h t
theorem DrawnAt.extN {K : PySem.W.Frag} {H H' : Hp} {t : Addr} {M : AM} (h : DrawnAt K H t M) (e : ExtN H H') : DrawnAt K H' t M := by
  obtain ⟨la, lf, lg, ps, h1, h2, h3, h4, h5, h6⟩ := h
  exact ⟨la, lf, lg, ps, e _ _ h1 (fun ps z => by cases z), e _ _ h2 (fun ps z => by cases z), fun p hp => sqT_extN e (h3 p hp), h4, e _ _ h5 (fun ps z => by cases z), e _ _ h6 (fun ps z => by cases z)⟩
theorem told_adds {ec : Str → Addr} {us : List Str} : Adds (TTold ec us) := fun c tl H Q hc h => ⟨hc, h⟩
end Onp
set_option autoImplicit false
/-! the numbers of list(range(n)) -/
namespace Onp
open PySem PySem.Spec PyProof.Rows L2
theorem rgV_at {n i : Nat} {x : V} (h : (rgV 0 (n : Nat))[i]? = some x) : i < n ∧ x = .int (i : Nat) := by
  unfold rgV at h
  rw [List.getElem?_map] at h
  have hi : i < n := by
    rcases Nat.lt_or_ge i n with q | q
    · exact q
    · rw [List.getElem?_eq_none (by rw [List.length_range]; omega)] at h
      cases h
  rw [List.getElem?_range (by omega)] at h
  have e := Option.some.inj h
  exact ⟨hi, by rw [← e]; simp⟩
theorem rgV_len (n : Nat) : (rgV 0 (n : Nat)).length = n := by rw [rgV_length]; omega
def rgI (n : Nat) : List Int := (List.range n).map fun i => ((i : Nat) : Int)
theorem rgI_V (n : Nat) : rgV 0 (n : Nat) = (rgI n).map V.int := by
  refine List.ext_getElem? fun i => ?_
  rcases Nat.lt_or_ge i n with h | h
  · obtain ⟨x, hx⟩ : ∃ x, (rgV 0 (n : Nat))[i]? = some x := ⟨_, List.getElem?_eq_getElem (by rw [rgV_len]; exact h)⟩
    rw [hx, (rgV_at hx).2]
    unfold rgI
    rw [List.getElem?_map, List.getElem?_map, List.getElem?_range h]
    rfl
  · rw [List.getElem?_eq_none (by rw [rgV_len]; exact h), List.getElem?_eq_none (by simp [rgI]; exact h)]
theorem rgI_in {n : Nat} {r : Int} (h : r ∈ rgI n) : 0 ≤ r ∧ r < n := by
  obtain ⟨i, hi, rfl⟩ := List.mem_map.mp h
  have := List.mem_range.mp hi
  omega
theorem rgI_nd (n : Nat) : (rgI n).Nodup := by
  unfold rgI
  refine List.Pairwise.map _ (fun a b h => ?_) (List.nodup_range (n := n))
  intro e
  exact h (by omega)
theorem rgI_len (n : Nat) : (rgI n).length = n := by simp [rgI]
end Onp
set_option maxHeartbeats 8000000
set_option autoImplicit false
namespace Onp
open PySem PySem.Spec PyProof.Rows L2 HotX L2H LamX
abbrev sWP : Stmt := topS 69
def WQ : Str := ("_law_wide_pair" : Str) ++ ".<locals>." ++ "<lambda>"
def NWP : List Str := ["_law_one", "_law_other", "_law_every", "_law_pair", "_law_k"]
theorem scWP : FnScope NWP [] (defScope sWP) := ⟨rfl, rfl, rfl, by decide +kernel, rfl, by decide +kernel, by decide +kernel⟩
def ringA (c : Nat) : List Arw := (List.range 8).map fun k => (((k : Nat) : Int), Sx [c], "keep", (((k : Nat) : Int) + 1) % 8)
def ringM (c : Nat) : AM := ⟨8, [c], ringA c, rgI 8, [0]⟩
theorem ring_a : (ringM 97).ok := by
  refine ⟨by decide, by decide, by decide +kernel, by decide +kernel, by decide +kernel, by decide +kernel, by decide +kernel, by decide +kernel, by decide +kernel, by decide +kernel, by decide +kernel, by decide +kernel⟩
theorem ring_b : (ringM 98).ok := by
  refine ⟨by decide, by decide, by decide +kernel, by decide +kernel, by decide +kernel, by decide +kernel, by decide +kernel, by decide +kernel, by decide +kernel, by decide +kernel, by decide +kernel, by decide +kernel⟩
theorem a_eq : ("a" : Str) = Sx [97] := by decide +kernel
theorem b_eq : ("b" : Str) = Sx [98] := by decide +kernel
theorem ring_next {c i : Nat} (h : i < 8) : (ringA c).take (i + 1) = (ringA c).take i ++ [((((i : Nat) : Int), Sx [c], ("keep" : Str), (((i : Nat) : Int) + 1) % 8) : Arw)] := take_next (by
  unfold ringA
  rw [List.getElem?_map, List.getElem?_range h]
  rfl)
/-- told: unlike -/
theorem told_unlike {K : PySem.W.Frag} {C m1 m2 : Addr} {M N : AM} {ec : Str → Addr} {H : Hp} {Q Q1 : VK} (mA : MachAt K C H m1 M) (mB : MachAt K C H m2 N) (hn : M.ls ≠ N.ls) (h : ∀ r H', Same H H' → H' r = some (.tup [.str "unlike", .non]) → Q (.ref r) H') :
    spWithin K C ec [.ref m1, .ref m2] H Q1 (Eh ec ["BadSize", "BadLetters", "BadArrow", "BadRoom", "Full", "Unlike"] Q) :=
  ⟨m1, m2, M, N, [], rfl, mA, mB, fun _ => eh_w (by decide +kernel) (by decide +kernel) (by decide +kernel) fun H' r s er => h r H' s er, fun z => absurd z hn⟩
def spWP (T : List (Addr × Str)) : Sp := fun vs H Q _ => vs = [] ∧ Tabs T H ∧ ∀ H', ExtN H H' → Tabs T H' → Q (.bl true) H'
section
variable {P : Program} {w : World} {K : PySem.W.Frag} {mg : Str → Option Value} {base : Heap}
theorem ok_wp {f C fI D D1 D2 fWn fTo fKn c tS cP cM : Addr} {fdI fdWn fdTo fdKn : FuncData} {ec : Str → Addr} {TT : List (Addr × Str)} {k : Nat} {oc : Value} {od : Option Addr} {kV doc pm ct : Value} {an : Option Addr} {osl : Array (Option Value)}
    (lk : K.lookup f = some ⟨oc, od, .func (PySem.W.fnOf "_law_wide_pair" "_law_wide_pair" (defArgs sWP) (defBody sWP) (defScope sWP) .none kV doc pm an (.ref c) ct), osl⟩) (hcd : PySem.W.codeIn K (.ref c) "_law_wide_pair" = true)
    (T : MkM K mg C fdI fI [.ref D] [("firsts", .ref D1), ("lasts", .ref D2)]) (GI : FnOk P w K mg base CX0 (k + 7) fI fdI psMI (spMInit K C)) (hD2 : ∀ H, SqT K H D2 [.int 0])
    (Wn : FnM K mg fWn fdWn "within" sWithin ["machine", "sieve"]) (GW : FnOk P w K mg base (L2N.CX P w) (k + 6) fWn fdWn ["machine", "sieve"] (spWithin K C ec)) (To : FnM K mg fTo fdTo "_law_told" sTold ["_law_ask"]) (Kn : FnM K mg fKn fdKn "_law_kind" sKind ["_law_e"])
    (KD : Kd K mg ec ["BadSize", "BadLetters", "BadArrow", "BadRoom", "Full", "Unlike"] cP cM) (Bl : Blt mg) (ml : mg "list" = none) (mr : mg "range" = none) (TB : TabB base mg c tS) (hm : (tS, WQ) ∈ TT) (hu : ∀ p ∈ TT, p.1 = tS → p.2 = WQ) :
    FnOk P w K mg base CX0 (k + 9) f (PySem.W.fnOf "_law_wide_pair" "_law_wide_pair" (defArgs sWP) (defBody sWP) (defScope sWP) .none kV doc pm an (.ref c) ct) [] (spWP TT) := by
  obtain ⟨gg, KB1⟩ := kb_first T.F
  obtain ⟨oc2, od2, kV2, doc2, pm2, an2, cdv2, ct2, osl2, rfl, lkT, hcdT⟩ := To.F.ex
  refine fn_of lk hcd scWP (fun vs H Q E h => ?_) (fun A outer s H vs Q E hr h => ?_)
  · obtain ⟨rfl, _⟩ := h
    rfl
  · obtain ⟨rfl, T0, q⟩ := h
    refine ⟨_, PSs.nox (pss_cutM (ps_setLc (i := 0) (own := [("_law_k", 4)]) (g := (gName 4)) (tt := tYes) (te := (tTup (tCons (tVar 4) (tCons (tC (.str "a")) (tCons (tC (.str "keep")) (tCons (tOp (rI (fun _ j => 0 < j) fun i j => .int (i % j)) (tOp (rI0 fun i j => .int (i + j)) (tVar 4) (tC (.int 1))) (tC (.int 8))) tNil)))))) rfl scWP.nd rfl rfl (sw_true rfl rfl rfl (by decide +kernel))
          (pi_range1 (by rfl) mr (pa_cons pe_int pa_nil)) (blkOk_by (own := [("_law_k", 4)]) (N := NWP) (sc := defScope sWP) (by decide +kernel)) (fun _ _ _ _ _ => (pg_name (i := 4) scWP.nd rfl (.inl rfl)))
          (fun _ _ _ _ _ => pts_nil) (fun _ _ _ _ _ => (pe_tup (pa_cons (pv 4) (pa_cons pe_str (pa_cons pe_str (pa_cons (pe_op op_mod (pe_op op_add (pv 4) pe_int) pe_int) pa_nil)))))))
      (pss_cutM (ps_setLc (i := 1) (own := [("_law_k", 4)]) (g := (gName 4)) (tt := tYes) (te := (tTup (tCons (tVar 4) (tCons (tC (.str "b")) (tCons (tC (.str "keep")) (tCons (tOp (rI (fun _ j => 0 < j) fun i j => .int (i % j)) (tOp (rI0 fun i j => .int (i + j)) (tVar 4) (tC (.int 1))) (tC (.int 8))) tNil)))))) rfl scWP.nd rfl rfl (sw_true rfl rfl rfl (by decide +kernel))
          (pi_range1 (by rfl) mr (pa_cons pe_int pa_nil)) (blkOk_by (own := [("_law_k", 4)]) (N := NWP) (sc := defScope sWP) (by decide +kernel)) (fun _ _ _ _ _ => (pg_name (i := 4) scWP.nd rfl (.inl rfl)))
          (fun _ _ _ _ _ => pts_nil) (fun _ _ _ _ _ => (pe_tup (pa_cons (pv 4) (pa_cons pe_str (pa_cons pe_str (pa_cons (pe_op op_mod (pe_op op_add (pv 4) pe_int) pe_int) pa_nil)))))))
      (pss_cons (ps_set (i := 2) scWP.nd rfl (.inl rfl) (pe_listRg rfl (by rfl) ml (prg_1 (by rfl) mr pe_int)))
      (pss_cutM (ps_set (i := 3) scWP.nd rfl (.inr rfl) (pe_lst (pa_cons (pe_makeN (n := 3) (ks := ["firsts"]) T.mak GI hr (by rfl) T.g KB1 pass0 (pa_cons pe_int (pa_cons pe_str (pa_cons (pv 0) pa_nil))) (pk_cons (pv 2) pk_nil)) (pa_cons (pe_makeN (n := 3) (ks := ["firsts"]) T.mak GI hr (by rfl) T.g KB1 pass0 (pa_cons pe_int (pa_cons pe_str (pa_cons (pv 1) pa_nil))) (pk_cons (pv 2) pk_nil)) pa_nil))))
      (pss_one (ps_ret (pe_cmpR (op_eqD hr.units) (pe_lamN (k := k + 6) (T := TT) (TT := TTold ec ["BadSize", "BadLetters", "BadArrow", "BadRoom", "Full", "Unlike"]) (t := fun E => tCall (spWithin K C ec) [] E (tCons (tOp (rIxL K) (tVar 3) (tC (.int 0))) (tCons (tOp (rIxL K) (tVar 3) (tC (.int 1))) tNil))) (by rfl) To.g To.F.kp lkT hcdT To.b scTold rfl (.inl rfl)
              (told_gives KD ⟨by decide +kernel, by decide +kernel⟩ (fun z => absurd z (by decide +kernel)) Kn.F Kn.b Kn.g Bl.isi Bl.zip) TB rfl hm hu hr (show LamS (defScope sWP) _ from lamS_by (by decide +kernel)) rfl (fun _ _ _ _ _ => rfl)
              (fun A outer s H E f c' hr2 => (pe_call (E := E) GW hr2 (by rfl) Wn.g Wn.F.kp Wn.b .nil (L2N.passes_call (L2N.takes_of (E := E) rfl rfl rfl rfl) fun _ _ _ _ z => z) (pa_cons (pe_ix ix_list (pv 3) pe_int (fun _ _ => rfl)) (pa_cons (pe_ix ix_list (pv 3) pe_int (fun _ _ => rfl)) pa_nil))))) (pe_tup (pa_cons pe_str (pa_cons pe_non pa_nil))) (nomark _)))))))), ?_⟩
    have hbig : 50000 ≤ sizeLine := by decide
    refine ⟨fun σ' H' => ∃ (L0 : Addr) (qs0 : List AR), σ' = [some (.ref L0), none, none, none, none] ∧ Same H H' ∧ H' L0 = some (.lst (rfs qs0)) ∧ RowAt K H' qs0 ∧ qs0.map (·.2) = ringA 97, ?_, ?_⟩
    · refine ⟨8, rfl, by decide, by decide, fun D nD => ?_⟩
      refine lc_range (lo := 0) (n := 8) (fun i H' => Same H H' ∧ ∃ qs : List AR, H' D = some (.lst (aks qs)) ∧ AkAt H' qs ∧ qs.length ≤ i ∧ qs.map (·.2) = (ringA 97).take i) ⟨same_upd nD, [], upd_same, (fun _ h => nomatch h), Nat.le_refl _, rfl⟩ (fun i H' hi hI => ?_) (fun H5 hI => ?_)
      · obtain ⟨sm, qs, hD, hQ, hql, hqe⟩ := hI
        have hi : i < 8 := hi
        refine ⟨rfl, ?_⟩
        refine yes2 ?_
        refine ⟨_, rfl, _, rfl, _, _, rfl, rfl, _, _, rfl, rfl, (by decide : (0 : Int) < 8), (by decide : 4 ≤ sizeLine), fun t nt => ?_⟩
        obtain ⟨acc, a1, a2, a3, a4, a5⟩ := grow_ak (x := ((0 + (i : Int)), "a", "keep", (0 + (i : Int) + 1) % 8)) nD sm hD hQ (by omega) nt
        exact ⟨acc, a1, a2, a3, _, a4, a5, by rw [List.length_append]; exact Nat.succ_le_succ hql, by rw [List.map_append, hqe, ring_next (c := 97) hi, ← a_eq]; simp only [List.map_cons, List.map_nil, Int.zero_add]⟩
      · obtain ⟨sm, qs, hD, hQ, hql, hqe⟩ := hI
        exact ⟨D, qs, rfl, sm, hD, hQ.row, by rw [hqe]; exact List.take_of_length_le (by decide +kernel)⟩
    rintro σ H1 ⟨L0, qs0, rfl, s01, hL0, hQ0, he0⟩
    refine ⟨fun σ' H' => ∃ (L1 : Addr) (qs1 : List AR), σ' = [some (.ref L0), some (.ref L1), none, none, none] ∧ Same H1 H' ∧ H' L1 = some (.lst (rfs qs1)) ∧ RowAt K H' qs1 ∧ qs1.map (·.2) = ringA 98, ?_, ?_⟩
    · refine ⟨8, rfl, by decide, by decide, fun D nD => ?_⟩
      refine lc_range (lo := 0) (n := 8) (fun i H' => Same H1 H' ∧ ∃ qs : List AR, H' D = some (.lst (aks qs)) ∧ AkAt H' qs ∧ qs.length ≤ i ∧ qs.map (·.2) = (ringA 98).take i) ⟨same_upd nD, [], upd_same, (fun _ h => nomatch h), Nat.le_refl _, rfl⟩ (fun i H' hi hI => ?_) (fun H5 hI => ?_)
      · obtain ⟨sm, qs, hD, hQ, hql, hqe⟩ := hI
        have hi : i < 8 := hi
        refine ⟨rfl, ?_⟩
        refine yes2 ?_
        refine ⟨_, rfl, _, rfl, _, _, rfl, rfl, _, _, rfl, rfl, (by decide : (0 : Int) < 8), (by decide : 4 ≤ sizeLine), fun t nt => ?_⟩
        obtain ⟨acc, a1, a2, a3, a4, a5⟩ := grow_ak (x := ((0 + (i : Int)), "b", "keep", (0 + (i : Int) + 1) % 8)) nD sm hD hQ (by omega) nt
        exact ⟨acc, a1, a2, a3, _, a4, a5, by rw [List.length_append]; exact Nat.succ_le_succ hql, by rw [List.map_append, hqe, ring_next (c := 98) hi, ← b_eq]; simp only [List.map_cons, List.map_nil, Int.zero_add]⟩
      · obtain ⟨sm, qs, hD, hQ, hql, hqe⟩ := hI
        exact ⟨D, qs, rfl, sm, hD, hQ.row, by rw [hqe]; exact List.take_of_length_le (by decide +kernel)⟩
    rintro σ H2 ⟨L1, qs1, rfl, s12, hL1, hQ1, he1⟩
    -- every
    refine ⟨8, rfl, ⟨by decide, by decide⟩, fun E nE => ?_⟩
    have s23 := same_upd (o := .lst (rgV 0 8)) nE
    have hE : (upd H2 E (.lst (rgV 0 8))) E = some (.lst ((rgI 8).map V.int)) := by rw [upd_same]; exact congrArg (fun z => some (HO.lst z)) (rgI_V 8)
    generalize upd H2 E (.lst (rgV 0 8)) = H3 at s23 hE
    -- the pair
    refine ⟨fun σ' H' => ∃ (l m1 m2 : Addr), σ' = [some (.ref L0), some (.ref L1), some (.ref E), some (.ref l), none] ∧ Same H3 H' ∧ H' l = some (.lst [.ref m1, .ref m2]) ∧ MachAt K C H' m1 (ringM 97).srt ∧ MachAt K C H' m2 (ringM 98).srt, ?_, ?_⟩
    · refine ⟨_, rfl, _, rfl, rfl, rfl, fun xa dxa nxa ndxa nea => ?_⟩
      have sxa : Same H3 (upd (upd H3 dxa (.own xa)) xa (.ins C dxa [])) := fun b o hb => by
        rw [upd_ne (ne_of_none hb nxa), upd_ne (ne_of_none hb ndxa)]
        exact hb
      refine ⟨xa, dxa, L0, E, D2, qs0, ringM 97, by rw [show (ringM 97).ls = [97] from rfl, ← a_eq]; rfl, upd_same, .inl (SqL.of (sxa _ _ ((s12.trans s23) _ _ hL0))), (hQ0.same (s12.trans s23)).same sxa, he0, .inl (SqL.of (sxa _ _ (hE))), .inr (hD2 _), ring_a, fun Ha ka mma => ⟨rfl, ?_⟩⟩
      have sa : Same H3 Ha := fun b o hb => ka _ _ (ne_of_none hb nxa) (sxa _ _ hb)
      refine ⟨_, rfl, _, rfl, rfl, rfl, fun xb dxb nxb ndxb neb => ?_⟩
      have sxb : Same Ha (upd (upd Ha dxb (.own xb)) xb (.ins C dxb [])) := fun b o hb => by
        rw [upd_ne (ne_of_none hb nxb), upd_ne (ne_of_none hb ndxb)]
        exact hb
      refine ⟨xb, dxb, L1, E, D2, qs1, ringM 98, by rw [show (ringM 98).ls = [98] from rfl, ← b_eq]; rfl, upd_same, .inl (SqL.of (sxb _ _ ((s23.trans sa) _ _ hL1))), (hQ1.same (s23.trans sa)).same sxb, he1, .inl (SqL.of (sxb _ _ (sa _ _ hE))), .inr (hD2 _), ring_b, fun Hb kb mmb => ⟨rfl, ?_⟩⟩
      have sb : Same Ha Hb := fun b o hb => kb _ _ (ne_of_none hb nxb) (sxb _ _ hb)
      refine ⟨(by decide : 2 ≤ sizeLine), fun l nl => ?_⟩
      have sl := same_upd (o := .lst [.ref xa, .ref xb]) nl
      exact ⟨l, xa, xb, rfl, sa.trans (sb.trans sl), upd_same, (mma.same sb).same sl, mmb.same sl⟩
    rintro σ H4 ⟨l, m1, m2, rfl, s34, hl, mA, mB⟩
    have s04 := s01.trans (s12.trans (s23.trans s34))
    -- unlike
    refine ⟨T0.ext s04, fun H5 x5 T5 => ?_⟩
    have hl5 := x5 _ _ hl (fun ps z => by cases z)
    refine ⟨_, rfl, l, _, 0, _, rfl, rfl, SqL.of hl5, rfl, _, rfl, l, _, 1, _, rfl, rfl, SqL.of hl5, rfl, ?_⟩
    dsimp only [tNil, List.append_nil]
    refine told_unlike (mA.extN x5) (mB.extN x5) (by decide +kernel) fun r H6 s6 er => ?_
    refine ⟨(by decide : 2 ≤ sizeLine), fun tq ntq => ?_⟩
    have s7 := same_upd (o := .tup [.str "unlike", .non]) ntq
    refine ⟨.tuple [.str "unlike", .none], .tuple [.str "unlike", .none], .tup (SqT.of (s7 _ _ er)) (.cons (.str _) (.cons .non .nil)), .tup (SqT.of upd_same) (.cons (.str _) (.cons .non .nil)), by decide +kernel, by decide +kernel, ?_⟩
    rw [show PyData.eqv (.tuple [.str "unlike", .none]) (.tuple [.str "unlike", .none]) = true by decide +kernel]
    exact q _ ((same_extN s04).trans (x5.trans (same_extN (s6.trans s7)))) (T5.ext (s6.trans s7))
end
end Onp
set_option maxHeartbeats 8000000
set_option autoImplicit false
/-! what laws want of a machine that is drawn: it stays good as it is sorted -/
namespace Onp
open PySem PySem.Spec PyProof.Rows L2
theorem few8 {n : Int} (hn : n ≤ 8) {l : List Int} (h : l.Nodup) (hb : ∀ r ∈ l, rooB n r = true) : l.length ≤ 8 :=
  nd_le l [0, 1, 2, 3, 4, 5, 6, 7] h fun x hx => by
    have h := hb x hx
    unfold rooB at h
    rw [Bool.and_eq_true, decide_eq_true_eq, decide_eq_true_eq] at h
    simp only [List.mem_cons, List.not_mem_nil, or_false]
    omega
theorem srt_ok {M : AM} (h : M.ok) : M.srt.ok := by
  obtain ⟨h1, h2, h3, h4, h5, h6, h7, h8, h9, h10, h11, h12⟩ := h
  have pa : (sortA M.as).Perm M.as := List.mergeSort_perm ..
  have pf : (sortI M.fs).Perm M.fs := List.mergeSort_perm ..
  have pg : (sortI M.gs).Perm M.gs := List.mergeSort_perm ..
  exact ⟨h1, h2, h3, fun a ha => h4 a (pa.mem_iff.mp ha), pa.nodup_iff.mpr h5, by show (sortA M.as).length ≤ 40; rw [pa.length_eq]; exact h6, fun r hr => h7 r (pf.mem_iff.mp hr), pf.nodup_iff.mpr h8, fun r hr => h9 r (pg.mem_iff.mp hr), pg.nodup_iff.mpr h10, by show (sortI M.fs).length ≤ 100; rw [pf.length_eq]; exact h11, by show (sortI M.gs).length ≤ 100; rw [pg.length_eq]; exact h12⟩
theorem am_ext {A B : AM} (h1 : A.n = B.n) (h2 : A.ls = B.ls) (h3 : A.as = B.as) (h4 : A.fs = B.fs) (h5 : A.gs = B.gs) : A = B := by
  cases A
  cases B
  cases h1
  cases h2
  cases h3
  cases h4
  cases h5
  rfl
theorem pA (as : List Arw) : (sortA as).Perm as := List.mergeSort_perm ..
theorem pI (as : List Int) : (sortI as).Perm as := List.mergeSort_perm ..
theorem arrB_iff {n : Int} {ls : List Nat} {a : Arw} : arrB n ls a = true ↔ (((0 ≤ a.1 ∧ a.1 < n) ∧ (0 ≤ a.2.2.2 ∧ a.2.2.2 < n)) ∧ (ls.any fun c => decide (a.2.1 = Sx [c])) = true) ∧ a.2.2.1 ∈ deedsL := by
  unfold arrB
  simp only [Bool.and_eq_true, decide_eq_true_eq]
theorem roo_iff {n r : Int} : rooB n r = true ↔ 0 ≤ r ∧ r < n := by
  unfold rooB
  rw [Bool.and_eq_true, decide_eq_true_eq, decide_eq_true_eq]
theorem iteNF {c A B : Prop} [Decidable c] (hc : ¬ c) (h : A) : if (!decide c) = true then A else B := by
  rw [decide_eq_false hc]
  exact iteT h
theorem lt_srt {M : AM} (ok : M.ok) : ∀ x ∈ M.srt.as, x.2.1.length ≤ sizeLine := fun x hx => by
  have h := (arrB_iff.mp (ok.2.2.2.1 x ((pA M.as).mem_iff.mp hx))).1.2
  obtain ⟨c, _, e⟩ := List.any_eq_true.mp h
  rw [of_decide_eq_true e, sx_len]
  exact (by decide : 1 ≤ sizeLine)
end Onp
set_option maxHeartbeats 8000000
set_option autoImplicit false
namespace Onp
open PySem PySem.Spec PyProof.Rows L2
abbrev sLTells : Stmt := topS 65
theorem eqvAll_A : ∀ as bs : List Arw, PyData.eqvAll (as.map adat) (bs.map adat) = decide (as = bs)
  | [], [] => by simp [PyData.eqvAll]
  | [], _ :: _ => by simp [PyData.eqvAll]
  | _ :: _, [] => by simp [PyData.eqvAll]
  | a :: r, b :: t => by
    show PyData.eqvAll (adat a :: r.map adat) (adat b :: t.map adat) = _
    rw [PyData.eqvAll, eqv_adat, eqvAll_A r t, Bool.eq_iff_iff]
    simp only [Bool.and_eq_true, decide_eq_true_eq, List.cons.injEq]
theorem eqvAll_I : ∀ as bs : List Int, PyData.eqvAll (as.map PyData.int) (bs.map PyData.int) = decide (as = bs)
  | [], [] => by simp [PyData.eqvAll]
  | [], _ :: _ => by simp [PyData.eqvAll]
  | _ :: _, [] => by simp [PyData.eqvAll]
  | a :: r, b :: t => by
    show PyData.eqvAll (.int a :: r.map .int) (.int b :: t.map .int) = _
    rw [PyData.eqvAll, eqvAll_I r t, Bool.eq_iff_iff]
    simp only [Bool.and_eq_true, decide_eq_true_eq, List.cons.injEq, PyData.eqv, beq_iff_eq]
def eqM (M N : AM) : Bool := decide (M.n = N.n) && (decide (M.ls = N.ls) && (decide (M.as = N.as) && (decide (M.fs = N.fs) && decide (M.gs = N.gs))))
def AM.okS (M : AM) : Prop := ∀ a ∈ M.as, Onp.okS a
/-- a drawn machine as data -/
def ddat (M : AM) : PyData := .tuple [.int M.n, .str (Sx M.ls), .list (M.as.map adat), .list (M.fs.map .int), .list (M.gs.map .int)]
theorem dp_drawn {K : PySem.W.Frag} {H : Hp} {t : Addr} {M : AM} (h : DrawnAt K H t M) : Dp K H (.ref t) (ddat M) := by
  obtain ⟨la, lf, lg, ps, h1, h2, h3, h4, h5, h6⟩ := h
  refine .tup (SqT.of h1) (.cons (.int _) (.cons (.str _) (.cons (.lst (SqL.of h2) ?_) (.cons (.lst (SqL.of h5) (dpInts _)) (.cons (.lst (SqL.of h6) (dpInts _)) .nil)))))
  rw [← h4]
  exact dpRow h3
theorem eqv_ddat (M N : AM) : PyData.eqv (ddat M) (ddat N) = eqM M N := by
  unfold ddat eqM
  simp only [PyData.eqv, PyData.eqvAll, eqvAll_A, eqvAll_I, Bool.and_true]
  congr 1
  congr 1
  rw [Bool.eq_iff_iff, beq_iff_eq, decide_eq_true_eq]
  exact ⟨sx_inj, fun e => by rw [e]⟩
theorem small_lt : ∀ c ∈ smallL, c < 0x110000 := by decide
theorem sx_ok {ls : List Nat} (h : letB ls = true) : PyData.strOk (Sx ls) = true := by
  unfold PyData.strOk
  rw [← Array.all_toList, sx_cps, List.all_eq_true]
  exact fun c hc => decide_eq_true (small_lt c (letB_small h c hc))
theorem sh_ddat {M : AM} (h : M.okS) (hl : letB M.ls = true) : SeqAt.shaped (ddat M) = true := by
  unfold SeqAt.shaped
  have h1 : (ddat M).canLay0 = true := by
    unfold ddat
    simp only [PyData.canLay0, PyData.canLayAll0, lay_row h, lay_ints, sx_ok hl, Bool.and_true]
  have h2 : (ddat M).depth ≤ 64 := by
    unfold ddat
    simp only [PyData.depth, PyData.depthAll, PySem.W.depth_ints]
    have := dep_row M.as
    omega
  rw [h1, decide_eq_true h2]
  rfl
theorem mem_sortA {as : List Arw} {a : Arw} : a ∈ sortA as ↔ a ∈ as := by
  unfold sortA
  exact (List.mergeSort_perm as _).mem_iff
theorem ok_okS {M : AM} (h : M.ok) : M.okS := fun a ha => arrB_okS h.2.2.1 (h.2.2.2.1 a ha)
theorem ok_okS' {M : AM} (h : M.ok) : M.srt.okS := fun a ha => ok_okS h a (mem_sortA.mp ha)
theorem sortA_len (as : List Arw) : (sortA as).length = as.length := by
  unfold sortA
  exact List.length_mergeSort ..
theorem lvl_ddat {M : AM} (h1 : M.as.length ≤ 1000) (h2 : M.fs.length ≤ 1000) (h3 : M.gs.length ≤ 1000) : Lvl 3 (ddat M) := by
  refine ⟨by show 5 ≤ 1000; decide, fun d hd => ?_⟩
  simp only [List.mem_cons, List.not_mem_nil, or_false] at hd
  rcases hd with rfl | rfl | rfl | rfl | rfl
  · exact True.intro
  · exact True.intro
  · refine ⟨by rw [List.length_map]; exact h1, fun d hd => ?_⟩
    obtain ⟨a, _, rfl⟩ := List.mem_map.mp hd
    refine ⟨by show 4 ≤ 1000; decide, fun d hd => ?_⟩
    simp only [List.mem_cons, List.not_mem_nil, or_false] at hd
    rcases hd with rfl | rfl | rfl | rfl <;> exact True.intro
  · refine ⟨by rw [List.length_map]; exact h2, fun d hd => ?_⟩
    obtain ⟨a, _, rfl⟩ := List.mem_map.mp hd
    exact True.intro
  · refine ⟨by rw [List.length_map]; exact h3, fun d hd => ?_⟩
    obtain ⟨a, _, rfl⟩ := List.mem_map.mp hd
    exact True.intro
section
variable {P : Program} {w : World} {K : PySem.W.Frag} {mg : Str → Option Value} {base : Heap}
/-! ### _law_tells -/
theorem scLTells : FnScope ["_law_made_here"] ["_law_made_here"] (defScope sLTells) := ⟨rfl, rfl, rfl, by decide +kernel, rfl, by decide +kernel, by decide +kernel⟩
def spLTells (K : PySem.W.Frag) (C : Addr) : Sp := fun vs H Q _ => ∃ (a : Addr) (M : AM), vs = [.ref a] ∧ MachAt K C H a M ∧ ∀ (t : Addr) H', Same H H' → DrawnAt K H' t M → Q (.ref t) H'
theorem ok_ltells {f C fRm fLt fAr fFs fLs : Addr} {fd fdRm fdLt fdAr fdFs fdLs : FuncData} {k : Nat} (F : Fun K "_law_tells" "_law_tells" sLTells f fd) (T : ClsM K C)
    (FRm : Fun K "rooms" "Machine.rooms" sMRooms fRm fdRm) (bRm : Binds K fdRm ["self"] []) (mRm : Meth K C "rooms" fRm) (FLt : Fun K "letters" "Machine.letters" sMLets fLt fdLt) (bLt : Binds K fdLt ["self"] []) (mLt : Meth K C "letters" fLt) (FAr : Fun K "arrows" "Machine.arrows" sMArrs fAr fdAr) (bAr : Binds K fdAr ["self"] []) (mAr : Meth K C "arrows" fAr)
    (FFs : Fun K "firsts" "Machine.firsts" sMFsts fFs fdFs) (bFs : Binds K fdFs ["self"] []) (mFs : Meth K C "firsts" fFs) (FLs : Fun K "lasts" "Machine.lasts" sMLsts fLs fdLs) (bLs : Binds K fdLs ["self"] []) (mLs : Meth K C "lasts" fLs) (ml : mg "list" = none) : FnOk P w K mg base CX0 (k + 2) f fd ["_law_made_here"] (spLTells K C) := by
  have G1 : FnOk P w K mg base CX0 (k + 1) fRm fdRm ["self"] (spMRooms K C) := ok_mrooms FRm T
  have G2 : FnOk P w K mg base CX0 (k + 1) fLt fdLt ["self"] (spMLets K C) := ok_mlets FLt T
  have G3 : FnOk P w K mg base CX0 (k + 1) fAr fdAr ["self"] (spMArrs K C) := ok_marrs FAr T ml
  have G4 : FnOk P w K mg base CX0 (k + 1) fFs fdFs ["self"] (spMFsts K C) := ok_mfsts FFs T ml
  have G5 : FnOk P w K mg base CX0 (k + 1) fLs fdLs ["self"] (spMLsts K C) := ok_mlsts FLs T ml
  refine F.ok scLTells (fun vs H Q E h => ?_) (fun cdv A outer s H vs Q E hr h => ?_)
  · obtain ⟨a, M, rfl, _⟩ := h
    rfl
  · obtain ⟨a, M, rfl, mA, q⟩ := h
    obtain ⟨dx, ta, tf, tg, D0, ps0, h1, hrest⟩ := id mA
    refine ⟨_, pss_one (ps_ret (pe_tup (pa_cons (pe_meth0 (pv 0) T.cl mRm G1 hr bRm .nil pass0) (pa_cons (pe_meth0 (pv 0) T.cl mLt G2 hr bLt .nil pass0) (pa_cons (pe_meth0 (pv 0) T.cl mAr G3 hr bAr .nil pass0) (pa_cons (pe_meth0 (pv 0) T.cl mFs G4 hr bFs .nil pass0) (pa_cons (pe_meth0 (pv 0) T.cl mLs G5 hr bLs .nil pass0) pa_nil))))))), ?_⟩
    refine ⟨_, rfl, a, dx, _, rfl, h1, mfl_none (by decide +kernel), a, M, rfl, mA, ?_⟩
    refine ⟨_, rfl, a, dx, _, rfl, h1, mfl_none (by decide +kernel), a, M, rfl, mA, ?_⟩
    refine ⟨_, rfl, a, dx, _, rfl, h1, mfl_none (by decide +kernel), a, M, rfl, mA, fun l1 ps nl1 hR he => ?_⟩
    have s1 := same_upd (o := .lst (rfs ps)) nl1
    refine ⟨_, rfl, a, dx, _, rfl, s1 _ _ h1, mfl_none (by decide +kernel), a, M, rfl, mA.same s1, fun l2 nl2 => ?_⟩
    have s2 := same_upd (o := .lst (M.fs.map V.int)) nl2
    refine ⟨_, rfl, a, dx, _, rfl, s2 _ _ (s1 _ _ h1), mfl_none (by decide +kernel), a, M, rfl, (mA.same s1).same s2, fun l3 nl3 => ?_⟩
    have s3 := same_upd (o := .lst (M.gs.map V.int)) nl3
    refine ⟨(by decide : 5 ≤ sizeLine), fun t nt => ?_⟩
    have s4 := same_upd (o := .tup [.int M.n, .str (Sx M.ls), .ref l1, .ref l2, .ref l3]) nt
    have sS := s1.trans (s2.trans (s3.trans s4))
    exact q t _ sS ⟨l1, l2, l3, ps, upd_same, s4 _ _ (s3 _ _ (s2 _ _ upd_same)), hR.same sS, he, s4 _ _ (s3 _ _ upd_same), s4 _ _ upd_same⟩
end
end Onp
set_option maxHeartbeats 8000000
set_option autoImplicit false
namespace Onp
open PySem PySem.Spec PyProof.Rows L2 HotX L2H LamX
/-! ### the machine within, by the program and by the law -/
theorem Rch.monoW {κ : Type} {S S' : List κ} {E E' : List (κ × κ)} (hS : ∀ x, x ∈ S → x ∈ S') (hE : ∀ e, e ∈ E → e ∈ E') {x : κ} (h : Rch S E x) : Rch S' E' x := by
  induction h with
  | start h => exact .start (hS _ h)
  | step _ h ih => exact ih.step (hE _ h)
theorem prodR_iff {xs xs' ys ys' : List Int} (h1 : ∀ x, x ∈ xs ↔ x ∈ xs') (h2 : ∀ x, x ∈ ys ↔ x ∈ ys') (r : Rm) : r ∈ prodR xs ys ↔ r ∈ prodR xs' ys' := by
  unfold prodR
  rw [List.mem_map, List.mem_map]
  constructor
  · rintro ⟨z, hz, e⟩
    have h := prG_mem.mp hz
    exact ⟨z, prG_mem.mpr ⟨(h1 _).mp h.1, (h2 _).mp h.2⟩, e⟩
  · rintro ⟨z, hz, e⟩
    have h := prG_mem.mp hz
    exact ⟨z, prG_mem.mpr ⟨(h1 _).mpr h.1, (h2 _).mpr h.2⟩, e⟩
theorem prodW_iff {as as' bs bs' : List Arw} (h1 : ∀ x, x ∈ as ↔ x ∈ as') (h2 : ∀ x, x ∈ bs ↔ x ∈ bs') (w : WA) : w ∈ prodW as bs ↔ w ∈ prodW as' bs' := by
  unfold prodW
  rw [List.mem_map, List.mem_map]
  constructor
  · rintro ⟨z, hz, e⟩
    obtain ⟨hz, hc⟩ := List.mem_filter.mp hz
    have h := prG_mem.mp hz
    exact ⟨z, List.mem_filter.mpr ⟨prG_mem.mpr ⟨(h1 _).mp h.1, (h2 _).mp h.2⟩, hc⟩, e⟩
  · rintro ⟨z, hz, e⟩
    obtain ⟨hz, hc⟩ := List.mem_filter.mp hz
    have h := prG_mem.mp hz
    exact ⟨z, List.mem_filter.mpr ⟨prG_mem.mpr ⟨(h1 _).mpr h.1, (h2 _).mpr h.2⟩, hc⟩, e⟩
theorem edW_iff {ws ws' : List WA} (h : ∀ w, w ∈ ws ↔ w ∈ ws') (e : Rm × Rm) : e ∈ edW ws ↔ e ∈ edW ws' := by
  unfold edW
  rw [List.mem_map, List.mem_map]
  constructor
  · rintro ⟨z, hz, e⟩
    exact ⟨z, (h z).mp hz, e⟩
  · rintro ⟨z, hz, e⟩
    exact ⟨z, (h z).mpr hz, e⟩
theorem numWs_iff {R : List Rm} {ws ws' : List WA} (h : ∀ w, w ∈ ws ↔ w ∈ ws') (x : Arw) : x ∈ numWs R ws ↔ x ∈ numWs R ws' := by
  unfold numWs
  rw [List.mem_map, List.mem_map]
  constructor
  · rintro ⟨z, hz, e⟩
    obtain ⟨hz, hc⟩ := List.mem_filter.mp hz
    exact ⟨z, List.mem_filter.mpr ⟨(h z).mp hz, hc⟩, e⟩
  · rintro ⟨z, hz, e⟩
    obtain ⟨hz, hc⟩ := List.mem_filter.mp hz
    exact ⟨z, List.mem_filter.mpr ⟨(h z).mpr hz, hc⟩, e⟩
theorem once_permI {κ : Type} [DecidableEq κ] {as bs : List κ} (h : ∀ x, x ∈ as ↔ x ∈ bs) : (onceL as).Perm (onceL bs) :=
  (List.perm_ext_iff_of_nodup (onceL_nd _) (onceL_nd _)).mpr fun x => by rw [onceL_mem, onceL_mem]; exact h x
theorem rch_srt (M N : AM) (x : Rm) : Rch (prodR M.srt.fs N.srt.fs) (edW (prodW M.srt.as N.srt.as)) x ↔ Rch (prodR M.fs N.fs) (edW (prodW M.as N.as)) x := by
  have h1 := prodR_iff (xs := M.srt.fs) (ys := N.srt.fs) (fun x => (pI M.fs).mem_iff) (fun x => (pI N.fs).mem_iff)
  have h2 := edW_iff (prodW_iff (as := M.srt.as) (bs := N.srt.as) (fun x => (pA M.as).mem_iff) (fun x => (pA N.as).mem_iff))
  exact ⟨fun h => h.monoW (fun x => (h1 x).mp) (fun e => (h2 e).mp), fun h => h.monoW (fun x => (h1 x).mpr) (fun e => (h2 e).mpr)⟩
theorem idx_in {R : List Rm} {r : Rm} (h : r ∈ R) : R.idxOf r < R.length ∧ R.getD (R.idxOf r) [] = r := by
  have hl : R.idxOf r < R.length := List.idxOf_lt_length_of_mem h
  refine ⟨hl, ?_⟩
  rw [List.getD_eq_getElem?_getD, List.getElem?_eq_getElem hl]
  exact List.getElem_idxOf hl
theorem numR_mem {R S : List Rm} {j : Int} : j ∈ numR R S ↔ ∃ r, r ∈ S ∧ r ∈ R ∧ numQ R r = j := by
  unfold numR
  rw [List.mem_map]
  constructor
  · rintro ⟨r, hr, e⟩
    obtain ⟨h1, h2⟩ := List.mem_filter.mp hr
    exact ⟨r, h1, of_decide_eq_true h2, e⟩
  · rintro ⟨r, h1, h2, e⟩
    exact ⟨r, List.mem_filter.mpr ⟨h1, decide_eq_true h2⟩, e⟩
theorem numQ_inj {R : List Rm} {a b : Rm} (ha : a ∈ R) (hb : b ∈ R) (e : numQ R a = numQ R b) : a = b := by
  unfold numQ at e
  have e2 : R.idxOf a = R.idxOf b := by omega
  rw [← (idx_in ha).2, ← (idx_in hb).2, e2]
theorem numR_nd {R S : List Rm} (hS : S.Nodup) : (numR R S).Nodup := by
  unfold numR
  refine List.pairwise_map.mpr ((hS.filter _).imp_of_mem fun {a b} ha hb hne e => ?_)
  exact hne (numQ_inj (of_decide_eq_true (List.mem_filter.mp ha).2) (of_decide_eq_true (List.mem_filter.mp hb).2) e)
theorem opnL_mem {R S : List Rm} {j : Int} : j ∈ opnL R S ↔ ∃ i : Nat, i < R.length ∧ R.getD i [] ∈ S ∧ ((i : Nat) : Int) = j := by
  unfold opnL
  rw [List.mem_map]
  constructor
  · rintro ⟨i, hi, e⟩
    obtain ⟨h1, h2⟩ := List.mem_filter.mp hi
    exact ⟨i, List.mem_range.mp h1, of_decide_eq_true h2, e⟩
  · rintro ⟨i, h1, h2, e⟩
    exact ⟨i, List.mem_filter.mpr ⟨List.mem_range.mpr h1, decide_eq_true h2⟩, e⟩
theorem opnL_nd (R S : List Rm) : (opnL R S).Nodup := by
  unfold opnL
  exact nodup_map_inj (fun a b e => by omega) (List.nodup_range.filter _)
theorem num_opn {R S S' : List Rm} (hR : R.Nodup) (hS : S.Nodup) (h : ∀ r, r ∈ S ↔ r ∈ S') : (numR R S).Perm (opnL R S') := by
  refine perm_mem (numR_nd hS) (opnL_nd R S') fun j => ?_
  rw [numR_mem, opnL_mem]
  constructor
  · rintro ⟨r, h1, h2, rfl⟩
    obtain ⟨hl, e⟩ := idx_in h2
    exact ⟨R.idxOf r, hl, by rw [e]; exact (h r).mp h1, rfl⟩
  · rintro ⟨i, hi, h1, rfl⟩
    have e : R.getD i [] = R[i] := by rw [List.getD_eq_getElem?_getD, List.getElem?_eq_getElem hi]; rfl
    rw [e] at h1
    refine ⟨R[i], (h _).mpr h1, List.getElem_mem hi, ?_⟩
    unfold numQ
    have hl : R.idxOf R[i] < R.length := List.idxOf_lt_length_of_mem (List.getElem_mem hi)
    have h2 : R[R.idxOf R[i]] = R[i] := List.getElem_idxOf hl
    have h3 := (List.getElem_inj hR).mp h2
    rw [h3]
theorem num_roo {R S : List Rm} (hS : S.Nodup) : rooG (R.length : Nat) (numR R S) := by
  refine ⟨fun j hj => ?_, numR_nd hS⟩
  obtain ⟨r, _, h2, rfl⟩ := numR_mem.mp hj
  have := (idx_in h2).1
  unfold numQ
  exact roo_iff.mpr (by omega)
theorem why_prod {R : List Rm} {M N : AM} {S1 S2 : List Rm} (okM : M.ok) (h1 : S1.Nodup) (h2 : S2.Nodup) (hne : R ≠ []) (h8 : R.length ≤ 8) : whyM (numT R M.ls (prodW M.as N.as) S1 S2) = if 40 < (onceL (numWs R (prodW M.as N.as))).length then some ("Full" : Str) else none := by
  obtain ⟨a1, a2, a3, a4, a5, a6, a7, a8, a9, a10, a11, a12⟩ := okM
  have hp := List.length_pos_iff.mpr hne
  have gA : arwG ((R.length : Nat) : Int) M.ls (onceL (numWs R (prodW M.as N.as))) := by
    refine ⟨fun a ha => ?_, onceL_nd _⟩
    rw [onceL_mem] at ha
    obtain ⟨w, hw, rfl⟩ := List.mem_map.mp ha
    obtain ⟨hw1, hw2⟩ := List.mem_filter.mp hw
    rw [Bool.and_eq_true, decide_eq_true_eq, decide_eq_true_eq] at hw2
    obtain ⟨z, hz, rfl⟩ := List.mem_map.mp hw1
    have hzM := (prG_mem.mp (List.mem_filter.mp hz).1).1
    have g := arrB_iff.mp (a4 z.1 hzM)
    have i1 := (idx_in hw2.1).1
    have i2 := (idx_in hw2.2).1
    refine arrB_iff.mpr ⟨⟨⟨⟨?_, ?_⟩, ⟨?_, ?_⟩⟩, g.1.2⟩, g.2⟩
    · show (0 : Int) ≤ ((R.idxOf (wprd z).1 : Nat) : Int)
      omega
    · show ((R.idxOf (wprd z).1 : Nat) : Int) < _
      omega
    · show (0 : Int) ≤ ((R.idxOf (wprd z).2.2.2 : Nat) : Int)
      omega
    · show ((R.idxOf (wprd z).2.2.2 : Nat) : Int) < _
      omega
  unfold whyM numT
  dsimp only
  rw [if_neg (fun z => z ⟨by omega, by omega⟩), if_neg (fun z => by rw [a3] at z; cases z), if_neg (fun z => z gA)]
  by_cases h40 : 40 < (onceL (numWs R (prodW M.as N.as))).length
  · rw [if_pos h40, if_pos h40]
  · rw [if_neg h40, if_neg h40, if_neg (fun z => z (num_roo h1)), if_neg (fun z => z (num_roo h2))]
theorem prod_srt {M N : AM} {R : List Rm} (okM : M.ok) (okN : N.ok) (hR : R.Nodup) (hne : R ≠ []) : (numT R M.srt.ls (prodW M.srt.as N.srt.as) (prodR M.srt.fs N.srt.fs) (prodR M.srt.gs N.srt.gs)).srt = (prodD M N R).srt := by
  rw [show prodD M N R = ⟨(R.length : Nat), M.ls, onceL (numWs R (prodW M.as N.as)), opnL R (prodR M.fs N.fs), opnL R (prodR M.gs N.gs)⟩ from if_neg hne]
  have ndI : ∀ {ns : List Int}, ns.Nodup → (sortI ns).Nodup := fun h => (pI _).nodup_iff.mpr h
  refine am_ext rfl rfl (sortA_eq (once_permI (numWs_iff (prodW_iff (fun x => (pA M.as).mem_iff) (fun x => (pA N.as).mem_iff))))) (sortI_eq (num_opn hR (prodR_nd (ndI okM.2.2.2.2.2.2.2.1) (ndI okN.2.2.2.2.2.2.2.1)) (prodR_iff (fun x => (pI M.fs).mem_iff) (fun x => (pI N.fs).mem_iff)))) (sortI_eq (num_opn hR (prodR_nd (ndI okM.2.2.2.2.2.2.2.2.2.1) (ndI okN.2.2.2.2.2.2.2.2.2.1)) (prodR_iff (fun x => (pI M.gs).mem_iff) (fun x => (pI N.gs).mem_iff))))
def wdP (L : AM) : Str := if L.n < 9 ∧ L.as.length < 41 then "told" else "full"
end Onp
set_option maxHeartbeats 16000000
set_option autoImplicit false
namespace Onp
open PySem PySem.Spec PyProof.Rows L2 HotX L2H LamX
abbrev sLaw : Stmt := topS 70
def NL : List Str := ["_law_script", "_law_bag_here", "_law_turn", "_law_m", "_law_sieve", "_law_arrows", "_law_room", "_law_sign", "_law_deed_here", "_law_to", "_law_arrow_here", "_law_due", "_law_word", "_law_told_here", "_law_signs", "_law_made_here", "_law_other"]
theorem scLaw : FnScope NL ["_law_script"] (defScope sLaw) := ⟨rfl, rfl, rfl, by decide +kernel, rfl, by decide +kernel, by decide +kernel⟩
def LQ : Str := ("law" : Str) ++ ".<locals>." ++ "<lambda>"
def TS (tb tW : Addr) : List (Addr × Str) := [(tb, LQ), (tW, WQ)]
theorem huT0 {tb tW : Addr} (h : tW ≠ tb) : ∀ p ∈ TS tb tW, p.1 = tb → p.2 = LQ := fun p hp e => by
  rcases List.mem_cons.mp hp with rfl | hp
  · rfl
  · rcases List.mem_cons.mp hp with rfl | hp
    · exact absurd e h
    · cases hp
theorem huT1 {tb tW : Addr} (h : tW ≠ tb) : ∀ p ∈ TS tb tW, p.1 = tW → p.2 = WQ := fun p hp e => by
  rcases List.mem_cons.mp hp with rfl | hp
  · exact absurd e.symm h
  · rcases List.mem_cons.mp hp with rfl | hp
    · rfl
    · cases hp
def spLaw (K : PySem.W.Frag) (tb tW : Addr) : Sp := fun vs H Q _ => ∃ (a : Addr) (ns : List Int), vs = [.ref a] ∧ SqL K H a (ns.map V.int) ∧ H tb = some (.tbl #[]) ∧ H tW = some (.tbl #[]) ∧ ∀ H', Q (.bl true) H'
def sgL (ls : List Nat) : List Nat := if ls = [97] then [98] else if ls.getLast? = some 122 then [97] else ls.dropLast ++ [122]
theorem small_le : ∀ c ∈ smallL, 97 ≤ c ∧ c ≤ 122 := by decide
theorem small_of {c : Nat} (h1 : 97 ≤ c) (h2 : c ≤ 122) : c ∈ smallL := by
  unfold smallL
  simp
  omega
theorem sg_ok {ls : List Nat} (h : letB ls = true) : letB (sgL ls) = true ∧ sgL ls ≠ ls := by
  have hp := letB_pos h
  have hs := letB_small h
  match ls, h, hp, hs with
  | [a], h, _, hs =>
    have ha := small_le a (hs a List.mem_cons_self)
    by_cases e : a = 97
    · subst e
      exact ⟨by decide, by decide⟩
    · have h1 : ([a] : List Nat) ≠ [97] := fun z => e (List.cons.inj z).1
      by_cases e2 : a = 122
      · subst e2
        exact ⟨by decide, by decide⟩
      · have : sgL [a] = [122] := by
          unfold sgL
          rw [if_neg h1, if_neg (by simpa using e2)]
          rfl
        rw [this]
        exact ⟨by decide, fun z => e2 (List.cons.inj z).1.symm⟩
  | [a, b], h, _, hs =>
    have ha := small_le a (hs a List.mem_cons_self)
    have hb := small_le b (hs b (List.mem_cons_of_mem _ List.mem_cons_self))
    have hab : a < b := by
      unfold letB risB at h
      simp only [Bool.and_eq_true] at h
      simpa using h.1
    have h1 : ([a, b] : List Nat) ≠ [97] := fun z => nomatch z
    by_cases e2 : b = 122
    · subst e2
      have : sgL [a, 122] = [97] := by
        unfold sgL
        rw [if_neg h1, if_pos (show ([a, 122] : List Nat).getLast? = some 122 from rfl)]
      rw [this]
      exact ⟨by decide, fun z => nomatch z⟩
    · have : sgL [a, b] = [a, 122] := by
        unfold sgL
        rw [if_neg h1, if_neg (by simpa using e2)]
        rfl
      rw [this]
      refine ⟨?_, fun z => e2 (List.cons.inj (List.cons.inj z).2).1.symm⟩
      have hm := small_of ha.1 ha.2
      have hl : a < 122 := by omega
      unfold letB risB smaB
      simp [hl, hm]
      decide
  | [a, b, c], h, _, hs =>
    have ha := small_le a (hs a List.mem_cons_self)
    have hb := small_le b (hs b (List.mem_cons_of_mem _ List.mem_cons_self))
    have hc := small_le c (hs c (List.mem_cons_of_mem _ (List.mem_cons_of_mem _ List.mem_cons_self)))
    have hab : a < b ∧ b < c := by
      unfold letB risB at h
      simp only [Bool.and_eq_true] at h
      simpa using h.1
    have h1 : ([a, b, c] : List Nat) ≠ [97] := fun z => nomatch z
    by_cases e2 : c = 122
    · subst e2
      have : sgL [a, b, 122] = [97] := by
        unfold sgL
        rw [if_neg h1, if_pos (show ([a, b, 122] : List Nat).getLast? = some 122 from rfl)]
      rw [this]
      exact ⟨by decide, fun z => nomatch z⟩
    · have : sgL [a, b, c] = [a, b, 122] := by
        unfold sgL
        rw [if_neg h1, if_neg (by simpa using e2)]
        rfl
      rw [this]
      refine ⟨?_, fun z => e2 (List.cons.inj (List.cons.inj (List.cons.inj z).2).2).1.symm⟩
      have hm := small_of ha.1 ha.2
      have hmb := small_of hb.1 hb.2
      have hl : a < b := hab.1
      have hl2 : b < 122 := by omega
      unfold letB risB smaB
      simp [hl, hl2, hm, hmb]
      decide
  | [], _, hp, _ => exact absurd hp.1 (by decide)
  | _ :: _ :: _ :: _ :: _, _, hp, _ =>
    exact absurd hp.2 (by simp only [List.length_cons]; omega)
theorem cut1 (a : Nat) : cutS (Sx [a]) none (some (-1)) = Sx [] := by rfl
theorem cut2 (a b : Nat) : cutS (Sx [a, b]) none (some (-1)) = Sx [a] := by rfl
theorem cut3 (a b c : Nat) : cutS (Sx [a, b, c]) none (some (-1)) = Sx [a, b] := by rfl
theorem cut_last {ls : List Nat} (h : 1 ≤ ls.length ∧ ls.length ≤ 3) : cutS (Sx ls) none (some (-1)) = Sx ls.dropLast := by
  match ls, h with
  | [a], _ => exact cut1 a
  | [a, b], _ => exact cut2 a b
  | [a, b, c], _ => exact cut3 a b c
  | [], h => exact absurd h.1 (by decide)
  | _ :: _ :: _ :: _ :: _, h => exact absurd h.2 (by simp only [List.length_cons]; omega)
theorem at_last {ls : List Nat} (h : 1 ≤ ls.length ∧ ls.length ≤ 3) : ∃ c, atI (Sx ls).cps.toList (-1) = some c ∧ ls.getLast? = some c := by
  match ls, h with
  | [a], _ => exact ⟨a, rfl, rfl⟩
  | [a, b], _ => exact ⟨b, rfl, rfl⟩
  | [a, b, c], _ => exact ⟨c, rfl, rfl⟩
  | [], h => exact absurd h.1 (by decide)
  | _ :: _ :: _ :: _ :: _, h => exact absurd h.2 (by simp only [List.length_cons]; omega)
theorem z_eq : ("z" : Str) = Sx [122] := by decide +kernel
theorem told_within {K : PySem.W.Frag} {C l m1 m2 : Addr} {M N : AM} {rs : List Rm} {ec : Str → Addr} {σ : L2.St} {H : Hp} {Q : VK} (e9 : σ[15]? = some (some (.ref l))) (hl : H l = some (.lst [.ref m1, .ref m2])) (mA : MachAt K C H m1 M.srt) (mB : MachAt K C H m2 N.srt) (okM : M.ok) (okN : N.ok) (hls : M.ls = N.ls) (h24 : N.as.length ≤ 24) (hrn : rs.Nodup) (hrl : rs.length ≤ 2000) (hrr : ∀ x, x ∈ rs ↔ Rch (prodR M.fs N.fs) (edW (prodW M.as N.as)) x)
    (h : ∀ r x H', Same H H' → H' r = some (.tup [.str (wdP (prodD M N (sortRm rs))), x]) → (wdP (prodD M N (sortRm rs)) ≠ "told" → x = .non) → (wdP (prodD M N (sortRm rs)) = "told" → ∃ m, x = .ref m ∧ MachAt K C H' m (prodD M N (sortRm rs)).srt) → Q (.ref r) H') :
    TTold ec ["BadSize", "BadLetters", "BadArrow", "BadRoom", "Full", "Unlike"] (fun E H' Q' => tCall (spWithin K C ec) [] E (tCons (tOp (rIxL K) (tVar 15) (tC (.int 0))) (tCons (tOp (rIxL K) (tVar 15) (tC (.int 1))) tNil)) σ H' Q') H Q := by
  have hM40 := okM.2.2.2.2.2.1
  have lA : M.srt.as.length = M.as.length := (pA _).length_eq
  have lB : N.srt.as.length = N.as.length := (pA _).length_eq
  have f1 : M.srt.fs.length = M.fs.length := (pI _).length_eq
  have f2 : N.srt.fs.length = N.fs.length := (pI _).length_eq
  have g1 : M.srt.gs.length = M.gs.length := (pI _).length_eq
  have g2 : N.srt.gs.length = N.gs.length := (pI _).length_eq
  have kf1 := few8 okM.2.1 okM.2.2.2.2.2.2.2.1 okM.2.2.2.2.2.2.1
  have kf2 := few8 okN.2.1 okN.2.2.2.2.2.2.2.1 okN.2.2.2.2.2.2.1
  have kg1 := few8 okM.2.1 okM.2.2.2.2.2.2.2.2.2.1 okM.2.2.2.2.2.2.2.2.1
  have kg2 := few8 okN.2.1 okN.2.2.2.2.2.2.2.2.2.1 okN.2.2.2.2.2.2.2.2.1
  have ndI : ∀ {ns : List Int}, ns.Nodup → (sortI ns).Nodup := fun h => (pI _).nodup_iff.mpr h
  have n1 : (prodR M.srt.fs N.srt.fs).Nodup := prodR_nd (ndI okM.2.2.2.2.2.2.2.1) (ndI okN.2.2.2.2.2.2.2.1)
  have n2 : (prodR M.srt.gs N.srt.gs).Nodup := prodR_nd (ndI okM.2.2.2.2.2.2.2.2.2.1) (ndI okN.2.2.2.2.2.2.2.2.2.1)
  refine ⟨_, e9, l, _, 0, _, rfl, rfl, SqL.of hl, rfl, _, e9, l, _, 1, _, rfl, rfl, SqL.of hl, rfl, ?_⟩
  refine ⟨m1, m2, M.srt, N.srt, rs, rfl, mA, mB, fun hn => absurd hls hn, fun _ => ⟨by omega, by omega, by rw [f1, f2]; exact (Nat.mul_le_mul kf1 kf2 : _ ≤ 8 * 8), by rw [g1, g2]; exact (Nat.mul_le_mul kg1 kg2 : _ ≤ 8 * 8), by omega, by omega, by omega, by omega, okM.2.2.1, lt_srt okM, hrn, by omega, fun x => (hrr x).trans (rch_srt M N x).symm, fun e m H' nm s' mm p np => ?_, fun e => ?_⟩⟩
  · subst e
    have eL : prodD M N (sortRm []) = idleM M.ls := if_pos (by unfold sortRm; exact List.mergeSort_nil)
    rw [eL] at h
    have sp := same_upd (o := .tup [.str "told", .ref m]) np
    exact h p (.ref m) _ (s'.trans sp) upd_same (fun z => absurd (show wdP (idleM M.ls) = "told" from rfl) z) (fun _ => ⟨m, rfl, mm.same sp⟩)
  obtain ⟨R, eR⟩ : ∃ R, R = sortRm rs := ⟨_, rfl⟩
  rw [← eR] at h ⊢
  have hRn : R.Nodup := by rw [eR]; exact (sortRm_perm rs).nodup_iff.mpr hrn
  have hR0 : R ≠ [] := fun z => e (List.length_eq_zero_iff.mp (by rw [← sortRm_len rs, ← eR, z]; rfl))
  have eL : prodD M N R = ⟨(R.length : Nat), M.ls, onceL (numWs R (prodW M.as N.as)), opnL R (prodR M.fs N.fs), opnL R (prodR M.gs N.gs)⟩ := if_neg hR0
  have ePL : (onceL (numWs R (prodW M.srt.as N.srt.as))).length = (prodD M N R).as.length := by
    rw [eL]
    exact (once_permI (numWs_iff (prodW_iff (fun x => (pA M.as).mem_iff) (fun x => (pA N.as).mem_iff)))).length_eq
  have en : (prodD M N R).n = ((R.length : Nat) : Int) := by rw [eL]
  have eS := prod_srt okM okN hRn hR0
  refine ⟨fun h8 H' s' => ?_, fun h8 nm hw H' s' => ?_, fun h8 hw m H' nm s' mm p np => ?_⟩
  · have h8 : (8 : Int) < ((R.length : Nat) : Int) := h8
    have ew : wdP (prodD M N R) = "full" := if_neg (fun z => by rw [en] at z; omega)
    exact eh_w (by decide +kernel) (by decide +kernel) (by decide +kernel) fun H2 r s er => h r .non H2 (s'.trans s) (by rw [ew]; exact er) (fun _ => rfl) (fun z => absurd (ew.symm.trans z) (by decide +kernel))
  · have h8 : ((R.length : Nat) : Int) ≤ 8 := h8
    rw [show M.srt.ls = M.srt.ls from rfl, why_prod (srt_ok okM) n1 n2 hR0 (by omega), ePL] at hw
    by_cases h40 : 40 < (prodD M N R).as.length
    · rw [if_pos h40] at hw
      cases hw
      have ew : wdP (prodD M N R) = "full" := if_neg (fun z => by omega)
      exact eh_w (by decide +kernel) (by decide +kernel) (by decide +kernel) fun H2 r s er => h r .non H2 (s'.trans s) (by rw [ew]; exact er) (fun _ => rfl) (fun z => absurd (ew.symm.trans z) (by decide +kernel))
    · rw [if_neg h40] at hw
      cases hw
  · have h8 : ((R.length : Nat) : Int) ≤ 8 := h8
    rw [why_prod (srt_ok okM) n1 n2 hR0 (by omega), ePL] at hw
    have h40 : ¬ 40 < (prodD M N R).as.length := fun z => by rw [if_pos z] at hw; cases hw
    have ew : wdP (prodD M N R) = "told" := if_pos (by rw [en]; omega)
    have sp := same_upd (o := .tup [.str "told", .ref m]) np
    exact h p (.ref m) _ (s'.trans sp) (by rw [ew]; exact upd_same) (fun z => absurd ew z) (fun _ => ⟨m, rfl, by rw [← eS]; exact mm.same sp⟩)
theorem opn_len (R S : List Rm) : (opnL R S).length ≤ R.length := by
  unfold opnL
  rw [List.length_map]
  refine Nat.le_trans (List.length_filter_le ..) ?_
  rw [List.length_range]
  exact Nat.le_refl _
theorem prod_few (M N : AM) (R : List Rm) (okM : M.ok) (okN : N.ok) : wdP (prodD M N R) = "told" → (prodD M N R).fs.length ≤ 1000 ∧ (prodD M N R).gs.length ≤ 1000 := by
  intro ew
  by_cases hR : R = []
  · rw [show prodD M N R = idleM M.ls from if_pos hR]
    exact ⟨Nat.zero_le _, Nat.zero_le _⟩
  · have eL : prodD M N R = ⟨(R.length : Nat), M.ls, onceL (numWs R (prodW M.as N.as)), opnL R (prodR M.fs N.fs), opnL R (prodR M.gs N.gs)⟩ := if_neg hR
    have hn : (prodD M N R).n < 9 := by
      by_cases c : (prodD M N R).n < 9 ∧ (prodD M N R).as.length < 41
      · exact c.1
      · rw [show wdP (prodD M N R) = "full" from if_neg c] at ew
        exact absurd ew (by decide +kernel)
    rw [eL] at hn ⊢
    have hn : ((R.length : Nat) : Int) < 9 := hn
    have h1 := opn_len R (prodR M.fs N.fs)
    have h2 := opn_len R (prodR M.gs N.gs)
    exact ⟨by show (opnL R (prodR M.fs N.fs)).length ≤ 1000; omega, by show (opnL R (prodR M.gs N.gs)).length ≤ 1000; omega⟩
def othM (M : AM) : AM := ⟨8 - M.n, sgL M.ls, [], [0], [0]⟩
theorem oth_ok {M : AM} (okM : M.ok) (h4 : M.n ≤ 4) : (othM M).ok := by
  have h1 := okM.1
  have hr : ∀ r ∈ ([0] : List Int), rooB (8 - M.n) r = true := fun r hr => by
    rw [List.mem_singleton.mp hr]
    exact roo_iff.mpr (by omega)
  exact ⟨(show 1 ≤ 8 - M.n by omega), (show 8 - M.n ≤ 8 by omega), (sg_ok okM.2.2.1).1, (fun _ z => nomatch z), .nil, Nat.zero_le _, hr, (show ([0] : List Int).Nodup by decide), hr, (show ([0] : List Int).Nodup by decide), (show 1 ≤ 100 by decide), (show 1 ≤ 100 by decide)⟩
section
variable {P : Program} {w : World} {K : PySem.W.Frag} {mg : Str → Option Value} {base : Heap}
theorem ok_law {f fWp C fI D D1 D2 iS iL iA iR iF iU tD cL tb cW tW cP cM fB fPu fO fSm fKn fTo fDe fLe fRo fAr fDr fFu fKw fMl fMd fTe fSo fAl fIl fIa fNa fNr fSb fMp fOn fLk fPr fPd fAp fCt fNu fWn fRm fLt fAw fFs fLs : Addr} {fdI fdiS fdiL fdiA fdiR fdiF fdiU fdB fdPu fdO fdSm fdKn fdTo fdDe fdLe fdRo fdAr fdDr fdFu fdKw fdMl fdMd fdTe fdSo fdAl fdIl fdIa fdNa fdNr fdSb fdMp fdOn fdLk fdPr fdPd fdAp fdCt fdNu fdWn fdRm fdLt fdAw fdFs fdLs : FuncData} {ec : Str → Addr} {oc ocW : Value} {od odW : Option Addr} {kV doc pm ct kVW docW pmW ctW : Value} {an anW : Option Addr} {osl oslW : Array (Option Value)}
    (lk : K.lookup f = some ⟨oc, od, .func (PySem.W.fnOf "law" "law" (defArgs sLaw) (defBody sLaw) (defScope sLaw) .none kV doc pm an (.ref cL) ct), osl⟩) (hcd : PySem.W.codeIn K (.ref cL) "law" = true)
    (lkW : K.lookup fWp = some ⟨ocW, odW, .func (PySem.W.fnOf "_law_wide_pair" "_law_wide_pair" (defArgs sWP) (defBody sWP) (defScope sWP) .none kVW docW pmW anW (.ref cW) ctW), oslW⟩) (hcdW : PySem.W.codeIn K (.ref cW) "_law_wide_pair" = true)
    (bWp : Binds K (PySem.W.fnOf "_law_wide_pair" "_law_wide_pair" (defArgs sWP) (defBody sWP) (defScope sWP) .none kVW docW pmW anW (.ref cW) ctW) [] []) (gWp : mg "_law_wide_pair" = some (.ref fWp)) (kWp : PySem.W.keepIn K (.ref fWp) = true)
    (B : FnM K mg fB fdB "_law_bag" sBag ["_law_script"])
    (Pu : FnM K mg fPu fdPu "_law_pull" sPull ["_law_bag_here", "_law_many"])
    (O : FnM K mg fO fdO "_law_of" sOf ["_law_bag_here", "_law_some"])
    (Sm : FnM K mg fSm fdSm "_law_same" sSame ["_law_found", "_law_due"])
    (Kn : FnM K mg fKn fdKn "_law_kind" sKind ["_law_e"])
    (To : FnM K mg fTo fdTo "_law_told" sTold ["_law_ask"])
    (De : FnM K mg fDe fdDe "_law_deed" sDeed ["_law_bag_here"])
    (Le : FnM K mg fLe fdLe "_law_letters" sLett ["_law_bag_here", "_law_most"])
    (Ro : FnM K mg fRo fdRo "_law_rooms_some" sRooms ["_law_bag_here", "_law_rooms"])
    (Ar : FnM K mg fAr fdAr "_law_arrow" sArrow ["_law_bag_here", "_law_rooms", "_law_letters_here"])
    (Dr : FnM K mg fDr fdDr "_law_drawn" sDrawn psDr)
    (Fu : FnM K mg fFu fdFu "_law_full_one" sFull psFu)
    (Kw : FnM K mg fKw fdKw "_law_known" sKnown ["_law_bag_here"])
    (Ml : FnM K mg fMl fdMl "_law_machine" sMachL ["_law_bag_here"])
    (Md : FnM K mg fMd fdMd "_law_made" sMade ["_law_m"])
    (Te : FnM K mg fTe fdTe "_law_tells" sLTells ["_law_made_here"])
    (So : FnM K mg fSo fdSo "_law_sorted" sSortd ["_law_m"])
    (Al : FnM K mg fAl fdAl "are_letters" sAreL ["text"])
    (Il : FnM K mg fIl fdIl "is_letter" sIsL ["text", "letters"])
    (Ia : FnM K mg fIa fdIa "is_arrow" sIsA ["arrow", "rooms", "letters"])
    (Na : FnM K mg fNa fdNa "need_arrows" sNeedA ["arrows", "rooms", "letters"])
    (Nr : FnM K mg fNr fdNr "need_rooms" sNeedR ["some", "rooms"])
    (Sb : FnM K mg fSb fdSb "steps_by_start" sStepsB ["arrows"])
    (Mp : FnM K mg fMp fdMp "made" sMadeP psMp)
    (On : FnM K mg fOn fdOn "once_each" sOnce ["things"])
    (Lk : FnM K mg fLk fdLk "need_like" sNeedLk ["one", "other"])
    (Pr : FnM K mg fPr fdPr "_law_pairs_of" sLPr ["_law_m", "_law_sieve"])
    (Pd : FnM K mg fPd fdPd "_law_product" sPrd ["_law_m", "_law_sieve"])
    (Ap : FnM K mg fAp fdAp "all_pairs" sAllP ["some", "others"])
    (Ct : FnM K mg fCt fdCt "come_to" sCome ["starts", "arrows"])
    (Nu : FnM K mg fNu fdNu "numbered" sNumd psNu)
    (Wn : FnM K mg fWn fdWn "within" sWithin ["machine", "sieve"])
    (T : MkM K mg C fdI fI [.ref D] [("firsts", .ref D1), ("lasts", .ref D2)]) (hD : ∀ H, SqT K H D []) (hD1 : ∀ H, SqT K H D1 [.int 0]) (hD2 : ∀ H, SqT K H D2 [.int 0])
    (FRm : Fun K "rooms" "Machine.rooms" sMRooms fRm fdRm) (bRm : Binds K fdRm ["self"] []) (mRm : Meth K C "rooms" fRm)
    (FLt : Fun K "letters" "Machine.letters" sMLets fLt fdLt) (bLt : Binds K fdLt ["self"] []) (mLt : Meth K C "letters" fLt)
    (FAw : Fun K "arrows" "Machine.arrows" sMArrs fAw fdAw) (bAw : Binds K fdAw ["self"] []) (mAw : Meth K C "arrows" fAw)
    (FFs : Fun K "firsts" "Machine.firsts" sMFsts fFs fdFs) (bFs : Binds K fdFs ["self"] []) (mFs : Meth K C "firsts" fFs)
    (FLs : Fun K "lasts" "Machine.lasts" sMLsts fLs fdLs) (bLs : Binds K fdLs ["self"] []) (mLs : Meth K C "lasts" fLs)
    (SS : MkBadSize K mg (ec "BadSize") iS fdiS) (SL : MkBadLetters K mg (ec "BadLetters") iL fdiL) (SA : MkBadArrow K mg (ec "BadArrow") iA fdiA) (SR : MkBadRoom K mg (ec "BadRoom") iR fdiR) (SF : MkFull K mg (ec "Full") iF fdiF) (SU : MkUnlike K mg (ec "Unlike") iU fdiU) (KD : Kd K mg ec ["BadSize", "BadLetters", "BadArrow", "BadRoom", "Full", "Unlike"] cP cM)
    (Cs : CsM K mg tD) (Bl : Blt mg) (B1 : Bl1 mg) (B2 : Bl2 mg) (mr : mg "range" = none) (me : mg "enumerate" = none) (TB : TabB base mg cL tb) (TBW : TabB base mg cW tW) (hne : tW ≠ tb) :
    FnOk P w K mg base CX0 12 f (PySem.W.fnOf "law" "law" (defArgs sLaw) (defBody sLaw) (defScope sLaw) .none kV doc pm an (.ref cL) ct) ["_law_script"] (spLaw K tb tW) := by
  have GB : FnOk P w K mg base CX0 11 fB fdB ["_law_script"] (spBag K) := ok_bag B.F Bl.list
  have GOs : FnOk P w K mg base CX0 11 fO fdO ["_law_bag_here", "_law_some"] spOfS := ok_ofS O.F Pu.F Pu.b Pu.g Bl.len
  have GSm : FnOk P w K mg base CX0 11 fSm fdSm ["_law_found", "_law_due"] (spSame K 3) := ok_same Sm.F Sm.b Sm.g Bl 3 7
  have GMl : FnOk P w K mg base CX0 11 fMl fdMl ["_law_bag_here"] (spMachL K) := ok_machL Ml.F Pu O De Le Ro Ar Dr Fu Kw Bl.len mr Bl.int Bl.list
  have GDr : FnOk P w K mg base CX0 11 fDr fdDr psDr (spDrawn K) := ok_drawn Dr.F Pu O De Le Ro Ar Bl.len mr Bl.int
  have GI : FnOk P w K mg base CX0 10 fI fdI psMI (spMInit K C) := ok_minit T.F Al Il Ia Na Nr Sb B1 B2 Cs T.cl
  have GI9 : FnOk P w K mg base CX0 9 fI fdI psMI (spMInit K C) := ok_minit T.F Al Il Ia Na Nr Sb B1 B2 Cs T.cl
  have GI4 : FnOk P w K mg base CX0 4 fI fdI psMI (spMInit K C) := ok_minit (k := 0) T.F Al Il Ia Na Nr Sb B1 B2 Cs T.cl
  have GIX : FnOk P w K mg base (L2N.CX P w) 4 fI fdI psMI (spMInitX K C ec) := ok_minitX (k := 0) T.F Al Il Ia Na Nr Sb SS SL SA SF SR B1 B2 Cs T.cl
  have GMd : FnOk P w K mg base CX0 11 fMd fdMd ["_law_m"] (spMade K C) := ok_made Md.F T GI9 Bl.list
  have GTe : FnOk P w K mg base CX0 11 fTe fdTe ["_law_made_here"] (spLTells K C) := ok_ltells Te.F T.cl FRm bRm mRm FLt bLt mLt FAw bAw mAw FFs bFs mFs FLs bLs mLs Bl.list
  have GSo : FnOk P w K mg base CX0 11 fSo fdSo ["_law_m"] (spSortd K) := ok_sortd So.F B2.sorted
  have GPd : FnOk P w K mg base CX0 11 fPd fdPd ["_law_m", "_law_sieve"] (spPrd K) := ok_prd Pd.F Pr Bl.len B2.sorted me Bl.int
  obtain ⟨tkR, gR⟩ := Cs.rooms
  have GMp : FnOk P w K mg base (L2N.CX P w) 6 fMp fdMp psMp (spMadeQ K C ec) := ok_madeQ (k := 2) Mp.F T SF GI4 GIX hD gR
  have GWn8 : FnOk P w K mg base (L2N.CX P w) 8 fWn fdWn ["machine", "sieve"] (spWithin K C ec) := ok_within (k := 4) Wn.F T.cl Lk SU Ap Ct Nu Mp GMp On FLt bLt mLt FAw bAw mAw FFs bFs mFs FLs bLs mLs Bl.list Bl.len me B2.sorted
  have GWp : FnOk P w K mg base CX0 11 fWp _ [] (spWP (TS tb tW)) := ok_wp (k := 2) lkW hcdW T GI9 hD2 Wn GWn8 To Kn KD Bl Bl.list mr TBW (List.mem_cons_of_mem _ List.mem_cons_self) (huT1 hne)
  have GWn : FnOk P w K mg base (L2N.CX P w) 9 fWn fdWn ["machine", "sieve"] (spWithin K C ec) := GWn8.mono (by decide)
  obtain ⟨ds, vD, bD⟩ := kb_none T.F
  have huL := huT0 hne
  obtain ⟨oc2, od2, kV2, doc2, pm2, an2, cdv2, ct2, osl2, rfl, lkT, hcdT⟩ := To.F.ex
  refine fn_of lk hcd scLaw (fun vs H Q E h => ?_) (fun A outer s H vs Q E hr h => ?_)
  · obtain ⟨a, ns, rfl, _⟩ := h
    rfl
  · obtain ⟨a, ns, rfl, hS, htb, htW, q⟩ := h
    refine ⟨_, PSs.nox (pss_cons (ps_set (i := 1) scLaw.nd rfl (.inl rfl) (pe_call GB hr (by rfl) B.g B.F.kp B.b .nil pass0 (pa_cons (pv 0) pa_nil)))
      (pss_cons (ps_if (pt_not (pt_val (pe_call0 GWp hr (by rfl) gWp kWp bWp .nil pass0))) pss_never pss_nil)
      (pss_cons (ps_for PassesOwn.never rfl (pi_range1 (by rfl) mr (pa_cons pe_int pa_nil)) (pg_name (i := 2) scLaw.nd rfl (.inl rfl))
        (pss_cons (ps_set (i := 3) scLaw.nd rfl (.inl rfl) (pe_call GMl hr (by rfl) Ml.g Ml.F.kp Ml.b .nil pass0 (pa_cons (pv 1) pa_nil)))
      (pss_cutM (ps_set (i := 4) scLaw.nd rfl (.inl rfl) (pe_call GDr hr (by rfl) Dr.g Dr.F.kp Dr.b .nil pass0 (pa_cons (pv 1) (pa_cons pe_int (pa_cons pe_int (pa_cons pe_int pa_nil))))))
      (pss_cons (ps_set (i := 5) scLaw.nd rfl (.inl rfl) (pe_lst pa_nil))
      (pss_cutM (ps_for PassesOwn.never rfl (pi_list (pe_ix ix_tup (pv 4) pe_int (fun _ _ => rfl))) (pg_tup rfl (pgs_cons (pg_name (i := 6) scLaw.nd rfl (.inl rfl)) (pgs_cons (pg_name (i := 7) scLaw.nd rfl (.inl rfl)) (pgs_cons (pg_name (i := 8) scLaw.nd rfl (.inl rfl)) (pgs_cons (pg_name (i := 9) scLaw.nd rfl (.inl rfl)) pgs_nil)))))
        (pss_cons (ps_set (i := 10) scLaw.nd rfl (.inl rfl) (pe_tup (pa_cons (pv 6) (pa_cons (pe_call GOs hr (by rfl) O.g O.F.kp O.b .nil pass0 (pa_cons (pv 1) (pa_cons (pe_ix ix_tup (pv 3) pe_int (fun _ _ => rfl)) pa_nil))) (pa_cons (pv 8) (pa_cons (pv 9) pa_nil))))))
      (pss_one (ps_set (i := 5) scLaw.nd rfl (.inl rfl) (pe_op op_cat (pv 5) (pe_op op_rep (pe_lst (pa_cons (pv 10) pa_nil)) (pe_callTy call_int1 (by rfl) Bl.int (by decide +kernel) (pa_cons (pe_cmpR (op_notInD (room65 hr)) (pv 10) (pv 5) (by rfl)) pa_nil))))))))
      (pss_cons (ps_set (i := 4) scLaw.nd rfl (.inl rfl) (pe_tup (pa_cons (pe_ix ix_tup (pv 4) pe_int (fun _ _ => rfl)) (pa_cons (pe_ix ix_tup (pv 3) pe_int (fun _ _ => rfl)) (pa_cons (pv 5) (pa_cons (pe_ix ix_tup (pv 4) pe_int (fun _ _ => rfl)) (pa_cons (pe_ix ix_tup (pv 4) pe_int (fun _ _ => rfl)) pa_nil)))))))
      (pss_cons (ps_set (i := 11) scLaw.nd rfl (.inl rfl) (pe_call GPd hr (by rfl) Pd.g Pd.F.kp Pd.b .nil pass0 (pa_cons (pv 3) (pa_cons (pv 4) pa_nil))))
      (pss_cutM (ps_set (i := 12) scLaw.nd rfl (.inl rfl) (pe_ifExp (PW.pt (pw_and (pt_cmpR op_lt (pe_ix ix_tup (pv 11) pe_int (fun _ _ => rfl)) pe_int (nomark _)) (pw_and1 (pt_cmpR op_lt (pe_callB call_len_seq (by rfl) Bl.len PySem.boot_len (pa_cons (pe_ix ix_tup (pv 11) pe_int (fun _ _ => rfl)) pa_nil)) pe_int (nomark _))))) pe_str pe_str))
      (pss_cons (ps_set (i := 15) scLaw.nd rfl (.inr rfl) (pe_lst (pa_cons (pe_call GMd hr (by rfl) Md.g Md.F.kp Md.b .nil pass0 (pa_cons (pv 3) pa_nil)) (pa_cons (pe_call GMd hr (by rfl) Md.g Md.F.kp Md.b .nil pass0 (pa_cons (pv 4) pa_nil)) pa_nil))))
      (pss_cutM (ps_set (i := 13) scLaw.nd rfl (.inl rfl) (pe_lamN (k := 9) (T := TS tb tW) (TT := TTold ec ["BadSize", "BadLetters", "BadArrow", "BadRoom", "Full", "Unlike"]) (t := fun E => tCall (spWithin K C ec) [] E (tCons (tOp (rIxL K) (tVar 15) (tC (.int 0))) (tCons (tOp (rIxL K) (tVar 15) (tC (.int 1))) tNil))) (by rfl) To.g To.F.kp lkT hcdT To.b scTold rfl (.inl rfl)
              (told_gives KD ⟨by decide +kernel, by decide +kernel⟩ (fun z => absurd z (by decide +kernel)) Kn.F Kn.b Kn.g Bl.isi Bl.zip) TB rfl List.mem_cons_self huL hr (show LamS (defScope sLaw) _ from lamS_by (by decide +kernel)) rfl (fun _ _ _ _ _ => rfl)
              (fun A outer s H E f c' hr2 => (pe_call (E := E) GWn hr2 (by rfl) Wn.g Wn.F.kp Wn.b .nil (L2N.passes_call (L2N.takes_of (E := E) rfl rfl rfl rfl) fun _ _ _ _ z => z) (pa_cons (pe_ix ix_list (pv 15) pe_int (fun _ _ => rfl)) (pa_cons (pe_ix ix_list (pv 15) pe_int (fun _ _ => rfl)) pa_nil))))))
      (pss_cutM (ps_if (PW.pt (pw_and (pt_cmpR op_ne (pv 12) pe_str (nomark _)) (pw_and1 (pt_cmpR (op_neD hr.units) (pv 13) (pe_tup (pa_cons (pv 12) (pa_cons pe_non pa_nil))) (nomark _))))) pss_never pss_nil)
      (pss_cutM (ps_if (PW.pt (pw_and (pt_cmpR op_eq (pv 12) pe_str (nomark _)) (pw_and1 (PW.pt (pw_or (pt_cmpR op_ne (pe_ix ix_tup (pv 13) pe_int (fun _ _ => rfl)) (pv 12) (nomark _)) (pw_or1 (pt_not (pt_val (pe_call GSm hr (by rfl) Sm.g Sm.F.kp Sm.b .nil pass0 (pa_cons (pe_call GTe hr (by rfl) Te.g Te.F.kp Te.b .nil pass0 (pa_cons (pe_ix ix_tup (pv 13) pe_int (fun _ _ => rfl)) pa_nil)) (pa_cons (pe_call GSo hr (by rfl) So.g So.F.kp So.b .nil pass0 (pa_cons (pv 11) pa_nil)) pa_nil))))))))))) pss_never pss_nil)
      (pss_cutM (ps_set (i := 14) scLaw.nd rfl (.inl rfl) (pe_op op_add_str (pe_slice sl_str (pe_ix ix_tup (pv 3) pe_int (fun _ _ => rfl)) po_none (po_some (pe_un un_neg pe_int))) pe_str))
      (pss_cutM (ps_if (pt_cmpR op_eq (pe_ix ix_str (pe_ix ix_tup (pv 3) pe_int (fun _ _ => rfl)) (pe_un un_neg pe_int) (fun _ _ => rfl)) pe_str (nomark _)) (pss_one (ps_set (i := 14) scLaw.nd rfl (.inl rfl) pe_str)) pss_nil)
      (pss_cutM (ps_if (pt_cmpR op_eq (pe_ix ix_tup (pv 3) pe_int (fun _ _ => rfl)) pe_str (nomark _)) (pss_one (ps_set (i := 14) scLaw.nd rfl (.inl rfl) pe_str)) pss_nil)
      (pss_cutM (ps_set (i := 16) scLaw.nd rfl (.inr rfl) (pe_make T.mak GI hr (by rfl) T.g bD vD pass0 (pa_cons (pe_op op_sub pe_int (pe_ix ix_tup (pv 3) pe_int (fun _ _ => rfl))) (pa_cons (pv 14) pa_nil))))
      (pss_one (ps_if (pt_cmpR (op_neD hr.units) (pe_lamN (k := 9) (T := TS tb tW) (TT := TTold ec ["BadSize", "BadLetters", "BadArrow", "BadRoom", "Full", "Unlike"]) (t := fun E => tCall (spWithin K C ec) [] E (tCons (tVar 16) (tCons (tOp (rIxL K) (tVar 15) (tC (.int 0))) tNil))) (by rfl) To.g To.F.kp lkT hcdT To.b scTold rfl (.inl rfl)
              (told_gives KD ⟨by decide +kernel, by decide +kernel⟩ (fun z => absurd z (by decide +kernel)) Kn.F Kn.b Kn.g Bl.isi Bl.zip) TB rfl List.mem_cons_self huL hr (show LamS (defScope sLaw) _ from lamS_by (by decide +kernel)) rfl (fun _ _ _ _ _ => rfl)
              (fun A outer s H E f c' hr2 => (pe_call (E := E) GWn hr2 (by rfl) Wn.g Wn.F.kp Wn.b .nil (L2N.passes_call (L2N.takes_of (E := E) rfl rfl rfl rfl) fun _ _ _ _ z => z) (pa_cons (pv 16) (pa_cons (pe_ix ix_list (pv 15) pe_int (fun _ _ => rfl)) pa_nil))))) (pe_tup (pa_cons pe_str (pa_cons pe_non pa_nil))) (nomark _)) pss_never pss_nil))))))))))))))))))
      (pss_one (ps_ret pe_bl))))), ?_⟩
    have hbig : 10000 ≤ sizeLine := by decide
    refine ⟨_, rfl, a, ns, rfl, hS, fun g H1 nb sm1 Bg1 => ?_⟩
    have T1 : Tabs (TS tb tW) H1 := fun p hp => by
      rcases List.mem_cons.mp hp with rfl | hp
      · exact TabS.nil (sm1 _ _ htb)
      · rcases List.mem_cons.mp hp with rfl | hp
        · exact TabS.nil (sm1 _ _ htW)
        · cases hp
    refine ⟨rfl, T1, fun H2 x2 T2 => ⟨_, rfl, iteF ?_⟩⟩
    have Bg2 := bg_ext Bg1 x2
    refine ⟨5, rfl, by decide, by decide, for_range (lo := 0) (n := 5) (fun i σ H' => ∃ y2 y3 y4 y5 y6 y7 y8 y9 y10 y11 y12 y13 y14 y15 y16 : Option V, σ = [some (.ref a), some (.ref g.b), y2, y3, y4, y5, y6, y7, y8, y9, y10, y11, y12, y13, y14, y15, y16] ∧ Bg H' g ∧ Tabs (TS tb tW) H') ⟨_, _, _, _, _, _, _, _, _, _, _, _, _, _, _, rfl, Bg2, T2⟩ ?_ ?_⟩
    · clear Bg1 T1 Bg2 T2 x2 H2
      rintro i σ H2 hi ⟨y2, y3, y4, y5, y6, y7, y8, y9, y10, y11, y12, y13, y14, y15, y16, rfl, Bg2, T2⟩
      -- the machine and the sieve
      refine ⟨_, rfl, g, rfl, Bg2, fun t1 M H3 okM hn4 fw dM3 k3 Bg3 => ?_⟩
      have T3 := tabs_keep T2 Bg2 k3
      refine ⟨fun σ' H' => ∃ (t2 : Addr) (S : AM), σ' = [some (.ref a), some (.ref g.b), some (.int (0 + (i : Int))), some (.ref t1), some (.ref t2), y5, y6, y7, y8, y9, y10, y11, y12, y13, y14, y15, y16] ∧ S.ok ∧ S.n ≤ 3 ∧ S.as.length ≤ 9 ∧ DrawnAt K H' t1 M ∧ DrawnAt K H' t2 S ∧ Bg H' g ∧ Tabs (TS tb tW) H', ?_, ?_⟩
      · refine ⟨_, rfl, g, 3, 1, 9, rfl, by decide, by decide, by decide, by decide, by decide, by decide, Bg3, fun t2 S H4 okN0 hn3 _ has _ dS4 k4 Bg4 => ⟨t2, S, rfl, okN0, hn3, by omega, dM3.keep Bg3 k4, dS4, Bg4, tabs_keep T3 Bg3 k4⟩⟩
      clear Bg2 T2 Bg3 T3 k3 dM3 H3
      rintro σ H3 ⟨t2, S, rfl, okS0, hn3, has, dM3, dS3, Bg3, T3⟩
      -- new letters
      refine ⟨(by decide : 0 ≤ sizeLine), fun la0 nla => ?_⟩
      have s4 := same_upd (o := .lst []) nla
      have h4 : (upd H3 la0 (.lst [])) la0 = some (.lst (rfs [])) := upd_same
      have dM4 := dM3.same s4
      have dS4 := dS3.same s4
      have Bg4 := Bg3.same s4
      have T4 := T3.ext s4
      generalize upd H3 la0 (.lst []) = H4 at s4 h4 dM4 dS4 Bg4 T4
      clear s4 nla dM3 dS3 Bg3 T3
      obtain ⟨ma, mf, mg', pm0, d1, d2, d3, d4, d5, d6⟩ := id dM4
      obtain ⟨sa, sf, sg, ps0, e1, e2, e3, e4, e5, e6⟩ := id dS4
      have hls3 := letB_pos okM.2.2.1
      have hpl0 : ps0.length ≤ 9 := by
        have := congrArg List.length e4
        rw [List.length_map] at this
        omega
      refine ⟨fun σ' H' => ∃ (la : Addr) (ps : List AR) (y6 y7 y8 y9 y10 : Option V), σ' = [some (.ref a), some (.ref g.b), some (.int (0 + (i : Int))), some (.ref t1), some (.ref t2), some (.ref la), y6, y7, y8, y9, y10, y11, y12, y13, y14, y15, y16] ∧ Ars K H' g S.n M.ls la ps 9 ∧ Keep g.b H4 H', ?_, ?_⟩
      · refine ⟨_, rfl, t2, _, 2, _, rfl, rfl, SqT.of e1, rfl, sa, rfl, ⟨_, SqL.of e2⟩, for_list (K := K) (a := sa) (xs := rfs ps0)
          (fun j σ H' => ∃ (la : Addr) (ps : List AR) (y6 y7 y8 y9 y10 : Option V), σ = [some (.ref a), some (.ref g.b), some (.int (0 + (i : Int))), some (.ref t1), some (.ref t2), some (.ref la), y6, y7, y8, y9, y10, y11, y12, y13, y14, y15, y16] ∧ Ars K H' g S.n M.ls la ps j ∧ Keep g.b H4 H')
          ⟨la0, [], _, _, _, _, _, rfl, ⟨h4, (fun _ h => nomatch h), (fun _ h => nomatch h), .nil, Nat.le_refl _, Bg4⟩, Keep.refl _⟩ (fun j σ H' _ ⟨_, _, _, _, _, _, _, _, _, kp⟩ => SqL.of (kp _ _ (Bg4.neRfs e2) e2)) (fun j x σ H' hx hI => ?_) (fun σ H' hI => ?_)⟩
        · obtain ⟨la, ps, z6, z7, z8, z9, z10, rfl, Aj, kp⟩ := hI
          obtain ⟨p, hp, rfl⟩ := rfsAt hx
          have hjl := (List.getElem?_eq_some_iff.mp hp).1
          have hpm := List.mem_of_getElem? hp
          have hpT := Bg4.keepRow kp e3 p hpm
          have hpS := arrB_iff.mp (okS0.2.2.2.1 p.2 (by rw [← e4]; exact List.mem_map_of_mem hpm))
          refine ⟨p.1, _, rfl, hpT, rfl, _, _, rfl, _, _, rfl, _, _, rfl, _, _, rfl, rfl, ?_⟩
          refine ⟨_, rfl, _, rfl, _, rfl, t1, _, 1, _, rfl, rfl, SqT.of (kp _ _ (Bg4.neTup d1) d1), rfl, g, M.ls, rfl, Aj.bag, by omega, by omega, fun c H6 hc k6 Bg6 => ?_⟩
          refine ⟨_, rfl, _, rfl, (by decide : 4 ≤ sizeLine), fun t nt => ?_⟩
          have st := same_upd (o := .tup (aV (p.2.1, Sx [c], p.2.2.2.1, p.2.2.2.2))) nt
          have A6 := (Aj.keep k6 Bg6).keep (Keep.of st) (Bg6.same st)
          have ha : arrB S.n M.ls (p.2.1, Sx [c], p.2.2.2.1, p.2.2.2.2) = true := arrB_iff.mpr ⟨⟨hpS.1.1, List.any_eq_true.mpr ⟨c, hc, decide_eq_true rfl⟩⟩, hpS.2⟩
          refine ars_put (i := 5) (j := 10) (a := (p.2.1, Sx [c], p.2.2.2.1, p.2.2.2.2)) A6 okM.2.2.1 (by omega) ha upd_same rfl rfl fun H7 la' ps' s7 A7 _ => ?_
          exact ⟨la', ps', _, _, _, _, _, rfl, A7, kp.trans (k6.trans ((Keep.of st).trans (Keep.of s7)))⟩
        · obtain ⟨la, ps, z6, z7, z8, z9, z10, rfl, Aj, kp⟩ := hI
          exact ⟨la, ps, _, _, _, _, _, rfl, Aj.more (by rw [show (rfs ps0).length = ps0.length from List.length_map ..]; exact hpl0), kp⟩
      clear y6 y7 y8 y9 y10
      rintro σ H5 ⟨la, ps, y6, y7, y8, y9, y10, rfl, A5, k5⟩
      have T5 := tabs_keep T4 Bg4 k5
      have Bg5 := A5.bag
      have dM5 := dM4.keep Bg4 k5
      have f1 := k5 _ _ (Bg4.neTup e1) e1
      have f5 := k5 _ _ (Bg4.neInts e5) e5
      have f6 := k5 _ _ (Bg4.neInts e6) e6
      have g1 := k5 _ _ (Bg4.neTup d1) d1
      refine ⟨_, rfl, t2, _, 0, _, rfl, rfl, SqT.of f1, rfl, _, rfl, t1, _, 1, _, rfl, rfl, SqT.of g1, rfl, _, rfl, _, rfl, t2, _, 3, _, rfl, rfl, SqT.of f1, rfl, _, rfl, t2, _, 4, _, rfl, rfl, SqT.of f1, rfl, (by decide : 5 ≤ sizeLine), fun tn ntn => ?_⟩
      have s6 := same_upd (o := .tup [.int S.n, .str (Sx M.ls), .ref la, .ref sf, .ref sg]) ntn
      have h6 : (upd H5 tn (.tup [.int S.n, .str (Sx M.ls), .ref la, .ref sf, .ref sg])) tn = some (.tup [.int S.n, .str (Sx M.ls), .ref la, .ref sf, .ref sg]) := upd_same
      generalize upd H5 tn (.tup [.int S.n, .str (Sx M.ls), .ref la, .ref sf, .ref sg]) = H6 at s6 h6
      obtain ⟨N, eN⟩ : ∃ N : AM, N = ⟨S.n, M.ls, ps.map (·.2), S.fs, S.gs⟩ := ⟨_, rfl⟩
      have hpl9 : ps.length ≤ 9 := A5.len
      have okN : N.ok := by
        rw [eN]
        refine ⟨okS0.1, okS0.2.1, okM.2.2.1, fun a ha => ?_, A5.nd, ?_, okS0.2.2.2.2.2.2⟩
        · obtain ⟨p', hp', rfl⟩ := List.mem_map.mp ha
          exact A5.ok p' hp'
        · show (ps.map (·.2)).length ≤ 40
          rw [List.length_map]
          omega
      have hNl : M.ls = N.ls := by rw [eN]
      have hN9 : N.as.length ≤ 24 := by
        rw [eN]
        show (ps.map (·.2)).length ≤ 24
        rw [List.length_map]
        omega
      have dN6 : DrawnAt K H6 tn N := by
        rw [eN]
        exact ⟨la, sf, sg, ps, h6, s6 _ _ A5.at_, A5.row.same s6, rfl, s6 _ _ f5, s6 _ _ f6⟩
      have dM6 := dM5.same s6
      have Bg6 := Bg5.same s6
      have T6 := T5.ext s6
      clear eN dM4 dS4 Bg4 T4 h4 d1 d2 d3 d4 d5 d6 e1 e2 e3 e4 e5 e6 k5 A5 T5 Bg5 dM5 f1 f5 f6 g1 s6 h6 ntn
      -- what is due
      have kf1 := few8 okM.2.1 okM.2.2.2.2.2.2.2.1 okM.2.2.2.2.2.2.1
      have kf2 := few8 okN.2.1 okN.2.2.2.2.2.2.2.1 okN.2.2.2.2.2.2.1
      refine ⟨_, rfl, _, rfl, t1, tn, M, N, rfl, dM6, dN6, okM, okN, kf1, kf2, fun td rs H7 s7 hrn hrl hrr dL7 => ?_⟩
      have dM7 := dM6.same s7
      have dN7 := dN6.same s7
      have Bg7 := Bg6.same s7
      have T7 := T6.ext s7
      clear s7 dM6 dN6 Bg6 T6
      obtain ⟨L, eL⟩ : ∃ L, L = prodD M N (sortRm rs) := ⟨_, rfl⟩
      have tw := @told_within K C
      have dL7' : DrawnAt K H7 td L := by rw [eL]; exact dL7
      obtain ⟨xa, xf, xg, pL, l1, l2, l3, l4, l5, l6⟩ := id dL7'
      have hpL : (rfs pL).length = L.as.length := by
        rw [← l4]
        unfold rfs
        rw [List.length_map, List.length_map]
      -- the word
      refine ⟨fun σ' H' => σ' = [some (.ref a), some (.ref g.b), some (.int (0 + (i : Int))), some (.ref t1), some (.ref tn), some (.ref la), y6, y7, y8, y9, y10, some (.ref td), some (.str (wdP L)), y13, y14, y15, y16] ∧ H7 = H', ?_, ?_⟩
      · refine ⟨_, rfl, td, _, 0, _, rfl, rfl, SqT.of l1, rfl, _, _, rfl, rfl, _, rfl, ?_⟩
        by_cases h1 : L.n < 9
        · rw [decide_eq_true h1]
          refine iteT ?_
          refine ⟨_, rfl, td, _, 2, _, rfl, rfl, SqT.of l1, rfl, xa, rfs pL, rfl, .inl (SqL.of l2), _, _, rfl, rfl, _, rfl, ?_⟩
          rw [hpL]
          by_cases h2 : ((L.as.length : Nat) : Int) < 41
          · rw [decide_eq_true h2]
            refine iteT ⟨?_, rfl⟩
            rw [show wdP L = "told" from if_pos ⟨h1, by omega⟩]
            rfl
          · rw [decide_eq_false h2]
            refine iteF ⟨?_, rfl⟩
            rw [show wdP L = "full" from if_neg (fun z => by omega)]
            rfl
        · rw [decide_eq_false h1]
          refine iteF (iteF ⟨?_, rfl⟩)
          rw [show wdP L = "full" from if_neg (fun z => h1 z.1)]
          rfl
      rintro σ H' ⟨rfl, rfl⟩
      -- both made
      refine ⟨_, rfl, t1, M, rfl, dM7, okM, fun m1 H8 nm1 s8 mA8 => ?_⟩
      refine ⟨_, rfl, tn, N, rfl, dN7.same s8, okN, fun m2 H9 nm2 s9 mB9 => ?_⟩
      refine ⟨(by decide : 2 ≤ sizeLine), fun l nl => ?_⟩
      have s10 := same_upd (o := .lst [.ref m1, .ref m2]) nl
      have hl : (upd H9 l (.lst [.ref m1, .ref m2])) l = some (.lst [.ref m1, .ref m2]) := upd_same
      have sA := s8.trans (s9.trans s10)
      have mA := mA8.same (s9.trans s10)
      have mB := mB9.same s10
      have dM := dM7.same sA
      have dL := dL7'.same sA
      have BgA := Bg7.same sA
      have TA := T7.ext sA
      generalize upd H9 l (.lst [.ref m1, .ref m2]) = H10 at hl mA mB dM dL BgA TA
      clear sA s10 s9 s8 nm1 nm2 nl mA8 mB9 dM7 dN7 dL7 dL7' Bg7 T7 l1 l2 l3 l4 l5 l6 hpL tw
      -- told
      refine ⟨fun σ' H' => ∃ (r : Addr) (x : V), σ' = [some (.ref a), some (.ref g.b), some (.int (0 + (i : Int))), some (.ref t1), some (.ref tn), some (.ref la), y6, y7, y8, y9, y10, some (.ref td), some (.str (wdP L)), some (.ref r), y14, some (.ref l), y16] ∧ H' r = some (.tup [.str (wdP L), x]) ∧ (wdP L ≠ "told" → x = .non) ∧ (wdP L = "told" → ∃ m, x = .ref m ∧ MachAt K C H' m L.srt) ∧ H' l = some (.lst [.ref m1, .ref m2]) ∧ MachAt K C H' m1 M.srt ∧ DrawnAt K H' t1 M ∧ DrawnAt K H' td L ∧ Bg H' g ∧ Tabs (TS tb tW) H', ?_, ?_⟩
      · refine ⟨TA, fun H13 x13 T13 => ?_⟩
        refine told_within (M := M) (N := N) (rs := rs) rfl (x13 _ _ hl (fun ps z => by cases z)) (mA.extN x13) (mB.extN x13) okM okN hNl hN9 hrn hrl hrr ?_
        rw [← eL]
        intro r x H14 s14 er hx1 hx2
        have x14 := x13.trans (same_extN s14)
        exact ⟨r, x, rfl, er, hx1, hx2, x14 _ _ hl (fun ps z => by cases z), mA.extN x14, dM.extN x14, dL.extN x14, bg_ext BgA x14, T13.ext s14⟩
      clear hl mA mB dM dL BgA TA
      rintro σ H11 ⟨r, x, rfl, er, hx1, hx2, hl, mA, dM, dL, BgA, TA⟩
      -- refused
      refine ⟨fun σ' H' => σ' = [some (.ref a), some (.ref g.b), some (.int (0 + (i : Int))), some (.ref t1), some (.ref tn), some (.ref la), y6, y7, y8, y9, y10, some (.ref td), some (.str (wdP L)), some (.ref r), y14, some (.ref l), y16] ∧ Same H11 H', ?_, ?_⟩
      · refine ⟨_, rfl, rfl, _, rfl, ?_⟩
        by_cases ew : wdP L = "told"
        · exact iteNS (by rw [ew]) (iteF ⟨rfl, fun _ _ h => h⟩)
        · cases hx1 ew
          refine iteNF (fun z => ew (V.str.inj z)) ?_
          refine ⟨_, rfl, _, rfl, (by decide : 2 ≤ sizeLine), fun tq ntq => ?_⟩
          have s15 := same_upd (o := .tup [.str (wdP L), .non]) ntq
          have hk : SeqAt.shaped (.tuple [.str (wdP L), .none]) = true ∧ PyData.eqv (.tuple [.str (wdP L), .none]) (.tuple [.str (wdP L), .none]) = true := by
            unfold wdP
            split <;> decide +kernel
          refine ⟨.tuple [.str (wdP L), .none], .tuple [.str (wdP L), .none], .tup (SqT.of (s15 _ _ er)) (.cons (.str _) (.cons .non .nil)), .tup (SqT.of upd_same) (.cons (.str _) (.cons .non .nil)), hk.1, hk.1, _, rfl, ?_⟩
          rw [hk.2]
          exact iteF ⟨rfl, s15⟩
      rintro σ H12 ⟨rfl, s12⟩
      -- made
      refine ⟨fun σ' H' => σ' = [some (.ref a), some (.ref g.b), some (.int (0 + (i : Int))), some (.ref t1), some (.ref tn), some (.ref la), y6, y7, y8, y9, y10, some (.ref td), some (.str (wdP L)), some (.ref r), y14, some (.ref l), y16] ∧ Same H12 H', ?_, ?_⟩
      · refine ⟨_, rfl, rfl, _, rfl, ?_⟩
        by_cases ew : wdP L = "told"
        · obtain ⟨m, rfl, mm⟩ := hx2 ew
          have er15 := s12 _ _ er
          refine itT (by rw [ew]) ?_
          refine ⟨_, rfl, r, _, 0, _, rfl, rfl, SqT.of er15, rfl, _, rfl, rfl, _, rfl, iteNS rfl ?_⟩
          refine ⟨_, rfl, r, _, 1, _, rfl, rfl, SqT.of er15, rfl, m, _, rfl, mm.same s12, fun u H16 s16 du => ?_⟩
          refine ⟨_, rfl, td, _, rfl, dL.same (s12.trans s16), fun u2 H17 s17 du2 => ?_⟩
          have hL41 : L.as.length < 41 := by
            by_cases c : L.n < 9 ∧ L.as.length < 41
            · exact c.2
            · rw [show wdP L = "full" from if_neg c] at ew
              exact absurd ew (by decide +kernel)
          have hop := prod_few M N (sortRm rs) okM okN
          rw [← eL] at hop
          refine ⟨_, _, ddat L.srt, rfl, dp_drawn (du.same s17), dp_drawn du2, lvl_ddat ?_ ?_ ?_, fun H18 s18 => ⟨_, rfl, iteF ⟨rfl, s16.trans (s17.trans s18)⟩⟩⟩
          · show (sortA L.as).length ≤ 1000
            rw [(pA _).length_eq]
            omega
          · show (sortI L.fs).length ≤ 1000
            rw [(pI _).length_eq]
            exact hop ew |>.1
          · show (sortI L.gs).length ≤ 1000
            rw [(pI _).length_eq]
            exact hop ew |>.2
        · exact itF (fun z => ew (V.str.inj z)) (iteF ⟨rfl, fun _ _ h => h⟩)
      rintro σ H13 ⟨rfl, s13⟩
      have sH := s12.trans s13
      have hl13 := sH _ _ hl
      have mA13 := mA.same sH
      have dM13 := dM.same sH
      have Bg13 := BgA.same sH
      have T13 := TA.ext sH
      clear hl mA dM dL BgA TA er hx1 hx2 s12 s13 sH
      obtain ⟨ma, mf, mg2, pm, d1, d2, d3, d4, d5, d6⟩ := id dM13
      -- other letters
      have hls3' := letB_pos okM.2.2.1
      have hlz : (Sx M.ls).length ≤ sizeLine := by rw [sx_len]; omega
      refine ⟨fun σ' H' => σ' = [some (.ref a), some (.ref g.b), some (.int (0 + (i : Int))), some (.ref t1), some (.ref tn), some (.ref la), y6, y7, y8, y9, y10, some (.ref td), some (.str (wdP L)), some (.ref r), some (.str (Sx (M.ls.dropLast ++ [122]))), some (.ref l), y16] ∧ H13 = H', ?_, ?_⟩
      · refine ⟨_, rfl, t1, _, 1, _, rfl, rfl, SqT.of d1, rfl, ?_⟩
        refine ⟨_, rfl, _, rfl, Sx M.ls, rfl, hlz, _, _, rfl, rfl, ?_, ?_, rfl⟩
        · rw [cut_last hls3', sx_len, List.length_dropLast]
          have : (("z" : Str)).length = 1 := by decide +kernel
          rw [this]
          omega
        · rw [cut_last hls3', z_eq, sx_app]
          rfl
      rintro σ H' ⟨rfl, rfl⟩
      obtain ⟨c, hc1, hc2⟩ := at_last hls3'
      refine ⟨fun σ' H' => σ' = [some (.ref a), some (.ref g.b), some (.int (0 + (i : Int))), some (.ref t1), some (.ref tn), some (.ref la), y6, y7, y8, y9, y10, some (.ref td), some (.str (wdP L)), some (.ref r), some (.str (Sx (if M.ls.getLast? = some 122 then [97] else M.ls.dropLast ++ [122]))), some (.ref l), y16] ∧ H13 = H', ?_, ?_⟩
      · refine ⟨_, rfl, t1, _, 1, _, rfl, rfl, SqT.of d1, rfl, _, rfl, Sx M.ls, _, c, rfl, rfl, hlz, hc1, rfl, _, rfl, ?_⟩
        by_cases e : c = 122
        · refine itT (show V.str (Sx [c]) = V.str "z" by rw [z_eq, e]) ⟨?_, rfl⟩
          rw [if_pos (by rw [hc2, e])]
          rw [← a_eq]
          rfl
        · refine itF (fun z => e ?_) ⟨?_, rfl⟩
          · have z : V.str (Sx [c]) = V.str "z" := z
            rw [z_eq] at z
            exact (List.cons.inj (sx_inj (V.str.inj z))).1
          · rw [if_neg (by rw [hc2]; exact fun z => e (Option.some.inj z))]
      rintro σ H' ⟨rfl, rfl⟩
      refine ⟨fun σ' H' => σ' = [some (.ref a), some (.ref g.b), some (.int (0 + (i : Int))), some (.ref t1), some (.ref tn), some (.ref la), y6, y7, y8, y9, y10, some (.ref td), some (.str (wdP L)), some (.ref r), some (.str (Sx (sgL M.ls))), some (.ref l), y16] ∧ H13 = H', ?_, ?_⟩
      · refine ⟨_, rfl, t1, _, 1, _, rfl, rfl, SqT.of d1, rfl, rfl, _, rfl, ?_⟩
        by_cases e : M.ls = [97]
        · refine itT (show V.str (Sx M.ls) = V.str "a" by rw [a_eq, e]) ⟨?_, rfl⟩
          rw [show sgL M.ls = [98] from if_pos e, ← b_eq]
          rfl
        · refine itF (fun z => e ?_) ⟨?_, rfl⟩
          · have z : V.str (Sx M.ls) = V.str "a" := z
            rw [a_eq] at z
            exact sx_inj (V.str.inj z)
          · rw [show sgL M.ls = (if M.ls.getLast? = some 122 then [97] else M.ls.dropLast ++ [122]) from if_neg e]
      rintro σ H' ⟨rfl, rfl⟩
      -- another machine
      refine ⟨fun σ' H' => ∃ o : Addr, σ' = [some (.ref a), some (.ref g.b), some (.int (0 + (i : Int))), some (.ref t1), some (.ref tn), some (.ref la), y6, y7, y8, y9, y10, some (.ref td), some (.str (wdP L)), some (.ref r), some (.str (Sx (sgL M.ls))), some (.ref l), some (.ref o)] ∧ Same H13 H' ∧ MachAt K C H' o (othM M).srt, ?_, ?_⟩
      · refine ⟨_, rfl, t1, _, 0, _, rfl, rfl, SqT.of d1, rfl, _, _, rfl, rfl, _, rfl, fun x dx nx ndx ne => ?_⟩
        have sx : Same H13 (upd (upd H13 dx (.own x)) x (.ins C dx [])) := fun b o hb => by
          rw [upd_ne (ne_of_none hb nx), upd_ne (ne_of_none hb ndx)]
          exact hb
        exact ⟨x, dx, D, D1, D2, [], othM M, rfl, upd_same, .inr (hD _), (fun _ z => nomatch z), rfl, .inr (hD1 _), .inr (hD2 _), oth_ok okM hn4, fun H' k' mm => ⟨rfl, x, rfl, fun b o hb => k' _ _ (ne_of_none hb nx) (sx _ _ hb), mm⟩⟩
      rintro σ H14 ⟨o, rfl, s14, mO⟩
      -- unlike
      refine ⟨T13.ext s14, fun H16 x16 T16 => ?_⟩
      have hl16 := x16 _ _ (s14 _ _ hl13) (fun ps z => by cases z)
      refine ⟨_, rfl, _, rfl, l, _, 0, _, rfl, rfl, SqL.of hl16, rfl, ?_⟩
      dsimp only [tNil, List.append_nil]
      refine told_unlike (mO.extN x16) ((mA13.same s14).extN x16) (sg_ok okM.2.2.1).2 fun r2 H17 s17 er => ?_
      refine ⟨(by decide : 2 ≤ sizeLine), fun tq ntq => ?_⟩
      have s18 := same_upd (o := .tup [.str "unlike", .non]) ntq
      refine ⟨.tuple [.str "unlike", .none], .tuple [.str "unlike", .none], .tup (SqT.of (s18 _ _ er)) (.cons (.str _) (.cons .non .nil)), .tup (SqT.of upd_same) (.cons (.str _) (.cons .non .nil)), by decide +kernel, by decide +kernel, _, rfl, ?_⟩
      rw [show PyData.eqv (.tuple [.str "unlike", .none]) (.tuple [.str "unlike", .none]) = true by decide +kernel]
      exact iteF ⟨_, _, _, _, _, _, _, _, _, _, _, _, _, _, _, rfl, bg_ext ((Bg13.same s14)) (x16.trans (same_extN (s17.trans s18))), T16.ext (s17.trans s18)⟩
    · rintro σ H2 ⟨y2, y3, y4, y5, y6, y7, y8, y9, y10, y11, y12, y13, y14, y15, y16, rfl, Bg2, T2⟩
      exact q H2
end
end Onp
set_option maxHeartbeats 4000000
set_option autoImplicit false
/-! facts by names, for an end by one run of the top -/
namespace Onp
open PySem PySem.Spec PyProof.Rows L2 HotX L2H LamX
open He (ga ma eqO eqO_ok ba)
section
variable {K : PySem.W.Frag}
theorem slB_ok : ∀ {l : List (Option Value)}, slB l = true → ∃ k0 k1 k2 k3 k5, l = [k0, k1, k2, k3, some (.builtin "ValueError.__new__"), k5]
  | [k0, k1, k2, k3, some (.builtin n), k5], h => ⟨k0, k1, k2, k3, k5, by rw [show n = "ValueError.__new__" from beq_iff_eq.mp h]⟩
theorem oexB_ok {C : Addr} (h : oexB K C = true) : ∃ nm q N bs bm sn sub ab col dd k0 k1 k2 k3 k5, K.lookup C = some (excClassObj nm q C N bs bm true sn sub ab col dd k0 k1 k2 k3 k5 "ValueError.__new__") ∧ PySem.HandSPX.refsVE bm = true := by
  unfold oexB at h
  cases e : K.lookup C with
  | none => rw [e] at h; cases h
  | some o =>
    obtain ⟨oc, od, dt, sl⟩ := o
    rw [e] at h
    cases oc <;> try (cases dt <;> cases h)
    rename_i t
    cases dt <;> try cases h
    rename_i cd
    obtain ⟨h1, h2⟩ := ba h
    obtain ⟨ht, h3⟩ := ba h1
    have et : t = "type" := beq_iff_eq.mp ht
    obtain ⟨a1, a2, a3, a4, a5, a6, a7, a8, a9, a10, a11⟩ := cd
    cases a3 with
    | nil => cases h3
    | cons v bm =>
      cases v <;> try cases h3
      rename_i D
      obtain ⟨g1, g2⟩ := ba h3
      obtain ⟨g3, g4⟩ := ba g2
      obtain ⟨g5, g6⟩ := ba g4
      have eD : D = C := beq_iff_eq.mp g1
      have e11 : a11 = false := beq_iff_eq.mp g3
      have e6 : a6 = true := g5
      obtain ⟨l⟩ := sl
      obtain ⟨k0, k1, k2, k3, k5, el⟩ := slB_ok (show slB l = true from h2)
      rw [et, eD, e11, e6, el]
      exact ⟨_, _, _, _, bm, _, _, _, _, _, _, _, _, _, _, rfl, g6⟩
structure ErrF (K : PySem.W.Frag) (x : Str) : Prop where
  oex : OexC K (ga K x)
  iC : PySem.W.findIn K (.ref (ga K x)) "__init__" = some (some (.ref (ma K (ga K x) "__init__")))
  tI : PySem.W.typeIn K (.ref (ma K (ga K x) "__init__")) = some (.type "function")
  wd : PySem.W.findIn K (.ref (ga K x)) "word" = some none
  er : ErrC K (ga K x)
  sub : ∀ y ∈ errNs, PySem.W.subIn K (.ref (ga K x)) (.ref (ga K y)) = some (y == x)
  any : PySem.W.exmAny K (.ref (ga K x)) [.ref (ga K "PurseError"), .ref (ga K "Missing"), .ref (ga K "NothingLeft")] = some true
theorem errB_ok {x : Str} (hA : allB K = true) (h : errB K x = true) : ErrF K x := by
  obtain ⟨A1, A⟩ := ba hA
  obtain ⟨A2, _⟩ := ba A
  obtain ⟨h1, h⟩ := ba h
  obtain ⟨h2, h⟩ := ba h
  obtain ⟨h3, h4⟩ := ba h
  obtain ⟨a1, h1⟩ := ba h1
  obtain ⟨a2, h1⟩ := ba h1
  obtain ⟨a3, h1⟩ := ba h1
  obtain ⟨a4, a5⟩ := ba h1
  obtain ⟨b1, h2⟩ := ba h2
  obtain ⟨b2, b3⟩ := ba h2
  obtain ⟨c1, h3⟩ := ba h3
  obtain ⟨c2, h3⟩ := ba h3
  obtain ⟨c3, h3⟩ := ba h3
  obtain ⟨c4, h3⟩ := ba h3
  obtain ⟨c5, c6⟩ := ba h3
  obtain ⟨d1, d2⟩ := ba h4
  exact ⟨⟨oexB_ok a1, eqO_ok a2, of_decide_eq_true a3, of_decide_eq_true a4, a5⟩, eqO_ok b1, of_decide_eq_true b2, eqO_ok b3,
    ⟨c1, eqO_ok c2, eqO_ok c3, of_decide_eq_true a3, eqO_ok c4, of_decide_eq_true A1, of_decide_eq_true A2, of_decide_eq_true c5, c6⟩,
    fun y hy => of_decide_eq_true (List.all_eq_true.mp d1 y hy), of_decide_eq_true d2⟩
theorem slLB_ok {newId : String} : ∀ {l : List (Option Value)}, slLB newId l = true → ∃ k0 k1 k2 k3 k5, l = [k0, k1, k2, k3, some (.builtin newId), k5]
  | [k0, k1, k2, k3, some (.builtin n), k5], h => ⟨k0, k1, k2, k3, k5, by rw [show n = newId from beq_iff_eq.mp h]⟩
theorem oexLB_ok {newId : String} {tl : List Value} {C : Addr} (h : oexLB newId tl K C = true) : ∃ nm q N bs bm sn sub ab col dd k0 k1 k2 k3 k5, K.lookup C = some (excClassObj nm q C N bs bm true sn sub ab col dd k0 k1 k2 k3 k5 newId) ∧ bm.dropWhile isR = tl := by
  unfold oexLB at h
  cases e : K.lookup C with
  | none => rw [e] at h; cases h
  | some o =>
    obtain ⟨oc, od, dt, sl⟩ := o
    rw [e] at h
    cases oc <;> try (cases dt <;> cases h)
    rename_i t
    cases dt <;> try cases h
    rename_i cd
    obtain ⟨h1, h2⟩ := ba h
    obtain ⟨ht, h3⟩ := ba h1
    have et : t = "type" := beq_iff_eq.mp ht
    obtain ⟨a1, a2, a3, a4, a5, a6, a7, a8, a9, a10, a11⟩ := cd
    cases a3 with
    | nil => cases h3
    | cons v bm =>
      cases v <;> try cases h3
      rename_i D
      obtain ⟨g1, g2⟩ := ba h3
      obtain ⟨g3, g4⟩ := ba g2
      obtain ⟨g5, g6⟩ := ba g4
      have eD : D = C := beq_iff_eq.mp g1
      have e11 : a11 = false := beq_iff_eq.mp g3
      have e6 : a6 = true := g5
      obtain ⟨l⟩ := sl
      obtain ⟨k0, k1, k2, k3, k5, el⟩ := slLB_ok (show slLB newId l = true from h2)
      rw [et, eD, e11, e6, el]
      exact ⟨_, _, _, _, bm, _, _, _, _, _, _, _, _, _, _, rfl, beq_iff_eq.mp g6⟩
structure ErrFL (newId : String) (tl : List Value) (K : PySem.W.Frag) (x : Str) : Prop where
  oex : OexB K (ga K x) newId tl
  iC : PySem.W.findIn K (.ref (ga K x)) "__init__" = some (some (.ref (ma K (ga K x) "__init__")))
  tI : PySem.W.typeIn K (.ref (ma K (ga K x) "__init__")) = some (.type "function")
  wd : PySem.W.findIn K (.ref (ga K x)) "word" = some none
  er : ErrC K (ga K x)
  sub : ∀ y ∈ errNs, PySem.W.subIn K (.ref (ga K x)) (.ref (ga K y)) = some (y == x)
  any : PySem.W.exmAny K (.ref (ga K x)) [.ref (ga K "PurseError"), .ref (ga K "Missing"), .ref (ga K "NothingLeft")] = some true
theorem errLB_ok {newId : String} {tl : List Value} {x : Str} (hA : allB K = true) (h : errLB newId tl K x = true) : ErrFL newId tl K x := by
  obtain ⟨A1, A⟩ := ba hA
  obtain ⟨A2, _⟩ := ba A
  obtain ⟨h1, h⟩ := ba h
  obtain ⟨h2, h⟩ := ba h
  obtain ⟨h3, h4⟩ := ba h
  obtain ⟨a1, h1⟩ := ba h1
  obtain ⟨a2, h1⟩ := ba h1
  obtain ⟨a3, h1⟩ := ba h1
  obtain ⟨a4, a5⟩ := ba h1
  obtain ⟨b1, h2⟩ := ba h2
  obtain ⟨b2, b3⟩ := ba h2
  obtain ⟨c1, h3⟩ := ba h3
  obtain ⟨c2, h3⟩ := ba h3
  obtain ⟨c3, h3⟩ := ba h3
  obtain ⟨c4, h3⟩ := ba h3
  obtain ⟨c5, c6⟩ := ba h3
  obtain ⟨d1, d2⟩ := ba h4
  exact ⟨⟨oexLB_ok a1, eqO_ok a2, of_decide_eq_true a3, of_decide_eq_true a4, a5⟩, eqO_ok b1, of_decide_eq_true b2, eqO_ok b3,
    ⟨c1, eqO_ok c2, eqO_ok c3, of_decide_eq_true a3, eqO_ok c4, of_decide_eq_true A1, of_decide_eq_true A2, of_decide_eq_true c5, c6⟩,
    fun y hy => of_decide_eq_true (List.all_eq_true.mp d1 y hy), of_decide_eq_true d2⟩
theorem allB_cl (hA : allB K = true) : ∀ y ∈ errNs, PySem.W.typeIn K (.ref (ga K y)) = some (.type "type") ∧ PySem.W.isClsIn K (ga K y) = true := fun y hy => by
  obtain ⟨_, A⟩ := ba hA
  obtain ⟨_, A⟩ := ba A
  obtain ⟨A3, _⟩ := ba A
  obtain ⟨p, q⟩ := ba (List.all_eq_true.mp A3 y hy)
  exact ⟨of_decide_eq_true p, q⟩
theorem allB_bx (hA : allB K = true) : ∀ y ∈ (["BadText", "BadPage", "TooWide"] : List Str), PySem.W.subIn K (.ref (ga K y)) (.type "BaseException") = some true := fun y hy => by
  obtain ⟨_, A⟩ := ba hA
  obtain ⟨_, A⟩ := ba A
  obtain ⟨_, A4⟩ := ba A
  exact of_decide_eq_true (List.all_eq_true.mp A4 y hy)
/-- a def without defaults -/
theorem fun_of {x q : Str} {st : Stmt} {f : Addr} {fd : FuncData} {kws : List (Str × V)} (F : FunD K x q (defArgs st) (defBody st) (defScope st) [] kws f fd) : Fun K x q st f fd := by
  obtain ⟨oc, od, dV, kV, doc, pm, an, cdv, ct, osl, rfl, lk, hcd, hD, _⟩ := F.ex
  rcases hD with ⟨_, rfl⟩ | ⟨e, _⟩
  · exact ⟨⟨oc, od, kV, doc, pm, an, cdv, ct, osl, rfl, lk, hcd⟩, F.kp⟩
  · exact absurd rfl e
/-- a def that makes lambdas: its code object is told by name -/
theorem lam_of {x q : Str} {st : Stmt} {p : He.Defn} {fd : FuncData} (F : Fun K x q st (He.fAd K p) fd) : ∃ oc od kV doc pm an ct osl, fd = PySem.W.fnOf x q (defArgs st) (defBody st) (defScope st) .none kV doc pm an (.ref (He.codeOf K p)) ct ∧ K.lookup (He.fAd K p) = some ⟨oc, od, .func (PySem.W.fnOf x q (defArgs st) (defBody st) (defScope st) .none kV doc pm an (.ref (He.codeOf K p)) ct), osl⟩ ∧ PySem.W.codeIn K (.ref (He.codeOf K p)) q = true := by
  obtain ⟨oc, od, kV, doc, pm, an, cdv, ct, osl, rfl, lk, hcd⟩ := F.ex
  obtain ⟨c, rfl⟩ := He.codeIn_ref hcd
  have e := He.codeOf_eq (p := p) (c := c) lk rfl
  rw [e]
  exact ⟨oc, od, kV, doc, pm, an, ct, osl, rfl, lk, hcd⟩
end
end Onp
set_option maxHeartbeats 8000000
namespace Onp
open PySem PySem.Spec PyProof.Rows L2 HotX L2H LamX
theorem all_mk {l : PySem.W.OpenLaw} {w : World} {K : PySem.W.Frag} {h : Heap} {mg : Str → Option Value} {fa : Addr} (X : K.In h) (G : h.Ns mainGlobals mg) (hfa : mg "law" = some (.ref fa)) (c : He.SaysX fas fns [] tfs exK w h K) :
    LamX.LawAtS l w K CX0 12 63 "_law_script" mg fa h := by
  have cd := c.t.d
  obtain ⟨fdB, DB⟩ := cd.def_ 0 (d := d_B) rfl
  have FB : Fun K "_law_bag" "_law_bag" sBag (He.ga K "_law_bag") fdB := fun_of (kws := []) DB
  have bB := FB.binds (ps := ["_law_script"]) fun _ _ _ _ _ _ us hl => match us, hl with | [_], _ => rfl
  have NB := He.glo_ok X G (cd.fact 23 (f := .glo "_law_bag") rfl)
  obtain ⟨fdPu, DPu⟩ := cd.def_ 1 (d := d_Pu) rfl
  have FPu : Fun K "_law_pull" "_law_pull" sPull (He.ga K "_law_pull") fdPu := fun_of (kws := []) DPu
  have bPu := FPu.binds (ps := ["_law_bag_here", "_law_many"]) fun _ _ _ _ _ _ us hl => match us, hl with | [_, _], _ => rfl
  have NPu := He.glo_ok X G (cd.fact 24 (f := .glo "_law_pull") rfl)
  obtain ⟨fdO, DO⟩ := cd.def_ 2 (d := d_O) rfl
  have FO : Fun K "_law_of" "_law_of" sOf (He.ga K "_law_of") fdO := fun_of (kws := []) DO
  have bO := FO.binds (ps := ["_law_bag_here", "_law_some"]) fun _ _ _ _ _ _ us hl => match us, hl with | [_, _], _ => rfl
  have NO := He.glo_ok X G (cd.fact 25 (f := .glo "_law_of") rfl)
  obtain ⟨fdSm, DSm⟩ := cd.def_ 3 (d := d_Sm) rfl
  have FSm : Fun K "_law_same" "_law_same" sSame (He.ga K "_law_same") fdSm := fun_of (kws := []) DSm
  have bSm := FSm.binds (ps := ["_law_found", "_law_due"]) fun _ _ _ _ _ _ us hl => match us, hl with | [_, _], _ => rfl
  have NSm := He.glo_ok X G (cd.fact 26 (f := .glo "_law_same") rfl)
  obtain ⟨fdKn, DKn⟩ := cd.def_ 4 (d := d_Kn) rfl
  have FKn : Fun K "_law_kind" "_law_kind" sKind (He.ga K "_law_kind") fdKn := fun_of (kws := []) DKn
  have bKn := FKn.binds (ps := ["_law_e"]) fun _ _ _ _ _ _ us hl => match us, hl with | [_], _ => rfl
  have NKn := He.glo_ok X G (cd.fact 27 (f := .glo "_law_kind") rfl)
  obtain ⟨fdTo, DTo⟩ := cd.def_ 5 (d := d_To) rfl
  have FTo : Fun K "_law_told" "_law_told" sTold (He.ga K "_law_told") fdTo := fun_of (kws := []) DTo
  have bTo := FTo.binds (ps := ["_law_ask"]) fun _ _ _ _ _ _ us hl => match us, hl with | [_], _ => rfl
  have NTo := He.glo_ok X G (cd.fact 28 (f := .glo "_law_told") rfl)
  obtain ⟨fdDe, DDe⟩ := cd.def_ 6 (d := d_De) rfl
  have FDe : Fun K "_law_deed" "_law_deed" sDeed (He.ga K "_law_deed") fdDe := fun_of (kws := []) DDe
  have bDe := FDe.binds (ps := ["_law_bag_here"]) fun _ _ _ _ _ _ us hl => match us, hl with | [_], _ => rfl
  have NDe := He.glo_ok X G (cd.fact 29 (f := .glo "_law_deed") rfl)
  obtain ⟨fdLe, DLe⟩ := cd.def_ 7 (d := d_Le) rfl
  have FLe : Fun K "_law_letters" "_law_letters" sLett (He.ga K "_law_letters") fdLe := fun_of (kws := []) DLe
  have bLe := FLe.binds (ps := ["_law_bag_here", "_law_most"]) fun _ _ _ _ _ _ us hl => match us, hl with | [_, _], _ => rfl
  have NLe := He.glo_ok X G (cd.fact 30 (f := .glo "_law_letters") rfl)
  obtain ⟨fdRo, DRo⟩ := cd.def_ 8 (d := d_Ro) rfl
  have FRo : Fun K "_law_rooms_some" "_law_rooms_some" sRooms (He.ga K "_law_rooms_some") fdRo := fun_of (kws := []) DRo
  have bRo := FRo.binds (ps := ["_law_bag_here", "_law_rooms"]) fun _ _ _ _ _ _ us hl => match us, hl with | [_, _], _ => rfl
  have NRo := He.glo_ok X G (cd.fact 31 (f := .glo "_law_rooms_some") rfl)
  obtain ⟨fdAr, DAr⟩ := cd.def_ 9 (d := d_Ar) rfl
  have FAr : Fun K "_law_arrow" "_law_arrow" sArrow (He.ga K "_law_arrow") fdAr := fun_of (kws := []) DAr
  have bAr := FAr.binds (ps := ["_law_bag_here", "_law_rooms", "_law_letters_here"]) fun _ _ _ _ _ _ us hl => match us, hl with | [_, _, _], _ => rfl
  have NAr := He.glo_ok X G (cd.fact 32 (f := .glo "_law_arrow") rfl)
  obtain ⟨fdDr, DDr⟩ := cd.def_ 10 (d := d_Dr) rfl
  have FDr : Fun K "_law_drawn" "_law_drawn" sDrawn (He.ga K "_law_drawn") fdDr := fun_of (kws := []) DDr
  have bDr := FDr.binds (ps := ["_law_bag_here", "_law_rooms_most", "_law_letters_most", "_law_arrows_most"]) fun _ _ _ _ _ _ us hl => match us, hl with | [_, _, _, _], _ => rfl
  have NDr := He.glo_ok X G (cd.fact 33 (f := .glo "_law_drawn") rfl)
  obtain ⟨fdFu, DFu⟩ := cd.def_ 11 (d := d_Fu) rfl
  have FFu : Fun K "_law_full_one" "_law_full_one" sFull (He.ga K "_law_full_one") fdFu := fun_of (kws := []) DFu
  have bFu := FFu.binds (ps := ["_law_bag_here", "_law_rooms_most", "_law_letters_most"]) fun _ _ _ _ _ _ us hl => match us, hl with | [_, _, _], _ => rfl
  have NFu := He.glo_ok X G (cd.fact 34 (f := .glo "_law_full_one") rfl)
  obtain ⟨fdKw, DKw⟩ := cd.def_ 12 (d := d_Kw) rfl
  have FKw : Fun K "_law_known" "_law_known" sKnown (He.ga K "_law_known") fdKw := fun_of (kws := []) DKw
  have bKw := FKw.binds (ps := ["_law_bag_here"]) fun _ _ _ _ _ _ us hl => match us, hl with | [_], _ => rfl
  have NKw := He.glo_ok X G (cd.fact 35 (f := .glo "_law_known") rfl)
  obtain ⟨fdMl, DMl⟩ := cd.def_ 13 (d := d_Ml) rfl
  have FMl : Fun K "_law_machine" "_law_machine" sMachL (He.ga K "_law_machine") fdMl := fun_of (kws := []) DMl
  have bMl := FMl.binds (ps := ["_law_bag_here"]) fun _ _ _ _ _ _ us hl => match us, hl with | [_], _ => rfl
  have NMl := He.glo_ok X G (cd.fact 36 (f := .glo "_law_machine") rfl)
  obtain ⟨fdMd, DMd⟩ := cd.def_ 14 (d := d_Md) rfl
  have FMd : Fun K "_law_made" "_law_made" sMade (He.ga K "_law_made") fdMd := fun_of (kws := []) DMd
  have bMd := FMd.binds (ps := ["_law_m"]) fun _ _ _ _ _ _ us hl => match us, hl with | [_], _ => rfl
  have NMd := He.glo_ok X G (cd.fact 37 (f := .glo "_law_made") rfl)
  obtain ⟨fdTe, DTe⟩ := cd.def_ 15 (d := d_Te) rfl
  have FTe : Fun K "_law_tells" "_law_tells" sLTells (He.ga K "_law_tells") fdTe := fun_of (kws := []) DTe
  have bTe := FTe.binds (ps := ["_law_made_here"]) fun _ _ _ _ _ _ us hl => match us, hl with | [_], _ => rfl
  have NTe := He.glo_ok X G (cd.fact 38 (f := .glo "_law_tells") rfl)
  obtain ⟨fdSo, DSo⟩ := cd.def_ 16 (d := d_So) rfl
  have FSo : Fun K "_law_sorted" "_law_sorted" sSortd (He.ga K "_law_sorted") fdSo := fun_of (kws := []) DSo
  have bSo := FSo.binds (ps := ["_law_m"]) fun _ _ _ _ _ _ us hl => match us, hl with | [_], _ => rfl
  have NSo := He.glo_ok X G (cd.fact 39 (f := .glo "_law_sorted") rfl)
  obtain ⟨fdAl, DAl⟩ := cd.def_ 17 (d := d_Al) rfl
  have FAl : Fun K "are_letters" "are_letters" sAreL (He.ga K "are_letters") fdAl := fun_of (kws := []) DAl
  have bAl := FAl.binds (ps := ["text"]) fun _ _ _ _ _ _ us hl => match us, hl with | [_], _ => rfl
  have NAl := He.glo_ok X G (cd.fact 40 (f := .glo "are_letters") rfl)
  obtain ⟨fdIl, DIl⟩ := cd.def_ 18 (d := d_Il) rfl
  have FIl : Fun K "is_letter" "is_letter" sIsL (He.ga K "is_letter") fdIl := fun_of (kws := []) DIl
  have bIl := FIl.binds (ps := ["text", "letters"]) fun _ _ _ _ _ _ us hl => match us, hl with | [_, _], _ => rfl
  have NIl := He.glo_ok X G (cd.fact 41 (f := .glo "is_letter") rfl)
  obtain ⟨fdIa, DIa⟩ := cd.def_ 19 (d := d_Ia) rfl
  have FIa : Fun K "is_arrow" "is_arrow" sIsA (He.ga K "is_arrow") fdIa := fun_of (kws := []) DIa
  have bIa := FIa.binds (ps := ["arrow", "rooms", "letters"]) fun _ _ _ _ _ _ us hl => match us, hl with | [_, _, _], _ => rfl
  have NIa := He.glo_ok X G (cd.fact 42 (f := .glo "is_arrow") rfl)
  obtain ⟨fdNa, DNa⟩ := cd.def_ 20 (d := d_Na) rfl
  have FNa : Fun K "need_arrows" "need_arrows" sNeedA (He.ga K "need_arrows") fdNa := fun_of (kws := []) DNa
  have bNa := FNa.binds (ps := ["arrows", "rooms", "letters"]) fun _ _ _ _ _ _ us hl => match us, hl with | [_, _, _], _ => rfl
  have NNa := He.glo_ok X G (cd.fact 43 (f := .glo "need_arrows") rfl)
  obtain ⟨fdNr, DNr⟩ := cd.def_ 21 (d := d_Nr) rfl
  have FNr : Fun K "need_rooms" "need_rooms" sNeedR (He.ga K "need_rooms") fdNr := fun_of (kws := []) DNr
  have bNr := FNr.binds (ps := ["some", "rooms"]) fun _ _ _ _ _ _ us hl => match us, hl with | [_, _], _ => rfl
  have NNr := He.glo_ok X G (cd.fact 44 (f := .glo "need_rooms") rfl)
  obtain ⟨fdSb, DSb⟩ := cd.def_ 22 (d := d_Sb) rfl
  have FSb : Fun K "steps_by_start" "steps_by_start" sStepsB (He.ga K "steps_by_start") fdSb := fun_of (kws := []) DSb
  have bSb := FSb.binds (ps := ["arrows"]) fun _ _ _ _ _ _ us hl => match us, hl with | [_], _ => rfl
  have NSb := He.glo_ok X G (cd.fact 45 (f := .glo "steps_by_start") rfl)
  obtain ⟨fdMp, DMp⟩ := cd.def_ 23 (d := d_Mp) rfl
  have FMp : Fun K "made" "made" sMadeP (He.ga K "made") fdMp := fun_of (kws := []) DMp
  have bMp := FMp.binds (ps := ["rooms", "letters", "arrows", "firsts", "lasts"]) fun _ _ _ _ _ _ us hl => match us, hl with | [_, _, _, _, _], _ => rfl
  have NMp := He.glo_ok X G (cd.fact 46 (f := .glo "made") rfl)
  obtain ⟨fdOn, DOn⟩ := cd.def_ 24 (d := d_On) rfl
  have FOn : Fun K "once_each" "once_each" sOnce (He.ga K "once_each") fdOn := fun_of (kws := []) DOn
  have bOn := FOn.binds (ps := ["things"]) fun _ _ _ _ _ _ us hl => match us, hl with | [_], _ => rfl
  have NOn := He.glo_ok X G (cd.fact 47 (f := .glo "once_each") rfl)
  obtain ⟨fdLk, DLk⟩ := cd.def_ 25 (d := d_Lk) rfl
  have FLk : Fun K "need_like" "need_like" sNeedLk (He.ga K "need_like") fdLk := fun_of (kws := []) DLk
  have bLk := FLk.binds (ps := ["one", "other"]) fun _ _ _ _ _ _ us hl => match us, hl with | [_, _], _ => rfl
  have NLk := He.glo_ok X G (cd.fact 48 (f := .glo "need_like") rfl)
  obtain ⟨fdPr, DPr⟩ := cd.def_ 26 (d := d_Pr) rfl
  have FPr : Fun K "_law_pairs_of" "_law_pairs_of" sLPr (He.ga K "_law_pairs_of") fdPr := fun_of (kws := []) DPr
  have bPr := FPr.binds (ps := ["_law_m", "_law_sieve"]) fun _ _ _ _ _ _ us hl => match us, hl with | [_, _], _ => rfl
  have NPr := He.glo_ok X G (cd.fact 49 (f := .glo "_law_pairs_of") rfl)
  obtain ⟨fdPd, DPd⟩ := cd.def_ 27 (d := d_Pd) rfl
  have FPd : Fun K "_law_product" "_law_product" sPrd (He.ga K "_law_product") fdPd := fun_of (kws := []) DPd
  have bPd := FPd.binds (ps := ["_law_m", "_law_sieve"]) fun _ _ _ _ _ _ us hl => match us, hl with | [_, _], _ => rfl
  have NPd := He.glo_ok X G (cd.fact 50 (f := .glo "_law_product") rfl)
  obtain ⟨fdAp, DAp⟩ := cd.def_ 28 (d := d_Ap) rfl
  have FAp : Fun K "all_pairs" "all_pairs" sAllP (He.ga K "all_pairs") fdAp := fun_of (kws := []) DAp
  have bAp := FAp.binds (ps := ["some", "others"]) fun _ _ _ _ _ _ us hl => match us, hl with | [_, _], _ => rfl
  have NAp := He.glo_ok X G (cd.fact 51 (f := .glo "all_pairs") rfl)
  obtain ⟨fdCt, DCt⟩ := cd.def_ 29 (d := d_Ct) rfl
  have FCt : Fun K "come_to" "come_to" sCome (He.ga K "come_to") fdCt := fun_of (kws := []) DCt
  have bCt := FCt.binds (ps := ["starts", "arrows"]) fun _ _ _ _ _ _ us hl => match us, hl with | [_, _], _ => rfl
  have NCt := He.glo_ok X G (cd.fact 52 (f := .glo "come_to") rfl)
  obtain ⟨fdNu, DNu⟩ := cd.def_ 30 (d := d_Nu) rfl
  have FNu : Fun K "numbered" "numbered" sNumd (He.ga K "numbered") fdNu := fun_of (kws := []) DNu
  have bNu := FNu.binds (ps := ["rooms", "letters", "arrows", "firsts", "lasts"]) fun _ _ _ _ _ _ us hl => match us, hl with | [_, _, _, _, _], _ => rfl
  have NNu := He.glo_ok X G (cd.fact 53 (f := .glo "numbered") rfl)
  obtain ⟨fdWn, DWn⟩ := cd.def_ 31 (d := d_Wn) rfl
  have FWn : Fun K "within" "within" sWithin (He.ga K "within") fdWn := fun_of (kws := []) DWn
  have bWn := FWn.binds (ps := ["machine", "sieve"]) fun _ _ _ _ _ _ us hl => match us, hl with | [_, _], _ => rfl
  have NWn := He.glo_ok X G (cd.fact 54 (f := .glo "within") rfl)
  obtain ⟨fdL, DL⟩ := cd.def_ 32 (d := d_L) rfl
  have FL : Fun K "law" "law" sLaw (He.fAd K ("law", none)) fdL := fun_of (kws := []) DL
  have bL := FL.binds (ps := ["_law_script"]) fun _ _ _ _ _ _ us hl => match us, hl with | [_], _ => rfl
  have NL : mg "law" = some (.ref (He.fAd K ("law", none))) := He.glo_ok X G (cd.fact 55 (f := .glo "law") rfl)
  have kpL := FL.kp
  have e := hfa.symm.trans NL
  cases e
  obtain ⟨ocL, odL, kVL, dcL, pmL, anL, ctL, slL, rfl, lL, c2L⟩ := lam_of (p := ("law", none)) FL
  obtain ⟨fdWp, DWp⟩ := cd.def_ 33 (d := d_Wp) rfl
  have FWp : Fun K "_law_wide_pair" "_law_wide_pair" sWP (He.fAd K ("_law_wide_pair", none)) fdWp := fun_of (kws := []) DWp
  have bWp := FWp.binds (ps := []) fun _ _ _ _ _ _ us hl => match us, hl with | [], _ => rfl
  have NWp : mg "_law_wide_pair" = some (.ref (He.fAd K ("_law_wide_pair", none))) := He.glo_ok X G (cd.fact 56 (f := .glo "_law_wide_pair") rfl)
  have kpWp := FWp.kp
  obtain ⟨ocWp, odWp, kVWp, dcWp, pmWp, anWp, ctWp, slWp, rfl, lWp, c2Wp⟩ := lam_of (p := ("_law_wide_pair", none)) FWp
  have y_isinstance := He.free_ok X G (cd.fact 57 (f := .free "isinstance") rfl)
  have y_list := He.free_ok X G (cd.fact 58 (f := .free "list") rfl)
  have y_tuple := He.free_ok X G (cd.fact 59 (f := .free "tuple") rfl)
  have y_bool := He.free_ok X G (cd.fact 60 (f := .free "bool") rfl)
  have y_int := He.free_ok X G (cd.fact 61 (f := .free "int") rfl)
  have y_str := He.free_ok X G (cd.fact 62 (f := .free "str") rfl)
  have y_len := He.free_ok X G (cd.fact 63 (f := .free "len") rfl)
  have y_all := He.free_ok X G (cd.fact 64 (f := .free "all") rfl)
  have y_zip := He.free_ok X G (cd.fact 65 (f := .free "zip") rfl)
  have y_set := He.free_ok X G (cd.fact 66 (f := .free "set") rfl)
  have y_sorted := He.free_ok X G (cd.fact 67 (f := .free "sorted") rfl)
  have y_range := He.free_ok X G (cd.fact 68 (f := .free "range") rfl)
  have y_enumerate := He.free_ok X G (cd.fact 69 (f := .free "enumerate") rfl)
  obtain ⟨tk0, gk0⟩ := He.str_ok X G (cd.fact 70 (f := .str "SMALL_LETTERS" "abcdefghijklmnopqrstuvwxyz") rfl)
  obtain ⟨tk1, gk1⟩ := He.int_ok X G (cd.fact 71 (f := .int "MOST_LETTERS" 3) rfl)
  obtain ⟨tk2, gk2⟩ := He.int_ok X G (cd.fact 72 (f := .int "MOST_ROOMS" 8) rfl)
  obtain ⟨tk3, gk3⟩ := He.int_ok X G (cd.fact 73 (f := .int "MOST_ARROWS" 40) rfl)
  have gC := He.glo_ok X G (cd.fact 74 (f := .glo "Machine") rfl)
  have clC := He.cls_ok (cd.fact 75 (f := .cls "Machine") rfl)
  have n1C := He.noat_ok (cd.fact 76 (f := .noat "Machine" "room_count") rfl)
  have n2C := He.noat_ok (cd.fact 77 (f := .noat "Machine" "letter_text") rfl)
  have n3C := He.noat_ok (cd.fact 78 (f := .noat "Machine" "arrow_row") rfl)
  have n4C := He.noat_ok (cd.fact 79 (f := .noat "Machine" "first_row") rfl)
  have n5C := He.noat_ok (cd.fact 80 (f := .noat "Machine" "last_row") rfl)
  have n6C := He.noat_ok (cd.fact 81 (f := .noat "Machine" "step_rows") rfl)
  have mkC := He.mkr_ok (cd.fact 82 (f := .mkr "Machine") rfl)
  obtain ⟨fdI, FI⟩ := cd.def_ 34 (d := d_I) rfl
  have CM : ClsM K (He.ga K "Machine") := ⟨clC, n1C, n2C, n3C, n4C, n5C, n6C⟩
  have TC : MkM K mg (He.ga K "Machine") fdI (He.ma K (He.ga K "Machine") "__init__") [.ref (He.dflAt ("Machine", some "__init__") 0 K)] [("firsts", .ref (kwdAt "firsts" K)), ("lasts", .ref (kwdAt "lasts" K))] := ⟨FI, mkC, gC, CM, (fun z => nomatch z), rfl⟩
  have mRm := He.meth_ok (cd.fact 83 (f := .meth "Machine" "rooms") rfl)
  obtain ⟨fdRm, DRm⟩ := cd.def_ 35 (d := d_Rm) rfl
  have FRm : Fun K "rooms" "Machine.rooms" sMRooms (He.ma K (He.ga K "Machine") "rooms") fdRm := fun_of (kws := []) DRm
  have bRm := FRm.binds (ps := ["self"]) fun _ _ _ _ _ _ us hl => match us, hl with | [_], _ => rfl
  have mLt := He.meth_ok (cd.fact 84 (f := .meth "Machine" "letters") rfl)
  obtain ⟨fdLt, DLt⟩ := cd.def_ 36 (d := d_Lt) rfl
  have FLt : Fun K "letters" "Machine.letters" sMLets (He.ma K (He.ga K "Machine") "letters") fdLt := fun_of (kws := []) DLt
  have bLt := FLt.binds (ps := ["self"]) fun _ _ _ _ _ _ us hl => match us, hl with | [_], _ => rfl
  have mAw := He.meth_ok (cd.fact 85 (f := .meth "Machine" "arrows") rfl)
  obtain ⟨fdAw, DAw⟩ := cd.def_ 37 (d := d_Aw) rfl
  have FAw : Fun K "arrows" "Machine.arrows" sMArrs (He.ma K (He.ga K "Machine") "arrows") fdAw := fun_of (kws := []) DAw
  have bAw := FAw.binds (ps := ["self"]) fun _ _ _ _ _ _ us hl => match us, hl with | [_], _ => rfl
  have mFs := He.meth_ok (cd.fact 86 (f := .meth "Machine" "firsts") rfl)
  obtain ⟨fdFs, DFs⟩ := cd.def_ 38 (d := d_Fs) rfl
  have FFs : Fun K "firsts" "Machine.firsts" sMFsts (He.ma K (He.ga K "Machine") "firsts") fdFs := fun_of (kws := []) DFs
  have bFs := FFs.binds (ps := ["self"]) fun _ _ _ _ _ _ us hl => match us, hl with | [_], _ => rfl
  have mLs := He.meth_ok (cd.fact 87 (f := .meth "Machine" "lasts") rfl)
  obtain ⟨fdLs, DLs⟩ := cd.def_ 39 (d := d_Ls) rfl
  have FLs : Fun K "lasts" "Machine.lasts" sMLsts (He.ma K (He.ga K "Machine") "lasts") fdLs := fun_of (kws := []) DLs
  have bLs := FLs.binds (ps := ["self"]) fun _ _ _ _ _ _ us hl => match us, hl with | [_], _ => rfl
  have NDEEDS := He.glo_ok X G (cd.fact 88 (f := .glo "DEEDS") rfl)
  have gPurseError := He.glo_ok X G (cd.fact 89 (f := .glo "PurseError") rfl)
  have gMissing := He.glo_ok X G (cd.fact 90 (f := .glo "Missing") rfl)
  have hx := c.more
  obtain ⟨x0, hx⟩ := He.ba hx
  obtain ⟨x1, hx⟩ := He.ba hx
  obtain ⟨x2, hx⟩ := He.ba hx
  obtain ⟨x3, hx⟩ := He.ba hx
  obtain ⟨x4, hx⟩ := He.ba hx
  obtain ⟨x5, hx⟩ := He.ba hx
  obtain ⟨x6, hx⟩ := He.ba hx
  obtain ⟨x7, hx⟩ := He.ba hx
  obtain ⟨x8, hx⟩ := He.ba hx
  obtain ⟨x9, hx⟩ := He.ba hx
  obtain ⟨x10, hx⟩ := He.ba hx
  have x11 := hx
  have SDEEDS : ∀ H, SqT K H (He.ga K "DEEDS") ((["keep", "cent", "fill", "coin", "brim"] : List Str).map V.str) := fun H => He.tupB_ok x1 H
  have gE : ∀ x ∈ errNames, mg x = some (.ref (He.ga K x)) := fun x hx => He.glo_ok X G (cd.facts (f := .glo x) (by first | exact List.mem_append_left _ (List.mem_append_left _ (List.mem_map_of_mem (show x ∈ errNs from hx))) | exact List.mem_append_left _ (List.mem_map_of_mem (show x ∈ errNs from hx))))
  have ES_ := errB_ok x0 x2
  obtain ⟨fdIS_, DIS_⟩ := cd.def_ 40 (d := d_IS_) rfl
  have FIS_ : Fun K "__init__" "BadSize.__init__" sInitBadSize (He.ma K (He.ga K "BadSize") "__init__") fdIS_ := fun_of (kws := []) DIS_
  have bIS_ := FIS_.binds (ps := ["self"]) fun _ _ _ _ _ _ us hl => match us, hl with | [_], _ => rfl
  have MS_ : MkBadSize K mg (He.ga K "BadSize") (He.ma K (He.ga K "BadSize") "__init__") fdIS_ := ⟨ES_.oex, ES_.iC, ES_.tI, FIS_, bIS_, gE "BadSize" (by decide +kernel), ES_.wd⟩
  have EL_ := errB_ok x0 x3
  obtain ⟨fdIL_, DIL_⟩ := cd.def_ 41 (d := d_IL_) rfl
  have FIL_ : Fun K "__init__" "BadLetters.__init__" sInitBadLetters (He.ma K (He.ga K "BadLetters") "__init__") fdIL_ := fun_of (kws := []) DIL_
  have bIL_ := FIL_.binds (ps := ["self"]) fun _ _ _ _ _ _ us hl => match us, hl with | [_], _ => rfl
  have ML_ : MkBadLetters K mg (He.ga K "BadLetters") (He.ma K (He.ga K "BadLetters") "__init__") fdIL_ := ⟨EL_.oex, EL_.iC, EL_.tI, FIL_, bIL_, gE "BadLetters" (by decide +kernel), EL_.wd⟩
  have EA_ := errB_ok x0 x4
  obtain ⟨fdIA_, DIA_⟩ := cd.def_ 42 (d := d_IA_) rfl
  have FIA_ : Fun K "__init__" "BadArrow.__init__" sInitBadArrow (He.ma K (He.ga K "BadArrow") "__init__") fdIA_ := fun_of (kws := []) DIA_
  have bIA_ := FIA_.binds (ps := ["self"]) fun _ _ _ _ _ _ us hl => match us, hl with | [_], _ => rfl
  have MA_ : MkBadArrow K mg (He.ga K "BadArrow") (He.ma K (He.ga K "BadArrow") "__init__") fdIA_ := ⟨EA_.oex, EA_.iC, EA_.tI, FIA_, bIA_, gE "BadArrow" (by decide +kernel), EA_.wd⟩
  have ER_ := errB_ok x0 x5
  obtain ⟨fdIR_, DIR_⟩ := cd.def_ 43 (d := d_IR_) rfl
  have FIR_ : Fun K "__init__" "BadRoom.__init__" sInitBadRoom (He.ma K (He.ga K "BadRoom") "__init__") fdIR_ := fun_of (kws := []) DIR_
  have bIR_ := FIR_.binds (ps := ["self"]) fun _ _ _ _ _ _ us hl => match us, hl with | [_], _ => rfl
  have MR_ : MkBadRoom K mg (He.ga K "BadRoom") (He.ma K (He.ga K "BadRoom") "__init__") fdIR_ := ⟨ER_.oex, ER_.iC, ER_.tI, FIR_, bIR_, gE "BadRoom" (by decide +kernel), ER_.wd⟩
  have EF_ := errB_ok x0 x6
  obtain ⟨fdIF_, DIF_⟩ := cd.def_ 44 (d := d_IF_) rfl
  have FIF_ : Fun K "__init__" "Full.__init__" sInitFull (He.ma K (He.ga K "Full") "__init__") fdIF_ := fun_of (kws := []) DIF_
  have bIF_ := FIF_.binds (ps := ["self"]) fun _ _ _ _ _ _ us hl => match us, hl with | [_], _ => rfl
  have MF_ : MkFull K mg (He.ga K "Full") (He.ma K (He.ga K "Full") "__init__") fdIF_ := ⟨EF_.oex, EF_.iC, EF_.tI, FIF_, bIF_, gE "Full" (by decide +kernel), EF_.wd⟩
  have EU_ := errB_ok x0 x7
  obtain ⟨fdIU_, DIU_⟩ := cd.def_ 45 (d := d_IU_) rfl
  have FIU_ : Fun K "__init__" "Unlike.__init__" sInitUnlike (He.ma K (He.ga K "Unlike") "__init__") fdIU_ := fun_of (kws := []) DIU_
  have bIU_ := FIU_.binds (ps := ["self"]) fun _ _ _ _ _ _ us hl => match us, hl with | [_], _ => rfl
  have MU_ : MkUnlike K mg (He.ga K "Unlike") (He.ma K (He.ga K "Unlike") "__init__") fdIU_ := ⟨EU_.oex, EU_.iC, EU_.tI, FIU_, bIU_, gE "Unlike" (by decide +kernel), EU_.wd⟩
  have KD : Kd K mg (He.ga K) ["BadSize", "BadLetters", "BadArrow", "BadRoom", "Full", "Unlike"] (He.ga K "PurseError") (He.ga K "Missing") := ⟨gE, allB_cl x0, by decide +kernel, List.forall_mem_cons.mpr ⟨ES_.er, List.forall_mem_cons.mpr ⟨EL_.er, List.forall_mem_cons.mpr ⟨EA_.er, List.forall_mem_cons.mpr ⟨ER_.er, List.forall_mem_cons.mpr ⟨EF_.er, List.forall_mem_cons.mpr ⟨EU_.er, fun _ z => nomatch z⟩⟩⟩⟩⟩⟩, List.forall_mem_cons.mpr ⟨ES_.wd, List.forall_mem_cons.mpr ⟨EL_.wd, List.forall_mem_cons.mpr ⟨EA_.wd, List.forall_mem_cons.mpr ⟨ER_.wd, List.forall_mem_cons.mpr ⟨EF_.wd, List.forall_mem_cons.mpr ⟨EU_.wd, fun _ z => nomatch z⟩⟩⟩⟩⟩⟩, List.forall_mem_cons.mpr ⟨ES_.sub, List.forall_mem_cons.mpr ⟨EL_.sub, List.forall_mem_cons.mpr ⟨EA_.sub, List.forall_mem_cons.mpr ⟨ER_.sub, List.forall_mem_cons.mpr ⟨EF_.sub, List.forall_mem_cons.mpr ⟨EU_.sub, fun _ z => nomatch z⟩⟩⟩⟩⟩⟩, allB_bx x0, gPurseError, gMissing, List.forall_mem_cons.mpr ⟨ES_.any, List.forall_mem_cons.mpr ⟨EL_.any, List.forall_mem_cons.mpr ⟨EA_.any, List.forall_mem_cons.mpr ⟨ER_.any, List.forall_mem_cons.mpr ⟨EF_.any, List.forall_mem_cons.mpr ⟨EU_.any, fun _ z => nomatch z⟩⟩⟩⟩⟩⟩⟩
  have hT : ∀ p ∈ tfs.map (He.cT K), h.get? p.2 = some { cls := .none, data := .fields #[] } := fun p hp => by
    obtain ⟨z, hz, rfl⟩ := List.mem_map.mp hp
    exact c.empty z hz
  have hO : ∀ p ∈ tfs.map (He.cT K), K.lookup p.2 = none := fun p hp => by
    obtain ⟨z, hz, rfl⟩ := List.mem_map.mp hp
    exact c.out z hz
  have hC : ∀ p ∈ tfs.map (He.cT K), PySem.W.CodeHd h p.1 p.2 := fun p hp => by
    obtain ⟨z, hz, rfl⟩ := List.mem_map.mp hp
    exact PySem.W.codeHd_of_K X (c.hd z hz)
  have Cs : CsM K mg (He.ga K "DEEDS") := ⟨⟨_, gk0⟩, ⟨_, gk1⟩, ⟨_, gk2⟩, ⟨_, gk3⟩, NDEEDS, SDEEDS⟩
  have hne : (He.cT K ("_law_wide_pair", none)).2 ≠ (He.cT K ("law", none)).2 := of_decide_eq_true x8
  refine ⟨_, tfs.map (He.cT K), spLaw K (He.cT K ("law", none)).2 (He.cT K ("_law_wide_pair", none)).2, hT, hO, hC, fun s v => .of_eq rfl, fun H a ns hl hb hH hS => ⟨a, ns, rfl, hS, hH _ List.mem_cons_self, hH _ (List.mem_cons_of_mem _ List.mem_cons_self), fun _ => rfl⟩, fun base KB GB TB =>
    ok_law lL c2L lWp c2Wp bWp NWp kpWp ⟨FB, bB, NB⟩ ⟨FPu, bPu, NPu⟩ ⟨FO, bO, NO⟩ ⟨FSm, bSm, NSm⟩ ⟨FKn, bKn, NKn⟩ ⟨FTo, bTo, NTo⟩ ⟨FDe, bDe, NDe⟩ ⟨FLe, bLe, NLe⟩ ⟨FRo, bRo, NRo⟩ ⟨FAr, bAr, NAr⟩ ⟨FDr, bDr, NDr⟩ ⟨FFu, bFu, NFu⟩ ⟨FKw, bKw, NKw⟩ ⟨FMl, bMl, NMl⟩ ⟨FMd, bMd, NMd⟩ ⟨FTe, bTe, NTe⟩ ⟨FSo, bSo, NSo⟩ ⟨FAl, bAl, NAl⟩ ⟨FIl, bIl, NIl⟩ ⟨FIa, bIa, NIa⟩ ⟨FNa, bNa, NNa⟩ ⟨FNr, bNr, NNr⟩ ⟨FSb, bSb, NSb⟩ ⟨FMp, bMp, NMp⟩ ⟨FOn, bOn, NOn⟩ ⟨FLk, bLk, NLk⟩ ⟨FPr, bPr, NPr⟩ ⟨FPd, bPd, NPd⟩ ⟨FAp, bAp, NAp⟩ ⟨FCt, bCt, NCt⟩ ⟨FNu, bNu, NNu⟩ ⟨FWn, bWn, NWn⟩
      TC (dflE_ok x9) (oneE_ok x10) (oneE_ok x11) FRm bRm mRm FLt bLt mLt FAw bAw mAw FFs bFs mFs FLs bLs mLs
      MS_ ML_ MA_ MR_ MF_ MU_ KD Cs ⟨y_isinstance, y_list, y_tuple, y_bool, y_int, y_str, y_len, y_all, y_zip⟩ ⟨y_all, y_zip, y_len, y_set⟩ ⟨y_tuple, y_sorted⟩ y_range y_enumerate (TB _ List.mem_cons_self) (TB _ (List.mem_cons_of_mem _ List.mem_cons_self)) hne⟩
end Onp
open PySem PySem.W PySem.Calls PyProof.Rows
set_option maxRecDepth 100000 in
set_option maxHeartbeats 0 in
theorem PySem.Challenge.cw_onepurse_k34_machines_within_sieves_holds : PySem.Challenge.rw_onepurse_k34_machines_within_sieves.Holds := by
  w_on; o_law
  refine HandSHeadRun.head_any (r := OpenLaw.row PySem.Challenge.rw_onepurse_k34_machines_within_sieves) (q := view (OpenLaw.row PySem.Challenge.rw_onepurse_k34_machines_within_sieves).prog [70]) (H := Onp.hk) (ob := Onp.ob) (M := 9500) (loose := Onp.loose) (d := HandSHeadRun.topDef (OpenLaw.row PySem.Challenge.rw_onepurse_k34_machines_within_sieves).prog 70) (kwd := []) Onp.ob_eq
    (by kernel_rfl) (fun s => by kernel_rfl) Onp.run (by kernel_rfl) (by kernel_rfl) (by kernel_rfl) (by rfl) (by first | assumption | decide +kernel) (by decide +kernel) ⟨rfl, rfl, rfl, rfl, rfl, by decide +kernel⟩ ?hw ?hc
  case hw => w_witness2
  case hc =>
    refine LamX.walk_ofTsE (l := PySem.Challenge.rw_onepurse_k34_machines_within_sieves) (n := 63) (k := 12) (x := "_law_script") (CX := fun _ => L2.CX0) rfl (by decide) (by kernel_rfl) ⟨rfl, by decide, by decide⟩ ?F (fun _ _ _ _ _ h => h)
    intro w mg fa h Y G hmg0
    obtain ⟨K, KX, c⟩ := Y
    have en : (HandSHeadRun.topDef (OpenLaw.row PySem.Challenge.rw_onepurse_k34_machines_within_sieves).prog 70).name = ("law" : PySem.Str) := by kernel_rfl
    rw [en] at hmg0
    exact ⟨K, KX, Onp.all_mk KX G hmg0 c⟩
