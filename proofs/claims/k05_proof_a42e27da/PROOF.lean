import PyProof.Rows.All
import Wide.All
import OpenK.AllK
import Wide.FinOn
import HandS.Head0
import HandS.Head1
import HandS.Head2
import HandS.HeadHook1
import HandS.HeadHook2
import HandS.HeadHook3
import HandS.HeadHook4
import HandS.List
import PyProof.MaxThree
import HandS.Base
import HandS.Call
import HandS.Comp
import HandS.Ends
import HandS.Iter
import HandS.Text
import HandS.Words
import HandS.Wide
import HandS.Codes
import HandS.Strs
import PyProof.ZipIter
import HandS.Exc
import HandS.Hot
import HandS.HotCalls
import KE.KTurns
import HandS.ExcOwn
import HandS.ExcCtx
import HandS.ExcInit
import HandS.ExcIs
import HandS.ExcField
import KE.KExcIs
import KE.KExcInit
import PyProof.ExcBaseAll.LookupError
import PyProof.ExcBaseAll.IndexError
import KE.KStateDown
import PyProof.StrOps2
import PyProof.ListStr
import KE.GoesEnum
import HandS.ForMost
import HandS.Walk
import HandS.TupSets
import HandS.Dict
import HandS.SetKeys
import KE.SortData
import PyProof.ListCopy
import HandS.SortInts
import HandS.Zip
import PyProof.DictMoreH
import HandS.MakeKw
import HandS.Deep
import HandS.Style
import HandS.Lambda
import HandS.CallSlots
import HandS.IsInst
import KE.KDflt
import KE.KNestM
import HandS.EndOwn
import HandS.OwnEq
import OpenK.KOps
import KE.KFmtOwn
import HandS.DictSub
import HandS.FStr
import HandS.SetTxt0
import HandS.Steps
import HandS.MakeKwOnly
import HandS.Defaults
import HandS.HeadEnd
import HandS.HeadWalk
import PySem.Challenge.RW_onepurse_k05_machines_made_or_refused
set_option Elab.async false
set_option linter.all false
set_option maxRecDepth 100000
set_option maxHeartbeats 4000000
set_option autoImplicit false
/-! the look at what the top has left, in parts: each part runs the top anew, so that none wants much memory -/
namespace Onp
open PySem PySem.Spec PyProof.Rows L2
theorem obs_join {n : Nat} {fa1 fa2 : List He.Fa} {fn1 fn2 : List He.DefD} {tf : List He.Defn} {ex : PySem.W.Frag → Bool} {g : Addr → Option Obj} {w : World} (h1 : He.obsX n fa1 fn1 [] [] (fun _ => true) g = He.valX fn1 [] w) (h2 : He.obsX n fa2 fn2 [] tf ex g = He.valX fn2 [] w) :
    He.obsX n (fa1 ++ fa2) (fn1 ++ fn2) [] tf ex g = He.valX (fn1 ++ fn2) [] w := by
  unfold He.obsX He.valX He.obsT He.valT He.obsD He.valD at *
  simp only [Prod.mk.injEq, List.map_nil, and_true, Bool.and_eq_true] at h1 h2 ⊢
  obtain ⟨⟨a1, a2⟩, _⟩ := h1
  obtain ⟨⟨b1, b2⟩, b3⟩ := h2
  refine ⟨⟨⟨?_, ?_⟩, ?_⟩, b3⟩
  · rw [List.all_append, a1.1, b1.1]
    rfl
  · rw [List.all_append, a1.2, b1.2]
    rfl
  · rw [List.map_append, List.map_append, a2, b2]
theorem map_two {σ α β : Type} {x : Option σ} {f : σ → α} {g : σ → β} {a : α} {b : β} (h : x.map f = some a) (h' : x.map g = some b) : x.map (fun s => (f s, g s)) = some (a, b) := by
  cases x with
  | none => cases h
  | some s => exact congrArg some (Prod.ext (Option.some.inj h) (Option.some.inj h'))
theorem map_three {σ α β γ : Type} {x : Option σ} {f : σ → α} {g : σ → β} {k : σ → γ} {a : α} {b : β} {c : γ} (h : x.map f = some a) (h' : x.map g = some b) (h'' : x.map k = some c) : x.map (fun s => (f s, g s, k s)) = some (a, b, c) :=
  map_two h (map_two h' h'')
theorem map_obs {σ : Type} {x : Option σ} {t : σ → Addr → Option Obj} {n : Nat} {fa1 fa2 : List He.Fa} {fn1 fn2 : List He.DefD} {tf : List He.Defn} {ex : PySem.W.Frag → Bool} {w : World}
    (h1 : x.map (fun s => He.obsX n fa1 fn1 [] [] (fun _ => true) (t s)) = some (He.valX fn1 [] w)) (h2 : x.map (fun s => He.obsX n fa2 fn2 [] tf ex (t s)) = some (He.valX fn2 [] w)) :
    x.map (fun s => He.obsX n (fa1 ++ fa2) (fn1 ++ fn2) [] tf ex (t s)) = some (He.valX (fn1 ++ fn2) [] w) := by
  cases x with
  | none => cases h1
  | some s => exact congrArg some (obs_join (Option.some.inj h1) (Option.some.inj h2))
end Onp
set_option autoImplicit false
/-! the default that a machine's arrows have: a tuple of nothing -/
namespace Onp
open PySem PySem.Spec PyProof.Rows L2
def dflE (K : PySem.W.Frag) : Bool := match K.lookup (He.dflAt ("Machine", some "__init__") 0 K) with
  | some ⟨.type c, _, .seq its _, _⟩ => decide (c = "tuple") && its.toList.isEmpty
  | _ => false
theorem dflE_ok {K : PySem.W.Frag} (h : dflE K = true) (H : Hp) : SqT K H (He.dflAt ("Machine", some "__init__") 0 K) [] := by
  unfold dflE at h
  cases q : K.lookup (He.dflAt ("Machine", some "__init__") 0 K) with
  | none => rw [q] at h; cases h
  | some o =>
    obtain ⟨oc, od, dt, osl⟩ := o
    rw [q] at h
    cases oc <;> try (cases dt <;> cases h)
    rename_i c
    cases dt <;> try cases h
    rename_i its n
    rw [Bool.and_eq_true, decide_eq_true_eq, List.isEmpty_iff] at h
    obtain ⟨rfl, h2⟩ := h
    refine .inr ⟨_, its, n, q, rfl, rfl, ?_, ?_⟩
    · rw [← Array.length_toList, h2]
      exact Nat.zero_le _
    · rw [h2]
      exact .nil
end Onp
set_option autoImplicit false
/-! the defaults that a machine's firsts and lasts have: a tuple of nought -/
namespace Onp
open PySem PySem.Spec PyProof.Rows L2
def kwdAt (x : Str) (K : PySem.W.Frag) : Addr := match K.lookup (He.fAd K ("Machine", some "__init__")) with
  | some ⟨_, _, .func fd, _⟩ => (match fd.kwdefaults with
    | .ref D => (match PySem.W.nsIn K D x with
      | some (some (.ref a)) => a
      | _ => 0)
    | _ => 0)
  | _ => 0
def oneE (K : PySem.W.Frag) (x : Str) : Bool := match K.lookup (kwdAt x K) with
  | some ⟨.type c, _, .seq its _, _⟩ => decide (c = "tuple") && He.relAll [V.int 0] its.toList
  | _ => false
theorem oneE_ok {K : PySem.W.Frag} {x : Str} (h : oneE K x = true) (H : Hp) : SqT K H (kwdAt x K) [.int 0] := by
  unfold oneE at h
  cases q : K.lookup (kwdAt x K) with
  | none => rw [q] at h; cases h
  | some o =>
    obtain ⟨oc, od, dt, osl⟩ := o
    rw [q] at h
    cases oc <;> try (cases dt <;> cases h)
    rename_i c
    cases dt <;> try cases h
    rename_i its n
    rw [Bool.and_eq_true, decide_eq_true_eq] at h
    obtain ⟨rfl, h2⟩ := h
    have hv := He.relAll_ok h2
    refine .inr ⟨_, its, n, q, rfl, rfl, ?_, hv⟩
    have := hv.length
    rw [← Array.length_toList, ← this]
    decide
end Onp
/-! rules of my own: o[i] read by values (for o[i] += e), max of three ints, max of a tuple of ints -/
namespace Onp
open PySem PySem.Spec PyProof.Rows L2
section
variable {X : Cx}
def rGetL (K : PySem.W.Frag) : V → V → Hp → VK → Prop := fun x y H Q => ∃ p xs, ∃ (j : Nat), ∃ v, x = .ref p ∧ y = .int (j : Int) ∧ SqL K H p xs ∧ xs[j]? = some v ∧ Q v H
theorem get_list : PGet X (rGetL X.K) := by
  intro pins s σ H o i ov iv Q I ro ri h
  obtain ⟨p, xs, j, v, rfl, rfl, hq, hx, q⟩ := h
  cases ro
  obtain ⟨t, rfl⟩ := ri
  obtain ⟨its, r, pl, hz⟩ := I.list hq
  obtain ⟨w, ew, rw'⟩ := r.get hx
  have hl := r.length
  have hn := line63
  have hj : j < xs.length := (List.getElem?_eq_some_iff.mp hx).1
  exact wpAny_getItem_list pl.isList (by omega) (by omega) (by simpa using ew) ⟨v, H, I, rw', q⟩
theorem vals3 {x y z : V} {us : List Value} (r : Vals [x, y, z] us) : ∃ u w' v', us = [u, w', v'] ∧ RelV x u ∧ RelV y w' ∧ RelV z v' := by
  cases r with
  | cons r1 r2 =>
    cases r2 with
    | cons r3 r4 =>
      cases r4 with
      | cons r5 r6 =>
        cases r6
        exact ⟨_, _, _, rfl, r1, r3, r5⟩
theorem call_max3 (hc : X.calm = true) : CallR X (.builtin "max") (fun xs H Q => ∃ i j k : Int, xs = [.int i, .int j, .int k] ∧ Q (.int (max (max i j) k)) H) := by
  intro pins s σ H xs us Q I r h
  obtain ⟨i, j, k, rfl, q⟩ := h
  obtain ⟨u, w', v', rfl, ⟨t, rfl⟩, ⟨t', rfl⟩, ⟨t'', rfl⟩⟩ := vals3 r
  refine max_three_ints (I.ok.hd hc) fun h' tk k' => ⟨_, H, I.kept k', ?_, q⟩
  by_cases h1 : j > i
  · rw [if_pos h1]
    by_cases h2 : k > j
    · rw [if_pos h2]
      exact ⟨_, by rw [show max (max i j) k = k by omega]⟩
    · rw [if_neg h2]
      exact ⟨_, by rw [show max (max i j) k = j by omega]⟩
  · rw [if_neg h1]
    by_cases h2 : k > i
    · rw [if_pos h2]
      exact ⟨_, by rw [show max (max i j) k = k by omega]⟩
    · rw [if_neg h2]
      exact ⟨_, by rw [show max (max i j) k = i by omega]⟩
/-- max(t) of a tuple of ints -/
theorem max_tupRaw {prog : Program} {w : World} {A : Around} {E : Value → Shared → Prop} {s : Shared} {l : Addr} {xs : Array (Int × Tok)} {Q : Value → Shared → Prop} (hh : A.handled = none) (hl : s.heap.IsTuple l (intItems xs)) (hne : 0 < xs.size)
    (h : ∀ v h' tk, (intItems xs)[argBest (fun i j => decide (numAt xs i > numAt xs j)) (xs.size - 1)]? = some v → (∀ b o, s.heap.get? b = some o → h'.get? b = some o) → Q v { s with heap := h', toks := tk }) :
    wpAny (model prog w) A (call (.builtin "max") [.ref l]) Q E s := by
  have hlt : l < s.heap.objs.size := by obtain ⟨_, e, _⟩ := hl; exact Heap.lt_size e
  refine call_max_walk (wpAny_pyIter_tuple hl ?_)
  refine ⟨_, [s.heap.objs.size, l], [s.heap.objs.size], _, _, _, _, rfl, Walks.tuple (A := A.in1) hh _ l (Nat.ne_of_lt hlt) (intItems xs), ⟨⟨_, Heap.get?_push_size _ rfl, rfl, rfl⟩, hl.push _⟩, fun b hb => ?_, by simpa [intItems] using hne, CmpOf.ints_gt (numAt xs) (fun _ _ => intItems_at), fun v h' tk hP hk => ?_⟩
  · show b < (s.heap.push _).objs.size
    rw [Heap.size_push]
    rcases List.mem_cons.mp hb with rfl | hb
    · exact Nat.lt_succ_self _
    · rcases List.mem_cons.mp hb with rfl | hb
      · exact Nat.lt_succ_of_lt hlt
      · cases hb
  · refine h v h' tk (by simpa [intItems] using hP) fun b o e => ?_
    refine hk b o (fun hm => ?_) (Heap.get?_push_of_some _ e)
    rcases List.mem_cons.mp hm with e1 | hm
    · exact absurd (e1 ▸ Heap.lt_size e) (Nat.lt_irrefl _)
    · cases hm
def rMaxT (K : PySem.W.Frag) : List V → Hp → VK → Prop := fun vs H Q => ∃ (a : Addr) (ns : List Int), vs = [V.ref a] ∧ SqT K H a (ns.map V.int) ∧ 0 < ns.length ∧ ∀ m, m ∈ ns → (∀ y, y ∈ ns → y ≤ m) → Q (.int m) H
theorem cr_maxT (hc : X.calm = true) : CallR X (.builtin "max") (rMaxT X.K) := by
  intro pins s σ H vs us Q I r h
  obtain ⟨a, ns, rfl, hs, hne, q⟩ := h
  obtain ⟨its, rv, ht, _⟩ := I.tuple hs
  rw [Vals.ref1 r]
  have hi := rv.ints
  obtain ⟨xs, e⟩ := hi.allInts.items
  have hn : numsOf (intItems xs).toList = ns := by rw [← e]; exact hi.numsOf
  rw [nums_intItems] at hn
  subst hn
  have hl : s.heap.IsTuple a its.toArray := ht
  rw [e] at hl
  have hsz : 0 < xs.size := by simpa using hne
  refine max_tupRaw (I.ok.hd hc) hl hsz fun v h' tk hv hk => ?_
  obtain ⟨t, rfl⟩ := intItems_at hv
  obtain ⟨h1, h2⟩ := argBest_gt (numAt xs) (xs.size - 1)
  refine ⟨.int _, H, I.kept hk, ⟨_, rfl⟩, q _ ?_ fun a ha => ?_⟩
  · rw [numAt_eq]; exact PySem.getD_mem (by rw [List.length_map, Array.length_toList]; omega)
  · obtain ⟨j, hj, rfl⟩ := mem_getD ha
    rw [List.length_map, Array.length_toList] at hj
    rw [← numAt_eq]; exact h2 j (by omega)
end
end Onp
set_option maxHeartbeats 4000000
namespace Onp
open PySem PySem.Spec PyProof.Rows L2
def topS (i : Nat) : Stmt := PySem.Challenge.pw_onepurse_k05_machines_made_or_refused.main.body.getD i (.Pass ⟨0, 0, 0, 0⟩)
abbrev sBag : Stmt := topS 41
abbrev sPull : Stmt := topS 42
abbrev sOf : Stmt := topS 43
/-! ### heaps: all but b stays -/
def Keep (b : Addr) (H H' : Hp) : Prop := ∀ a o, a ≠ b → H a = some o → H' a = some o
theorem Keep.refl {b : Addr} (H : Hp) : Keep b H H := fun _ _ _ h => h
theorem Keep.trans {b : Addr} {H H1 H2 : Hp} (x : Keep b H H1) (y : Keep b H1 H2) : Keep b H H2 := fun a o n h => y a o n (x a o n h)
theorem Keep.of {b : Addr} {H H' : Hp} (s : Same H H') : Keep b H H' := fun a o _ h => s a o h
theorem Keep.upd {b : Addr} {H : Hp} {o : HO} : Keep b H (upd H b o) := fun a x n h => by rw [upd_ne n]; exact h
theorem same_upd {H : Hp} {p : Addr} {o : HO} (h : H p = none) : Same H (upd H p o) := fun b x e => by
  rw [upd_ne (ne_of_none e h)]
  exact e
theorem Keep.new {b p : Addr} {H : Hp} {o : HO} (h : H p = none) : Keep b H (L2.upd H p o) := .of (same_upd h)
theorem Keep.seqL {K : PySem.W.Frag} {b a : Addr} {H H' : Hp} {xs : List V} (k : Keep b H H') (n : a ≠ b) (h : SqL K H a xs) : SqL K H' a xs := by
  rcases h with (h | ⟨o, h⟩) | h
  · exact .inl (.inl (k _ _ n h))
  · exact .inl (.inr ⟨o, k _ _ n h⟩)
  · exact .inr h
theorem Keep.seqT {K : PySem.W.Frag} {b a : Addr} {H H' : Hp} {xs : List V} (k : Keep b H H') (n : a ≠ b) (h : SqT K H a xs) : SqT K H' a xs := by
  rcases h with (h | ⟨o, h⟩) | h
  · exact .inl (.inl (k _ _ n h))
  · exact .inl (.inr ⟨o, k _ _ n h⟩)
  · exact .inr h
theorem same_seqT {K : PySem.W.Frag} {H H' : Hp} {a : Addr} {xs : List V} (e : Same H H') (h : SqT K H a xs) : SqT K H' a xs := by
  rcases h with (h | ⟨o, h⟩) | h
  · exact .inl (.inl (e _ _ h))
  · exact .inl (.inr ⟨o, e _ _ h⟩)
  · exact .inr h
theorem itT {c A B : Prop} [Decidable c] (hc : c) (h : A) : if decide c = true then A else B := by
  rw [if_pos (decide_eq_true hc)]; exact h
theorem itF {c A B : Prop} [Decidable c] (hc : ¬ c) (h : B) : if decide c = true then A else B := by
  rw [if_neg (by rw [decide_eq_false hc]; decide)]; exact h
/-! ### the bag: where it stands, where its list stands, the list -/
structure Bid where
  b : Addr
  l : Addr
  ns : List Int
def bagV (l : Addr) (i : Nat) (r s c : Int) : HO := .lst [.ref l, .int i, .int r, .int s, .int c]
def Bg (H : Hp) (g : Bid) : Prop := ∃ (i : Nat) (r s c : Int), H g.b = some (bagV g.l i r s c) ∧ H g.l = some (.lst (g.ns.map V.int)) ∧ g.l ≠ g.b
theorem Bg.same {H H' : Hp} {g : Bid} (x : Bg H g) (s : Same H H') : Bg H' g := by
  obtain ⟨i, r, z, c, h1, h2, h3⟩ := x
  exact ⟨i, r, z, c, s _ _ h1, s _ _ h2, h3⟩
theorem Bg.new {H : Hp} {g : Bid} {p : Addr} {o : HO} (x : Bg H g) (h : H p = none) : Bg (upd H p o) g := x.same (same_upd h)
theorem Bg.ne {H : Hp} {g : Bid} {p : Addr} (x : Bg H g) (h : H p = none) : p ≠ g.b := by
  obtain ⟨i, r, z, c, h1, h2, h3⟩ := x
  exact (ne_of_none h1 h).symm
theorem Bg.neL {H : Hp} {g : Bid} {p : Addr} (x : Bg H g) (h : H p = none) : p ≠ g.l := by
  obtain ⟨i, r, z, c, h1, h2, h3⟩ := x
  exact (ne_of_none h2 h).symm
theorem Bg.put {H : Hp} {g : Bid} {p : Addr} {o : HO} (x : Bg H g) (h1 : p ≠ g.b) (h2 : p ≠ g.l) : Bg (upd H p o) g := by
  obtain ⟨i, r, z, c, e1, e2, e3⟩ := x
  exact ⟨i, r, z, c, by rw [upd_ne h1.symm]; exact e1, by rw [upd_ne h2.symm]; exact e2, e3⟩
theorem cut63 (xs : List V) : cutV xs none (some 63) = xs.take 63 := by
  unfold cutV
  rw [HT.sIx_none, show HT.sIx xs.length xs.length (some 63) = min 63 xs.length from HT.sIx_nat xs.length xs.length 63]
  rw [List.drop_zero, Nat.sub_zero]
  by_cases h : xs.length ≤ 63
  · rw [List.take_of_length_le h, List.take_of_length_le (by omega)]
  · rw [show min 63 xs.length = 63 by omega]
section
variable {P : Program} {w : World} {K : PySem.W.Frag} {mg : Str → Option Value} {base : Heap}
def spBag (K : PySem.W.Frag) : Sp := fun vs H Q _ => ∃ (a : Addr) (ns : List Int), vs = [.ref a] ∧ SqL K H a (ns.map V.int) ∧
  ∀ (g : Bid) H', H g.b = none → Same H H' → Bg H' g → Q (.ref g.b) H'
theorem scBag : FnScope ["_law_script", "_law_seed", "_law_cell"] ["_law_script"] (defScope sBag) := ⟨rfl, rfl, rfl, by decide +kernel, rfl, by decide +kernel, by decide +kernel⟩
theorem ok_bag {f : Addr} {fd : FuncData} {k : Nat} (F : Fun K "_law_bag" "_law_bag" sBag f fd) (ml : mg "list" = none) : FnOk P w K mg base CX0 (k + 1) f fd ["_law_script"] (spBag K) := by
  refine F.ok scBag (fun vs H Q E h => ?_) (fun cdv A outer s H vs Q E hr h => ?_)
  · obtain ⟨a, ns, rfl, _⟩ := h
    rfl
  · obtain ⟨a, ns, rfl, hS, q⟩ := h
    refine ⟨_, pss_cons (ps_set (i := 1) scBag.nd rfl (.inl rfl) pe_int)
      (pss_cons (ps_for PassesOwn.never rfl (pi_list (pe_slice sl_list (pv 0) po_none (po_some pe_int))) (pg_name (i := 2) scBag.nd rfl (.inl rfl))
        (pss_one (ps_set (i := 1) scBag.nd rfl (.inl rfl) (pe_op op_mod (pe_op op_add (pe_op op_add (pe_op op_mul (pv 1) pe_int) (pv 2)) pe_int) pe_int))))
      (pss_one (ps_ret (pe_lst (pa_cons (pe_callTy call_list_of (by rfl) ml (by decide +kernel) (pa_cons (pe_slice sl_list (pv 0) po_none (po_some pe_int)) pa_nil))
        (pa_cons pe_int (pa_cons pe_int (pa_cons (pv 1) (pa_cons pe_int pa_nil))))))))), ?_⟩
    refine ⟨.ref a, rfl, 63, rfl, a, ns.map V.int, rfl, hS, fun p np => ?_⟩
    have s1 : Same H (upd H p (.lst (cutV (ns.map V.int) none (some 63)))) := same_upd np
    refine ⟨p, rfl, ⟨_, SqL.of upd_same⟩, for_list (K := K) (a := p) (xs := cutV (ns.map V.int) none (some 63))
      (fun i σ H' => ∃ (z : Int) (y : Option V), σ = [some (.ref a), some (.int z), y] ∧ H' = upd H p (.lst (cutV (ns.map V.int) none (some 63))))
      ⟨37, none, rfl, rfl⟩ (fun i σ H' _ ⟨z, y, _, e⟩ => by rw [e]; exact SqL.of upd_same) ?_ ?_⟩
    · rintro i x σ H' hi ⟨z, y, rfl, rfl⟩
      obtain ⟨n, rfl⟩ : ∃ n, x = V.int n := by
        rw [cut63, ← List.map_take, List.getElem?_map] at hi
        cases e : (ns.take 63)[i]? with
        | none => rw [e] at hi; cases hi
        | some u => rw [e] at hi; exact ⟨u, (Option.some.inj hi).symm⟩
      exact ⟨_, rfl, _, _, rfl, rfl, .inr ⟨by decide, by decide⟩, _, rfl, _, _, rfl, rfl, _, _, rfl, rfl, _, _, rfl, rfl, (by show (0 : Int) < 2147483629; decide), _, _, rfl, rfl⟩
    · rintro σ H' ⟨z, y, rfl, rfl⟩
      refine ⟨.ref a, rfl, 63, rfl, a, ns.map V.int, rfl, s1.seq hS, fun p2 np2 => ?_⟩
      refine ⟨p2, _, rfl, .inl (SqL.of upd_same), fun l nl => ?_⟩
      refine ⟨_, rfl, (by show 5 ≤ sizeLine; decide), fun b nb => ?_⟩
      have s2 := s1.trans (same_upd (o := .lst (cutV (ns.map V.int) none (some 63))) np2)
      have s3 := s2.trans (same_upd (o := .lst (cutV (ns.map V.int) none (some 63))) nl)
      have s4 := s3.trans (same_upd (o := .lst [.ref l, .int 0, .int 0, .int z, .int 0]) nb)
      refine q ⟨b, l, ns.take 63⟩ _ (s3.free nb) s4 ⟨0, 0, z, 0, upd_same, ?_, ?_⟩
      · show upd _ b _ l = _
        rw [upd_ne (ne_of_none upd_same nb), upd_same, cut63, List.map_take]
      · exact ne_of_none upd_same nb
/-! ### pull -/
def spPull (K : PySem.W.Frag) : Sp := fun vs H Q _ => ∃ (g : Bid) (m : Int), vs = [.ref g.b, .int m] ∧ 0 < m ∧ m.natAbs < 2 ^ 200 ∧ Bg H g ∧
  ∀ (z : Int) H', 0 ≤ z → z < m → Keep g.b H H' → Bg H' g → Q (.int z) H'
theorem scPull : FnScope ["_law_bag_here", "_law_many", "_law_rest", "_law_cell", "_law_one", "_law_two"] ["_law_bag_here", "_law_many"] (defScope sPull) := ⟨rfl, rfl, rfl, by decide +kernel, rfl, by decide +kernel, by decide +kernel⟩
theorem upd_bag {H : Hp} {b : Addr} {o o' : HO} : Keep b H (upd (upd H b o) b o') := by
  rw [upd_upd]
  exact Keep.upd
theorem mod_lo {a m : Int} (h : 0 < m) : 0 ≤ a % m := Int.emod_nonneg _ (by omega)
theorem mod_hi {a m : Int} (h : 0 < m) : a % m < m := Int.emod_lt_of_pos _ h
theorem ok_pull {f : Addr} {fd : FuncData} {k : Nat} (F : Fun K "_law_pull" "_law_pull" sPull f fd) (ml : mg "len" = none) : FnOk P w K mg base CX0 (k + 1) f fd ["_law_bag_here", "_law_many"] (spPull K) := by
  refine F.ok scPull (fun vs H Q E h => ?_) (fun cdv A outer s H vs Q E hr h => ?_)
  · obtain ⟨a, ns, rfl, _⟩ := h
    rfl
  · obtain ⟨⟨b, l, ns⟩, m, rfl, m0, m1, ⟨i, r, sd, c, hb, hl0, nlb⟩, q⟩ := h
    have hl : SqL K H l (ns.map V.int) := SqL.of hl0
    refine ⟨_, pss_cons (ps_augS (pv 0) pe_int get_list pe_int ip_add set_list)
      (pss_cons (ps_if (pt_cmpR op_gt (pe_ix ix_list (pv 0) pe_int (fun _ _ => rfl)) pe_int (nomark _))
        (pss_cons (ps_set (i := 2) scPull.nd rfl (.inl rfl) (pe_ix ix_list (pv 0) pe_int (fun _ _ => rfl)))
        (pss_cons (ps_asg (pe_op op_fdivW (pv 2) (pv 1)) (pg_sub (pv 0) pe_int set_list))
        (pss_one (ps_ret (pe_op op_mod (pv 2) (pv 1)))))) pss_nil)
      (pss_cons (ps_set (i := 3) scPull.nd rfl (.inl rfl) (pe_ix ix_list (pv 0) pe_int (fun _ _ => rfl)))
      (C8.pss_cut (ps_if (pt_cmpR op_lt (pe_ix ix_list (pv 0) pe_int (fun _ _ => rfl)) (pe_callB call_len_seq (by rfl) ml PySem.boot_len (pa_cons (pe_ix ix_list (pv 0) pe_int (fun _ _ => rfl)) pa_nil)) (nomark _))
        (pss_cons (ps_set (i := 3) scPull.nd rfl (.inl rfl) (pe_ix ix_list (pe_ix ix_list (pv 0) pe_int (fun _ _ => rfl)) (pe_ix ix_list (pv 0) pe_int (fun _ _ => rfl)) (fun _ _ => rfl)))
        (pss_one (ps_augS (pv 0) pe_int get_list pe_int ip_add set_list))) pss_nil)
      (pss_cons (ps_if (pt_cmpR op_ge (pv 3) (pe_op op_pow pe_int pe_int) (nomark _))
        (pss_cons (ps_asg (pe_op op_fdivW (pv 3) (pv 1)) (pg_sub (pv 0) pe_int set_list))
        (pss_one (ps_ret (pe_op op_mod (pv 3) (pv 1))))) pss_nil)
      (pss_cons (ps_set (i := 4) scPull.nd rfl (.inl rfl) (pe_op op_mod (pe_op op_add (pe_op op_add (pe_op op_add (pe_op op_mul (pv 3) pe_int) (pe_op op_mul (pe_ix ix_list (pv 0) pe_int (fun _ _ => rfl)) pe_int)) (pe_op op_mul (pe_ix ix_list (pv 0) pe_int (fun _ _ => rfl)) pe_int)) pe_int) pe_int))
      (pss_cons (ps_set (i := 5) scPull.nd rfl (.inl rfl) (pe_op op_mod (pe_op op_add (pe_op op_add (pe_op op_mul (pv 4) (pe_op op_add (pe_op op_mod (pv 4) pe_int) pe_int)) (pe_op op_mul (pe_ix ix_list (pv 0) pe_int (fun _ _ => rfl)) pe_int)) (pe_op op_mod (pe_ix ix_list (pv 0) pe_int (fun _ _ => rfl)) pe_int)) pe_int))
      (pss_cons (ps_asg (pe_op op_mod (pe_op op_add (pe_op op_mul (pe_ix ix_list (pv 0) pe_int (fun _ _ => rfl)) pe_int) (pv 5)) pe_int) (pg_sub (pv 0) pe_int set_list))
      (pss_one (ps_ret (pe_op op_mod (pe_op op_fdiv (pv 5) pe_int) (pv 1))))))))))), ?_⟩
    -- bag[4] += 1
    refine ⟨.ref b, rfl, b, _, 4, .int c, rfl, rfl, SqL.of hb, rfl, c, 1, rfl, rfl, b, _, 4, 4, rfl, rfl, hb, rfl, ?_⟩
    -- if bag[2] > 0
    refine ⟨.ref b, rfl, b, _, 2, .int r, rfl, rfl, SqL.of upd_same, rfl, r, 0, rfl, rfl, _, rfl, ite2 (fun _ => ?_) (fun _ => ?_)⟩
    · refine ⟨.ref b, rfl, b, _, 2, .int r, rfl, rfl, SqL.of upd_same, rfl, ?_⟩
      refine ⟨_, rfl, _, rfl, r, m, rfl, rfl, wide_div m0 m1 (by decide) (by decide), .ref b, rfl, b, _, 2, 2, rfl, rfl, upd_same, rfl, ?_⟩
      refine ⟨_, rfl, _, rfl, r, m, rfl, rfl, m0, q _ _ (mod_lo m0) (mod_hi m0) upd_bag ⟨i, r / m, sd, c + 1, upd_same, ?_, nlb⟩⟩
      exact upd_bag _ _ nlb hl0
    · -- cell = bag[3]
      refine ⟨.ref b, rfl, b, _, 3, .int sd, rfl, rfl, SqL.of upd_same, rfl, ?_⟩
      refine ⟨fun σ H1 => ∃ (i' : Nat) (z : Int), σ = [some (.ref b), some (.int m), none, some (.int z), none, none] ∧ H1 = upd H b (bagV l i' r sd (c + 1)), ?_, ?_⟩
      · refine ⟨.ref b, rfl, b, _, 1, .int i, rfl, rfl, SqL.of upd_same, rfl, .ref b, rfl, b, _, 0, .ref l, rfl, rfl, SqL.of upd_same, rfl, l, ns.map V.int, rfl, .inl (Keep.upd.seqL nlb hl), i, ((ns.map V.int).length : Int), rfl, rfl, _, rfl, ite2 (fun hi => ?_) (fun _ => ?_)⟩
        · have hi' : i < ns.length := by
            have := of_decide_eq_true hi
            rw [List.length_map] at this
            omega
          have gi : (ns.map V.int)[i]? = some (.int ns[i]) := by
            rw [List.getElem?_map, List.getElem?_eq_getElem hi']
            rfl
          refine ⟨.ref b, rfl, b, _, 0, .ref l, rfl, rfl, SqL.of upd_same, rfl, .ref b, rfl, b, _, 1, .int i, rfl, rfl, SqL.of upd_same, rfl, l, ns.map V.int, i, .int ns[i], rfl, rfl, Keep.upd.seqL nlb hl, atI_nat gi, ?_⟩
          refine ⟨.ref b, rfl, b, _, 1, .int i, rfl, rfl, SqL.of upd_same, rfl, i, 1, rfl, rfl, b, _, 1, 1, rfl, rfl, upd_same, rfl, i + 1, ns[i], rfl, ?_⟩
          rw [upd_upd]
          rfl
        · exact ⟨i, sd, rfl, rfl⟩
      · rintro σ H1 ⟨i', z, rfl, rfl⟩
        have hb1 : (upd H b (bagV l i' r sd (c + 1))) b = some (bagV l i' r sd (c + 1)) := upd_same
        refine ⟨.int z, rfl, 10, 18, rfl, rfl, ⟨by decide, by decide, by decide⟩, z, _, rfl, rfl, _, rfl, ite2 (fun _ => ?_) (fun _ => ?_)⟩
        · refine ⟨_, rfl, _, rfl, z, m, rfl, rfl, wide_div m0 m1 (by decide) (by decide), .ref b, rfl, b, _, 2, 2, rfl, rfl, upd_same, rfl, ?_⟩
          refine ⟨_, rfl, _, rfl, z, m, rfl, rfl, m0, q _ _ (mod_lo m0) (mod_hi m0) upd_bag ⟨i', z / m, sd, c + 1, upd_same, ?_, nlb⟩⟩
          exact upd_bag _ _ nlb hl0
        · -- one
          refine ⟨_, rfl, _, _, rfl, rfl, .inr ⟨by decide, by decide⟩, .ref b, rfl, b, _, 3, .int sd, rfl, rfl, SqL.of upd_same, rfl, _, _, rfl, rfl, .inr ⟨by decide, by decide⟩, _, _, rfl, rfl, .ref b, rfl, b, _, 4, .int (c + 1), rfl, rfl, SqL.of upd_same, rfl, _, _, rfl, rfl, .inr ⟨by decide, by decide⟩, _, _, rfl, rfl, _, _, rfl, rfl, _, _, rfl, rfl, (by show (0 : Int) < 2147483629; decide), ?_⟩
          have o0 := mod_lo (a := z * 48271 + sd * 40503 + (c + 1) * 69621 + 9176) (m := 2147483629) (by decide)
          have o1 := mod_hi (a := z * 48271 + sd * 40503 + (c + 1) * 69621 + 9176) (m := 2147483629) (by decide)
          generalize hone : (z * 48271 + sd * 40503 + (c + 1) * 69621 + 9176) % 2147483629 = one at o0 o1
          -- two
          refine ⟨_, rfl, _, rfl, _, _, rfl, rfl, (by show (0 : Int) < 65521; decide), _, _, rfl, rfl, _, _, rfl, rfl, .inl ⟨?_, ?_⟩, .ref b, rfl, b, _, 4, .int (c + 1), rfl, rfl, SqL.of upd_same, rfl, _, _, rfl, rfl, .inr ⟨by decide, by decide⟩, _, _, rfl, rfl, .ref b, rfl, b, _, 3, .int sd, rfl, rfl, SqL.of upd_same, rfl, _, _, rfl, rfl, (by show (0 : Int) < 104729; decide), _, _, rfl, rfl, _, _, rfl, rfl, (by show (0 : Int) < 998244353; decide), ?_⟩
          · rw [hone]; omega
          · rw [hone]; omega
          refine ⟨.ref b, rfl, b, _, 3, .int sd, rfl, rfl, SqL.of upd_same, rfl, _, _, rfl, rfl, .inr ⟨by decide, by decide⟩, _, rfl, _, _, rfl, rfl, _, _, rfl, rfl, (by show (0 : Int) < 2147483563; decide), .ref b, rfl, b, _, 3, 3, rfl, rfl, upd_same, rfl, ?_⟩
          refine ⟨_, rfl, _, _, rfl, rfl, ⟨by decide, by decide⟩, _, rfl, _, _, rfl, rfl, m0, q _ _ (mod_lo m0) (mod_hi m0) upd_bag ⟨i', r, _, c + 1, upd_same, ?_, nlb⟩⟩
          exact upd_bag _ _ nlb hl0
/-! ### one of a list -/
def spOf (K : PySem.W.Frag) : Sp := fun vs H Q _ => ∃ (g : Bid) (p : Addr) (xs : List V), vs = [.ref g.b, .ref p] ∧ Bg H g ∧ p ≠ g.b ∧ SqL K H p xs ∧ 0 < xs.length ∧ xs.length < 1000 ∧
  ∀ v H', v ∈ xs → Keep g.b H H' → Bg H' g → Q v H'
theorem scOf : FnScope ["_law_bag_here", "_law_some"] ["_law_bag_here", "_law_some"] (defScope sOf) := ⟨rfl, rfl, rfl, by decide +kernel, rfl, by decide +kernel, by decide +kernel⟩
theorem ok_of {f fP : Addr} {fd fdP : FuncData} {k : Nat} (F : Fun K "_law_of" "_law_of" sOf f fd) (FP : Fun K "_law_pull" "_law_pull" sPull fP fdP) (bP : Binds K fdP ["_law_bag_here", "_law_many"] []) (gP : mg "_law_pull" = some (.ref fP)) (ml : mg "len" = none) : FnOk P w K mg base CX0 (k + 2) f fd ["_law_bag_here", "_law_some"] (spOf K) := by
  have GP : FnOk P w K mg base CX0 (k + 1) fP fdP ["_law_bag_here", "_law_many"] (spPull K) := ok_pull FP ml
  refine F.ok scOf (fun vs H Q E h => ?_) (fun cdv A outer s H vs Q E hr h => ?_)
  · obtain ⟨b, p, xs, rfl, _⟩ := h
    rfl
  · obtain ⟨b, p, xs, rfl, B, npb, hx, h0, hlen, q⟩ := h
    refine ⟨_, pss_one (ps_ret (pe_ix ix_list (pv 1) (pe_call GP hr (by rfl) gP FP.kp bP .nil pass0 (pa_cons (pv 0) (pa_cons (pe_callB call_len_seq (by rfl) ml PySem.boot_len (pa_cons (pv 1) pa_nil)) pa_nil))) (fun _ _ => rfl))), ?_⟩
    refine ⟨.ref p, rfl, .ref b.b, rfl, .ref p, rfl, p, xs, rfl, .inl hx, b, (xs.length : Int), rfl, by omega, ?_, B, fun z H' z0 z1 kp B' => ?_⟩
    · exact Nat.lt_trans (show ((xs.length : Int)).natAbs < 2 ^ 64 by omega) (by decide)
    · have e : z = ((z.toNat : Nat) : Int) := by omega
      have hz1 : z.toNat < xs.length := by omega
      rw [e]
      exact ⟨p, xs, z.toNat, xs[z.toNat], rfl, rfl, kp.seqL npb hx, atI_nat (List.getElem?_eq_getElem hz1), q _ _ (List.getElem_mem hz1) kp B'⟩
end
end Onp
set_option maxHeartbeats 2000000
/-! while an exception is handled: the ends of walks -/
namespace Onp
open PySem PySem.Spec PyProof.Rows L2 HotX L2H
section
variable {prog : Program} {w : World} {A : Around} {E : Value → Shared → Prop} {s : Shared}
/-- a StopIteration raised while x1 is handled -/
theorem stopHot {α : Type} {x1 : Addr} {Q : α → Shared → Prop} (hot : HotAt A x1 s.heap)
    (hE : ∀ h' e, (∀ b o, s.heap.get? b = some o → h'.get? b = some o) → (∃ o, h'.get? e = some o ∧ o.cls = .type "StopIteration") → E (.ref e) { s with heap := h' }) :
    wpAny (model prog w) A ((newExc (.type "StopIteration") [] >>= fun v => raiseNew v) : Sem α) Q E s := by
  obtain ⟨hh, o1, vs1, g1, g2, g3⟩ := hot
  refine wpAny_bind ?_
  simp only [newExc, newTuple]
  refine wpAny_bind (wpAny_newObj_type (wpAny_bind (m := firstArgMember _ _) (wpAny_of_eq (a := Value.none) (by first | rfl | (simp only [firstArgMember]; rfl)) (wpAny_newObj_type ?_ (by size_fits)))) (by size_fits))
  have k1 : (s.heap.push { cls := .type "tuple", data := .seq #[] }).get? x1 = some o1 := Heap.get?_push_of_some _ g1
  refine raiseNew_hot (x1 := x1) ⟨hh, o1, vs1, Heap.get?_push_of_some _ k1, g2, g3⟩ (Nat.ne_of_lt (Heap.lt_size k1)) (Heap.get?_push_size _ rfl) rfl (by first | (simp; done) | (simp; omega)) ?_
  refine hE _ _ (fun b o e => ?_) ⟨_, Heap.get?_update_self _ (Heap.get?_push_size _ rfl) rfl, rfl⟩
  have k2 : (s.heap.push { cls := .type "tuple", data := .seq #[] }).get? b = some o := Heap.get?_push_of_some _ e
  rw [Heap.get?_update_other _ _ (Nat.ne_of_gt (Heap.lt_size k2))]
  exact Heap.get?_push_of_some _ k2
theorem hot_but {x1 a : Addr} {h h' : Heap} (t : HotAt A x1 h) (n : x1 ≠ a) (k : ∀ b o, b ≠ a → h.get? b = some o → h'.get? b = some o) : HotAt A x1 h' := by
  obtain ⟨hh, o1, vs1, g1, g2, g3⟩ := t
  exact ⟨hh, o1, vs1, k _ _ n g1, g2, g3⟩
/-- the end of a list, asked by nextOf -/
theorem listEndHot {x1 it l : Addr} {i : Nat} {items : Array Value} {Q : Value → Shared → Prop} (hot : HotAt A x1 s.heap) (nx : x1 ≠ it) (hit : s.heap.IsListIter it l i) (hl : s.heap.IsList l items) (hx : items[i]? = none)
    (hE : ∀ h' e, Heap.ExtBut it s.heap h' → (∃ o, h'.get? e = some o ∧ o.cls = .type "StopIteration") → E (.ref e) { s with heap := h' }) : wpAny (model prog w) A (Builtin.SmallTypes.nextOf (.ref it)) Q E s := by
  obtain ⟨ob, g1, g2, g3⟩ := id hit
  obtain ⟨lb, k1, _, kn, k3⟩ := hl
  unfold Builtin.SmallTypes.nextOf
  refine wpAny_bind (wpAny_callSpecial?_slot (name := Str.ofString "__next__") hit.typeIs slot_listiter_next (wpAny_call_entry slot_listiter_next hit.typeIs entry_listiter_next ?_ (args_listiter_next _)))
  show wpAny _ _ (field (.ref it) 0 >>= _) _ _ s
  refine wpAny_bind (wpAny_field g1 g3 (x := .ref l) rfl ?_)
  show wpAny _ _ (if (Value.ref l == Value.none) = true then _ else _) _ _ s
  rw [if_neg (by exact Bool.false_ne_true : ¬ ((Value.ref l == Value.none) = true))]
  show wpAny _ _ (field (.ref it) 1 >>= _) _ _ s
  refine wpAny_bind (wpAny_field g1 g3 (x := .int i 0) rfl ?_)
  show wpAny _ _ (seqItems? (.ref l) >>= _) _ _ s
  refine wpAny_bind (wpAny_seqItems k1 k3 ?_)
  simp only [hx, Int.toNat_natCast]
  refine wpAny_bind (wpAny_rule (wpAny_bind (wpAny_setField g1 g3 (by simp) ?_)))
  have sb : Heap.SameBut it s.heap (s.heap.update it (Obj.mapFields (·.setIfInBounds 0 Value.none))) := Heap.SameBut.update ..
  refine stopHot (x1 := x1) (hot_but (A := A.in1) hot nx fun b o n e => sb.extBut b o n e) fun h' e k he => hE h' e (fun b o n q => k b o (sb.extBut b o n q)) he
/-- the end of a tuple -/
theorem tupEndHot {x1 it t : Addr} {i : Nat} {items : Array Value} {Q : Option Value → Shared → Prop} (hot : HotAt A x1 s.heap) (nx : x1 ≠ it) (hit : IsTupIter s.heap it t i) (ht : IsTup s.heap t items) (hx : items[i]? = none)
    (hQ : ∀ h', Heap.ExtBut it s.heap h' → Q none { s with heap := h' }) : wpAny (model prog w) A (pyNext (.ref it)) Q E s := by
  obtain ⟨ob, g1, g2, g3⟩ := id hit
  obtain ⟨lb, k1, _, kn, k3⟩ := ht
  unfold pyNext
  refine wpAny_bind (wpAny_attempt (wpAny_callSpecial?_slot (name := Str.ofString "__next__") hit.typeIs slot_tupleiter_next (wpAny_call_entry slot_tupleiter_next hit.typeIs entry_tupleiter_next ?_ (args_tupleiter_next _))))
  show wpAny _ _ (field (.ref it) 0 >>= _) _ _ s
  refine wpAny_bind (wpAny_field g1 g3 (x := .ref t) rfl ?_)
  show wpAny _ _ (if (Value.ref t == Value.none) = true then _ else _) _ _ s
  rw [if_neg (by exact Bool.false_ne_true : ¬ ((Value.ref t == Value.none) = true))]
  show wpAny _ _ (field (.ref it) 1 >>= _) _ _ s
  refine wpAny_bind (wpAny_field g1 g3 (x := .int i 0) rfl ?_)
  show wpAny _ _ (seqItems? (.ref t) >>= _) _ _ s
  refine wpAny_bind (wpAny_seqItems k1 k3 ?_)
  simp only [hx, Int.toNat_natCast]
  refine wpAny_bind (wpAny_rule (wpAny_bind (wpAny_setField g1 g3 (by simp) ?_)))
  have sb : Heap.SameBut it s.heap (s.heap.update it (Obj.mapFields (·.setIfInBounds 0 Value.none))) := Heap.SameBut.update ..
  refine stopHot (x1 := x1) (hot_but (A := A.in1) hot nx fun b o n e => sb.extBut b o n e) fun h' e k he => ?_
  obtain ⟨oe, q1, q2⟩ := he
  exact wpAny_bind (wpAny_isInstance (T := "StopIteration") (b := true) ⟨oe, q1, q2⟩ isSubtype_stop (wpAny_pure (hQ h' fun b o n q => k b o (sb.extBut b o n q))))
/-- a tuple unpacked -/
theorem unpackHot {x1 t : Addr} {items : Array Value} {Q : List Value → Shared → Prop} (hot : HotAt A x1 s.heap) (ht : IsTup s.heap t items)
    (hQ : ∀ h', Heap.ExtBut s.heap.objs.size s.heap h' → Q items.toList { s with heap := h' }) : wpAny (model prog w) A (unpackItems (.ref t) items.size none) Q E s := by
  have n1 : t ≠ s.heap.objs.size := by
    obtain ⟨o, ho, _⟩ := ht
    exact Nat.ne_of_lt (Heap.lt_size ho)
  have n2 : x1 ≠ s.heap.objs.size := by
    obtain ⟨_, o, _, ho, _⟩ := hot
    exact Nat.ne_of_lt (Heap.lt_size ho)
  unfold unpackItems
  refine wpAny_bind ?_
  unfold notIterableAtAll
  refine wpAny_bind (wpAny_specialOf ht.typeIs slot_tuple_iter.lookup (wpAny_pure ?_))
  simp only [if_false, Bool.false_eq_true]
  refine wpAny_bind (wpAny_holding (iter_tuple ht (wpAny_bind (wpAny_holding (draw_tuple n1 items.size 0 _ _ ⟨_, Heap.get?_push_size _ rfl, rfl, rfl⟩ (ht.push _) (by omega) fun j1 c1 c2 => ?_)))))
  have whole : List.take items.size (List.drop 0 items.toList) = items.toList := by rw [List.drop_zero, List.take_of_length_le (by simp)]
  rw [whole, if_neg (by simp)]
  have tj : IsTup j1 t items := (ht.push _).extBut c2.extBut n1
  have hj : HotAt A x1 j1 := hot_but hot n2 fun b o n e => c2.extBut b o n (Heap.get?_push_of_some _ e)
  refine wpAny_bind (wpAny_holding (tupEndHot hj n2 c1 tj (by simp) fun j2 c3 => ?_))
  simp only [if_false, Option.isSome_none, Bool.false_eq_true]
  exact wpAny_pure (hQ j2 fun b o n e => c3 b o n (c2.extBut b o n (Heap.get?_push_of_some _ e)))
theorem assignTupHot {x1 : Addr} {env : Env} {elts : List Expr} {k} {pos : Pos} {t : Addr} {items : Array Value} {Q : Unit → Shared → Prop} (hot : HotAt A x1 s.heap) (ht : IsTup s.heap t items)
    (hn : (assignEach elts env).length = items.size) (hstar : (assignEach elts env).findIdx? (·.1) = none)
    (h : ∀ h', Heap.ExtBut s.heap.objs.size s.heap h' → wpAny (model prog w) A (assignInOrder ((assignEach elts env).map (·.2)) items.toList) Q E { s with heap := h' }) :
    wpAny (model prog w) A (assign (.Tuple elts k pos) env (.ref t)) Q E s := by
  rw [assign_Tuple]
  refine wpAny_bind (wpAny_standAt ?_)
  unfold unpack
  rw [hn, hstar]
  exact wpAny_bind (wpAny_holding (unpackHot hot ht h))
/-- zip's end: the first list is through -/
theorem zipEndHot {x1 z TI TO i1 i2 l1 l2 : Addr} {k1 : Nat} {xs : Array Value} {a b : Value} {Q : Option Value → Shared → Prop} (hot : HotAt A x1 s.heap) (nx : x1 ≠ z ∧ x1 ≠ i1) (D : ZipApart z TI TO i1 i2 l1 l2)
    (hz : IsZip s.heap z TI TO .none) (hTI : IsPair s.heap TI (.ref i1) (.ref i2)) (hTO : IsPair s.heap TO a b) (h1 : s.heap.IsListIter i1 l1 k1) (hl1 : s.heap.IsList l1 xs) (hx : xs[k1]? = none)
    (hQ : ∀ h', (∀ c o, c ≠ z → c ≠ i1 → s.heap.get? c = some o → h'.get? c = some o) → Q none { s with heap := h' }) : wpAny (model prog w) A (pyNext (.ref z)) Q E s := by
  have hT : s.TypeIs (.ref z) "zip" := ⟨_, hz, rfl⟩
  unfold pyNext
  refine wpAny_bind (wpAny_attempt (wpAny_callSpecial?_slot (name := Str.ofString "__next__") hT F.slot_zip_next (wpAny_call_entry F.slot_zip_next hT F.entry_zip_next ?_ (F.args_zip_next_1 _))))
  show wpAny _ _ (field (.ref z) 2 >>= _) _ _ _
  refine wpAny_bind (wpAny_field hz rfl (x := .bool false) rfl ?_)
  show wpAny _ _ (field (.ref z) 3 >>= _) _ _ _
  refine wpAny_bind (wpAny_field hz rfl (x := .ref TI) rfl (wpAny_bind (wpAny_seqItems hTI rfl ?_)))
  show wpAny _ _ (Builtin.SmallTypes.ownedTupleIsFree (.ref z) >>= _) _ _ _
  refine wpAny_bind ?_
  unfold Builtin.SmallTypes.ownedTupleIsFree
  refine wpAny_bind (wpAny_field hz rfl (x := .none) rfl (wpAny_pure ?_))
  simp only [if_true]
  refine wpAny_bind (wpAny_rule (wpAny_bind (wpAny_field hz rfl (x := .ref TO) rfl (wpAny_bind (wpAny_setField_rec hz (by simp) fun j1 zj sj => ?_)))))
  replace zj : IsZip j1 z TI TO .ellipsis := zj
  refine wpAny_bind ?_
  simp only [List.zipIdx_cons, List.zipIdx_nil, List.forIn_cons, List.forIn_nil]
  refine wpAny_bind (wpAny_bind (wpAny_onRaise ?_))
  show wpAny _ _ (Builtin.SmallTypes.nextOf (.ref i1) >>= _) _ _ _
  refine wpAny_bind (listEndHot (x1 := x1) (hot_but (A := A.in1) hot nx.1 fun b o n e => sj.extBut b o n e) nx.2 (h1.extBut sj.extBut D.i1z) (hl1.extBut sj.extBut D.l1z) hx fun j2 e c2 he => ?_)
  obtain ⟨oe, q1, q2⟩ := he
  have z2 : IsZip j2 z TI TO .ellipsis := c2 _ _ D.i1z.symm zj
  have ez : e ≠ z := fun x => by subst x; rw [z2] at q1; cases q1; simp at q2
  refine wpAny_setField_rec z2 (by simp) fun j3 _ c3 => ?_
  exact wpAny_bind (wpAny_isInstance (T := "StopIteration") (b := true) ⟨oe, c3.extBut _ _ ez q1, q2⟩ isSubtype_stop (wpAny_pure (hQ j3 fun c o n1 n2 q => c3.extBut _ _ n1 (c2 _ _ n2 (sj.extBut _ _ n1 q)))))
end
end Onp
set_option maxHeartbeats 4000000
namespace Onp
open PySem PySem.Spec PyProof.Rows L2 HotX L2H
/-! ### (a, b) = a tuple, while an exception is handled -/
theorem pg_tupH {X : Cx} {es : List Expr} {k : Nat} {t : TGs} {n : Nat} {pos : Pos} (hc : HotC X) (h : PGs X es t) (hn : (assignEach es X.env).length = n := by rfl) (hst : (assignEach es X.env).findIdx? (·.1) = none := by rfl) :
    PG X (.Tuple es k pos) (gTup X.K n t) := by
  refine ⟨fun pins s σ H v u Q I r hw => ?_⟩
  obtain ⟨p, xs, rfl, hq, hl, hw⟩ := hw
  obtain rfl : u = Value.ref p := r
  obtain ⟨its, rv, ht, hz⟩ := I.tuple hq
  obtain ⟨x1, hot⟩ := hc.at I
  refine assignTupHot hot ht (by simp [hn, ← hl, rv.length]) hst fun h' hx => ?_
  exact h.run pins _ σ H xs _ Q (I.kept (t' := s.toks) fun b o e => hx b o (Nat.ne_of_lt (Heap.lt_size e)) e) (by simpa using rv) hw
/-! ### zip of two lists, the first no longer than the second -/
def Itz1 (K : PySem.W.Frag) (a b : Addr) : It := ⟨(Itz K a b).go, (Itz K a b).yld, fun i H => ∃ xs ys : List V, SqL K H a xs ∧ SqL K H b ys ∧ xs.length ≤ i⟩
def zipSt (a b z TI TO i1 i2 : Addr) (i : Nat) (h : Heap) : Prop := IsZip h z TI TO .none ∧ IsPair h TI (.ref i1) (.ref i2) ∧ (∃ x y, IsPair h TO x y) ∧ h.IsListIter i1 a i ∧ h.IsListIter i2 b i
theorem turnZipH {P : Program} {w : World} {K : PySem.W.Frag} {elts : List Expr} {kk : Nat} {tpos : Pos} {a b z TI TO i1 i2 : Addr} (D : ZipApart z TI TO i1 i2 a b) :
    TurnH P w K (.Tuple elts kk tpos) (Itz1 K a b) [z, TI, TO, i1, i2] z (zipSt a b z TI TO i1 i2) where
  mem := List.mem_cons_self
  obj := (turn_zip (P := P) (w := w) (K := K) (elts := elts) (kk := kk) (tpos := tpos) D).obj
  keep := (turn_zip (P := P) (w := w) (K := K) (elts := elts) (kk := kk) (tpos := tpos) D).keep
  self := (turn_zip (P := P) (w := w) (K := K) (elts := elts) (kk := kk) (tpos := tpos) D).self
  item := by
    intro X eP ew eK hc i pins s σ H E I hf st hg
    subst eP ew eK
    obtain ⟨z1, z2, ⟨v1, v2, z3⟩, z4, z5⟩ := st
    obtain ⟨xs, ys, x, y, qx, qy, ex, ey⟩ := hg
    obtain ⟨us, ru, pu, _⟩ := I.list qx
    obtain ⟨ws, rw', pw, _⟩ := I.list qy
    obtain ⟨u1, e1, r1⟩ := ru.get ex
    obtain ⟨u2, e2, r2⟩ := rw'.get ey
    have lz : z < s.heap.objs.size := Heap.lt_size z1
    refine wpAny_pyNext_zip_item D z1 z2 z3 z4 z5 pu.isList pw.isList (x := u1) (y := u2) (by simpa using e1) (by simpa using e2) fun j n1 n2 n3 n4 n5 n6 n7 => ⟨_, rfl, ?_⟩
    refine wpAny_letOwnedTupleGo_zip (s := { s with heap := j }) n1 fun j2 m1 sb => ?_
    have old : ∀ c, c ∈ [z, TI, TO, i1, i2] → c < s.heap.objs.size := fun c hm => by
      have e' : c = z ∨ c = TI ∨ c = TO ∨ c = i1 ∨ c = i2 := by simpa using hm
      obtain ⟨_, q4, _⟩ := z4
      obtain ⟨_, q5, _⟩ := z5
      rcases e' with rfl | rfl | rfl | rfl | rfl
      · exact lz
      · exact Heap.lt_size z2
      · exact Heap.lt_size z3
      · exact Heap.lt_size q4
      · exact Heap.lt_size q5
    have tj : j2.get? s.heap.objs.size = some { cls := .type "tuple", data := .seq #[u1, u2] } := (sb.2 _ (Nat.ne_of_gt lz)).trans n5
    have kp : ∀ c o, c ∉ [z, TI, TO, i1, i2] → s.heap.get? c = some o → j2.get? c = some o := fun c o nm q => by
      have nn : c ≠ z ∧ c ≠ TI ∧ c ≠ TO ∧ c ≠ i1 ∧ c ≠ i2 := by simpa using nm
      exact (sb.2 c nn.1).trans (n7 c o nn.1 nn.2.2.1 nn.2.2.2.1 nn.2.2.2.2 q)
    have J := I.turnedNew (t' := s.toks) (ch := [z, TI, TO, i1, i2]) (ob := .tup [x, y]) kp hf (Nat.le_refl _) ⟨(by decide : 2 ≤ sizeLine), [u1, u2], .cons r1 (.cons r2 .nil), ⟨_, tj, rfl, _, rfl⟩⟩
    refine ⟨.ref s.heap.objs.size, _, J, rfl, ⟨_, x, y, rfl, I.hok.fresh (Nat.le_refl _), rfl, fun l hl => by rw [I.list_inj hl qx]; exact ex, fun l hl => by rw [I.list_inj hl qy]; exact ey⟩, ⟨m1, ?_, ⟨u1, u2, ?_⟩, ?_, ?_⟩, fun c hm => ?_⟩
    · exact (sb.2 _ D.TIz).trans (n7 _ _ D.TIz D.TITO D.TIi1 D.TIi2 z2)
    · exact (sb.2 _ D.TOz).trans n2
    · exact n3.at fun o q => (sb.2 _ D.i1z).trans q
    · exact n4.at fun o q => (sb.2 _ D.i2z).trans q
    · rw [upd_ne (Nat.ne_of_lt (old c hm))]
      exact (hf c hm).1
  done := by
    intro X eP ew eK hc i pins s σ H E I hf st hg
    subst eP ew eK
    obtain ⟨z1, z2, ⟨v1, v2, z3⟩, z4, z5⟩ := st
    obtain ⟨xs, ys, qx, qy, he⟩ := hg
    obtain ⟨us, ru, pu, _⟩ := I.list qx
    have l1 := ru.length
    obtain ⟨p, ⟨hh, v, e1, c1⟩, hp⟩ := hc
    have P1 := (I.pin p (List.mem_append_left _ hp)).1
    have np : ∀ c, c ∈ [z, TI, TO, i1, i2] → p.1 ≠ c := fun c hm => (hf c hm).2.2.2.2.2 p (List.mem_append_left _ hp)
    refine zipEndHot (x1 := p.1) ⟨hh, p.2, v, P1, e1, c1⟩ ⟨np z (by simp), np i1 (by simp)⟩ D z1 z2 z3 z4 pu.isList (by simp; omega) fun j kj => ⟨rfl, I.turnedL (t' := s.toks) (ch := [z, TI, TO, i1, i2]) (fun c o nm q => ?_) hf⟩
    have nn : c ≠ z ∧ c ≠ TI ∧ c ≠ TO ∧ c ≠ i1 ∧ c ≠ i2 := by simpa using nm
    exact kj c o nn.1 nn.2.2.2.1 q
def iZip1 (K : PySem.W.Frag) (ta : TA) : TI := fun σ H R => ta σ H fun vs H1 => ∃ a b xs ys, vs = [.ref a, .ref b] ∧ SqL K H1 a xs ∧ SqL K H1 b ys ∧ R (Itz1 K a b) H1
theorem pi_zipH {X : Cx} {e e2 : Expr} {ta : TA} {p pos tpos : Pos} {elts : List Expr} {kk : Nat} (hg : Gl X "zip") (hm : X.mg "zip" = none) (ha : PA X [e, e2] ta)
    (hs : starEach [e, e2] X.env = (false, eval e X.env) :: starEach [e2] X.env := by rfl) (hpl : (backTo pos (starEach [e2] X.env)).any (·.1) = false := by rfl) : PIH X (.Tuple elts kk tpos) (.Call (.Name "zip" p) [e, e2] [] pos) (iZip1 X.K ta) := by
  refine ⟨fun pins s σ H R I h => Call_ (ld_blt I hg hm PyProof.Rows.boot_zip (PyProof.Rows.callWith_type1 (thn (ha.run pos pins s σ H _ I h) fun us s1 ⟨vs, H1, I1, r1, q1⟩ => ?_) hs hpl))⟩
  obtain ⟨a, b, xs, ys, rfl, qx, qy, q⟩ := q1
  obtain ⟨w1, w2, rfl, ra, rb⟩ := vals2 r1
  cases ra
  cases rb
  obtain ⟨us, ru, pu, _⟩ := I1.list qx
  obtain ⟨ws, rw', pw, _⟩ := I1.list qy
  refine call_zip_2 pu.isList pw.isList fun j y1 y2 y3 y4 y5 y6 y7 => wpAny_pyIter_zip y1 ⟨s1.heap.objs.size + 4, [s1.heap.objs.size + 4, s1.heap.objs.size + 2, s1.heap.objs.size + 3, s1.heap.objs.size, s1.heap.objs.size + 1], _, _, H1, rfl, I1.kept (t' := s1.toks) y7, turnZipH (PySem.W.ktu_apart s1.heap.objs.size a b pu.lt pw.lt), ⟨y1, y2, ⟨_, _, y3⟩, y4, y5⟩, fun c hm => ?_, q⟩
  have hle : s1.heap.objs.size ≤ c := by
    have e' : c = s1.heap.objs.size + 4 ∨ c = s1.heap.objs.size + 2 ∨ c = s1.heap.objs.size + 3 ∨ c = s1.heap.objs.size ∨ c = s1.heap.objs.size + 1 := by simpa using hm
    rcases e' with z | z | z | z | z <;> rw [z] <;> first | exact Nat.le_refl _ | exact Nat.le_add_right _ _
  exact I1.fpOk hle (I1.hok.fresh hle)
/-! ### the block of a comprehension that keeps a pin -/
abbrev blkH (X : Cx) (p : Addr × Obj) (s : Shared) (H : Hp) (scope : Scope) (cenv : Env) (fp : List Addr) : Cx := { X.blk s H scope cenv fp with pn := [p] }
theorem addPn {X : Cx} {p : Addr × Obj} {pins : List (Addr × Obj)} {σ : L2.St} {H : Hp} {s : Shared} (hX : X.pn = []) (I : Inv X pins σ H s) (hp : s.heap.get? p.1 = some p.2 ∧ H p.1 = none ∧ p.1 ≠ X.env.locals ∧ p.1 ∉ X.fs ∧ ∀ v, p.2.data ≠ .cell v) : Inv { X with pn := [p] } pins σ H s := by
  have ok := I.ok
  refine ⟨⟨ok.mod, ok.kind, ok.glob, ok.blt, ok.above, ok.inj, ok.has, ok.cab, ok.hd, ok.frames, ok.stk, ok.exf, ok.bs, ok.bsz, ok.noex, ok.exfs, ok.funs, ok.frf⟩, I.os, I.bare, I.base, I.loc, I.cell, I.free, I.freeC, fun q hq => ?_, I.hok, I.len⟩
  have hq' : q ∈ [p] ++ pins := hq
  rcases List.mem_append.mp hq' with z | z
  · have e : q = p := by simpa using z
    rw [e]
    exact hp
  · exact I.pin q (by rw [hX]; exact z)
theorem hotBlk {X : Cx} {p : Addr × Obj} {s : Shared} {H : Hp} {scope : Scope} {cenv : Env} {fp : List Addr} (h : Hot1 X.A p) : HotC (blkH X p s H scope cenv fp) := ⟨p, h, List.mem_cons_self⟩
theorem lcHot {X : Cx} {p : Addr × Obj} {pins : List (Addr × Obj)} {s : Shared} {σ : L2.St} {H : Hp} {Q : VK} {elt tg iter : Expr} {ifs : List Expr} {scope : Scope} {own : List (Str × Nat)} {pos : Pos} {wi : TI} {g : TG} {tt : TT} {te : TE}
    (hot : Hot1 X.A p) (hp : p ∈ X.pn) (hN : X.N.Nodup) (I : Inv X pins σ H s) (hi : PIH X tg iter wi) (ok : BlkOk X.N X.env.scope scope own)
    (hg : ∀ s H C cl fp, PG (blkH X p s H scope (compEnvC scope cl C X.env) fp) tg g) (ht : ∀ s H C cl fp, PTs (blkH X p s H scope (compEnvC scope cl C X.env) fp) ifs tt) (he : ∀ s H C cl fp, PE (blkH X p s H scope (compEnvC scope cl C X.env) fp) elt te)
    (hs : ∀ x, foldedSetIterable iter X.env x = pure x) (h : tLc wi g tt te (own.map (·.2)) σ H Q) : wpAny (model X.prog X.w) X.A (eval (.ListComp elt [⟨tg, iter, ifs, 0⟩] scope pos) X.env) (EP X pins σ Q) X.xe s := by
  rw [eval_ListComp]
  have caps : ∀ y ∈ scope.names, y.2 = .free → ∃ c, X.env.cells.lookup y.1 = some c := fun y hy e => (ok.free y hy e).elim (fun k => I.ok.has _ (.inl k)) (fun k => I.ok.has _ (.inr k))
  refine wpAny_comprehension_free (use := none) rfl hs (closure_ok caps) ok.kind (fun y hy e => by rw [ok.uniq y hy, e]) (thn (hi.run pins s σ H _ I h) fun xv s1 hx => thn hx fun itv s2 hx2 => ?_)
  obtain ⟨it, fp, tn, J, H2, rfl, I2, T, t2, f2, q⟩ := hx2
  refine wpAny_newObj_type (newEnv_comp ?_) (Nat.zero_le _)
  generalize eD : s2.heap.objs.size = D
  have freeD : H2 D = none := I2.hok.fresh (Nat.le_of_eq eD)
  obtain ⟨W, ⟨m0, w0⟩, turn⟩ := q D freeD
  generalize e3 : ({ s2 with heap := s2.heap.push { cls := .type "list", data := .seq ([] : List Value).toArray } } : Shared) = u3
  have hu3 : u3.heap = s2.heap.push { cls := .type "list", data := .seq ([] : List Value).toArray } := by rw [← e3]
  have I3 : Inv X pins σ (upd H2 D (.lst [])) u3 := by
    rw [← e3]
    exact I2.laid (t' := s2.toks) (fun b o e => Heap.get?_push_of_some _ e) (Nat.le_of_eq eD) ⟨Nat.zero_le _, [], 0, .nil, by rw [← eD]; exact Heap.get?_push_size _ rfl⟩
  have f3 : ∀ b ∈ fp, FpOk X pins (upd H2 D (.lst [])) b ∧ b < u3.heap.objs.size := fun b hb => by
    obtain ⟨o, e, _⟩ := T.obj _ _ t2 b hb
    have lt := Heap.lt_size e
    exact ⟨⟨by rw [upd_ne (by rw [← eD]; exact Nat.ne_of_lt lt)]; exact (f2 b hb).1, (f2 b hb).2⟩, by rw [hu3, Heap.size_push]; exact Nat.lt_succ_of_lt lt⟩
  have I4' := block_start I3 ok hN f3
  generalize eH : upd H2 D (.lst []) = H3 at I3 I4' w0 f3
  generalize ece : compEnvC scope (cellsFrom (u3.heap.objs.size + 1) scope.names (cloFrom X.env.cells scope.names [])) u3.heap.objs.size X.env = ce at I4'
  have cl0 : ce.locals = u3.heap.objs.size := by subst ece; rfl
  generalize e4 : ({ u3 with heap := pushCells (u3.heap.push { cls := .type "dict", data := .dict #[] }) scope.names } : Shared) = u4 at I4'
  have kept4 : ∀ b o, u3.heap.get? b = some o → u4.heap.get? b = some o := fun b o e => by rw [← e4]; exact pushCells_keeps _ _ _ _ (Heap.get?_push_of_some _ e)
  have p3 := I3.pin p (List.mem_append_left _ hp)
  have I4 : Inv (blkH X p u3 H3 scope ce fp) [] (wipe σ (own.map (·.2))) H3 u4 := by
    refine addPn rfl I4' ⟨kept4 _ _ p3.1, p3.2.1, ?_, fun z => ?_, p3.2.2.2.2⟩
    · show p.1 ≠ ce.locals
      rw [cl0]
      exact Nat.ne_of_lt (Heap.lt_size p3.1)
    · rcases List.mem_cons.mp (I3.stkSub p.1 z) with y | y
      · exact p3.2.2.1 y
      · exact p3.2.2.2.1 y
  have pg := hg u3 H3 u3.heap.objs.size (cellsFrom (u3.heap.objs.size + 1) scope.names (cloFrom X.env.cells scope.names [])) fp
  have pt := ht u3 H3 u3.heap.objs.size (cellsFrom (u3.heap.objs.size + 1) scope.names (cloFrom X.env.cells scope.names [])) fp
  have pe := he u3 H3 u3.heap.objs.size (cellsFrom (u3.heap.objs.size + 1) scope.names (cloFrom X.env.cells scope.names [])) fp
  rw [ece] at pg pt pe
  have t4 : tn 0 u4.heap := T.keep _ _ _ t2 fun b _ o e => kept4 b o (by rw [hu3]; exact Heap.get?_push_of_some _ e)
  have hb := hotBlk (X := X) (s := u3) (H := H3) (scope := scope) (cenv := ce) (fp := fp) hot
  have stat : ∀ {σ' : L2.St} {H' : Hp} {s' : Shared}, Inv (blkH X p u3 H3 scope ce fp) [] σ' H' s' → (∀ b ∈ fp, H' b = none) → ∀ b ∈ fp, FpOk (blkH X p u3 H3 scope ce fp) [] H' b := fun {σ' H' s'} I' hn b hb' => by
    refine ⟨hn b hb', (I'.ok.exf b hb').1, I'.ok.exfs b hb', .inl hb', fun x c e => (I'.ok.exf b hb').2 x c e, fun q hq => ?_⟩
    have eq : q = p := by simpa using (show q ∈ [p] ++ ([] : List (Addr × Obj)) from hq)
    rw [eq]
    exact (f3 b hb').1.2.2.2.2.2 p (List.mem_append_left _ hp)
  show codeAny _ _ (.compStart (.ListComp elt [⟨tg, iter, ifs, 0⟩] scope pos) 0 (.ref it) (.ref D) (compEnvC scope (cellsFrom (u3.heap.objs.size + 1) scope.names (cloFrom X.env.cells scope.names [])) u3.heap.objs.size X.env)) (compPost (model X.prog X.w) X.A X.xe none (EP X pins σ Q) (.ref D) u3.heap.objs.size) u4
  rw [ece]
  have loop : codeAny (model X.prog X.w) X.A (.compLoop (.ListComp elt [⟨tg, iter, ifs, 0⟩] scope pos) 0 (.ref it) (.ref D) ce) (compPost (model X.prog X.w) X.A X.xe none (EP X pins σ Q) (.ref D) u3.heap.objs.size) u4 := by
    refine compLoop_any (fun n s' => ∃ i H', Inv (blkH X p u3 H3 scope ce fp) [] (wipe σ (own.map (·.2))) H' s' ∧ tn i s'.heap ∧ (∀ b ∈ fp, H' b = none) ∧ W i n H') (fun n u5 ⟨i, H5, I5, t5, n5, w5⟩ => ?_) m0 ⟨0, H3, I4, t4, fun b hb' => (f3 b hb').1.1, w0⟩
    rcases turn i n H5 w5 with ⟨stop, qq⟩ | ⟨go, Nx, hNx, step⟩
    · refine thnF (T.done (blkH X p u3 H3 scope ce fp) rfl rfl rfl hb i [] u5 _ H5 (fun _ _ => False) I5 (stat I5 n5) t5 stop) fun r u6 ⟨hr, I6⟩ => ?_
      subst hr
      have I7 : Inv X pins σ H5 u6 := I3.call' (ch := fp) I6.os I6.base I6.hok I6.bare fun b hb' => ⟨(f3 b hb').1.2.2.2.1, (f3 b hb').1.2.1, (f3 b hb').1.2.2.2.2.1, (f3 b hb').1.2.2.2.2.2⟩
      obtain ⟨m, hn, _⟩ := I6.loc
      have fr : H5 ce.locals = none := I6.free
      replace hn : u6.heap.Ns ce.locals m := hn
      rw [cl0] at hn fr
      obtain ⟨y0, y1, y2, y3, y4, y5⟩ := I3.fpOk (H' := H5) (Nat.le_refl _) fr
      exact ⟨m, hn, fun h'' sb => ⟨.ref D, H5, I7.turned (t' := u6.toks) (fun b o hb' e => (sb.2 b hb').trans e) y0 y1 y3 y4 y5, rfl, qq⟩⟩
    · refine thnF (T.item (blkH X p u3 H3 scope ce fp) rfl rfl rfl hb i [] u5 _ H5 (fun _ _ => False) I5 (stat I5 n5) t5 go) fun r u6 ⟨v, hr, h6⟩ => ?_
      subst hr
      refine thnF h6 fun _ u7 ⟨x, H7, I7, r7, y7, t7, n7⟩ => ?_
      have J7 := I7.pinned (stat I7 n7) (T.obj _ _ t7)
      refine thnF (pg.run _ u7 _ H7 x v _ J7 r7 (step x H7 y7)) fun _ u8 ⟨σ8, H8, I8, hw8, q8⟩ => ?_
      refine thnF (pt.run _ u8 σ8 H8 _ I8 q8) fun b u9 ⟨H9, I9, q9⟩ => ?_
      have back : ∀ {s' : Shared} {H' : Hp}, Inv (blkH X p u3 H3 scope ce fp) ([] ++ pinsAt fp u7.heap) σ8 H' s' → Nx H' → ∃ m, m < n ∧ ∃ i H', Inv (blkH X p u3 H3 scope ce fp) [] (wipe σ (own.map (·.2))) H' s' ∧ tn i s'.heap ∧ (∀ b ∈ fp, H' b = none) ∧ W i m H' := fun {s' H'} K' nx => by
        obtain ⟨m', hm, w'⟩ := hNx H' nx
        have pin' : ∀ b ∈ fp, ∀ o, u7.heap.get? b = some o → s'.heap.get? b = some o ∧ H' b = none := fun b hb' o e => by
          have z := K'.pin (b, o) (List.mem_append_right _ (List.mem_append_right _ (mem_pinsAt hb' e)))
          exact ⟨z.1, z.2.1⟩
        refine ⟨m', hm, i + 1, H', (K'.unpinned (pins := [])).weak (by rw [← hw8, wipe_length]) (fun j v e => ?_), T.keep _ _ _ t7 fun b hb' o e => (pin' b hb' o e).1, fun b hb' => ?_, w'⟩
        · rw [← hw8] at e
          exact (wipe_some e).1
        · obtain ⟨o, e, _⟩ := T.obj _ _ t7 b hb'
          exact (pin' b hb' o e).2
      cases b with
      | false =>
        simp only [if_false, Bool.false_eq_true] at q9 ⊢
        exact back I9 q9
      | true =>
        simp only [if_true] at q9 ⊢
        refine thnF (pe.run _ u9 σ8 H9 _ I9 q9) fun z u10 ⟨yv, H10, I10, r10, acc, d10, z10, nx⟩ => ?_
        exact app_ok (X := blkH X p u3 H3 scope ce fp) I10 d10 z10 r10 fun u11 I11 => back I11 nx
  exact codeAny_compStart_list loop (T.self X.A 0 _ _ _ t4 loop)
theorem pe_lcH {X : Cx} {p : Addr × Obj} {elt tg iter : Expr} {ifs : List Expr} {scope : Scope} {own : List (Str × Nat)} {pos : Pos} {wi : TI} {g : TG} {tt : TT} {te : TE} (hot : Hot1 X.A p) (hp : p ∈ X.pn) (hN : X.N.Nodup) (hi : PIH X tg iter wi) (ok : BlkOk X.N X.env.scope scope own)
    (hg : ∀ s H C cl fp, PG (blkH X p s H scope (compEnvC scope cl C X.env) fp) tg g) (ht : ∀ s H C cl fp, PTs (blkH X p s H scope (compEnvC scope cl C X.env) fp) ifs tt) (he : ∀ s H C cl fp, PE (blkH X p s H scope (compEnvC scope cl C X.env) fp) elt te)
    (hs : ∀ x, foldedSetIterable iter X.env x = pure x := by intro _; rfl) : PE X (.ListComp elt [⟨tg, iter, ifs, 0⟩] scope pos) (tLc wi g tt te (own.map (·.2))) :=
  ⟨fun pins s σ H Q I h => lcHot hot hp hN I hi ok hg ht he hs h⟩
end Onp
set_option maxHeartbeats 4000000
set_option autoImplicit false
namespace Onp
open PySem PySem.Spec PyProof.Rows L2 HotX L2H
/-! ### try: body, except t1 as n: .. except t2 as n: .. -/
theorem fly_more {B h h' : Heap} {l : List Env} {e : Addr} {Z : Obj → Prop} (x : HandSPX.FlyingZ B l e Z h) (k : ∀ b o, h.get? b = some o → h'.get? b = some o) : HandSPX.FlyingZ B l e Z h' := by
  obtain ⟨x1, x2, x3, oe, vs, T, oT, ts, y1, y2, y3, y4, y5, y6, y7, y8, y9⟩ := x
  exact ⟨fun b o q => k _ _ (x1 b o q), x2, x3.of_keeps fun b o q _ => ⟨o, k b o q, rfl⟩, oe, vs, T, oT, ts, k _ _ y1, y2, y3, y4, y5, y6, k _ _ y7, y8, y9⟩
def TestOk (X : Cx) (t : Expr) (m : Value → Option Bool) : Prop :=
  ∀ (a : Addr) (pn : List (Addr × Obj)) (s : Shared) (σ : L2.St) (H : Hp) (cls : Value) (b : Bool) (Q : Bool → Shared → Prop) (E : Value → Shared → Prop), Inv (X.suite a pn) [] σ H s → PySem.W.Looks (model X.prog X.w) s.heap (typeOf (.ref a)) cls → m cls = some b →
    (∀ h', (∀ c o, s.heap.get? c = some o → h'.get? c = some o) → Q b { s with heap := h' }) →
    wpAny (model X.prog X.w) (X.A.mark (some (.ref a))) (eval t X.env) (fun c s1 => wpAny (model X.prog X.w) (X.A.mark (some (.ref a))) (excMatches (.ref a) c) Q E s1) E s
theorem test_name {X : Cx} {x : Str} {c : Value} {np : Pos} (hg : Gl X x) (hd : (x == ("__debug__" : Str)) = false) (hm : X.mg x = some c) : TestOk X (.Name x np) (fun cls => PySem.W.exmOne X.K cls c) := by
  intro a pn s σ H cls b Q E I LT hb q
  have LM := PySem.W.exm_one (M := model X.prog X.w) I.kIn LT hb
  exact ld_glob (X := X.suite a pn) I hg hm (LM.here (q _ fun _ _ z => z)) hd
theorem test_three {X : Cx} {x y z : Str} {c1 c2 c3 : Addr} {p1 p2 p3 tp : Pos} {k : Nat} (g1 : Gl X x) (g2 : Gl X y) (g3 : Gl X z) (d1 : (x == ("__debug__" : Str)) = false) (d2 : (y == ("__debug__" : Str)) = false) (d3 : (z == ("__debug__" : Str)) = false)
    (m1 : X.mg x = some (.ref c1)) (m2 : X.mg y = some (.ref c2)) (m3 : X.mg z = some (.ref c3)) (hst : starEach [.Name x p1, .Name y p2, .Name z p3] X.env = [(false, eval (.Name x p1) X.env), (false, eval (.Name y p2) X.env), (false, eval (.Name z p3) X.env)] := by rfl) :
    TestOk X (.Tuple [.Name x p1, .Name y p2, .Name z p3] k tp) (fun cls => PySem.W.exmAny X.K cls [.ref c1, .ref c2, .ref c3]) := by
  intro a pn s σ H cls b Q E I LT hb q
  have kp : ∀ c o, s.heap.get? c = some o → (s.heap.push { cls := .type "tuple", data := .seq [Value.ref c1, .ref c2, .ref c3].toArray }).get? c = some o := fun c o e => Heap.get?_push_of_some _ e
  refine wpAny_Tuple_spliced ?_
  rw [hst]
  show wpAny _ _ (spliced ((false, eval (.Name x p1) X.env) :: (false, eval (.Name y p2) X.env) :: (false, eval (.Name z p3) X.env) :: [])) _ _ s
  refine Calls.spliced_cons (ld_glob (X := X.suite a pn) I g1 m1 ?_ d1)
  refine Calls.spliced_cons (ld_glob (X := X.suite a pn) I g2 m2 ?_ d2)
  refine Calls.spliced_cons (ld_glob (X := X.suite a pn) I g3 m3 ?_ d3)
  refine Calls.spliced_nil ⟨(by decide : 3 ≤ sizeLine), ?_⟩
  exact (PySem.W.exm_tup3 (M := model X.prog X.w) (I.kIn.keeps kp) (LT.keeps kp) (Heap.get?_push_size _ rfl) hb).here (q _ kp)
abbrev Clause := (Value → Option Bool) × (Addr → Value → Option Addr → TS)
def clr (i : Nat) (D : Ends) : Ends := { nx := fun σ' H' => D.nx (σ'.set i none) H', rt := D.rt, bk := fun σ' H' => D.bk (σ'.set i none) H', ct := fun σ' H' => D.ct (σ'.set i none) H' }
def wClauses (i : Nat) (Wout : WX) (D : Ends) : List Clause → WX
  | [] => Wout
  | (m, ts) :: r => fun cls d σ H => ∃ b, m cls = some b ∧ (b = true → ∀ a, H a = none → ts a cls d (clr i D) (σ.set i (some (.ref a))) H) ∧ (b = false → wClauses i Wout D r cls d σ H)
inductive Clauses (X : Cx) (n : Str) : List ExceptHandler → List Clause → Prop
  | nil : Clauses X n [] []
  | cons {t : Expr} {m : Value → Option Bool} {ts : Addr → Value → Option Addr → TS} {b₀ : Stmt} {suite : List Stmt} {pos' : Pos} {hds : List ExceptHandler} {l : List Clause} (ht : TestOk X t m)
      (hsu : ∀ (a : Addr) (oe : Obj) (cls : Value) (d : Option Addr) (pn : List (Addr × Obj)), L2N.Zn cls d oe → (∃ vs, oe.data = .fields vs) → PSs (X.suite a ((a, oe) :: pn)) (b₀ :: suite) (ts a cls d)) (r : Clauses X n hds l) :
      Clauses X n (.ExceptHandler (some t) (some n) (b₀ :: suite) pos' :: hds) ((m, ts) :: l)
theorem ps_try_clauses {X : Cx} {n : Str} {i : Nat} {body : List Stmt} {h₀ : ExceptHandler} {hds : List ExceptHandler} {l : List Clause} {pos : Pos} {tb : WX → TS} {Wout : WX} (hs : X.stack = X.env :: X.outer) (hf : X.env.frame = some X.env.locals) (hN : X.N.Nodup) (hi : X.N[i]? = some n)
    (hln : X.env.kindOf n = some .local) (tk : L2N.Takes X Wout)
    (hb : ∀ (W : WX) (pn : List (Addr × Obj)) (xe : Value → Shared → Prop), L2N.Takes (X.tr pn xe) W → PassesOwn (model X.prog X.w) X.A X.env xe → PSs (X.tr pn xe) body (tb W)) (hh : Clauses X n (h₀ :: hds) l) :
    PS X (.Try body (h₀ :: hds) [] [] pos) (fun D σ H => tb (fun cls d σ H => σ.length = X.N.length → wClauses i Wout D l cls d σ H) D σ H) := by
  refine ⟨fun pins s σ H D I h => wpAny_Try_except ?_⟩
  have ok := I.ok
  have efr : X.A.frames = some (X.env :: X.outer) := by rw [ok.frames, hs]
  refine wpAny_mono ((hb (fun cls d σ H => σ.length = X.N.length → wClauses i Wout D l cls d σ H) (X.pn ++ pins) _ (fun u s' xx => ?_) PassesOwn.looking).run [] s σ H D (I.toTry _) h) (fun f s1 hsp => ?_) (fun e s1 he => he)
  · obtain ⟨a, B, sI, pins', σ', H', cls, d, rfl, J', nb, up, sky, na, os, ag, w⟩ := xx
    have J : Inv X pins σ' H' sI := J'.ofTry ok
    rw [hs] at sky
    show wpAny (model X.prog X.w) X.A (noteFrame (.ref a) X.env) _ _ _
    refine L2N.Sky.land L2N.Zn.steady efr hf sky fun h3 fl3 up3 => ?_
    have go : ∀ {hds' : List ExceptHandler} {l' : List Clause}, Clauses X n hds' l' → wClauses i Wout D l' cls d σ' H' → ∀ h4, HandSPX.FlyingZ B (X.env :: X.outer) a (L2N.Zn cls d) h4 → sI.heap.UpToSlots h4 →
        wpAny (model X.prog X.w) X.A (handleBy (.ref a) X.env hds') (SP X pins D) X.xe { s' with heap := h4 } := by
      intro hds' l' hk
      induction hk with
      | nil =>
        intro w h4 fl up4
        refine wpAny_handleBy_nil ?_
        obtain ⟨_, _, _, oe, vs, T, oT, ts', y1, y2, y3, y4, _⟩ := id fl
        unfold PySem.passOn
        refine wpAny_bind (wpAny_field y1 y3 y4 ?_)
        rw [if_neg (by simp : ¬ ((Value.ref T == Value.none) = true))]
        have fin : wpAny (model X.prog X.w) X.A (setFlight (.ref a) X.env.frame) (fun _ s4 => wpAny (model X.prog X.w) X.A (throw (.ref a) : Sem Flow) (SP X pins D) X.xe s4) X.xe { s' with heap := h4 } := by
          rw [hf]
          exact HandSPX.setFlight_upZ fl fun h5 hh5 up5 => wpAny_throw (tk _ _ ⟨a, B, sI, pins, σ', H', cls, d, rfl, J, nb, up4.trans up5, .inr (.inr (by rw [hs]; exact hh5)), na, os, ag, w⟩)
        first
          | exact wpAny_bind (wpAny_pure (wpAny_bind fin))
          | exact wpAny_bind fin
      | @cons t m ts b₀ suite pos' hds2 l2 ht hsu r ih =>
        intro w h4 fl up4
        obtain ⟨b, hb1, hyes, hno⟩ := w
        obtain ⟨oe, vs, ge, gz, gd⟩ := fl.there
        have J4 : Inv X pins σ' H' { s' with heap := h4 } := J.landed nb fl.1 up4 os ag
        have nfr : a ∉ frs (X.env :: X.outer) := fun hm => by
          obtain ⟨_, o', e', hnf⟩ := fl.2.2.1.mem hm
          rw [ge] at e'
          cases e'
          exact hnf _ gd
        have nL : a ≠ X.env.locals := fun z => nfr (List.mem_filterMap.mpr ⟨X.env, List.mem_cons_self, by rw [hf, z]⟩)
        have nF : a ∉ X.fs := fun hm => by
          obtain ⟨e, he, q⟩ := List.mem_filterMap.mp hm
          exact nfr (List.mem_filterMap.mpr ⟨e, List.mem_cons_of_mem _ he, q⟩)
        refine wpAny_handleBy_cons (codeAny_handlers_test ?_) (by intro q; cases q)
        refine ht a _ _ σ' H' cls b _ _ (J4.suite ge gd na nL nF) (fun A Q E s k q => wpAny_typeOf_ref (k _ _ ge) (by rw [gz.1]; exact q)) hb1 fun h5 k5 => ?_
        have fl5 := fly_more fl k5
        have up5 : sI.heap.UpToSlots h5 := up4.trans fun b o e _ => ⟨o.slots, k5 b o e⟩
        cases b with
        | true =>
          refine codeAny_handlers_suite_as (HandSPX.lands_againZ fl5 fun h6 fl6 up6 => ?_)
          have J6 : Inv X pins σ' H' { s' with heap := h6 } := J.landed nb fl6.1 (up5.trans up6) os ag
          obtain ⟨oe6, vs6, ge6, gz6, gd6⟩ := fl6.there
          refine store_ok (X := X.suite a ((a, oe6) :: (X.pn ++ pins))) (v := .ref a) (J6.suite ge6 gd6 na nL nF) hN hi (.inl hln) rfl (fun s7 S7 => ?_) (.inr hln)
          refine wpAny_mono ((hsu a oe6 cls d (X.pn ++ pins) gz6 ⟨_, gd6⟩).run [] s7 _ H' _ S7 (hyes rfl a na)) (fun f s8 hsp => ?_) (fun _ _ z => False.elim z)
          have away : ∀ {σ8 : L2.St} {H8 : Hp} {Q : Shared → Prop}, Inv (X.suite a ((a, oe6) :: (X.pn ++ pins))) [] σ8 H8 s8 → (∀ s9, Inv X pins (σ8.set i none) H8 s9 → Q s9) →
              wpAny (model X.prog X.w) X.A (do bindName X.env n .none; unbindBehindTheSuite X.env n pos') (fun _ s9 => Q s9) X.xe s8 := fun {σ8 H8 Q} S8 hq => gone_ok (S8.unsuite ok) hN hi hln hq
          cases f with
          | next => obtain ⟨σ8, H8, S8, q8⟩ := hsp; exact away S8 fun s9 J9 => ⟨_, _, J9, q8⟩
          | brk => obtain ⟨σ8, H8, S8, q8⟩ := hsp; exact away S8 fun s9 J9 => ⟨_, _, J9, q8⟩
          | cont => obtain ⟨σ8, H8, S8, q8⟩ := hsp; exact away S8 fun s9 J9 => ⟨_, _, J9, q8⟩
          | ret u => obtain ⟨v8, σ8, H8, S8, r8, q8⟩ := hsp; exact away S8 fun s9 J9 => ⟨_, _, _, J9, r8, q8⟩
        | false =>
          show wpAny _ X.A (handleBy (.ref a) X.env hds2) _ _ _
          exact ih (hno rfl) h5 fl5 up5
    exact go hh (w J.len) h3 fl3 (up.trans up3)
  · cases f with
    | next => obtain ⟨σ', H', J', q⟩ := hsp; exact wpAny_execs_nil ⟨σ', H', J'.ofTry ok, q⟩
    | brk => obtain ⟨σ', H', J', q⟩ := hsp; exact ⟨σ', H', J'.ofTry ok, q⟩
    | cont => obtain ⟨σ', H', J', q⟩ := hsp; exact ⟨σ', H', J'.ofTry ok, q⟩
    | ret u => obtain ⟨v, σ', H', J', r, q⟩ := hsp; exact ⟨v, σ', H', J'.ofTry ok, r, q⟩
/-! ### a raise of an own error, made by its __init__ -/
theorem mkRunN {X : Cx} {pins : List (Addr × Obj)} {σ : L2.St} {H1 : Hp} {s1 : Shared} {C fI : Addr} {k : Nat} {fd : FuncData} {ps : List Str} {sp : Sp} {us : List Value} {vs : List V} {Q : XK} (T : OexC X.K C) (iC : PySem.W.findIn X.K (.ref C) "__init__" = some (some (.ref fI)))
    (tI : PySem.W.typeIn X.K (.ref fI) = some (.type "function")) (F1 : FnOk X.prog X.w X.K X.mg X.base CX0 k fI fd ps sp) (hr : Room (k + 1) X.A) (hb : Binds X.K fd ps []) (I1 : Inv X pins σ H1 s1) (r1 : Vals vs us) (hz : vs.length ≤ 1000)
    (q1 : ∀ a, H1 a = none → sp (.ref a :: vs) (upd H1 a (exo a C none)) (fun v H2 => v = .non ∧ ∃ (d : Addr) (fs : List (Str × V)), H2 a = some (exo a C (some d)) ∧ H2 d = some (exd d fs) ∧ H1 d = none ∧ Q (.ref C) (some d) (upd (del H2 a) d (.xd fs))) (fun _ _ _ => False)) :
    wpAny (model X.prog X.w) X.A (call (.ref C) us) (L2N.MkP X pins σ Q) X.xe s1 := by
  obtain ⟨nm, q, N, bs, bm, sn, sub, ab, col, dd, k0, k1, k2, k3, k5, hC, hbm⟩ := T.cls
  obtain ⟨hp, g, dr, tk, os⟩ := s1
  have le1 : hp.objs.size ≤ hp.objs.size + 1 := Nat.le_succ _
  have hq := q1 (hp.objs.size + 1) (I1.hok.fresh le1)
  have kk : ∀ b o, hp.get? b = some o → ((hp.push (PySem.W.kdv_tup us)).push (PySem.HandSPX.excO C hp.objs.size)).get? b = some o := fun b o e => Heap.get?_push_of_some _ (Heap.get?_push_of_some _ e)
  have hget : ((hp.push (PySem.W.kdv_tup us)).push (PySem.HandSPX.excO C hp.objs.size)).get? (hp.objs.size + 1) = some (PySem.HandSPX.excO C hp.objs.size) := by heap_get
  have I2 := I1.laid (t' := tk) (a := hp.objs.size + 1) (o := exo (hp.objs.size + 1) C none) (h' := (hp.push (PySem.W.kdv_tup us)).push (PySem.HandSPX.excO C hp.objs.size)) kk le1 (exo_ok hget)
  have r2 : Vals (V.ref (hp.objs.size + 1) :: vs) (Value.ref (hp.objs.size + 1) :: us) := .cons rfl r1
  have hl : (Value.ref (hp.objs.size + 1) :: us).length = ps.length := by rw [← r2.length]; exact F1.len _ _ _ _ hq
  have hbd := hb ⟨(hp.push (PySem.W.kdv_tup us)).push (PySem.HandSPX.excO C hp.objs.size), g, dr, tk, os⟩ (Value.ref (hp.objs.size + 1) :: us) I2.kIn (by rw [List.append_nil]; exact hl)
  rw [List.append_nil] at hbd
  have hus : us.length ≤ sizeLine := by
    rw [← Paired.length r1, sizeLine_eq]
    omega
  refine wpAny_call (PySem.HandSPX.call_own F.excBase_ValueError (fun Y => PySem.HandSPX.refsVE_contains Y bm hbm) (I1.kIn _ _ hC) (PySem.W.looks_findIn I1.kIn iC) (fun self => PySem.W.bind_fn I1.kIn self tI) hus
    (codeAny_mono (F1.run _ X.stack _ _ ⟨Value.ref (hp.objs.size + 1) :: us, []⟩ (Value.ref (hp.objs.size + 1) :: us) _ _ (fun _ _ _ => False) (hr.make C us []) (I2.env0.make C us []) hbd r2 hq) fun r s' hq' => ?_))
  cases r with
  | error er => exact (show False from hq').elim
  | ok fl =>
    cases fl with
    | ret u =>
      obtain ⟨v, H2, os2, bare2, un2, hok2, rv, ev, d, fs, ea, ed, hd1, q2⟩ := hq'
      subst ev
      obtain ⟨h2, g2, d2, t2, os'⟩ := s'
      obtain ⟨t0, G, J, kG, ge, hoe, na⟩ := mk_end0 (d2 := d2) (t2 := t2) I1 le1 kk un2 hok2 os2 bare2 ea ed hd1
      exact ⟨rv, _, _, _, ⟨G, g2, d2, t2, os'⟩, _, .ref C, some d, rfl, J, kG, ge, hoe, ⟨rfl, rfl, fun vs e => by cases e; rfl⟩, rfl, rfl, na, rfl, bare2, raises_own T.exC T.tyC, q2⟩
    | next => exact False.elim hq'
    | brk => exact False.elim hq'
    | cont => exact False.elim hq'
/-- the heap behind the making: the error's own dict, and nothing else, is new -/
theorem made_heap {H : Hp} {a d : Addr} {o1 : HO} {fs : List (Str × V)} (ha : H a = none) (hd : H d = none) (n : d ≠ a) {o2 : HO} : upd (del (upd (upd (upd H a o1) d (exd d fs)) a o2) a) d (.xd fs) = upd H d (.xd fs) := by
  funext b
  by_cases e1 : b = d
  · rw [e1, upd_same, upd_same]
  · rw [upd_ne e1, upd_ne e1]
    by_cases e2 : b = a
    · rw [e2, del_same, ha]
    · rw [del_ne e2, upd_ne e2, upd_ne e1, upd_ne e2]
/-- the promise of an __init__ that sets word alone -/
def spWord (C : Addr) (wd : Str) : Sp := fun vs H Q _ => ∃ a, vs = [.ref a] ∧ H a = some (exo a C none) ∧ ∀ dx, H dx = none → dx ≠ a → Q .non (upd (upd H dx (exd dx [("word", .str wd)])) a (exo a C (some dx)))
def tRaiseW (C : Addr) (wd : Str) : L2.St → Hp → XK → Prop := fun σ H Q => ∀ d, H d = none → Q (.ref C) (some d) (upd H d (.xd [("word", .str wd)]))
theorem pmk_word {X : Cx} {x wd : Str} {C fI : Addr} {k : Nat} {fd : FuncData} {p pos : Pos} (T : OexC X.K C) (iC : PySem.W.findIn X.K (.ref C) "__init__" = some (some (.ref fI))) (tI : PySem.W.typeIn X.K (.ref fI) = some (.type "function"))
    (F1 : FnOk X.prog X.w X.K X.mg X.base CX0 k fI fd ["self"] (spWord C wd)) (hr : Room (k + 1) X.A) (hb : Binds X.K fd ["self"] []) (hg : Gl X x) (hm : X.mg x = some (.ref C)) (hdb : (x == ("__debug__" : Str)) = false := by decide) :
    L2N.PMk X (.Call (.Name x p) [] [] pos) (tRaiseW C wd) := by
  intro pins s σ H Q I h
  refine wpAny_Call_Name_kw (ld_glob I hg hm ?_ hdb)
  refine PySem.W.callWith_K0 I.kIn T.kC (mkRunN T iC tI F1 hr hb I .nil (Nat.zero_le _) fun a ha => ⟨a, rfl, upd_same, fun dx ndx ne => ⟨rfl, dx, [("word", .str wd)], upd_same, ?_, ?_, ?_⟩⟩)
  · rw [upd_ne ne, upd_same]
  · rw [upd_ne ne] at ndx
    exact ndx
  · rw [upd_ne ne] at ndx
    rw [made_heap ha ndx ne]
    exact h dx ndx
end Onp
set_option maxHeartbeats 4000000
set_option autoImplicit false
/-! own refusals over other built-in ones than ValueError, with one field -/
namespace Onp
open PySem PySem.Spec PyProof.Rows L2 HotX L2H
def isR : Value → Bool
  | .ref _ => true
  | _ => false
theorem isR_ref {v : Value} (h : isR v = true) : ∃ c, v = .ref c := by
  cases v <;> first | exact ⟨_, rfl⟩ | cases h
structure BaseB (B newId initId : String) (tl : List Value) : Prop where
  F : ExcBaseFacts B newId initId tl
  pass : ∀ self : Value, refuseLoop self "__setattr__" tl = pure ()
  ob : tl.contains (.type "object") = true
theorem refsT_pass {tl : List Value} (hp : ∀ self : Value, refuseLoop self "__setattr__" tl = pure ()) (self : Value) : ∀ l : List Value, l.dropWhile isR = tl → refuseLoop self "__setattr__" l = pure ()
  | [], h => by
    have h : [] = tl := h
    rw [h]
    exact hp self
  | v :: r, h => by
    cases e : isR v with
    | true =>
      obtain ⟨c, rfl⟩ := isR_ref e
      rw [refuseLoop_ref]
      exact refsT_pass hp self r (by rw [List.dropWhile_cons_of_pos e] at h; exact h)
    | false =>
      rw [List.dropWhile_cons_of_neg (by rw [e]; decide)] at h
      rw [h]
      exact hp self
theorem refsT_has {tl : List Value} (Y : String) : ∀ l : List Value, l.dropWhile isR = tl → l.contains (.type Y) = tl.contains (.type Y)
  | [], h => by
    have h : [] = tl := h
    rw [h]
  | v :: r, h => by
    cases e : isR v with
    | true =>
      obtain ⟨c, rfl⟩ := isR_ref e
      rw [List.dropWhile_cons_of_pos e] at h
      rw [List.contains_cons, refsT_has Y r h]
      rfl
    | false =>
      rw [List.dropWhile_cons_of_neg (by rw [e]; decide)] at h
      rw [h]
structure OexB (K : PySem.W.Frag) (C : Addr) (newId : String) (tl : List Value) : Prop where
  cls : ∃ nm q N bs bm sn sub ab col dd k0 k1 k2 k3 k5, K.lookup C = some (excClassObj nm q C N bs bm true sn sub ab col dd k0 k1 k2 k3 k5 newId) ∧ bm.dropWhile isR = tl
  sa : PySem.W.findIn K (.ref C) "__setattr__" = some (some (.builtin "object.__setattr__"))
  exC : PySem.W.subIn K (.ref C) (.type "BaseException") = some true
  tyC : PySem.W.typeIn K (.ref C) = some (.type "type")
  kC : PySem.W.keepIn K (.ref C) = true
theorem mkRunB {X : Cx} {B newId initId : String} {tl : List Value} (BB : BaseB B newId initId tl) {pins : List (Addr × Obj)} {σ : L2.St} {H1 : Hp} {s1 : Shared} {C fI : Addr} {k : Nat} {fd : FuncData} {ps : List Str} {sp : Sp} {us : List Value} {vs : List V} {Q : XK} (T : OexB X.K C newId tl) (iC : PySem.W.findIn X.K (.ref C) "__init__" = some (some (.ref fI)))
    (tI : PySem.W.typeIn X.K (.ref fI) = some (.type "function")) (F1 : FnOk X.prog X.w X.K X.mg X.base CX0 k fI fd ps sp) (hr : Room (k + 1) X.A) (hb : Binds X.K fd ps []) (I1 : Inv X pins σ H1 s1) (r1 : Vals vs us) (hz : vs.length ≤ 1000)
    (q1 : ∀ a, H1 a = none → sp (.ref a :: vs) (upd H1 a (exo a C none)) (fun v H2 => v = .non ∧ ∃ (d : Addr) (fs : List (Str × V)), H2 a = some (exo a C (some d)) ∧ H2 d = some (exd d fs) ∧ H1 d = none ∧ Q (.ref C) (some d) (upd (del H2 a) d (.xd fs))) (fun _ _ _ => False)) :
    wpAny (model X.prog X.w) X.A (call (.ref C) us) (L2N.MkP X pins σ Q) X.xe s1 := by
  obtain ⟨nm, q, N, bs, bm, sn, sub, ab, col, dd, k0, k1, k2, k3, k5, hC, hbm⟩ := T.cls
  obtain ⟨hp, g, dr, tk, os⟩ := s1
  have le1 : hp.objs.size ≤ hp.objs.size + 1 := Nat.le_succ _
  have hq := q1 (hp.objs.size + 1) (I1.hok.fresh le1)
  have kk : ∀ b o, hp.get? b = some o → ((hp.push (PySem.W.kdv_tup us)).push (PySem.HandSPX.excO C hp.objs.size)).get? b = some o := fun b o e => Heap.get?_push_of_some _ (Heap.get?_push_of_some _ e)
  have hget : ((hp.push (PySem.W.kdv_tup us)).push (PySem.HandSPX.excO C hp.objs.size)).get? (hp.objs.size + 1) = some (PySem.HandSPX.excO C hp.objs.size) := by heap_get
  have I2 := I1.laid (t' := tk) (a := hp.objs.size + 1) (o := exo (hp.objs.size + 1) C none) (h' := (hp.push (PySem.W.kdv_tup us)).push (PySem.HandSPX.excO C hp.objs.size)) kk le1 (exo_ok hget)
  have r2 : Vals (V.ref (hp.objs.size + 1) :: vs) (Value.ref (hp.objs.size + 1) :: us) := .cons rfl r1
  have hl : (Value.ref (hp.objs.size + 1) :: us).length = ps.length := by rw [← r2.length]; exact F1.len _ _ _ _ hq
  have hbd := hb ⟨(hp.push (PySem.W.kdv_tup us)).push (PySem.HandSPX.excO C hp.objs.size), g, dr, tk, os⟩ (Value.ref (hp.objs.size + 1) :: us) I2.kIn (by rw [List.append_nil]; exact hl)
  rw [List.append_nil] at hbd
  have hus : us.length ≤ sizeLine := by
    rw [← Paired.length r1, sizeLine_eq]
    omega
  refine wpAny_call (PySem.HandSPX.call_own BB.F (fun Y => refsT_has Y bm hbm) (I1.kIn _ _ hC) (PySem.W.looks_findIn I1.kIn iC) (fun self => PySem.W.bind_fn I1.kIn self tI) hus
    (codeAny_mono (F1.run _ X.stack _ _ ⟨Value.ref (hp.objs.size + 1) :: us, []⟩ (Value.ref (hp.objs.size + 1) :: us) _ _ (fun _ _ _ => False) (hr.make C us []) (I2.env0.make C us []) hbd r2 hq) fun r s' hq' => ?_))
  cases r with
  | error er => exact (show False from hq').elim
  | ok fl =>
    cases fl with
    | ret u =>
      obtain ⟨v, H2, os2, bare2, un2, hok2, rv, ev, d, fs, ea, ed, hd1, q2⟩ := hq'
      subst ev
      obtain ⟨h2, g2, d2, t2, os'⟩ := s'
      obtain ⟨t0, G, J, kG, ge, hoe, na⟩ := mk_end0 (d2 := d2) (t2 := t2) I1 le1 kk un2 hok2 os2 bare2 ea ed hd1
      exact ⟨rv, _, _, _, ⟨G, g2, d2, t2, os'⟩, _, .ref C, some d, rfl, J, kG, ge, hoe, ⟨rfl, rfl, fun vs e => by cases e; rfl⟩, rfl, rfl, na, rfl, bare2, raises_own T.exC T.tyC, q2⟩
    | next => exact False.elim hq'
    | brk => exact False.elim hq'
    | cont => exact False.elim hq'
theorem pmk_wordB {X : Cx} {B newId initId : String} {tl : List Value} (BB : BaseB B newId initId tl) {x wd : Str} {C fI : Addr} {k : Nat} {fd : FuncData} {p pos : Pos} (T : OexB X.K C newId tl) (iC : PySem.W.findIn X.K (.ref C) "__init__" = some (some (.ref fI))) (tI : PySem.W.typeIn X.K (.ref fI) = some (.type "function"))
    (F1 : FnOk X.prog X.w X.K X.mg X.base CX0 k fI fd ["self"] (spWord C wd)) (hr : Room (k + 1) X.A) (hb : Binds X.K fd ["self"] []) (hg : Gl X x) (hm : X.mg x = some (.ref C)) (hdb : (x == ("__debug__" : Str)) = false := by decide) :
    L2N.PMk X (.Call (.Name x p) [] [] pos) (tRaiseW C wd) := by
  intro pins s σ H Q I h
  refine wpAny_Call_Name_kw (ld_glob I hg hm ?_ hdb)
  refine PySem.W.callWith_K0 I.kIn T.kC (mkRunB BB T iC tI F1 hr hb I .nil (Nat.zero_le _) fun a ha => ⟨a, rfl, upd_same, fun dx ndx ne => ⟨rfl, dx, [("word", .str wd)], upd_same, ?_, ?_, ?_⟩⟩)
  · rw [upd_ne ne, upd_same]
  · rw [upd_ne ne] at ndx
    exact ndx
  · rw [upd_ne ne] at ndx
    rw [made_heap ha ndx ne]
    exact h dx ndx
/-! ### the first field of such a refusal -/
section
open PySem.W PySem.Calls PySem.HandSPX Builtin Builtin.ObjectAttr
theorem osaB {prog : Program} {w : World} {A : Around} {R : Result → Shared → Prop} {hp : Heap} {g : Array GenState} {d : Drawn} {t : Nat} {os : OsState} {K : PySem.W.Frag} {name : Str} {tk : Tok} {v : Value} {x C : Addr} {fv : Array Value} {cd : ClassData} {B newId initId : String} {tl : List Value} (BB : BaseB B newId initId tl)
    (X : K.In hp) (hx : hp.get? x = some { cls := .ref C, data := .fields fv }) (hcd : PySem.W.clsIn K C = some cd) (hm : cd.mro.dropWhile isR = tl) (hne : cd.mro ≠ []) (hh : cd.hasDict = true) (ha : PySem.W.findIn K (.ref C) name = some none)
    (hq : ∀ h' tk' dx, (∀ b o, b ≠ x → hp.get? b = some o → h'.get? b = some o) → hp.objs.size ≤ dx → dx ≠ x → h'.get? x = some { cls := .ref C, dict := some dx, data := .fields fv } →
      h'.Ns1 dx (fun y => if y = name then some v else none) → R (.ok (.ret .none)) ⟨h', g, d, tk', os⟩) :
    codeAny (model prog w) A (.call (.builtin "object.__setattr__") ⟨[.ref x, .str name tk, v], []⟩) R ⟨hp, g, d, t, os⟩ := by
  have mroOb : cd.mro.contains (.type "object") = true := (refsT_has "object" _ hm).trans BB.ob
  have xNew : x ≠ hp.objs.size := Nat.ne_of_lt (Heap.lt_size hx)
  have J : PySem.W.InstAt hp x { cls := .ref C, data := .fields fv } C none := ⟨hx, rfl, rfl, trivial⟩
  have isOb : PySem.W.Looks (model prog w) hp (isInstance (.ref x) (.type "object")) true := by
    refine J.type.andThen (PySem.W.looks_mroIn X ?_)
    unfold PySem.W.mroIn
    rw [hcd, Option.bind_some, if_neg (by rw [List.isEmpty_iff]; exact hne), mroOb]
  have S := PySem.F.store_object
  refine codeAny_call_builtin S.slot.plain S.entry (@PySem.W.check_slot (model prog w) _ _ ⟨hp, g, d, t, os⟩ "object.__setattr__" "object" "__setattr__" (.ref x) [.str name tk, v] [] _ S.kind S.split isOb (S.args (.ref x) (.str name tk) v) ?_)
  have mroL : PySem.W.Looks (model prog w) hp (mroOf (.ref C)) cd.mro := (PySem.W.looks_clsIn X hcd).andThen .now
  have clsL : PySem.W.Looks (model prog w) hp (classData C) cd := PySem.W.looks_clsIn X hcd
  have noTaker : PySem.W.Looks (model prog w) hp (storeTaker? none) none := .now
  rw [PySem.W.osa_eq, refuse_eq]
  refine wpAny_bind (wpAny_bind (J.type.at (wpAny_bind (mroL.at ?_))))
  rw [refsT_pass BB.pass _ _ hm]
  refine wpAny_pure (wpAny_bind (J.type.at (wpAny_bind ((PySem.W.looks_findIn X ha).at (wpAny_bind (noTaker.at ?_))))))
  show wpAny _ _ (storeInOwnDict (.ref x) (.ref C) (.str name tk) name v false) _ _ _
  cases cd with
  | mk nm bs mro ns qn hd sn sb ab col del =>
    have hd1 : hd = true := hh
    rw [hd1] at clsL
    unfold storeInOwnDict ownDictForStores
    repeat (first | with_reducible refine store_in_new ?_ ?_ | with_reducible refine wpAny_loadPart_at hx ?_ | with_reducible refine clsL.at ?_ | wp_step)
    · exact ⟨_, #[], _, (Heap.get?_update_ne _ _ _ _ xNew.symm).trans (Heap.get?_push_at rfl rfl), rfl, fun e he => absurd he (by simp), fun _ => rfl⟩
    · intro h' tk' nsN but
      have hx1 : (hp.push { cls := .type "dict", data := .dict #[] }).get? x = some { cls := .ref C, data := .fields fv } := Heap.get?_push_of_some _ hx
      refine hq h' tk' hp.objs.size (fun b o hb ho => ?_) (Nat.le_refl _) xNew.symm ((but.2 x xNew).trans (Heap.get?_update_self _ hx1 rfl)) nsN
      rw [but.2 b (Nat.ne_of_lt (Heap.lt_size ho)), Heap.get?_update_ne _ _ _ _ hb]
      exact Heap.get?_push_of_some _ ho
end
section
variable {X : Cx} {pins : List (Addr × Obj)} {σ : L2.St} {H : Hp} {s : Shared} {a C : Addr} {f : Str} {y : V} {u : Value} {Q : Unit → Shared → Prop} {E : Value → Shared → Prop} {A : Around} {B newId initId : String} {tl : List Value}
theorem ost_newB (BB : BaseB B newId initId tl) (T : OexB X.K C newId tl) (I : Inv X pins σ H s) (e : H a = some (exo a C none)) (hno : PySem.W.findIn X.K (.ref C) f = some none) (ry : RelV y u)
    (h : ∀ dx s', H dx = none → dx ≠ a → Inv X pins σ (upd (upd H dx (exd dx [(f, y)])) a (exo a C (some dx))) s' → Q () s') : wpAny (model X.prog X.w) A (setAttr (.ref a) f u) Q E s := by
  obtain ⟨nm, q, N, bs, bm, sn, sub, ab, col, dd, k0, k1, k2, k3, k5, hC, hbm⟩ := T.cls
  have clsA : PySem.W.clsIn X.K C = some { name := nm, bases := bs, mro := .ref C :: bm, ns := N, qualname := q, hasDict := true, slotNames := sn, subclasses := sub, abstract := ab, collection := col, hasDel := false } := by
    unfold PySem.W.clsIn
    rw [hC] <;> rfl
  obtain ⟨t1, objA⟩ := exo_at I.hok e
  obtain ⟨hp, g, d, t, os⟩ := s
  refine PySem.W.set_plain I.kIn (ox := { cls := .ref C, dict := none, data := .fields #[.ref t1, .none, .none, .none, .bool false, .none] }) (od := none) ⟨objA, rfl, rfl, trivial⟩ T.sa (osaB BB I.kIn objA clsA (by rw [List.dropWhile_cons_of_pos rfl]; exact hbm) (fun z => nomatch z) rfl hno fun h' tk' dx kept far ne objB nsB => ?_)
  have free : H dx = none := I.hok.fresh far
  have old : ∀ {b : Addr} {o : Obj}, hp.get? b = some o → b ≠ dx := fun hb => Nat.ne_of_lt (Nat.lt_of_lt_of_le (Heap.lt_size hb) far)
  have own : ∀ {b : Addr}, H b = none → b ≠ a := fun hb z => by
    rw [z, e] at hb
    exact nomatch hb
  have look : ∀ {b : Addr} {o : HO}, H b = some o → exo a C none ≠ o → upd (upd H dx (exd dx [(f, y)])) a (exo a C (some dx)) b = some o := fun hb d => by
    rw [upd_ne (at_ne e hb d), upd_ne (ne_of_none hb free)]
    exact hb
  have U : Un X.fs [] H (upd (upd H dx (exd dx [(f, y)])) a (exo a C (some dx))) hp h' := {
    keep := fun b o q n _ _ => kept b o (own n) q
    slot := fun b o q n _ _ => ⟨o.slots, kept b o (own n) q⟩
    free := fun b o q n _ => by
      rw [upd_ne (own n), upd_ne (old q)]
      exact n
    there := fun b o q _ => by
      rcases Classical.em (b = a) with z | z
      · subst z
        exact ⟨_, objB⟩
      · exact ⟨o, kept b o z q⟩
    tups := fun b xs q => look q exo_tup
    frzs := fun b o v q => look q exo_frz
    tbls := fun b ps q => ⟨#[], by rw [look q exo_tbl]; simp⟩ }
  refine h dx _ free ne (I.un (t' := tk') U fun b o q => ?_)
  by_cases z1 : b = a
  · subst z1
    rw [upd_same] at q
    cases q
    exact exo_ok objB
  rw [upd_ne z1] at q
  by_cases z2 : b = dx
  · subst z2
    rw [upd_same] at q
    cases q
    exact exd_ok nsB (relO_put (fs := []) ry fun g => True.intro)
  rw [upd_ne z2] at q
  refine (I.hok b o q).stay (fun c v hc z => kept c v ?_ z) (fun c hc => look hc exo_own) (fun c xs hc => look hc exo_tup)
  rcases hc with hc | hc
  · rw [hc]
    exact z1
  · exact at_ne e hc exo_own
/-- self.f = e, the first field -/
def tOstB (K : PySem.W.Frag) (newId : String) (tl : List Value) (f : Str) (to te : TE) : TS := fun D σ H => te σ H fun y H1 => to σ H1 fun x H2 => ∃ a C : Addr, x = .ref a ∧ OexB K C newId tl ∧ PySem.W.findIn K (.ref C) f = some none ∧
  H2 a = some (exo a C none) ∧ ∀ dx, H2 dx = none → dx ≠ a → D.nx σ (upd (upd H2 dx (exd dx [(f, y)])) a (exo a C (some dx)))
theorem ps_ostB (BB : BaseB B newId initId tl) {o e : Expr} {to te : TE} {p' pos : Pos} (ho : PE X o to) (he : PE X e te) (hs : swapsWith e (some (.Attribute o f p')) pos.line X.env = pure false := by rfl) : PS X (.Assign [.Attribute o f p'] e pos) (tOstB X.K newId tl f to te) := by
  refine ⟨fun pins s σ H D I h => plainObj_wpAny_Assign_Attribute (thn (he.run pins s σ H _ I h) fun v s1 ⟨y, H1, I1, r1, q1⟩ => thn (ho.run pins s1 σ H1 _ I1 q1) fun u s2 ⟨x, H2, I2, r2, a, C, ex, T, hno, ea, q⟩ => ?_) hs⟩
  subst ex
  cases r2
  exact ost_newB BB T I2 ea hno r1 fun dx s' n ne J => ⟨σ, _, J, q dx n ne⟩
end
abbrev leTail : List Value := [.type "LookupError", .type "Exception", .type "BaseException", .type "object"]
abbrev ieTail : List Value := [.type "IndexError", .type "LookupError", .type "Exception", .type "BaseException", .type "object"]
theorem baseL : BaseB "LookupError" "LookupError.__new__" "LookupError.__init__" leTail := ⟨PySem.F.excBase_LookupError, fun self => PySem.F.store_LookupError.passes self, by decide +kernel⟩
theorem baseI : BaseB "IndexError" "IndexError.__new__" "IndexError.__init__" ieTail := ⟨PySem.F.excBase_IndexError, fun self => PySem.F.store_IndexError.passes self, by decide +kernel⟩
end Onp
set_option maxHeartbeats 4000000
set_option autoImplicit false
/-! what is asked of the top, by names -/
namespace Onp
open PySem PySem.Spec PyProof.Rows L2
open He (ga ma eqO eqO_ok ba)
def errNs : List Str := ["BadMark", "BadLetters", "BadRoom", "BadArrow", "BadWord", "BadSize", "BadPattern", "BadTable", "BadTree", "BadText", "BadName", "BadDeed", "BadPage", "Taken", "Full", "Unlike", "NotDear", "InUse", "TooWide", "NoArrow", "NoName", "NoTraveller", "NothingLeft"]
def slB : List (Option Value) → Bool
  | [_, _, _, _, some (.builtin n), _] => n == "ValueError.__new__"
  | _ => false
/-- a refusal's class, as it is laid -/
def oexB (K : PySem.W.Frag) (C : Addr) : Bool := match K.lookup C with
  | some ⟨.type t, _, .cls cd, sl⟩ => t == "type" && (match cd.mro with
    | .ref D :: bm => D == C && (cd.hasDel == false && (cd.hasDict && PySem.HandSPX.refsVE bm))
    | _ => false) && slB sl.toList
  | _ => false
/-- all that is asked of a refusal's class -/
def errB (K : PySem.W.Frag) (x : Str) : Bool :=
  (oexB K (ga K x) && (eqO (PySem.W.findIn K (.ref (ga K x)) "__setattr__") (some (some (.builtin "object.__setattr__"))) && (decide (PySem.W.subIn K (.ref (ga K x)) (.type "BaseException") = some true) && (decide (PySem.W.typeIn K (.ref (ga K x)) = some (.type "type")) && PySem.W.keepIn K (.ref (ga K x))))))
  && ((eqO (PySem.W.findIn K (.ref (ga K x)) "__init__") (some (some (.ref (ma K (ga K x) "__init__")))) && (decide (PySem.W.typeIn K (.ref (ma K (ga K x) "__init__")) = some (.type "function")) && eqO (PySem.W.findIn K (.ref (ga K x)) "word") (some none)))
  && (((PySem.W.clsIn K (ga K x)).isSome && (eqO (PySem.W.findIn K (.ref (ga K x)) "__getattribute__") (some (some (.builtin "BaseException.__getattribute__"))) && (eqO (PySem.W.findIn K (.ref (ga K x)) "__getattr__") (some none) && (eqO (PySem.W.findIn K (.ref (ga K x)) "__class__") (some (some (.builtin "object.__class__"))) && (decide (PySem.W.mroIn K (ga K x) (.type "object") = some true) && PySem.W.hasDictIn K (ga K x))))))
  && ((errNs.all fun y => decide (PySem.W.subIn K (.ref (ga K x)) (.ref (ga K y)) = some (y == x))) && decide (PySem.W.exmAny K (.ref (ga K x)) [.ref (ga K "PurseError"), .ref (ga K "Missing"), .ref (ga K "NothingLeft")] = some true))))
def slLB (newId : String) : List (Option Value) → Bool
  | [_, _, _, _, some (.builtin n), _] => n == newId
  | _ => false
def oexLB (newId : String) (tl : List Value) (K : PySem.W.Frag) (C : Addr) : Bool := match K.lookup C with
  | some ⟨.type t, _, .cls cd, sl⟩ => t == "type" && (match cd.mro with
    | .ref D :: bm => D == C && (cd.hasDel == false && (cd.hasDict && (bm.dropWhile isR == tl)))
    | _ => false) && slLB newId sl.toList
  | _ => false
/-- the same, over another built-in one -/
def errLB (newId : String) (tl : List Value) (K : PySem.W.Frag) (x : Str) : Bool :=
  (oexLB newId tl K (ga K x) && (eqO (PySem.W.findIn K (.ref (ga K x)) "__setattr__") (some (some (.builtin "object.__setattr__"))) && (decide (PySem.W.subIn K (.ref (ga K x)) (.type "BaseException") = some true) && (decide (PySem.W.typeIn K (.ref (ga K x)) = some (.type "type")) && PySem.W.keepIn K (.ref (ga K x))))))
  && ((eqO (PySem.W.findIn K (.ref (ga K x)) "__init__") (some (some (.ref (ma K (ga K x) "__init__")))) && (decide (PySem.W.typeIn K (.ref (ma K (ga K x) "__init__")) = some (.type "function")) && eqO (PySem.W.findIn K (.ref (ga K x)) "word") (some none)))
  && (((PySem.W.clsIn K (ga K x)).isSome && (eqO (PySem.W.findIn K (.ref (ga K x)) "__getattribute__") (some (some (.builtin "BaseException.__getattribute__"))) && (eqO (PySem.W.findIn K (.ref (ga K x)) "__getattr__") (some none) && (eqO (PySem.W.findIn K (.ref (ga K x)) "__class__") (some (some (.builtin "object.__class__"))) && (decide (PySem.W.mroIn K (ga K x) (.type "object") = some true) && PySem.W.hasDictIn K (ga K x))))))
  && ((errNs.all fun y => decide (PySem.W.subIn K (.ref (ga K x)) (.ref (ga K y)) = some (y == x))) && decide (PySem.W.exmAny K (.ref (ga K x)) [.ref (ga K "PurseError"), .ref (ga K "Missing"), .ref (ga K "NothingLeft")] = some true))))
/-- of object.__class__, and of every refusal's name -/
def allB (K : PySem.W.Frag) : Bool := decide (PySem.W.specialIn K (.builtin "object.__class__") "__get__" = some (some (.builtin "getset_descriptor.__get__"))) && (decide (PySem.W.takesIn K (.builtin "object.__class__") = some true)
  && ((errNs.all fun y => decide (PySem.W.typeIn K (.ref (ga K y)) = some (.type "type")) && PySem.W.isClsIn K (ga K y)) && ((["BadText", "BadPage", "TooWide"] : List Str).all fun y => decide (PySem.W.subIn K (.ref (ga K y)) (.type "BaseException") = some true))))
end Onp
set_option maxHeartbeats 0
namespace Onp
open PySem PySem.Spec PyProof.Rows L2
def fa0 : List He.Fa := [.glo "_law_bag", .glo "_law_pull", .glo "_law_of", .glo "_law_same", .glo "_law_kind", .glo "_law_told", .glo "_law_deed", .glo "_law_letters", .glo "_law_rooms_some", .glo "_law_arrow", .glo "_law_drawn", .glo "_law_tells", .glo "_law_sorted", .glo "_law_deeds_all", .glo "_law_bent_parts"]
def fa1 : List He.Fa := [.glo "_law_due", .glo "are_letters", .glo "is_letter", .glo "is_arrow", .glo "need_arrows", .glo "need_rooms", .glo "steps_by_start", .glo "law", .glo "_law_right", .free "isinstance", .free "list", .free "tuple", .free "bool", .free "int", .free "str"]
def fa2 : List He.Fa := [.free "len", .free "all", .free "zip", .free "set", .free "sorted", .free "range", .free "any", .str "SMALL_LETTERS" "abcdefghijklmnopqrstuvwxyz", .int "MOST_LETTERS" 3, .int "MOST_ROOMS" 8, .int "MOST_ARROWS" 40, .glo "Machine", .cls "Machine", .noat "Machine" "room_count", .noat "Machine" "letter_text"]
def fa3 : List He.Fa := [.noat "Machine" "arrow_row", .noat "Machine" "first_row", .noat "Machine" "last_row", .noat "Machine" "step_rows", .mkr "Machine", .meth "Machine" "rooms", .meth "Machine" "letters", .meth "Machine" "arrows", .meth "Machine" "firsts", .meth "Machine" "lasts", .meth "Machine" "__len__", .glo "DEEDS", .glo "PurseError", .glo "Missing"]
def fasA : List He.Fa := errNs.map He.Fa.glo ++ (fa0)
def fasB : List He.Fa := fa1 ++ (fa2 ++ (fa3))
def fas : List He.Fa := fasA ++ fasB
def d_B : He.DefD := ⟨("_law_bag", none), "_law_bag", "_law_bag", defArgs (topS 41), defBody (topS 41), defScope (topS 41), [], []⟩
def d_Pu : He.DefD := ⟨("_law_pull", none), "_law_pull", "_law_pull", defArgs (topS 42), defBody (topS 42), defScope (topS 42), [], []⟩
def d_O : He.DefD := ⟨("_law_of", none), "_law_of", "_law_of", defArgs (topS 43), defBody (topS 43), defScope (topS 43), [], []⟩
def d_Sm : He.DefD := ⟨("_law_same", none), "_law_same", "_law_same", defArgs (topS 44), defBody (topS 44), defScope (topS 44), [], []⟩
def d_Kn : He.DefD := ⟨("_law_kind", none), "_law_kind", "_law_kind", defArgs (topS 45), defBody (topS 45), defScope (topS 45), [], []⟩
def d_To : He.DefD := ⟨("_law_told", none), "_law_told", "_law_told", defArgs (topS 46), defBody (topS 46), defScope (topS 46), [], []⟩
def d_De : He.DefD := ⟨("_law_deed", none), "_law_deed", "_law_deed", defArgs (topS 48), defBody (topS 48), defScope (topS 48), [], []⟩
def d_Le : He.DefD := ⟨("_law_letters", none), "_law_letters", "_law_letters", defArgs (topS 49), defBody (topS 49), defScope (topS 49), [], []⟩
def d_Ro : He.DefD := ⟨("_law_rooms_some", none), "_law_rooms_some", "_law_rooms_some", defArgs (topS 50), defBody (topS 50), defScope (topS 50), [], []⟩
def d_Ar : He.DefD := ⟨("_law_arrow", none), "_law_arrow", "_law_arrow", defArgs (topS 51), defBody (topS 51), defScope (topS 51), [], []⟩
def d_Dr : He.DefD := ⟨("_law_drawn", none), "_law_drawn", "_law_drawn", defArgs (topS 52), defBody (topS 52), defScope (topS 52), [], []⟩
def d_Te : He.DefD := ⟨("_law_tells", none), "_law_tells", "_law_tells", defArgs (topS 53), defBody (topS 53), defScope (topS 53), [], []⟩
def d_So : He.DefD := ⟨("_law_sorted", none), "_law_sorted", "_law_sorted", defArgs (topS 54), defBody (topS 54), defScope (topS 54), [], []⟩
def d_Da : He.DefD := ⟨("_law_deeds_all", none), "_law_deeds_all", "_law_deeds_all", defArgs (topS 47), defBody (topS 47), defScope (topS 47), [], []⟩
def d_Bn : He.DefD := ⟨("_law_bent_parts", none), "_law_bent_parts", "_law_bent_parts", defArgs (topS 55), defBody (topS 55), defScope (topS 55), [], []⟩
def d_Du : He.DefD := ⟨("_law_due", none), "_law_due", "_law_due", defArgs (topS 56), defBody (topS 56), defScope (topS 56), [], []⟩
def d_Al : He.DefD := ⟨("are_letters", none), "are_letters", "are_letters", defArgs (topS 33), defBody (topS 33), defScope (topS 33), [], []⟩
def d_Il : He.DefD := ⟨("is_letter", none), "is_letter", "is_letter", defArgs (topS 34), defBody (topS 34), defScope (topS 34), [], []⟩
def d_Ia : He.DefD := ⟨("is_arrow", none), "is_arrow", "is_arrow", defArgs (topS 35), defBody (topS 35), defScope (topS 35), [], []⟩
def d_Na : He.DefD := ⟨("need_arrows", none), "need_arrows", "need_arrows", defArgs (topS 36), defBody (topS 36), defScope (topS 36), [], []⟩
def d_Nr : He.DefD := ⟨("need_rooms", none), "need_rooms", "need_rooms", defArgs (topS 37), defBody (topS 37), defScope (topS 37), [], []⟩
def d_Sb : He.DefD := ⟨("steps_by_start", none), "steps_by_start", "steps_by_start", defArgs (topS 38), defBody (topS 38), defScope (topS 38), [], []⟩
def d_L : He.DefD := ⟨("law", none), "law", "law", defArgs (topS 58), defBody (topS 58), defScope (topS 58), [], []⟩
def d_Ri : He.DefD := ⟨("_law_right", none), "_law_right", "_law_right", defArgs (topS 57), defBody (topS 57), defScope (topS 57), [], []⟩
def d_I : He.DefD := ⟨("Machine", some "__init__"), "__init__", "Machine.__init__", defArgs (inClass (topS 39) 0), defBody (inClass (topS 39) 0), defScope (inClass (topS 39) 0), [.adr (He.dflAt ("Machine", some "__init__") 0)], [("firsts", .adr (kwdAt "firsts")), ("lasts", .adr (kwdAt "lasts"))]⟩
def d_Rm : He.DefD := ⟨("Machine", some "rooms"), "rooms", "Machine.rooms", defArgs (inClass (topS 39) 1), defBody (inClass (topS 39) 1), defScope (inClass (topS 39) 1), [], []⟩
def d_Lt : He.DefD := ⟨("Machine", some "letters"), "letters", "Machine.letters", defArgs (inClass (topS 39) 2), defBody (inClass (topS 39) 2), defScope (inClass (topS 39) 2), [], []⟩
def d_Aw : He.DefD := ⟨("Machine", some "arrows"), "arrows", "Machine.arrows", defArgs (inClass (topS 39) 3), defBody (inClass (topS 39) 3), defScope (inClass (topS 39) 3), [], []⟩
def d_Fs : He.DefD := ⟨("Machine", some "firsts"), "firsts", "Machine.firsts", defArgs (inClass (topS 39) 4), defBody (inClass (topS 39) 4), defScope (inClass (topS 39) 4), [], []⟩
def d_Ls : He.DefD := ⟨("Machine", some "lasts"), "lasts", "Machine.lasts", defArgs (inClass (topS 39) 5), defBody (inClass (topS 39) 5), defScope (inClass (topS 39) 5), [], []⟩
def d_Ln : He.DefD := ⟨("Machine", some "__len__"), "__len__", "Machine.__len__", defArgs (inClass (topS 39) 17), defBody (inClass (topS 39) 17), defScope (inClass (topS 39) 17), [], []⟩
def d_IS_ : He.DefD := ⟨("BadSize", some "__init__"), "__init__", "BadSize.__init__", defArgs (inClass (topS 9) 0), defBody (inClass (topS 9) 0), defScope (inClass (topS 9) 0), [], []⟩
def d_IL_ : He.DefD := ⟨("BadLetters", some "__init__"), "__init__", "BadLetters.__init__", defArgs (inClass (topS 5) 0), defBody (inClass (topS 5) 0), defScope (inClass (topS 5) 0), [], []⟩
def d_IA_ : He.DefD := ⟨("BadArrow", some "__init__"), "__init__", "BadArrow.__init__", defArgs (inClass (topS 7) 0), defBody (inClass (topS 7) 0), defScope (inClass (topS 7) 0), [], []⟩
def d_IR_ : He.DefD := ⟨("BadRoom", some "__init__"), "__init__", "BadRoom.__init__", defArgs (inClass (topS 6) 0), defBody (inClass (topS 6) 0), defScope (inClass (topS 6) 0), [], []⟩
def d_IF_ : He.DefD := ⟨("Full", some "__init__"), "__init__", "Full.__init__", defArgs (inClass (topS 18) 0), defBody (inClass (topS 18) 0), defScope (inClass (topS 18) 0), [], []⟩
def fn0 : List He.DefD := [d_B, d_Pu, d_O, d_Sm, d_Kn, d_To, d_De, d_Le, d_Ro, d_Ar, d_Dr, d_Te, d_So, d_Da, d_Bn]
def fn1 : List He.DefD := [d_Du, d_Al, d_Il, d_Ia, d_Na, d_Nr, d_Sb, d_L, d_Ri, d_I, d_Rm, d_Lt, d_Aw, d_Fs, d_Ls]
def fn2 : List He.DefD := [d_Ln, d_IS_, d_IL_, d_IA_, d_IR_, d_IF_]
def fnsA : List He.DefD := fn0
def fnsB : List He.DefD := fn1 ++ (fn2)
def fns : List He.DefD := fnsA ++ fnsB
def tfs : List He.Defn := [("law", none), ("_law_right", none)]
def exK (K : PySem.W.Frag) : Bool := allB K && (He.tupB K "DEEDS" [.str "keep", .str "cent", .str "fill", .str "coin", .str "brim"] && (errB K "BadSize" && (errB K "BadLetters" && (errB K "BadArrow" && (errB K "BadRoom" && (errB K "Full" && (dflE K && (oneE K "firsts" && (oneE K "lasts")))))))))
def nm0 : List PySem.Str := ["_wall", "PurseError", "Missing", "BadMark", "BadLetters", "BadRoom", "BadArrow", "BadWord", "BadSize", "BadPattern", "BadTable", "BadTree", "BadText", "BadName", "BadDeed"]
def nm1 : List PySem.Str := ["BadPage", "Taken", "Full", "Unlike", "NotDear", "InUse", "TooWide", "NoArrow", "NoName", "NoTraveller", "NothingLeft", "DEEDS", "SMALL_LETTERS", "MOST_ROOMS", "MOST_LETTERS"]
def nm2 : List PySem.Str := ["MOST_ARROWS", "are_letters", "is_letter", "is_arrow", "need_arrows", "need_rooms", "steps_by_start", "Machine", "_law_bag", "_law_pull", "_law_of", "_law_same", "_law_kind", "_law_told", "_law_deeds_all"]
def nm3 : List PySem.Str := ["_law_deed", "_law_letters", "_law_rooms_some", "_law_arrow", "_law_drawn", "_law_tells", "_law_sorted", "_law_bent_parts", "_law_due", "_law_right"]
def loose : List PySem.Str := nm0 ++ (nm1 ++ (nm2 ++ (nm3)))
abbrev R : PySem.W.OpenRow := PySem.W.OpenLaw.row PySem.Challenge.rw_onepurse_k05_machines_made_or_refused
abbrev hk : PySem.W.Hook := He.hookX 5 fas fns [] tfs exK
noncomputable def ob (s : PySem.W.SharedT) : He.AlX := He.obsX 5 fas fns [] tfs exK (HandSHeadRun.getT s)
theorem ob_eq (s : PySem.W.SharedT) : ob s = hk.obs s.abs := He.obsX_eq (HandSHeadRun.getT_eq s)
noncomputable def XR (w : World) (os : OsState) := HandSHeadRun.endF (HandSHeadRun.stepQ (HandSHeadRun.denQ HandSHeadRun.tabQ) R.prog w) 9500 R.prog w os
theorem runA (w : World) (os : OsState) : (XR w os).map (fun s => HandSHeadRun.looksF R.prog (PySem.W.boot_heap w.params) s.abs) = some true := by
  kernel_rfl
theorem runB (w : World) (os : OsState) : (XR w os).map (fun s => HandSHeadRun.seenQ (PySem.W.view R.prog [58]) loose (PySem.importedModules R.prog.main.body) (fun s => PySem.W.xlAt (PySem.W.view R.prog [58]) [] s && PySem.W.recOk R.toRowW.records s) s.abs) = some (PySem.W.openGood (PySem.W.view R.prog [58]) loose) := by
  kernel_rfl
theorem runC (w : World) (os : OsState) : (XR w os).map (fun s => He.obsX 5 fasA fnsA [] [] (fun _ => true) (HandSHeadRun.getT s)) = some (He.valX fnsA [] w) := by
  kernel_rfl
theorem runD (w : World) (os : OsState) : (XR w os).map (fun s => He.obsX 5 fasB fnsB [] tfs exK (HandSHeadRun.getT s)) = some (He.valX fnsB [] w) := by
  kernel_rfl
theorem run (w : World) : HandSHeadRun.RunEq R (PySem.W.view R.prog [58]) hk ob 9500 loose w := by
  intro os
  show (XR w os).map (fun s => (HandSHeadRun.looksF R.prog (PySem.W.boot_heap w.params) s.abs, HandSHeadRun.seenQ (PySem.W.view R.prog [58]) loose (PySem.importedModules R.prog.main.body) (fun s => PySem.W.xlAt (PySem.W.view R.prog [58]) [] s && PySem.W.recOk R.toRowW.records s) s.abs, He.obsX 5 (fasA ++ fasB) (fnsA ++ fnsB) [] tfs exK (HandSHeadRun.getT s))) = some (true, PySem.W.openGood (PySem.W.view R.prog [58]) loose, He.valX (fnsA ++ fnsB) [] w)
  exact map_three (runA w os) (runB w os) (map_obs (runC w os) (runD w os))
end Onp
set_option maxHeartbeats 4000000
set_option autoImplicit false
namespace Onp
open PySem PySem.Spec PyProof.Rows L2
/-! ### texts as lists of code points -/
def Sx (xs : List Nat) : Str := ⟨xs.toArray⟩
theorem sx_len (xs : List Nat) : (Sx xs).length = xs.length := by simp [Sx, Str.length]
theorem sx_cps (xs : List Nat) : (Sx xs).cps.toList = xs := rfl
theorem sx_app (xs ys : List Nat) : Sx xs ++ Sx ys = Sx (xs ++ ys) := by
  show Str.mk (xs.toArray ++ ys.toArray) = Str.mk (xs ++ ys).toArray
  rw [List.append_toArray]
theorem sx_of (z : Str) : z = Sx z.cps.toList := rfl
theorem sx_inj {xs ys : List Nat} (h : Sx xs = Sx ys) : xs = ys := by
  have := congrArg (fun z : Str => z.cps.toList) h
  simpa [Sx] using this
def rep {α : Type} (n : Nat) (xs : List α) : List α := (List.replicate n xs).flatten
theorem rep_len {α : Type} (n : Nat) (xs : List α) : (rep n xs).length = n * xs.length := by
  unfold rep
  induction n with
  | zero => simp
  | succ n ih =>
    rw [List.replicate_succ, List.flatten_cons, List.length_append, ih, Nat.succ_mul]
    omega
theorem foldl_cps (n : Nat) (xs : List Nat) (a : List Nat) : ((List.replicate n xs.toArray).foldl (· ++ ·) a.toArray) = (a ++ rep n xs).toArray := by
  induction n generalizing a with
  | zero => simp [rep]
  | succ n ih =>
    rw [List.replicate_succ, List.foldl_cons, List.append_toArray, ih]
    unfold rep
    rw [List.replicate_succ, List.flatten_cons, List.append_assoc]
section
variable {X : Cx}
/-- text * int -/
def rMulS : R2 := fun x y H Q => ∃ (xs : List Nat) (n : Nat), x = .str (Sx xs) ∧ y = .int (n : Int) ∧ n ≤ 1000 ∧ n * xs.length ≤ sizeLine ∧ Q (.str (Sx (rep n xs))) H
theorem op_mulS : OpR X (binaryOp .Mult) rMulS := by
  intro pins s σ H x y v u Q I rx ry h
  obtain ⟨xs, n, rfl, rfl, hn, hz, q⟩ := h
  obtain ⟨t, rfl⟩ := rx
  obtain ⟨t', rfl⟩ := ry
  have hl : (Sx xs).length = xs.length := sx_len xs
  refine P.mul_str ?_ (fun h1 h2 => ?_) (fun h1 h2 => ?_) ?_
  · have h1 : ¬ ((n : Int) < -(2 ^ 63 : Int)) := by omega
    have h2 : ¬ ((n : Int) ≥ 2 ^ 63) := by omega
    rw [decide_eq_false h1, decide_eq_false h2]
    rfl
  · rw [hl]
    have hs := sizeLine_eq
    have q1 : ((xs.length : Int) * (n : Int)) ≤ 2 ^ 63 - 1 := by
      have q2 : n * xs.length ≤ 9223372036854775807 := by omega
      have q3 : ((n * xs.length : Nat) : Int) ≤ ((9223372036854775807 : Nat) : Int) := Int.ofNat_le.mpr q2
      rw [Int.mul_comm, ← Int.natCast_mul]
      exact q3
    have q3 := Int.le_ediv_of_mul_le (show (0 : Int) < n by omega) q1
    omega
  · rw [hl]
    unfold Builtin.Str.tooLong
    rw [Int.toNat_natCast, Nat.mul_comm]
    exact decide_eq_false (by omega)
  · by_cases h1 : (n : Int) < 1
    · rw [if_pos h1]
      have e : n = 0 := by omega
      subst e
      exact ⟨by decide, .str (Sx (rep 0 xs)), H, I.tok _, ⟨_, rfl⟩, q⟩
    · rw [if_neg h1]
      by_cases h2 : ((n : Int) == 1 || (Sx xs).length == 0) = true
      · rw [if_pos h2]
        have e : rep n xs = xs := by
          rcases Bool.or_eq_true_iff.mp h2 with h | h
          · have : n = 1 := by have := beq_iff_eq.mp h; omega
            subst this
            simp [rep]
          · rw [hl] at h
            have : xs = [] := List.length_eq_zero_iff.mp (beq_iff_eq.mp h)
            subst this
            simp [rep]
        rw [e] at q
        exact ⟨.str (Sx xs), H, I, ⟨_, rfl⟩, q⟩
      · rw [if_neg h2, Int.toNat_natCast]
        have e : (List.replicate n (Sx xs).cps).foldl (· ++ ·) #[] = (rep n xs).toArray := foldl_cps n xs []
        rw [e]
        refine ⟨?_, .str (Sx (rep n xs)), H, I.tok _, ⟨_, rfl⟩, q⟩
        show (Sx (rep n xs)).length ≤ sizeLine
        rw [sx_len, rep_len]
        exact hz
/-- list(text) -/
def signsV (xs : List Nat) : List V := xs.map fun c => V.str (Sx [c])
theorem call_list_s (hc : X.calm = true) : CallR X (.type "list") (fun vs H Q => ∃ xs : List Nat, vs = [.str (Sx xs)] ∧ xs.length ≤ sizeLine ∧ ∀ l, H l = none → Q (.ref l) (upd H l (.lst (signsV xs)))) := by
  intro pins s σ H vs us Q I r h
  obtain ⟨xs, rfl, hz, q⟩ := h
  obtain ⟨u, rfl, t, rfl⟩ := vals1 r
  refine call_list_str (I.ok.hd hc) (Sx xs) t (hn := by show (Sx xs).length ≤ sizeLine; rw [sx_len]; exact hz) fun h' tk acc c hk hS ha => ?_
  refine ⟨.ref s.heap.objs.size, upd H s.heap.objs.size (.lst (signsV xs)), I.laid (t' := tk) hk (Nat.le_refl _) ?_, rfl, q _ (I.hok.fresh (Nat.le_refl _))⟩
  have e : acc = acc.toList.toArray := by simp
  refine ⟨by unfold signsV; rw [List.length_map]; exact hz, acc.toList, c, ?_, by rw [← e]; exact hS⟩
  have hsz : acc.toList.length = xs.length := by
    rw [Array.length_toList, ha.1]
    exact sx_len xs
  have key : ∀ (ys : List Nat) (vs : List Value) (k : Nat), vs.length = ys.length → (∀ (j : Nat) (v : Value), vs[j]? = some v → ∃ cc uu, ys[j]? = some cc ∧ v = Value.str ⟨#[cc]⟩ uu) → Vals (signsV ys) vs := by
    intro ys
    induction ys with
    | nil =>
      intro vs _ hl _
      rw [List.length_eq_zero_iff.mp hl]
      exact .nil
    | cons y ys ih =>
      intro vs k hl hv
      cases vs with
      | nil => simp at hl
      | cons v vs =>
        obtain ⟨cc, uu, e1, e2⟩ := hv 0 v rfl
        cases e1
        subst e2
        exact .cons ⟨uu, rfl⟩ (ih vs k (by simpa using hl) fun j v hj => hv (j + 1) v hj)
  refine key xs acc.toList 0 hsz fun j v hj => ?_
  obtain ⟨cc, uu, e1, e2⟩ := ha.2 j v (by simpa using hj)
  refine ⟨cc, uu, ?_, e2⟩
  have e1 : xs.toArray[j]? = some cc := e1
  simpa using e1
end
end Onp
set_option maxHeartbeats 4000000
set_option autoImplicit false
/-! zip(text, text) -/
namespace Onp
open PySem PySem.Spec PyProof.Rows L2
abbrev sgn (c : Nat) : V := .str ⟨#[c]⟩
def ItzS (x y : Str) : It :=
  ⟨fun i _ => i < min x.cps.size y.cps.size, fun i H v H' => ∃ T c d, v = .ref T ∧ H T = none ∧ H' = upd H T (.tup [sgn c, sgn d]) ∧ x.cps[i]? = some c ∧ y.cps[i]? = some d, fun i _ => i = min x.cps.size y.cps.size⟩
abbrev stS2 (x y : Str) (t u : Tok) (z TI TO i1 i2 : Addr) : Nat → Heap → Prop := fun i h => IsZip h z TI TO .none ∧ IsTupOf2 h TI (.ref i1) (.ref i2) ∧ (∃ a1 a2, IsTupOf2 h TO a1 a2) ∧ h.IsStrIter i1 (strIterType x) x t i ∧ h.IsStrIter i2 (strIterType y) y u i
theorem zipS_obj {x y : Str} {t u : Tok} {z TI TO i1 i2 : Addr} {i : Nat} {h : Heap} (st : stS2 x y t u z TI TO i1 i2 i h) : ∀ c ∈ z :: TI :: TO :: ([i1] ++ [i2]), ∃ o, h.get? c = some o ∧ ∀ v, o.data ≠ .cell v := fun c hc => by
    obtain ⟨g1, g2, ⟨_, _, g3⟩, ⟨o1, e1, _, d1⟩, ⟨o2, e2, _, d2⟩⟩ := st
    have hc' : c = z ∨ c = TI ∨ c = TO ∨ c = i1 ∨ c = i2 := by simpa using hc
    rcases hc' with rfl | rfl | rfl | rfl | rfl
    · exact ⟨_, g1, fun v q => nomatch q⟩
    · exact ⟨_, g2, fun v q => nomatch q⟩
    · exact ⟨_, g3, fun v q => nomatch q⟩
    · exact ⟨o1, e1, fun v q => by rw [d1] at q; cases q⟩
    · exact ⟨o2, e2, fun v q => by rw [d2] at q; cases q⟩
theorem turn_zipS {P : Program} {w : World} {K : PySem.W.Frag} {elts : List Expr} {kk : Nat} {tpos : Pos} {x y : Str} {t u : Tok} {z TI TO i1 i2 : Addr} (S : ZipSep2 z TI TO i1 i2 [i1] [i2]) :
    Turn P w K (.Tuple elts kk tpos) (ItzS x y) (z :: TI :: TO :: ([i1] ++ [i2])) z (stS2 x y t u z TI TO i1 i2) where
  mem := List.mem_cons_self
  obj := fun i h st => zipS_obj st
  keep := fun i h h' st k => by
    obtain ⟨g1, g2, ⟨a1, a2, g3⟩, ⟨o1, e1, r1⟩, ⟨o2, e2, r2⟩⟩ := st
    exact ⟨k z (by simp) _ g1, k TI (by simp) _ g2, ⟨a1, a2, k TO (by simp) _ g3⟩, ⟨o1, k i1 (by simp) _ e1, r1⟩, ⟨o2, k i2 (by simp) _ e2, r2⟩⟩
  item := by
    intro X hP hw hK hc i pins s σ H E I hf st go
    subst hP hw hK
    have W := WalksT.zipD2 (A := X.A) S (Draws.text (prog := X.prog) (w := X.w) (A := X.A.in1) (by simp [I.ok.hd hc]) i1 x t) (Draws.text (prog := X.prog) (w := X.w) (A := X.A.in1) (by simp [I.ok.hd hc]) i2 y u)
    refine W.item i s _ _ go st fun T vals h' tk pv hT isT mid kp => ?_
    obtain ⟨x1, x2, ⟨c, u1, hc1, rfl⟩, ⟨d, u2, hd1, rfl⟩, rfl⟩ := pv
    refine ⟨_, rfl, W.go elts kk tpos i T { s with heap := h', toks := tk } _ _ mid fun h2 st2 kp2 => ?_⟩
    obtain ⟨o, ho, r⟩ := isT
    have hoT : h2.IsTuple T #[.str ⟨#[c]⟩ u1, .str ⟨#[d]⟩ u2] := ⟨o, kp2 _ _ (W.apart i T _ mid) ho, r⟩
    have new : ObjOk X.prog X.w (upd H T (.tup [sgn c, sgn d])) h2 T (.tup [sgn c, sgn d]) := ⟨by show 2 ≤ sizeLine; decide, [.str ⟨#[c]⟩ u1, .str ⟨#[d]⟩ u2], .cons ⟨_, rfl⟩ (.cons ⟨_, rfl⟩ .nil), hoT⟩
    have I1 : Inv X pins σ (upd H T (.tup [sgn c, sgn d])) { s with heap := h2, toks := tk } := I.turnedNew (t' := tk) (ch := z :: TI :: TO :: ([i1] ++ [i2])) (fun b o hb q => kp2 b o (fun z => hb (W.sub b z)) (kp b o (fun z => hb (W.sub b z)) q)) hf hT new
    refine ⟨.ref T, _, I1, rfl, ⟨T, c, d, rfl, I.hok.fresh hT, rfl, hc1, hd1⟩, st2, fun b hb => ?_⟩
    have ne : b ≠ T := fun e => by
      obtain ⟨o', eo', _⟩ := (zipS_obj st b hb)
      exact absurd (Heap.lt_size eo') (Nat.not_lt_of_le (e ▸ hT))
    rw [upd_ne ne]
    exact (hf b hb).1
  done := by
    intro X hP hw hK hc i pins s σ H E I hf st go
    subst hP hw hK
    have W := WalksT.zipD2 (A := X.A) S (Draws.text (prog := X.prog) (w := X.w) (A := X.A.in1) (by simp [I.ok.hd hc]) i1 x t) (Draws.text (prog := X.prog) (w := X.w) (A := X.A.in1) (by simp [I.ok.hd hc]) i2 y u)
    rw [show i = min x.cps.size y.cps.size from go] at st
    exact W.done s _ _ st fun h' tk kp => ⟨rfl, I.turnedL (t' := tk) (ch := z :: TI :: TO :: ([i1] ++ [i2])) (fun b o hb q => kp b o (fun z => hb (W.sub b z)) q) hf⟩
  self := fun A i s Q E st h => wpAny_pyIter_zip st.1 h
def iZipS (ta : TA) : TI := fun σ H R => ta σ H fun vs H1 => ∃ x y, vs = [.str x, .str y] ∧ R (ItzS x y) H1
theorem pi_zipS {X : Cx} {e e2 : Expr} {ta : TA} {p pos tpos : Pos} {elts : List Expr} {kk : Nat} (hg : Gl X "zip") (hm : X.mg "zip" = none) (ha : PA X [e, e2] ta)
    (hs : starEach [e, e2] X.env = (false, eval e X.env) :: starEach [e2] X.env := by rfl) (hpl : (backTo pos (starEach [e2] X.env)).any (·.1) = false := by rfl) :
    PI X (.Tuple elts kk tpos) (.Call (.Name "zip" p) [e, e2] [] pos) (iZipS ta) := by
  refine ⟨fun pins s σ H R I h => ?_⟩
  refine Call_ (ld_blt I hg hm PyProof.Rows.boot_zip (PyProof.Rows.callWith_type1 (thn (ha.run pos pins s σ H _ I h) fun us s1 ⟨vs, H1, I1, r1, q1⟩ => ?_) hs hpl))
  obtain ⟨x, y, ex, q⟩ := q1
  subst ex
  cases r1 with
  | cons r rr =>
    cases rr with
    | cons r' rr =>
      cases rr
      obtain ⟨t, rfl⟩ := r
      obtain ⟨u, rfl⟩ := r'
      refine zip_begins2 (begins_text x t) (begins_text y u) trivial trivial fun h' g1 g2 g3 g4 g5 sz kp => wpAny_pyIter_zip g1 ?_
      have I2 : Inv X pins σ H1 { s1 with heap := h' } := I1.kept (t' := s1.toks) kp
      refine ⟨s1.heap.objs.size + 4, _, _, _, H1, rfl, I2, turn_zipS (x := x) (y := y) (t := t) (u := u) (zip_sep2 (N := s1.heap.objs.size) (fp1 := []) (fp2 := []) (fun _ h => nomatch h) (fun _ h => nomatch h)), ⟨g1, g2, ⟨_, _, g3⟩, ⟨_, g4, rfl, rfl⟩, ⟨_, g5, rfl, rfl⟩⟩, fun c hc => ?_, q⟩
      have hc' : c = s1.heap.objs.size + 4 ∨ c = s1.heap.objs.size + 2 ∨ c = s1.heap.objs.size + 3 ∨ c = s1.heap.objs.size ∨ c = s1.heap.objs.size + 1 := by simpa using hc
      have le : s1.heap.objs.size ≤ c := by
        rcases hc' with rfl | rfl | rfl | rfl | rfl <;> first | exact Nat.le_refl _ | exact Nat.le_add_right _ _
      exact I1.fpOk le (I1.hok.fresh le)
theorem walk_zipS (x y : Str) : Walk (ItzS x y) (min x.cps.size y.cps.size) (fun _ => True) (fun i H v H' => ∃ T c d, v = .ref T ∧ H T = none ∧ H' = upd H T (.tup [sgn c, sgn d]) ∧ x.cps[i]? = some c ∧ y.cps[i]? = some d) :=
  ⟨fun _ _ h _ => h, fun _ _ => rfl, fun _ _ _ _ _ _ y => y⟩
end Onp
set_option maxHeartbeats 4000000
set_option autoImplicit false
/-! sets of tuples of ints and texts (fewer than 64) -/
namespace Onp
open PySem PySem.Spec PyProof.Rows L2
abbrev hM (P : Program) (w : World) (k : List Key) : Int := tupleKeyHash (mixKind P w) k
abbrev IsM (P : Program) (w : World) (h : Heap) (k : List Key) (a : Addr) : Prop := IsTupleKey (mixKind P w) h k a
abbrev AK : Type := Addr × List Key
section
variable {P : Program} {w : World} {A : Around} {E : Value → Shared → Prop} {s : Shared}
def Flat (v : Value) : Prop := (∃ i t, v = Value.int i t) ∨ ∃ x t, v = Value.str x t
theorem flat_of {k : List Key} {vs : List Value} (h : ItemsAre (mixKind P w) k vs) : ∀ v ∈ vs, Flat v := by
  induction h with
  | nil => exact fun v hv => nomatch hv
  | cons h1 _ ih =>
    intro v hv
    rcases List.mem_cons.mp hv with rfl | hv
    · rcases keyIs_shape h1 with ⟨i, t, _, e⟩ | ⟨x, t, _, e⟩
      · exact .inl ⟨_, _, e⟩
      · exact .inr ⟨_, _, e⟩
    · exact ih v hv
theorem flat_cls (n : Nat) {v : Value} (h : Flat v) : ofAClassStatement n v = pure false := by
  rcases h with ⟨i, t, rfl⟩ | ⟨x, t, rfl⟩ <;> cases n <;> rfl
theorem clsM {k : List Key} {b : Addr} {Q : Bool → Shared → Prop} (hk : IsM P w s.heap k b) (h : Q false s) : wpAny (model P w) A (ofAClassStatement 8 (.ref b)) Q E s := by
  have tT := hk.typeIs
  obtain ⟨ob, its, n, g1, _, g2, g3⟩ := hk
  unfold ofAClassStatement
  refine wpAny_bind (wpAny_typeOf tT ?_)
  dsimp only
  have e : (("tuple" : String) == "tuple") = true := by decide
  simp only [e, if_true, Bool.not_true, Bool.false_eq_true, if_false]
  try refine wpAny_bind (wpAny_pure ?_)
  try simp only [Bool.not_true, Bool.false_eq_true, if_false]
  show wpAny _ _ (seqItems? (.ref b) >>= _) _ _ s
  refine wpAny_bind (wpAny_seqItems g1 g2 ?_)
  dsimp only
  refine wpAny_bind ?_
  show wpAny _ _ (forIn its _ _) _ _ s
  rw [← Array.forIn_toList]
  refine wpAny_forIn_list _ (fun rest r s' => r.1 = none ∧ s' = s ∧ ∀ v ∈ rest, Flat v) _ ?_ ?_ _ _ ⟨rfl, rfl, flat_of g3⟩
  · rintro v rest r s' ⟨_, rfl, al⟩
    rw [flat_cls _ (al v List.mem_cons_self)]
    refine wpAny_bind (wpAny_pure ?_)
    simp only [Bool.false_eq_true, if_false]
    exact wpAny_pure ⟨rfl, rfl, fun u z => al u (List.mem_cons_of_mem _ z)⟩
  · rintro ⟨r1, r2⟩ s' ⟨er, rfl, _⟩
    simp only at er
    subst er
    exact wpAny_pure h
theorem flat_hash (n : Nat) {v : Value} (h : Flat v) : ∃ b, hashByValue n v = pure b := by
  rcases h with ⟨i, t, rfl⟩ | ⟨x, t, rfl⟩
  · exact ⟨true, by cases n <;> rfl⟩
  · exact ⟨false, by cases n <;> rfl⟩
theorem hashM {k : List Key} {b : Addr} {Q : Bool → Shared → Prop} (hk : IsM P w s.heap k b) (h : ∀ y, Q y s) : wpAny (model P w) A (hashByValue 8 (.ref b)) Q E s := by
  have tT := hk.typeIs
  obtain ⟨ob, its, n, g1, _, g2, g3⟩ := hk
  unfold hashByValue
  refine wpAny_bind (wpAny_specialOf tT F.slot_tuple_hash.lookup ?_)
  show wpAny _ _ (seqItems? (.ref b) >>= _) _ _ s
  refine wpAny_bind (wpAny_seqItems g1 g2 ?_)
  refine wpAny_bind ?_
  show wpAny _ _ (forIn its _ _) _ _ s
  rw [← Array.forIn_toList]
  refine wpAny_forIn_list _ (fun rest r s' => s' = s ∧ ∀ v ∈ rest, Flat v) _ ?_ ?_ _ _ ⟨rfl, flat_of g3⟩
  · rintro v rest r s' ⟨rfl, al⟩
    obtain ⟨y, ey⟩ := flat_hash 7 (al v List.mem_cons_self)
    rw [ey]
    refine wpAny_bind (wpAny_pure ?_)
    cases y with
    | true =>
      simp only [Bool.not_true, Bool.false_eq_true, if_false]
      exact wpAny_pure ⟨rfl, fun u z => al u (List.mem_cons_of_mem _ z)⟩
    | false =>
      simp only [Bool.not_false, if_true]
      exact wpAny_pure (wpAny_pure (h false))
  · rintro ⟨r1, r2⟩ s' ⟨rfl, _⟩
    cases r1 with
    | none => exact wpAny_pure (h _)
    | some y => exact wpAny_pure (h _)
theorem seenM {k : List Key} {b : Addr} {Q : Bool → Shared → Prop} (hk : IsM P w s.heap k b) {ys : List Value} (hy : ∀ y ∈ ys, ∃ k' c, y = Value.ref c ∧ IsM P w s.heap k' c) (h : Q false s) :
    wpAny (model P w) A (searchCouldBeSeen (.ref b) ys) Q E s := by
  unfold searchCouldBeSeen
  refine wpAny_bind ?_
  refine wpAny_forIn_list _ (fun rest r s' => r.1 = none ∧ s' = s ∧ ∀ y ∈ rest, ∃ k' c, y = Value.ref c ∧ IsM P w s.heap k' c) _ ?_ ?_ _ _ ⟨rfl, rfl, hy⟩
  · rintro v rest r s' ⟨_, rfl, al⟩
    obtain ⟨k', c, rfl, ic⟩ := al v List.mem_cons_self
    have more : ∀ y ∈ rest, ∃ k' c, y = Value.ref c ∧ IsM P w s'.heap k' c := fun u z => al u (List.mem_cons_of_mem _ z)
    dsimp only
    by_cases hv : (b == c || (carriedByValue (.ref b) && carriedByValue (.ref c))) = true
    · exact wp_if_pos hv (wpAny_pure ⟨rfl, rfl, more⟩)
    · refine wp_if_neg hv (wpAny_bind (wpAny_eqIsQuiet_tuple hk ?_))
      simp only [Bool.not_true, Bool.false_eq_true, if_false]
      refine wpAny_bind (wpAny_eqIsQuiet_tuple ic ?_)
      simp only [Bool.not_true, Bool.false_eq_true, if_false]
      refine wpAny_bind (clsM hk ?_)
      simp only [Bool.false_eq_true, if_false]
      refine wpAny_bind (clsM ic ?_)
      simp only [Bool.false_eq_true, if_false]
      exact wpAny_pure ⟨rfl, rfl, more⟩
  · rintro ⟨r1, r2⟩ s' ⟨er, rfl, _⟩
    simp only at er
    subst er
    exact wpAny_pure h
/-! ### the set -/
def rowsM (P : Program) (w : World) (L : List AK) : List (Int × Value) := L.map fun p => (hM P w p.2, Value.ref p.1)
structure SetM (P : Program) (w : World) (h : Heap) (a : Addr) (L : List AK) (es : Array (Int × Value)) (ep : Nat) (t : SetTable) : Prop where
  ob : ∃ o, h.get? a = some o ∧ o.ExactSet ∧ o.data = .set es ep t
  rows : es.toList = rowsM P w L
  tab : TabOk t (L.map fun p => hM P w p.2)
  nd : (L.map (·.2)).Nodup
  tup : ∀ p ∈ L, IsM P w h p.2 p.1
  led : w.params.followText "set-order" = true ∨ t.led = true
  room : L.length * 5 < t.mask * 3
  few : L.length < 64
variable {a : Addr} {L : List AK} {es : Array (Int × Value)} {ep : Nat} {t : SetTable}
theorem rowsM_len {L : List AK} {es : Array (Int × Value)} (e : es.toList = rowsM P w L) : es.size = L.length := by
  have q := congrArg List.length e
  simpa [rowsM] using q
theorem fitsM {n : Nat} (hd : t.dummies = #[]) (h1 : t.place.size = n) (h2 : n ≤ t.mask) : t.fits n = true := by
  unfold SetTable.fits SetTable.fill
  rw [hd, Bool.and_eq_true, beq_iff_eq, decide_eq_true_eq]
  show t.place.size = n ∧ t.place.size + 0 ≤ t.mask
  omega
theorem SetM.fits (R : SetM P w s.heap a L es ep t) : t.fits es.size = true := by
  have z1 := R.tab.sz
  rw [List.length_map] at z1
  have z2 := rowsM_len R.rows
  have z3 := R.room
  exact fitsM R.tab.dm (by omega) (by omega)
theorem SetM.entry (R : SetM P w s.heap a L es ep t) {i : Nat} {p : AK} (h : L[i]? = some p) : es[i]? = some (hM P w p.2, Value.ref p.1) := by
  rw [← Array.getElem?_toList, R.rows]
  unfold rowsM
  rw [List.getElem?_map, h]
  rfl
theorem SetM.gw (R : SetM P w s.heap a L es ep t) : ¬ t.gaveWay = true := by
  unfold SetTable.gaveWay
  rw [mask_odd R.tab.mok]
  decide
abbrev str0 (t : SetTable) (h : Int) : SetTable.Probe := runAt t.mask (SetTable.bits h % (t.mask + 1)) (SetTable.bits h)
theorem nth_dummy (m : Nat) : ∀ (n : Nat) (p : SetTable.Probe), p.dummy = none → (nth m p n).dummy = none
  | 0, _, h => h
  | n + 1, p, h => nth_dummy m n (adv m p) (by unfold adv; split <;> exact h)
theorem searchM (R : SetM P w s.heap a L es ep t) {x : Addr} {k : List Key} (hx : IsM P w s.heap k x) (hu : A.units < cLine) {K : Nat} (kf : K < 10 * SetTable.turns t.mask)
    (k1 : way t.mask (hM P w k) K ∉ t.place.toList) (k2 : ∀ c, c < K → way t.mask (hM P w k) c ∈ t.place.toList) {Q : SetFound → Shared → Prop}
    (yes : k ∈ L.map (·.2) → Q (.there none) s) (no : k ∉ L.map (·.2) → Q (.free (way t.mask (hM P w k) K) false) s) :
    ∀ (f c : Nat) (stand : Option SetTable.Probe), stand.getD (t.probeStart (hM P w k)) = nth t.mask (str0 t (hM P w k)) c → c ≤ K → K - c < f →
      (∀ (i : Nat) p, L[i]? = some p → p.2 = k → ∃ c', c ≤ c' ∧ c' < K ∧ t.place.toList[i]? = some (way t.mask (hM P w k) c')) →
      wpAny (model P w) A (setSearchFrom a (.ref x) (hM P w k) true f stand) Q E s
  | 0, c, stand, _, _, bad, _ => absurd bad (Nat.not_lt_zero _)
  | f + 1, c, stand, es0, hcK, hf, hre => by
    obtain ⟨ob, g1, gx, g2⟩ := R.ob
    rw [setSearchFrom_succ]
    refine wpAny_bind (wpAny_setState_of g1 g2 R.fits ?_)
    dsimp only
    refine wp_if_neg R.gw ?_
    try refine wpAny_bind (wpAny_pure ?_)
    have nd0 := nth_dummy t.mask c (str0 t (hM P w k)) rfl
    have sh : ∀ q, nth t.mask (nth t.mask (str0 t (hM P w k)) c) q = nth t.mask (str0 t (hM P w k)) (c + q) := fun q => (nth_add t.mask c _ q).symm
    have e1 : ∀ q, (nth t.mask (nth t.mask (str0 t (hM P w k)) c) q).j = way t.mask (hM P w k) (c + q) := fun q => congrArg SetTable.Probe.j (sh q)
    have hat : ∀ (i : Nat) p, L[i]? = some p → (fun i => (es[i]?.map (·.1)).getD 0) i = hM P w p.2 := fun i p hp => by
      show (es[i]?.map (·.1)).getD 0 = _
      rw [R.entry hp]
      rfl
    rcases go_spec t R.tab.ris R.tab.dm (fun i => (es[i]?.map (·.1)).getD 0) (hM P w k) (10 * SetTable.turns t.mask) (K - c) _ nd0 (by omega)
      (fun q hq => by rw [e1]; exact k2 (c + q) (by omega)) (by rw [e1, show c + (K - c) = K by omega]; exact k1) with ⟨q, i, hq, hi, hh, hno, hpr⟩ | ⟨hno, hpr⟩
    · have hpr' : t.probe (fun i => (es[i]?.map (·.1)).getD 0) (hM P w k) (stand.getD (t.probeStart (hM P w k))) = some (.candidate (way t.mask (hM P w k) (c + q)) i (nth t.mask (str0 t (hM P w k)) (c + (q + 1)))) := by
        rw [es0, ← e1, ← sh]
        exact hpr
      rw [hpr']
      dsimp only
      rw [e1] at hi
      have hil : i < L.length := by
        have z1 : i < t.place.toList.length := (List.getElem?_eq_some_iff.mp hi).1
        have z2 := R.tab.sz
        rw [List.length_map] at z2
        rw [Array.length_toList] at z1
        omega
      obtain ⟨p, hp⟩ : ∃ p, L[i]? = some p := ⟨_, List.getElem?_eq_getElem hil⟩
      have pm : p ∈ L := List.mem_of_getElem? hp
      have pt := R.tup p pm
      have rest : wpAny (model P w) A (searchRest a (.ref x) (hM P w k) true f es t (way t.mask (hM P w k) (c + q)) i (nth t.mask (str0 t (hM P w k)) (c + (q + 1)))) Q E s := by
        unfold searchRest
        rw [R.entry hp]
        dsimp only
        refine wpAny_bind (wpAny_holding (wpAny_eqBool_tuple hu pt hx ?_))
        refine wpAny_bind (wpAny_setState_of g1 g2 R.fits ?_)
        dsimp only
        by_cases kk : p.2 = k
        · refine wp_if_pos (by simp [kk]) ?_
          exact wpAny_pure (yes (List.mem_map.mpr ⟨p, pm, kk⟩))
        · refine wp_if_neg (by simp [kk]) ?_
          try refine wpAny_bind (wpAny_pure ?_)
          rw [sameMem]
          dsimp only
          have sl : t.slot (way t.mask (hM P w k) (c + q)) = .live i := slot_live R.tab.ris hi
          simp only [if_true, sl, R.entry hp]
          refine wpAny_bind (wpAny_isSame_ref_self (wpAny_bind (wpAny_pure ?_)))
          simp only [if_true]
          refine wp_if_neg (by simp [kk]) ?_
          refine searchM R hx hu kf k1 k2 yes no f (c + (q + 1)) _ rfl (by omega) (by omega) fun i0 p0 z0 hk0 => ?_
          obtain ⟨c', a1, a2, a3⟩ := hre i0 p0 z0 hk0
          refine ⟨c', ?_, a2, a3⟩
          by_cases y1 : c' < c + q
          · exfalso
            refine hno (c' - c) i0 (by omega) (by rw [e1, show c + (c' - c) = c' by omega]; exact a3) ?_
            exact (hat i0 p0 z0).trans (congrArg (hM P w) hk0)
          · by_cases y2 : c + q < c'
            · omega
            · exfalso
              have ec : c' = c + q := by omega
              rw [ec] at a3
              have s0 := slot_live R.tab.ris a3
              rw [sl] at s0
              injection s0 with s0
              rw [← s0, hp] at z0
              rw [← Option.some.inj z0] at hk0
              exact kk hk0
      by_cases hl : t.led = true
      · refine wp_if_neg (by simp [hl]) ?_
        try refine wpAny_bind (wpAny_pure ?_)
        exact rest
      · refine wp_if_pos (by simp [hl]) (wpAny_bind (seenM hx (fun y hy => ?_) ?_))
        · obtain ⟨e, he, ee⟩ := List.mem_map.mp hy
          have he1 : e ∈ es ∧ e.1 = hM P w k := by simpa using he
          have he2 : e ∈ es.toList := by simpa using he1.1
          rw [R.rows] at he2
          obtain ⟨p2, m2, q2⟩ := List.mem_map.mp he2
          exact ⟨p2.2, p2.1, by rw [← ee, ← q2], R.tup p2 m2⟩
        · refine wp_if_neg (by decide) ?_
          try refine wpAny_bind (wpAny_pure ?_)
          exact rest
    · have hpr' : t.probe (fun i => (es[i]?.map (·.1)).getD 0) (hM P w k) (stand.getD (t.probeStart (hM P w k))) = some (.empty (way t.mask (hM P w k) K) none) := by
        have e2 : way t.mask (hM P w k) K = (nth t.mask (nth t.mask (str0 t (hM P w k)) c) (K - c)).j := by
          rw [e1, show c + (K - c) = K by omega]
        rw [es0, e2]
        exact hpr
      rw [hpr']
      dsimp only
      refine wpAny_pure (no fun hm => ?_)
      obtain ⟨p0, z0, hk0⟩ := List.mem_map.mp hm
      obtain ⟨i0, hi0⟩ := List.mem_iff_getElem?.mp z0
      obtain ⟨c', a1, a2, a3⟩ := hre i0 p0 hi0 hk0
      refine hno (c' - c) i0 (by omega) (by rw [e1, show c + (c' - c) = c' by omega]; exact a3) ?_
      exact (hat i0 p0 hi0).trans (congrArg (hM P w) hk0)
theorem searchM0 (R : SetM P w s.heap a L es ep t) {x : Addr} {k : List Key} (hx : IsM P w s.heap k x) (hu : A.units < cLine) {Q : SetFound → Shared → Prop}
    (yes : k ∈ L.map (·.2) → Q (.there none) s)
    (no : ∀ K, k ∉ L.map (·.2) → way t.mask (hM P w k) K ∉ t.place.toList → (∀ c, c < K → way t.mask (hM P w k) c ∈ t.place.toList) → Q (.free (way t.mask (hM P w k) K) false) s) :
    wpAny (model P w) A (setSearch a (.ref x) (hM P w k) true) Q E s := by
  have z3 := R.room
  obtain ⟨K, kf, k1, k2⟩ := R.tab.first (by rw [List.length_map]; omega) (hM P w k)
  have big : K < 100000 := by
    have : 10 * SetTable.turns t.mask ≤ 1420 := by
      unfold SetTable.turns
      rcases R.tab.mok with e | e | e <;> omega
    omega
  unfold setSearch
  refine searchM R hx hu kf k1 k2 yes (fun z => no K z k1 k2) 100000 0 none rfl (Nat.zero_le _) (by omega) fun i p hp hk => ?_
  have hi : (L.map fun p => hM P w p.2)[i]? = some (hM P w k) := by
    rw [List.getElem?_map, hp, ← hk]
    rfl
  have hil : i < t.place.toList.length := by
    have z1 : i < L.length := (List.getElem?_eq_some_iff.mp hp).1
    have z2 := R.tab.sz
    rw [List.length_map] at z2
    rw [Array.length_toList]
    omega
  obtain ⟨c, hc, e⟩ := R.tab.before k1 hi (List.getElem?_eq_getElem hil)
  exact ⟨c, Nat.zero_le _, hc, by rw [List.getElem?_eq_getElem hil, e]⟩
theorem isM_but {h h' : Heap} {k : List Key} {a b : Addr} {o : Obj} {es : Array (Int × Value)} {ep : Nat} {t : SetTable} (hb : IsM P w h k b) (g1 : h.get? a = some o) (g2 : o.data = .set es ep t) (sb : Heap.SameBut a h h') : IsM P w h' k b := by
  obtain ⟨o', its, n, z1, z2, z3, z4⟩ := hb
  have ne : b ≠ a := by
    rintro rfl
    obtain rfl : o' = o := Option.some.inj (z1.symm.trans g1)
    rw [g2] at z3
    exact nomatch z3
  exact ⟨o', its, n, (sb.2 b ne).trans z1, z2, z3, z4⟩
theorem orderM (L : List AK) (es : Array (Int × Value)) (order : Array Nat) (hr : es.toList = rowsM P w L) (hp : order.toList.Perm (List.range L.length)) :
    ∃ L2, (order.filterMap (es[·]?)).toList = rowsM P w L2 ∧ L2.Perm L ∧ (L2.map fun p => hM P w p.2) = order.toList.map fun i => (es.map (·.1)).getD i 0 := by
  have sz := rowsM_len hr
  have ent : ∀ i, es[i]? = (L[i]?).map fun (p : AK) => (hM P w p.2, Value.ref p.1) := fun i => by
    rw [← Array.getElem?_toList, hr]
    unfold rowsM
    rw [List.getElem?_map]
  have key : ∀ l : List Nat, (∀ i ∈ l, i < L.length) → l.filterMap (fun i => es[i]?) = rowsM P w (l.filterMap fun i => L[i]?) ∧ ((l.filterMap fun i => L[i]?).map fun p => hM P w p.2) = l.map fun i => (es.map (·.1)).getD i 0 := by
    intro l
    induction l with
    | nil => exact fun _ => ⟨rfl, rfl⟩
    | cons i l ih =>
      intro hl
      have hi := hl i List.mem_cons_self
      obtain ⟨q1, q2⟩ := ih fun j hj => hl j (List.mem_cons_of_mem _ hj)
      have g : L[i]? = some L[i] := List.getElem?_eq_getElem hi
      have g' : es[i]? = some (hM P w L[i].2, Value.ref L[i].1) := by rw [ent, g]; rfl
      refine ⟨?_, ?_⟩
      · rw [List.filterMap_cons_some g', List.filterMap_cons_some g, q1]
        rfl
      · rw [List.filterMap_cons_some g, List.map_cons, List.map_cons, q2]
        congr 1
        have q5 : (es.map (·.1))[i]? = some (hM P w L[i].2) := by rw [Array.getElem?_map, g']; rfl
        simp [Array.getD_eq_getD_getElem?, q5]
  obtain ⟨q1, q2⟩ := key order.toList fun i hi => List.mem_range.mp (hp.mem_iff.mp hi)
  refine ⟨_, by first | (rw [Array.toList_filterMap]; exact q1) | simpa using q1, ?_, q2⟩
  have m1 : (order.toList.filterMap fun i => L[i]?).Perm ((List.range L.length).filterMap fun i => L[i]?) := hp.filterMap _
  have m2 : (List.range L.length).filterMap (fun i => L[i]?) = L := by
    have key2 : ∀ n, n ≤ L.length → (List.range n).filterMap (fun i => L[i]?) = L.take n := by
      intro n
      induction n with
      | zero => exact fun _ => rfl
      | succ n ih =>
        intro hn
        rw [List.range_succ, List.filterMap_append, ih (by omega), List.take_succ, List.getElem?_eq_getElem hn, List.filterMap_cons_some (List.getElem?_eq_getElem hn)]
        rfl
    rw [key2 L.length (Nat.le_refl _), List.take_length]
  rw [m2] at m1
  exact m1
theorem relayM {o : Obj} (g1 : s.heap.get? a = some o) (gx : o.ExactSet) (g2 : o.data = .set es ep t) (hr : es.toList = rowsM P w L) (z1 : t.place.size = es.size) (z2 : t.dummies = #[]) (z3 : es.size ≤ t.mask)
    (nd : (L.map (·.2)).Nodup) (tup : ∀ p ∈ L, IsM P w s.heap p.2 p.1) (ld : w.params.followText "set-order" = true ∨ t.led = true) (few : L.length < 64) {wanted M : Nat}
    (w1 : SetTable.sizeAbove wanted - 1 = M) (w2 : MaskOk M) (w3 : SetTable.sizeAbove wanted ≤ 128) (w4 : L.length * 5 < M * 3) {Q : Unit → Shared → Prop}
    (q : ∀ h' L' es' ep' t', Heap.SameBut a s.heap h' → SetM P w h' a L' es' ep' t' → L'.Perm L → Q () { s with heap := h' }) : wpAny (model P w) A (setRelay a wanted) Q E s := by
  have sz := rowsM_len hr
  obtain ⟨t', order, e, hp, T, em, el, ep2, ed⟩ := relaid_ok t (hs := es.map (·.1)) (wanted := wanted) w1 w2 (by rw [Array.size_map, sz]; omega)
  rw [Array.size_map, sz] at hp
  obtain ⟨L2, r1, r2, r3⟩ := orderM L es order hr hp
  rw [← r3] at T
  have sz2 : (order.filterMap (es[·]?)).size = es.size := by
    rw [rowsM_len r1, r2.length_eq, sz]
  rw [setRelay_eq]
  refine wpAny_bind (wpAny_setState_of g1 g2 (fitsM z2 z1 z3) ?_)
  dsimp only
  refine wp_if_neg (by rw [sizeLine_eq]; omega) ?_
  try refine wpAny_bind (wpAny_pure ?_)
  rw [e]
  dsimp only
  refine wpAny_bind (wp_if_neg (by rw [sz2]; simp) ?_)
  try refine wpAny_bind (wpAny_pure ?_)
  refine wpAny_pure ?_
  dsimp only
  refine wpAny_storeSet_of g1 g2 ?_ (by rw [sz2, sz, sizeLine_eq]; omega)
  have sb : Heap.SameBut a s.heap (s.heap.update a (Obj.putSet (order.filterMap (es[·]?)) t')) := Heap.SameBut.update ..
  refine q _ L2 (order.filterMap (es[·]?)) (ep + 1) t' sb ⟨⟨_, store_at g1 g2, ⟨gx.1, gx.2.1, gx.2.2⟩, rfl⟩, r1, T, (r2.map (·.2)).nodup_iff.mpr nd, fun p z => isM_but (tup p (r2.mem_iff.mp z)) g1 g2 sb, by rw [el]; exact ld, ?_, by rw [r2.length_eq]; exact few⟩ r2
  rw [r2.length_eq, em]
  exact w4
theorem addM (R : SetM P w s.heap a L es ep t) {x : Addr} {k : List Key} (hx : IsM P w s.heap k x) (hu : A.units < cLine) (few : L.length + 1 < 64) {Q : Bool → Shared → Prop}
    (q : ∀ b h' L' es' ep' t', Heap.SameBut a s.heap h' → SetM P w h' a L' es' ep' t' → (k ∈ L.map (·.2) → L' = L) → (k ∉ L.map (·.2) → L'.Perm ((x, k) :: L)) → Q b { s with heap := h' }) :
    wpAny (model P w) A (setAddHashed a (.ref x) (hM P w k)) Q E s := by
  obtain ⟨ob, g1, gx, g2⟩ := R.ob
  have sz := rowsM_len R.rows
  have z3 := R.room
  unfold setAddHashed
  refine wpAny_holding ?_
  rw [show (100000 : Nat) = 99999 + 1 from rfl, setAddHashedIn_succ]
  refine wpAny_bind (wpAny_setState_of g1 g2 R.fits ?_)
  dsimp only
  refine wp_if_neg (by simp [byScan, Value.scannable]) ?_
  try refine wpAny_bind (wpAny_pure ?_)
  refine wpAny_bind (searchM0 R hx hu (fun hm => ?_) fun K hm k1 k2 => ?_)
  · dsimp only
    exact wpAny_pure (q false s.heap L es ep t (Heap.SameBut.refl a s.heap) R (fun _ => rfl) fun z => absurd hm z)
  · dsimp only
    refine wpAny_bind (wpAny_setState_of g1 g2 R.fits ?_)
    dsimp only
    obtain ⟨q1, q2, q3, q4, q5, q6, q7, q8, q9⟩ := R.tab.put k1 k2
    generalize t.put (way t.mask (hM P w k) K) = pt at q1 q3 q4 q5 q6 q7 q8 q9 ⊢
    obtain ⟨t1, p⟩ := pt
    dsimp only at q1 q3 q4 q5 q6 q7 q8 q9 ⊢
    subst q1
    have put : ∀ t2 : SetTable, TabOk t2 ((L.map fun p => hM P w p.2).take (SetTable.below t.place (way t.mask (hM P w k) K)) ++ hM P w k :: (L.map fun p => hM P w p.2).drop (SetTable.below t.place (way t.mask (hM P w k) K))) → t2.mask = t.mask → t2.led = t.led → t2.fill = (L.map fun p => hM P w p.2).length + 1 →
        wpAny (model P w) A (do
          storeSet a (SetTable.insertAt es (SetTable.below t.place (way t.mask (hM P w k) K)) (hM P w k, Value.ref x)) t2
          if (!false && t2.tooFull) = true then do
            setRelay a (SetTable.grown (es.size + 1))
            pure true
          else pure true) Q E s := fun t1 q3 q4 q5 q9 => by
      generalize epp : SetTable.below t.place (way t.mask (hM P w k) K) = p at q2 q3 ⊢
      have pm := put_perm L p (x, k)
      have hin : (SetTable.insertAt es p (hM P w k, Value.ref x)).toList = rowsM P w (L.take p ++ (x, k) :: L.drop p) := by
        rw [SetTable.toList_insertAt, R.rows]
        unfold rowsM
        rw [List.map_append, List.map_cons, List.map_take, List.map_drop]
      have hhs : (L.take p ++ (x, k) :: L.drop p).map (fun p => hM P w p.2) = (L.map fun p => hM P w p.2).take p ++ hM P w k :: (L.map fun p => hM P w p.2).drop p := by
        rw [List.map_append, List.map_cons, List.map_take, List.map_drop]
      rw [← hhs] at q3
      have sz1 := rowsM_len hin
      generalize SetTable.insertAt es p (hM P w k, Value.ref x) = es1 at hin sz1 ⊢
      generalize L.take p ++ (x, k) :: L.drop p = L1 at pm q3 hin sz1
      have len1 : L1.length = L.length + 1 := pm.length_eq
      have nd1 : (L1.map (·.2)).Nodup := by
        refine (pm.map (·.2)).nodup_iff.mpr ?_
        rw [List.map_cons]
        exact List.nodup_cons.mpr ⟨hm, R.nd⟩
      refine wpAny_bind (wpAny_storeSet_of g1 g2 ?_ (by rw [sz1, len1, sizeLine_eq]; omega))
      have sb : Heap.SameBut a s.heap (s.heap.update a (Obj.putSet es1 t1)) := Heap.SameBut.update ..
      have o1 := store_at (es' := es1) (t' := t1) g1 g2
      generalize s.heap.update a (Obj.putSet es1 t1) = h1 at sb o1 ⊢
      have tup1 : ∀ p ∈ L1, IsM P w h1 p.2 p.1 := fun p hp => by
        rcases List.mem_cons.mp (pm.mem_iff.mp hp) with e | hp
        · rw [e]
          exact isM_but hx g1 g2 sb
        · exact isM_but (R.tup p hp) g1 g2 sb
      have ld1 : w.params.followText "set-order" = true ∨ t1.led = true := by rw [q5]; exact R.led
      have hfull : t1.tooFull = decide ((L.length + 1) * 5 ≥ t1.mask * 3) := by
        unfold SetTable.tooFull
        rw [q9, List.length_map]
      by_cases hf : (L.length + 1) * 5 ≥ t1.mask * 3
      · have hf' : t1.tooFull = true := by rw [hfull, decide_eq_true hf]
        first
          | (refine wpAny_bind ?_; refine wp_if_pos (by simp [hf']) ?_)
          | (refine wp_if_pos (by simp [hf']) ?_; refine wpAny_bind ?_)
        rw [sz]
        have y1 : t1.place.size = es1.size := by
          have z := q3.sz
          rw [List.length_map] at z
          rw [z, sz1]
        have two : (t.mask = 7 ∧ L.length = 4) ∨ (t.mask = 31 ∧ L.length = 18) := by
          rw [q4] at hf
          rcases R.tab.mok with e | e | e <;> rw [e] at hf z3
          · exact .inl ⟨e, by omega⟩
          · exact .inr ⟨e, by omega⟩
          · omega
        have go : ∀ M, SetTable.sizeAbove (SetTable.grown (L.length + 1)) - 1 = M → MaskOk M → SetTable.sizeAbove (SetTable.grown (L.length + 1)) ≤ 128 → (L.length + 1) * 5 < M * 3 →
            wpAny (model P w) A (setRelay a (SetTable.grown (L.length + 1))) (fun _ s' => wpAny (model P w) A (pure true) Q E s') E { s with heap := h1 } := fun M m1 m2 m3 m4 => by
          refine relayM (s := { s with heap := h1 }) o1 ⟨gx.1, gx.2.1, gx.2.2⟩ rfl hin y1 q3.dm (by rw [sz1, len1, q4]; rcases two with ⟨e, e2⟩ | ⟨e, e2⟩ <;> omega) nd1 tup1 ld1 (by rw [len1]; exact few) m1 m2 m3 (by rw [len1]; exact m4) ?_
          exact fun h2 L2 es2 ep2 t2 sb2 R2 pm2 => wpAny_pure (q true h2 L2 es2 ep2 t2 (sb.trans sb2) R2 (fun z => absurd z hm) fun _ => pm2.trans pm)
        rcases two with ⟨_, e2⟩ | ⟨_, e2⟩
        · exact go 31 (by rw [e2, size_20]) (.inr (.inl rfl)) (by rw [e2, size_20]; decide) (by omega)
        · exact go 127 (by rw [e2, size_76]) (.inr (.inr rfl)) (by rw [e2, size_76]; decide) (by omega)
      · have hf' : ¬ t1.tooFull = true := by
          rw [hfull, decide_eq_false hf]
          decide
        first
          | refine wp_if_neg (by simp [hf']) ?_
          | (refine wpAny_bind ?_; refine wp_if_neg (by simp [hf']) ?_; refine wpAny_pure ?_)
        exact wpAny_pure (q true h1 L1 es1 (ep + 1) t1 sb ⟨⟨_, o1, ⟨gx.1, gx.2.1, gx.2.2⟩, rfl⟩, hin, q3, nd1, tup1, ld1, by rw [len1]; omega, by rw [len1]; exact few⟩ (fun z => absurd z hm) fun _ => pm)
    have any := fun y : Bool => put (if y = true then t1 else { t1 with plain := false })
      (by cases y; exact ⟨q3.ris, q3.dm, q3.sz, q3.mok, q3.bd, q3.reach⟩; exact q3) (by cases y <;> exact q4) (by cases y <;> exact q5) (by cases y <;> exact q9)
    first
      | (refine wpAny_bind ?_; by_cases pl : t1.plain = true; exact wp_if_pos pl (hashM hx any); exact wp_if_neg pl (wpAny_pure (any true)))
      | (by_cases pl : t1.plain = true; exact wp_if_pos pl (wpAny_bind (hashM hx any)); exact wp_if_neg pl (wpAny_bind (wpAny_pure (any true))))
end
end Onp
set_option maxHeartbeats 4000000
set_option autoImplicit false
/-! set(list), set(tuple) by an invariant; of tuples of ints and texts -/
namespace Onp
open PySem PySem.Spec PyProof.Rows L2
section
variable {P : Program} {w : World} {A : Around} {E : Value → Shared → Prop} {s : Shared}
abbrev set0 (w : World) : Obj := { cls := .type "set", dict := none, data := .set #[] 0 (.fresh 0 0 (!w.params.followText "set-order")) }
/-- one more item is put in -/
def AddsTo (P : Program) (w : World) (A : Around) (S : Addr) (h0 : Heap) (Pv : Nat → Value → Prop) (G : Nat → Heap → Prop) : Prop :=
  ∀ (i : Nat) (v : Value) (s : Shared) (E : Value → Shared → Prop), Pv i v → G i s.heap → (∀ b o, h0.get? b = some o → s.heap.get? b = some o) →
    wpAny (model P w) A (setAdd S v) (fun _ s' => ∃ h' tk, s' = { s with heap := h', toks := tk } ∧ s.toks ≤ tk ∧ Heap.SameBut S s.heap h' ∧ G (i + 1) h') E s
def KeepsSet (S : Addr) (h0 : Heap) (G : Nat → Heap → Prop) : Prop :=
  ∀ (i : Nat) (h h' : Heap), G i h → (∀ o, h.get? S = some o → h'.get? S = some o) → (∀ b o, h0.get? b = some o → h'.get? b = some o) → G i h'
theorem setLoop {I : Addr} {fp wr : List Addr} {GG : Array GenState → Array GenState → Prop} {n : Nat} {Pv : Nat → Value → Prop} {St : Nat → Shared → Prop} {R : Result → Shared → Prop}
    (W : WalksS P w A.in1 I fp wr GG n Pv St) (S : Addr) (hSf : S ∉ fp) (h0 : Heap) (G : Nat → Heap → Prop) (ad : AddsTo P w A.in1 S h0 Pv G) (kp : KeepsSet S h0 G) (n0 : h0.get? S = none) (nw : ∀ b ∈ wr, h0.get? b = none) :
    ∀ (k i : Nat) (s : Shared), n - i = k → i ≤ n → St i s → (∀ b o, h0.get? b = some o → s.heap.get? b = some o) → G i s.heap →
      (∀ s', Moved (S :: wr) GG s s' → G n s'.heap → (∀ b o, h0.get? b = some o → s'.heap.get? b = some o) → R (.ok (.ret .none)) s') →
      codeAny (model P w) A (.builtin "set.update.loop" ⟨[.ref S, .ref I], []⟩) R s := by
  have Sw : S ∉ wr := fun z => hSf (W.sub _ z)
  have wide : ∀ b ∈ wr, b ∈ S :: wr := fun b hb => List.mem_cons_of_mem _ hb
  have mv : ∀ {s s' : Shared}, Moved wr GG s s' → (∀ b o, h0.get? b = some o → s.heap.get? b = some o) → ∀ b o, h0.get? b = some o → s'.heap.get? b = some o := fun m z b o e =>
    m.heap b o (fun hb => by rw [nw b hb] at e; cases e) (z b o e)
  intro k
  induction k with
  | zero =>
    intro i s ek hi hst stays g fin
    obtain rfl : i = n := by omega
    refine codeAny_builtin F.entry_set_update_loop ?_
    rw [Around.under_plainId F.plain_set_update_loop _]
    show wpAny _ A.in1 (pyNext (.ref I) >>= _) _ _ s
    refine wpAny_bind (W.done s _ _ hst fun s' m => ?_)
    show wpAny _ A.in1 (ret Value.none) _ _ s'
    have stays' := mv m stays
    exact wpAny_pure (fin s' (m.mono wide) (kp _ _ _ g (fun o e => m.heap S o Sw e) stays') stays')
  | succ k ih =>
    intro i s ek hi hst stays g fin
    have lt : i < n := by omega
    refine codeAny_builtin F.entry_set_update_loop ?_
    rw [Around.under_plainId F.plain_set_update_loop _]
    show wpAny _ A.in1 (pyNext (.ref I) >>= _) _ _ s
    refine wpAny_bind (W.item i s _ _ lt hst fun v s' pv hst' m => ?_)
    have stays' := mv m stays
    have g' := kp _ _ _ g (fun o e => m.heap S o Sw e) stays'
    show wpAny _ A.in1 (holding [v] (setAdd S v) >>= _) _ _ s'
    refine wpAny_bind (wpAny_holding (wpAny_mono (ad i v s' _ pv g' stays') (fun _ s2 q => ?_) fun _ _ z => z))
    obtain ⟨h', tk, rfl, ht, sb, g2⟩ := q
    have stays2 : ∀ b o, h0.get? b = some o → h'.get? b = some o := fun b o e => (sb.2 b (fun z => by rw [z, n0] at e; cases e)).trans (stays' b o e)
    refine wpAny_pure ⟨plainId_quiet F.plain_set_update_loop _, ih (i + 1) _ (by omega) lt (W.frame _ s' _ _ hst' ht fun b hb o e => ?_) stays2 g2 fun s'' m2 g3 z3 => ?_⟩
    · rw [sb.2 b (fun z : b = S => hSf (by rw [← z]; exact hb))]
      exact e
    · refine fin s'' (Moved.trans W.gtrans ((m.mono wide).then_heap ht fun b o hb e => ?_) m2) g3 z3
      rw [sb.2 b (fun z : b = S => hb (by rw [z]; exact List.mem_cons_self))]
      exact e
set_option maxHeartbeats 6400000 in
theorem callSet_list {l : Addr} {its : Array Value} {Q : Value → Shared → Prop} (hh : A.handled = none) (hl : s.heap.IsList l its) (G : Nat → Heap → Prop)
    (ad : AddsTo P w A.in1.in1.in1 s.heap.objs.size s.heap (fun i v => its[i]? = some v) G) (kp : KeepsSet s.heap.objs.size s.heap G) (g0 : ∀ h, h.get? s.heap.objs.size = some (set0 w) → G 0 h)
    (q : ∀ (h' : Heap) (tk : Nat), G its.size h' → (∀ b o, s.heap.get? b = some o → h'.get? b = some o) → Q (.ref s.heap.objs.size) { s with heap := h', toks := tk }) :
    wpAny (model P w) A (call (.type "set") [.ref l]) Q E s := by
  obtain ⟨cc, tl, c1⟩ := F.called_set.mro
  have c2 := F.called_set.made
  have c3 := F.called_set.sub
  refine wpAny_call (codeAny_of_tree ?_)
  show wpAny _ _ (callAny (.type "set") _) _ _ _
  refine wpAny_pure ⟨Code.quiet_builtin _ (by decide +kernel), codeAny_builtin F.entry_type_call ?_⟩
  rw [Around.under_plain (weight_type_call_type "set" [.ref l] []) rfl]
  have c4 := F.called_set.notType
  have c5 := F.called_set.canCreate
  have c6 := F.typeCall_set_1 (.ref l)
  repeat (any_goals (first | assumption | wp_step))
  refine codeAny_mono (code_set_led1 (.ref l) (E := E) (Q₁ := fun obj s₁ => obj = .ref s.heap.objs.size ∧ s₁ = { s with heap := s.heap.push (set0 w) }) ⟨rfl, rfl⟩) fun r s₁ hr => ?_
  cases r with
  | error e => exact hr
  | ok fl =>
    cases fl with
    | ret obj =>
      obtain ⟨rfl, rfl⟩ := hr
      have nS : (s.heap.push (set0 w)).get? s.heap.objs.size = some (set0 w) := Heap.get?_push_size _ rfl
      have tS : Shared.TypeIs { s with heap := s.heap.push (set0 w) } (.ref s.heap.objs.size) "set" := ⟨_, nS, rfl⟩
      have c7 := F.called_set.init.lookup
      have c8 := F.called_set.init.bind (.ref s.heap.objs.size)
      repeat (any_goals (first | assumption | wp_step))
      refine codeAny_mono (codeAny_call_builtin (R := wants (fun r s₂ => r = .none ∧ ∃ h' tk, s₂ = { s with heap := h', toks := tk } ∧ G its.size h' ∧ (∀ b o, s.heap.get? b = some o → h'.get? b = some o)) E) F.called_set.init.plain F.entry_set_init (check_set_init_1 tS ?_)) fun r₂ s₂ hr₂ => ?_
      · obtain ⟨ol, ol1, ol2, nl, ol3⟩ := hl
        obtain ⟨ocls, odict, odata, oslots⟩ := ol
        simp only at ol2 ol3
        subst ol2; subst ol3
        have ol4 : (s.heap.push (set0 w)).get? l = some { cls := .type "list", dict := odict, data := .seq its nl, slots := oslots } := Heap.get?_push_of_some _ ol1
        have d1 := F.sub_list_set
        have d2 := F.sub_list_frozenset
        have d3 : (Value.type "list" == Value.type "dict") = false := by decide
        have hl1 : (s.heap.push (set0 w)).IsList l its := ⟨_, ol4, rfl, nl, rfl⟩
        unfold Builtin.«set.__init__» noKeywords Builtin.Frozenset.updateFrom
        generalize ePI : pyIter = PI
        wp_walk
        subst ePI
        refine wpAny_pyIter_list hl1 ?_
        refine wpAny_bind (wpAny_runValue ?_)
        have ll : l < s.heap.objs.size := Heap.lt_size ol1
        have h3 : A.in1.in1.in1.handled = none := by simp [hh]
        have ne1 : l ≠ (s.heap.push (set0 w)).objs.size := fun z => by
          rw [Heap.size_push] at z
          exact absurd (z ▸ ll) (Nat.not_lt_of_le (Nat.le_succ _))
        have ne2 : s.heap.objs.size ∉ [(s.heap.push (set0 w)).objs.size, l] := by
          rw [Heap.size_push]
          exact fun z => (List.mem_cons.mp z).elim (fun y => absurd y (Nat.ne_of_lt (Nat.lt_succ_self _))) fun y => absurd (List.mem_singleton.mp y) (Nat.ne_of_gt ll)
        have none_of : ∀ b, s.heap.objs.size ≤ b → s.heap.get? b = none := fun b hb => by
          cases z : s.heap.get? b with
          | none => rfl
          | some o => exact absurd (Heap.lt_size z) (Nat.not_lt_of_le hb)
        refine setLoop ((Walks.list h3 _ l ne1 its).toS) s.heap.objs.size ne2 s.heap G ad kp (none_of _ (Nat.le_refl _)) (fun b hb => none_of b (by
            rw [List.mem_singleton.mp hb, Heap.size_push]
            exact Nat.le_succ _)) (its.size - 0) 0 _ (by omega) (Nat.zero_le _)
          ⟨⟨_, Heap.get?_push_size _ rfl, rfl, rfl⟩, (hl1.push _)⟩ (fun b o e => Heap.get?_push_of_some _ (Heap.get?_push_of_some _ e)) (g0 _ (Heap.get?_push_of_some _ nS)) ?hR
        case hR =>
          intro s' m g' z'
          obtain ⟨h', g2, d', tk', os'⟩ := s'
          have eg : g2 = s.gens := m.gens
          have ed : d' = s.drawn := m.drawn
          have eo : os' = s.os := m.os
          subst eg; subst ed; subst eo
          show wpAny _ _ _ _ _ _
          refine wpAny_pure ?_
          show wpAny _ _ (ret Value.none) _ _ _
          exact wpAny_pure ⟨rfl, h', tk', rfl, g', z'⟩
      · cases r₂ with
        | error e => exact hr₂
        | ok fl₂ =>
          cases fl₂ with
          | ret r =>
            obtain ⟨rfl, h', tk, rfl, g', z'⟩ := hr₂
            repeat (any_goals (first | assumption | wp_step))
            exact q _ _ g' z'
          | _ => exact hr₂.elim
    | _ => exact hr.elim
set_option maxHeartbeats 6400000 in
theorem callSet_tuple {l : Addr} {its : Array Value} {Q : Value → Shared → Prop} (hh : A.handled = none) (hl : s.heap.IsTuple l its) (G : Nat → Heap → Prop)
    (ad : AddsTo P w A.in1.in1.in1 s.heap.objs.size s.heap (fun i v => its[i]? = some v) G) (kp : KeepsSet s.heap.objs.size s.heap G) (g0 : ∀ h, h.get? s.heap.objs.size = some (set0 w) → G 0 h)
    (q : ∀ (h' : Heap) (tk : Nat), G its.size h' → (∀ b o, s.heap.get? b = some o → h'.get? b = some o) → Q (.ref s.heap.objs.size) { s with heap := h', toks := tk }) :
    wpAny (model P w) A (call (.type "set") [.ref l]) Q E s := by
  obtain ⟨cc, tl, c1⟩ := F.called_set.mro
  have c2 := F.called_set.made
  have c3 := F.called_set.sub
  refine wpAny_call (codeAny_of_tree ?_)
  show wpAny _ _ (callAny (.type "set") _) _ _ _
  refine wpAny_pure ⟨Code.quiet_builtin _ (by decide +kernel), codeAny_builtin F.entry_type_call ?_⟩
  rw [Around.under_plain (weight_type_call_type "set" [.ref l] []) rfl]
  have c4 := F.called_set.notType
  have c5 := F.called_set.canCreate
  have c6 := F.typeCall_set_1 (.ref l)
  repeat (any_goals (first | assumption | wp_step))
  refine codeAny_mono (code_set_led1 (.ref l) (E := E) (Q₁ := fun obj s₁ => obj = .ref s.heap.objs.size ∧ s₁ = { s with heap := s.heap.push (set0 w) }) ⟨rfl, rfl⟩) fun r s₁ hr => ?_
  cases r with
  | error e => exact hr
  | ok fl =>
    cases fl with
    | ret obj =>
      obtain ⟨rfl, rfl⟩ := hr
      have nS : (s.heap.push (set0 w)).get? s.heap.objs.size = some (set0 w) := Heap.get?_push_size _ rfl
      have tS : Shared.TypeIs { s with heap := s.heap.push (set0 w) } (.ref s.heap.objs.size) "set" := ⟨_, nS, rfl⟩
      have c7 := F.called_set.init.lookup
      have c8 := F.called_set.init.bind (.ref s.heap.objs.size)
      repeat (any_goals (first | assumption | wp_step))
      refine codeAny_mono (codeAny_call_builtin (R := wants (fun r s₂ => r = .none ∧ ∃ h' tk, s₂ = { s with heap := h', toks := tk } ∧ G its.size h' ∧ (∀ b o, s.heap.get? b = some o → h'.get? b = some o)) E) F.called_set.init.plain F.entry_set_init (check_set_init_1 tS ?_)) fun r₂ s₂ hr₂ => ?_
      · obtain ⟨ol, ol1, ol2, nl, ol3⟩ := hl
        obtain ⟨ocls, odict, odata, oslots⟩ := ol
        simp only at ol2 ol3
        subst ol2; subst ol3
        have ol4 : (s.heap.push (set0 w)).get? l = some { cls := .type "tuple", dict := odict, data := .seq its nl, slots := oslots } := Heap.get?_push_of_some _ ol1
        have d1 := F.sub_tuple_set
        have d2 := F.sub_tuple_frozenset
        have d3 : (Value.type "tuple" == Value.type "dict") = false := by decide
        have hl1 : (s.heap.push (set0 w)).IsTuple l its := ⟨_, ol4, rfl, nl, rfl⟩
        unfold Builtin.«set.__init__» noKeywords Builtin.Frozenset.updateFrom
        generalize ePI : pyIter = PI
        wp_walk
        subst ePI
        refine wpAny_pyIter_tuple hl1 ?_
        refine wpAny_bind (wpAny_runValue ?_)
        have ll : l < s.heap.objs.size := Heap.lt_size ol1
        have h3 : A.in1.in1.in1.handled = none := by simp [hh]
        have ne1 : l ≠ (s.heap.push (set0 w)).objs.size := fun z => by
          rw [Heap.size_push] at z
          exact absurd (z ▸ ll) (Nat.not_lt_of_le (Nat.le_succ _))
        have ne2 : s.heap.objs.size ∉ [(s.heap.push (set0 w)).objs.size, l] := by
          rw [Heap.size_push]
          exact fun z => (List.mem_cons.mp z).elim (fun y => absurd y (Nat.ne_of_lt (Nat.lt_succ_self _))) fun y => absurd (List.mem_singleton.mp y) (Nat.ne_of_gt ll)
        have none_of : ∀ b, s.heap.objs.size ≤ b → s.heap.get? b = none := fun b hb => by
          cases z : s.heap.get? b with
          | none => rfl
          | some o => exact absurd (Heap.lt_size z) (Nat.not_lt_of_le hb)
        refine setLoop ((Walks.tuple h3 _ l ne1 its).toS) s.heap.objs.size ne2 s.heap G ad kp (none_of _ (Nat.le_refl _)) (fun b hb => none_of b (by
            rw [List.mem_singleton.mp hb, Heap.size_push]
            exact Nat.le_succ _)) (its.size - 0) 0 _ (by omega) (Nat.zero_le _)
          ⟨⟨_, Heap.get?_push_size _ rfl, rfl, rfl⟩, (hl1.push _)⟩ (fun b o e => Heap.get?_push_of_some _ (Heap.get?_push_of_some _ e)) (g0 _ (Heap.get?_push_of_some _ nS)) ?hR
        case hR =>
          intro s' m g' z'
          obtain ⟨h', g2, d', tk', os'⟩ := s'
          have eg : g2 = s.gens := m.gens
          have ed : d' = s.drawn := m.drawn
          have eo : os' = s.os := m.os
          subst eg; subst ed; subst eo
          show wpAny _ _ _ _ _ _
          refine wpAny_pure ?_
          show wpAny _ _ (ret Value.none) _ _ _
          exact wpAny_pure ⟨rfl, h', tk', rfl, g', z'⟩
      · cases r₂ with
        | error e => exact hr₂
        | ok fl₂ =>
          cases fl₂ with
          | ret r =>
            obtain ⟨rfl, h', tk, rfl, g', z'⟩ := hr₂
            repeat (any_goals (first | assumption | wp_step))
            exact q _ _ g' z'
          | _ => exact hr₂.elim
    | _ => exact hr.elim
/-! ### of tuples of ints and texts -/
structure GotM (ks : List AK) (i : Nat) (L : List AK) : Prop where
  sub : ∀ p ∈ L, p ∈ ks.take i
  all : ∀ p ∈ ks.take i, p.2 ∈ L.map (·.2)
  len : L.length ≤ i
theorem GotM.same {ks L : List AK} {i : Nat} {x : AK} (g : GotM ks i L) (h : ks[i]? = some x) (hm : x.2 ∈ L.map (·.2)) : GotM ks (i + 1) L := by
  have e : ks.take (i + 1) = ks.take i ++ [x] := by rw [List.take_add_one, h]; rfl
  refine ⟨fun p hp => ?_, fun p hp => ?_, Nat.le_succ_of_le g.len⟩
  · rw [e]
    exact List.mem_append_left _ (g.sub p hp)
  · rw [e] at hp
    rcases List.mem_append.mp hp with z | z
    · exact g.all p z
    · rw [List.mem_singleton.mp z]
      exact hm
theorem GotM.more {ks L L' : List AK} {i : Nat} {x : AK} (g : GotM ks i L) (h : ks[i]? = some x) (pm : L'.Perm (x :: L)) : GotM ks (i + 1) L' := by
  have e : ks.take (i + 1) = ks.take i ++ [x] := by rw [List.take_add_one, h]; rfl
  refine ⟨fun p hp => ?_, fun p hp => ?_, ?_⟩
  · rw [e]
    rcases List.mem_cons.mp (pm.mem_iff.mp hp) with y | z
    · rw [y]
      exact List.mem_append_right _ List.mem_cons_self
    · exact List.mem_append_left _ (g.sub p z)
  · rw [(pm.map (·.2)).mem_iff, List.map_cons]
    rw [e] at hp
    rcases List.mem_append.mp hp with z | z
    · exact List.mem_cons_of_mem _ (g.all p z)
    · rw [List.mem_singleton.mp z]
      exact List.mem_cons_self
  · rw [pm.length_eq]
    exact Nat.succ_le_succ g.len
def GM (P : Program) (w : World) (S : Addr) (ks : List AK) (i : Nat) (h : Heap) : Prop := ∃ L es ep t, SetM P w h S L es ep t ∧ GotM ks i L
theorem keepsM {S : Addr} {h0 : Heap} {ks : List AK} (hk : ∀ p ∈ ks, IsM P w h0 p.2 p.1) : KeepsSet S h0 (GM P w S ks) := fun i h h' ⟨L, es, ep, t, R, g⟩ z1 z2 => by
  obtain ⟨o, ho, r⟩ := R.ob
  refine ⟨L, es, ep, t, ⟨⟨o, z1 o ho, r⟩, R.rows, R.tab, R.nd, fun p hp => ?_, R.led, R.room, R.few⟩, g⟩
  obtain ⟨o2, its, n, y1, y2⟩ := hk p (List.mem_of_mem_take (g.sub p hp))
  exact ⟨o2, its, n, z2 _ _ y1, y2⟩
theorem addsM {S : Addr} {h0 : Heap} {ks : List AK} {its : Array Value} (hu : A.units < cLine) (hit : its.toList = ks.map fun p => Value.ref p.1) (hk : ∀ p ∈ ks, IsM P w h0 p.2 p.1) (few : ks.length < 64) : AddsTo P w A S h0 (fun i v => its[i]? = some v) (GM P w S ks) := by
  intro i v s E pv ⟨L, es, ep, t, R, g⟩ z
  obtain ⟨p, hp, rfl⟩ : ∃ p, ks[i]? = some p ∧ v = .ref p.1 := by
    have e : its.toList[i]? = some v := by rw [Array.getElem?_toList]; exact pv
    rw [hit, List.getElem?_map] at e
    cases y : ks[i]? with
    | none => rw [y] at e; cases e
    | some p => rw [y] at e; exact ⟨p, rfl, (Option.some.inj e).symm⟩
  have hlt : i < ks.length := (List.getElem?_eq_some_iff.mp hp).1
  have hx : IsM P w s.heap p.2 p.1 := by
    obtain ⟨o2, its, n, y1, y2⟩ := hk p (List.mem_of_getElem? hp)
    exact ⟨o2, its, n, z _ _ y1, y2⟩
  unfold setAdd
  refine wpAny_holding (wpAny_bind (wpAny_pyHash_tuple hu hx ?_))
  refine addM (s := { s with toks := s.toks + (p.2.length + 1) }) R hx hu (by have := g.len; omega) fun b h' L' es' ep' t' sb R' c1 c2 => ?_
  refine ⟨h', s.toks + (p.2.length + 1), rfl, Nat.le_add_right _ _, sb, L', es', ep', t', R', ?_⟩
  by_cases c : p.2 ∈ L.map (·.2)
  · rw [c1 c]
    exact g.same hp c
  · exact g.more hp (c2 c)
theorem freshM {h : Heap} {S : Addr} {ks : List AK} (e : h.get? S = some (set0 w)) : GM P w S ks 0 h := by
  refine ⟨[], #[], 0, .fresh 0 0 (!w.params.followText "set-order"), ⟨⟨_, e, ⟨rfl, rfl, rfl⟩, rfl⟩, rfl, ⟨List.Pairwise.nil, rfl, rfl, .inl rfl, fun x hx => (by cases hx), fun i h j hi => (by simp at hi)⟩, List.nodup_nil, fun p hp => (by cases hp), ?_, by show 0 * 5 < 7 * 3; decide, by show 0 < 64; decide⟩, ⟨fun p hp => (by cases hp), fun p hp => (by simp at hp), Nat.le_refl _⟩⟩
  show _ ∨ (!w.params.followText "set-order") = true
  cases w.params.followText "set-order"
  · exact .inr rfl
  · exact .inl rfl
/-! ### how many -/
theorem nd_le {α : Type} [DecidableEq α] : ∀ (l D : List α), l.Nodup → (∀ x ∈ l, x ∈ D) → l.length ≤ D.length
  | [], _, _, _ => Nat.zero_le _
  | a :: l, D, hn, hs => by
    have n1 := List.nodup_cons.mp hn
    have ha : a ∈ D := hs a List.mem_cons_self
    have ih := nd_le l (D.erase a) n1.2 fun x hx => (List.mem_erase_of_ne (fun (e : x = a) => n1.1 (e ▸ hx))).mpr (hs x (List.mem_cons_of_mem _ hx))
    rw [List.length_erase_of_mem ha] at ih
    have : 0 < D.length := List.length_pos_of_mem ha
    simp only [List.length_cons]
    omega
theorem nd_lt {α : Type} [DecidableEq α] : ∀ (D : List α), ¬ D.Nodup → ∃ (x : α) (D' : List α), D.length = D'.length + 1 ∧ ∀ y, y ∈ D → y ∈ D'
  | [], h => absurd List.nodup_nil h
  | a :: D, h => by
    by_cases ha : a ∈ D
    · exact ⟨a, D, rfl, fun y hy => by
        rcases List.mem_cons.mp hy with rfl | hy
        · exact ha
        · exact hy⟩
    · have hD : ¬ D.Nodup := fun z => h (List.nodup_cons.mpr ⟨ha, z⟩)
      obtain ⟨x, D', e, hs⟩ := nd_lt D hD
      refine ⟨x, a :: D', by simp [e], fun y hy => ?_⟩
      rcases List.mem_cons.mp hy with rfl | hy
      · exact List.mem_cons_self
      · exact List.mem_cons_of_mem _ (hs y hy)
theorem count_nd {α : Type} [DecidableEq α] {l D : List α} (hn : l.Nodup) (h1 : ∀ x ∈ l, x ∈ D) (h2 : ∀ x ∈ D, x ∈ l) : l.length ≤ D.length ∧ (l.length < D.length ↔ ¬ D.Nodup) := by
  refine ⟨nd_le l D hn h1, fun lt hd => ?_, fun hd => ?_⟩
  · have := nd_le D l hd h2
    omega
  · obtain ⟨x, D', e, hs⟩ := nd_lt D hd
    have := nd_le l D' hn fun y hy => hs y (h1 y hy)
    omega
end
/-! ### len(set(..)) over the layer -/
section
variable {X : Cx}
theorem itemsM {P : Program} {w : World} : ∀ {k : List Key} {us : List Value}, Vals (k.map kV) us → ItemsAre (mixKind P w) k us
  | [], _, .nil => .nil
  | _ :: k, _, .cons r t => .cons (kV_is r) (itemsM t)
theorem refsM : ∀ {ks : List AK} {us : List Value}, Vals (ks.map fun p => V.ref p.1) us → us = ks.map fun p => Value.ref p.1
  | [], _, .nil => rfl
  | p :: ks, _, .cons r t => by
    cases r
    rw [refsM t]
    rfl
theorem inv_isM {pins : List (Addr × Obj)} {σ : L2.St} {H : Hp} {s : Shared} {b : Addr} {k : List Key} (I : Inv X pins σ H s) (h : SqT X.K H b (k.map kV)) : IsM X.prog X.w s.heap k b := by
  obtain ⟨its, r, ⟨o, ho, hc, n, hd⟩, _⟩ := I.tuple h
  exact ⟨o, its.toArray, n, ho, hc, hd, by simpa using itemsM r⟩
def tLenSetM (K : PySem.W.Frag) (ta : TE) : TE := fun σ H Q => ta σ H fun x H1 => ∃ (l : Addr) (ks : List AK), x = .ref l ∧ (SqL K H1 l (ks.map fun p => V.ref p.1) ∨ SqT K H1 l (ks.map fun p => V.ref p.1)) ∧ (∀ p ∈ ks, SqT K H1 p.1 (p.2.map kV)) ∧ ks.length < 64 ∧
  ∀ n : Nat, n ≤ ks.length → (n < ks.length ↔ ¬ (ks.map (·.2)).Nodup) → Q (.int n) H1
theorem pe_lenSetM {a : Expr} {ta : TE} {p p2 q pos : Pos} (hc : X.calm = true) (hu : X.A.units + 64 < cLine) (hg : Gl X "len") (hm : X.mg "len" = none) (hg2 : Gl X "set") (hm2 : X.mg "set" = none) (ha : PE X a ta)
    (na : starEach [a] X.env = (false, eval a X.env) :: starEach [] X.env := by rfl) : PE X (.Call (.Name "len" p) [.Call (.Name "set" p2) [a] [] q] [] pos) (tLenSetM X.K ta) := by
  refine ⟨fun pins s σ H Q I h => ?_⟩
  refine Call_ (ld_blt I hg hm PySem.boot_len (PyProof.Rows.callWith_builtin1 (PyProof.Rows.args_cons ?_ rfl) rfl rfl))
  refine Call_ (ld_blt I hg2 hm2 PyProof.Rows.boot_set (PyProof.Rows.callWith_type1 (PyProof.Rows.args_cons (thn (ha.run pins s σ H _ I h) fun v s1 ⟨x, H1, I1, r1, q1⟩ => PyProof.Rows.args_nil ?_) na) na rfl))
  obtain ⟨l, ks, rfl, hq, hk, few, q1⟩ := q1
  cases r1
  have tu : ∀ p ∈ ks, IsM X.prog X.w s1.heap p.2 p.1 := fun p hp => inv_isM I1 (hk p hp)
  have fin : ∀ (its : Array Value), its.size = ks.length → ∀ (h' : Heap) (tk : Nat), GM X.prog X.w s1.heap.objs.size ks its.size h' → (∀ b o, s1.heap.get? b = some o → h'.get? b = some o) →
      wpAny (model X.prog X.w) X.A (spliced (backTo pos (starEach [] X.env))) (fun vs s₂ => wpAny (model X.prog X.w) X.A (call (.builtin "len") (Value.ref s1.heap.objs.size :: vs)) (EP X pins σ Q) X.xe s₂) X.xe { s1 with heap := h', toks := tk } := fun its sz h' tk g kp => by
    refine PyProof.Rows.args_nil ?_
    obtain ⟨L, es, ep, t, R, g⟩ := g
    rw [sz, ] at g
    have I2 : Inv X pins σ H1 { s1 with heap := h', toks := tk } := I1.kept fun b o e => kp b o e
    obtain ⟨o, ho, hex, hd⟩ := R.ob
    have ez := rowsM_len R.rows
    have cn := count_nd (l := L.map (·.2)) (D := ks.map (·.2)) R.nd (fun x hx => by
      obtain ⟨p, hp, rfl⟩ := List.mem_map.mp hx
      exact List.mem_map_of_mem (List.mem_of_mem_take (g.sub p hp))) (fun x hx => by
      obtain ⟨p, hp, rfl⟩ := List.mem_map.mp hx
      exact g.all p (by rw [List.take_length]; exact hp))
    simp only [List.length_map] at cn
    refine call_len_set ho hex hd (R.fits (s := { s1 with heap := h', toks := tk })) (by rw [ez]; omega) ⟨.int L.length, H1, I2.tok _, ⟨_, by rw [ez]⟩, q1 L.length cn.1 cn.2⟩
  rcases hq with hq | hq
  · obtain ⟨its, r, pl, hz⟩ := I1.list hq
    have sz : its.toArray.size = ks.length := by rw [List.size_toArray, ← r.length, List.length_map]
    exact callSet_list (I1.ok.hd hc) pl.isList (GM X.prog X.w s1.heap.objs.size ks) (addsM (by show X.A.in1.in1.in1.units < cLine; simp; omega) (by simpa using refsM r) tu few) (keepsM tu) (fun h e => freshM e) fun h' tk g kp => fin its.toArray sz h' tk g kp
  · obtain ⟨its, r, pl, hz⟩ := I1.tuple hq
    have sz : its.toArray.size = ks.length := by rw [List.size_toArray, ← r.length, List.length_map]
    exact callSet_tuple (I1.ok.hd hc) pl (GM X.prog X.w s1.heap.objs.size ks) (addsM (by show X.A.in1.in1.in1.units < cLine; simp; omega) (by simpa using refsM r) tu few) (keepsM tu) (fun h e => freshM e) fun h' tk g kp => fin its.toArray sz h' tk g kp
end
end Onp
set_option maxHeartbeats 4000000
set_option autoImplicit false
/-! len(set(list or tuple of ints and texts)) -/
namespace Onp
open PySem PySem.Spec PyProof.Rows L2
section
variable {P : Program} {w : World} {A : Around} {E : Value → Shared → Prop} {s : Shared}
def memK (l : List L2.Key) (k : L2.Key) : Bool := l.any fun x => decide (x = k)
theorem memK_iff {l : List L2.Key} {k : L2.Key} : memK l k = true ↔ k ∈ l := by
  unfold memK
  rw [List.any_eq_true]
  exact ⟨fun ⟨x, h1, h2⟩ => of_decide_eq_true h2 ▸ h1, fun h => ⟨k, h, decide_eq_true rfl⟩⟩
theorem setOf_as {h : Heap} {a : Addr} {S S' : L2.Key → Bool} {n n' : Nat} (hS : h.SetOf (mixKind P w) a S n) (e : ∀ k, S k = S' k) (en : n = n') : h.SetOf (mixKind P w) a S' n' := by
  have : S = S' := funext e
  subst this
  subst en
  exact hS
def GK (P : Program) (w : World) (S : Addr) (ks : List L2.Key) (i : Nat) (h : Heap) : Prop := ∃ l : List L2.Key, l.Nodup ∧ (∀ k, k ∈ l ↔ k ∈ ks.take i) ∧ h.SetOf (mixKind P w) S (memK l) l.length
theorem keepsK {S : Addr} {h0 : Heap} {ks : List L2.Key} : KeepsSet S h0 (GK P w S ks) := fun i h h' ⟨l, n, e, R⟩ z1 _ => ⟨l, n, e, setOf_at R z1⟩
theorem keys_at : ∀ {ks : List L2.Key} {us : List Value}, Vals (ks.map kV) us → ∀ {i : Nat} {v : Value}, us[i]? = some v → ∃ k, ks[i]? = some k ∧ RelV (kV k) v
  | [], _, .nil, i, v, h => by simp at h
  | k :: ks, _, .cons r t, i, v, h => by
    cases i with
    | zero =>
      obtain rfl := Option.some.inj h
      exact ⟨k, rfl, r⟩
    | succ i => exact keys_at t h
theorem addsK {S : Addr} {h0 : Heap} {ks : List L2.Key} {its : Array Value} (r : Vals (ks.map kV) its.toList) (few : ks.length < 1000) : AddsTo P w A S h0 (fun i v => its[i]? = some v) (GK P w S ks) := by
  intro i v s E pv ⟨l, nd, e, R⟩ z
  obtain ⟨k, hk, rk⟩ := keys_at r (i := i) (v := v) (by rw [Array.getElem?_toList]; exact pv)
  have hlt : i < ks.length := (List.getElem?_eq_some_iff.mp hk).1
  have hll : l.length ≤ i := by
    have q := nd_le l (ks.take i) nd fun x hx => (e x).mp hx
    rw [List.length_take] at q
    omega
  have et : ks.take (i + 1) = ks.take i ++ [k] := by rw [List.take_add_one, hk]; rfl
  have ik : (mixKind P w).is k v = true := kV_is rk
  unfold setAdd
  refine wpAny_holding (wpAny_bind ((mixKind P w).pyHash ik ?_))
  refine wpAny_setAddHashed_of (s := { s with toks := s.toks + 1 }) ik (key_scan rk) R (by unfold scanBound; omega) fun h' sb R' => ?_
  refine ⟨h', s.toks + 1, rfl, Nat.le_succ _, sb, ?_⟩
  by_cases c : k ∈ l
  · refine ⟨l, nd, fun x => ?_, setOf_as R' (fun x => ?_) ?_⟩
    · rw [et, List.mem_append, ← e x]
      exact ⟨.inl, fun y => y.elim id fun y => by rw [List.mem_singleton.mp y]; exact c⟩
    · by_cases x1 : x = k
      · rw [decide_eq_true x1, Bool.or_true, x1]
        exact (memK_iff.mpr c).symm
      · rw [decide_eq_false x1, Bool.or_false]
    · rw [if_pos (memK_iff.mpr c)]
  · refine ⟨k :: l, List.nodup_cons.mpr ⟨c, nd⟩, fun x => ?_, setOf_as R' (fun x => ?_) ?_⟩
    · rw [et, List.mem_append, ← e x, List.mem_cons, List.mem_singleton]
      exact or_comm
    · rw [Bool.eq_iff_iff, Bool.or_eq_true, memK_iff, memK_iff, decide_eq_true_eq, List.mem_cons]
      exact or_comm
    · rw [if_neg (fun y => c (memK_iff.mp y))]
      rfl
theorem freshK {h : Heap} {S : Addr} {ks : List L2.Key} (e : h.get? S = some (set0 w)) : GK P w S ks 0 h :=
  ⟨[], List.nodup_nil, fun k => by simp, _, #[], 0, _, e, ⟨rfl, rfl, rfl⟩, rfl, fun x hx => by simp at hx, fun k => by simp [memK], by unfold scanBound; decide, rfl, rfl⟩
end
section
variable {X : Cx}
def tLenSetK (K : PySem.W.Frag) (ta : TE) : TE := fun σ H Q => ta σ H fun x H1 => ∃ (l : Addr) (ks : List L2.Key), x = .ref l ∧ (SqL K H1 l (ks.map kV) ∨ SqT K H1 l (ks.map kV)) ∧ ks.length < 1000 ∧ ∀ n : Nat, n ≤ ks.length → (n < ks.length ↔ ¬ ks.Nodup) → Q (.int n) H1
theorem pe_lenSetK {a : Expr} {ta : TE} {p p2 q pos : Pos} (hc : X.calm = true) (hg : Gl X "len") (hm : X.mg "len" = none) (hg2 : Gl X "set") (hm2 : X.mg "set" = none) (ha : PE X a ta)
    (na : starEach [a] X.env = (false, eval a X.env) :: starEach [] X.env := by rfl) : PE X (.Call (.Name "len" p) [.Call (.Name "set" p2) [a] [] q] [] pos) (tLenSetK X.K ta) := by
  refine ⟨fun pins s σ H Q I h => ?_⟩
  refine Call_ (ld_blt I hg hm PySem.boot_len (PyProof.Rows.callWith_builtin1 (PyProof.Rows.args_cons ?_ rfl) rfl rfl))
  refine Call_ (ld_blt I hg2 hm2 PyProof.Rows.boot_set (PyProof.Rows.callWith_type1 (PyProof.Rows.args_cons (thn (ha.run pins s σ H _ I h) fun v s1 ⟨x, H1, I1, r1, q1⟩ => PyProof.Rows.args_nil ?_) na) na rfl))
  obtain ⟨l, ks, rfl, hq, few, q1⟩ := q1
  cases r1
  have fin : ∀ (its : Array Value), its.size = ks.length → ∀ (h' : Heap) (tk : Nat), GK X.prog X.w s1.heap.objs.size ks its.size h' → (∀ b o, s1.heap.get? b = some o → h'.get? b = some o) →
      wpAny (model X.prog X.w) X.A (spliced (backTo pos (starEach [] X.env))) (fun vs s₂ => wpAny (model X.prog X.w) X.A (call (.builtin "len") (Value.ref s1.heap.objs.size :: vs)) (EP X pins σ Q) X.xe s₂) X.xe { s1 with heap := h', toks := tk } := fun its sz h' tk g kp => by
    refine PyProof.Rows.args_nil ?_
    obtain ⟨m, nd, e, R⟩ := g
    rw [sz, List.take_length] at e
    have I2 : Inv X pins σ H1 { s1 with heap := h', toks := tk } := I1.kept fun b o e => kp b o e
    obtain ⟨o, es, ep, t, ho, hex, hd, _, _, _, hf, hn⟩ := R
    have cn := count_nd (l := m) (D := ks) nd (fun x hx => (e x).mp hx) (fun x hx => (e x).mpr hx)
    exact call_len_set ho hex hd hf (by rw [hn]; omega) ⟨.int m.length, H1, I2.tok _, ⟨_, by rw [hn]⟩, q1 m.length cn.1 cn.2⟩
  rcases hq with hq | hq
  · obtain ⟨its, r, pl, hz⟩ := I1.list hq
    have sz : its.toArray.size = ks.length := by rw [List.size_toArray, ← r.length, List.length_map]
    exact callSet_list (I1.ok.hd hc) pl.isList (GK X.prog X.w s1.heap.objs.size ks) (addsK (by simpa using r) few) keepsK (fun h e => freshK e) fun h' tk g kp => fin its.toArray sz h' tk g kp
  · obtain ⟨its, r, pl, hz⟩ := I1.tuple hq
    have sz : its.toArray.size = ks.length := by rw [List.size_toArray, ← r.length, List.length_map]
    exact callSet_tuple (I1.ok.hd hc) pl (GK X.prog X.w s1.heap.objs.size ks) (addsK (by simpa using r) few) keepsK (fun h e => freshK e) fun h' tk g kp => fin its.toArray sz h' tk g kp
/-! ### for over a list or a tuple -/
def iAny (K : PySem.W.Frag) (te : TE) : TI := fun σ H R => te σ H fun v H1 => ∃ (a : Addr) (xs : List V), v = .ref a ∧ (SqL K H1 a xs ∨ SqT K H1 a xs) ∧ ∀ (J : It) (G : Hp → Prop), Walk J xs.length G (YAt xs) → (∀ H', Same H1 H' → G H') → R J H1
theorem pi_any {tg l : Expr} {tl : TE} (hl : PE X l tl) : PI X tg l (iAny X.K tl) := by
  refine ⟨fun pins s σ H R I h => ?_⟩
  refine thn (hl.run pins s σ H _ I h) fun v s1 ⟨x, H1, I1, r1, q1⟩ => ?_
  obtain ⟨a, xs, rfl, hq, q⟩ := q1
  cases r1
  have fp : ∀ b ∈ [s1.heap.objs.size], FpOk X pins H1 b := fun b hb => by
    rw [List.mem_singleton.mp hb]
    exact I1.fpOk (Nat.le_refl _) (I1.hok.fresh (Nat.le_refl _))
  rcases hq with hq | hq
  · obtain ⟨its, rv, p, hz⟩ := I1.list hq
    exact wpAny_pyIter_list p.isList ⟨s1.heap.objs.size, [s1.heap.objs.size], _, _, H1, rfl, I1.kept (t' := s1.toks) fun b o e => Heap.get?_push_of_some _ e, turn_list a _, ⟨_, Heap.get?_push_size _ rfl, rfl, rfl⟩, fp, q _ _ walk_list fun H' sm => sm.seq hq⟩
  · obtain ⟨its, rv, p, hz⟩ := I1.tuple hq
    refine wpAny_pyIter_tuple (show s1.heap.IsTuple a its.toArray from p) ⟨s1.heap.objs.size, [s1.heap.objs.size], _, _, H1, rfl, I1.kept (t' := s1.toks) fun b o e => Heap.get?_push_of_some _ e, turn_tuple a _, ⟨_, Heap.get?_push_size _ rfl, rfl, rfl⟩, fp, q _ _ walk_tup fun H' sm => ?_⟩
    rcases hq with (h | ⟨o, h⟩) | h
    · exact .inl (.inl (sm _ _ h))
    · exact .inl (.inr ⟨o, sm _ _ h⟩)
    · exact .inr h
end
end Onp
set_option autoImplicit false
namespace Onp
open PySem PySem.Spec PyProof.Rows L2
/-! ### deeds and marks -/
inductive Dd where
  | keep | cent | fill | coin | brim
  deriving DecidableEq
def Dd.nm : Dd → Str
  | .keep => "keep" | .cent => "cent" | .fill => "fill" | .coin => "coin" | .brim => "brim"
def Dd.rk : Dd → Nat
  | .keep => 0 | .cent => 1 | .fill => 2 | .coin => 3 | .brim => 4
def deedsL : List Str := ["keep", "cent", "fill", "coin", "brim"]
def marksL : List Str := ["brim", "fill", "keep", "cent", "coin", "dear", "shut"]
def makingL : List Str := ["keep", "cent", "fill", "coin", "brim", "dear", "shut"]
def mkn (i : Nat) : Str := makingL.getD i "shut"
theorem nm_mkn (d : Dd) : d.nm = mkn d.rk := by cases d <;> rfl
theorem rk_lt (d : Dd) : d.rk < 5 := by cases d <;> decide
theorem nm_in (d : Dd) : d.nm ∈ deedsL := by cases d <;> decide +kernel
theorem in_nm : ∀ z ∈ deedsL, ∃ d : Dd, z = d.nm := fun z h => by
  rcases List.mem_cons.mp h with rfl | h
  · exact ⟨.keep, rfl⟩
  rcases List.mem_cons.mp h with rfl | h
  · exact ⟨.cent, rfl⟩
  rcases List.mem_cons.mp h with rfl | h
  · exact ⟨.fill, rfl⟩
  rcases List.mem_cons.mp h with rfl | h
  · exact ⟨.coin, rfl⟩
  rcases List.mem_cons.mp h with rfl | h
  · exact ⟨.brim, rfl⟩
  cases h
def dv (d : Dd) : V := .str d.nm
def stp (p : Int × Int) : Dd → Int × Int
  | .keep => p
  | .cent => (p.1 + 1, p.2)
  | .fill => (0, p.2)
  | .coin => (0, p.2 + 1)
  | .brim => (0, 0)
theorem flatStrs (ys : List Str) : (ys.map V.str).all flatV = true := by
  rw [List.all_map]
  exact List.all_eq_true.mpr fun _ _ => rfl
theorem inV_strs (z : Str) : ∀ ys : List Str, inV (.str z) (ys.map V.str) = decide (z ∈ ys)
  | [] => by rfl
  | y :: r => by
    have ih := inV_strs z r
    unfold inV at ih ⊢
    rw [List.map_cons, List.any_cons, ih]
    show ((y == z) || decide (z ∈ r)) = decide (z ∈ y :: r)
    by_cases e : z = y
    · subst e
      rw [beq_self_eq_true, decide_eq_true List.mem_cons_self]
      rfl
    · have e1 : (y == z) = false := beq_eq_false_iff_ne.mpr (Ne.symm e)
      rw [e1, Bool.false_or]
      by_cases h : z ∈ r
      · rw [decide_eq_true h, decide_eq_true (List.mem_cons_of_mem _ h)]
      · rw [decide_eq_false h, decide_eq_false (fun q => (List.mem_cons.mp q).elim e h)]
end Onp
set_option maxHeartbeats 4000000
set_option autoImplicit false
/-! sorted(list or tuple) of data -/
namespace Onp
open PySem PySem.Spec PyProof.Rows L2 PySem.W
section
variable {prog : Program} {w : World} {A : Around} {E : Value → Shared → Prop} {s : Shared}
theorem collect_seq {l : Addr} {T : String} {o : Obj} {vs : List Value} {n : Nat} {Q : List Value → Shared → Prop} (hT : T = "list" ∨ T = "tuple") (g1 : s.heap.get? l = some o) (g2 : o.cls = .type T) (g3 : o.data = .seq vs.toArray n) (hz : vs.length ≤ sizeLine)
    (h : Q vs { s with heap := (s.heap.push (seqObj "list" #[] 0)).update s.heap.objs.size (Obj.mapSeq (· ++ vs.toArray)) }) : wpAny (model prog w) A (collect (.ref l)) Q E s := by
  unfold collect
  refine wpAny_bind (wpAny_runValue (codeAny_builtin entry_proto_collect' ?_))
  show wpAny _ _ (do again (.builtin "list.__iadd__" ⟨[← newList [], .ref l], []⟩)) _ _ s
  refine wpAny_bind (wpAny_newList (wpAny_pure ⟨Code.quiet_builtin _ (by decide +kernel), codeAny_builtin entry_list_iadd' ?_⟩))
  show wpAny _ _ (Builtin.List.listExtendWith (.ref s.heap.objs.size) (.ref l) (.ref s.heap.objs.size)) _ _ { s with heap := s.heap.push (seqObj "list" #[] 0) }
  unfold Builtin.List.listExtendWith
  have g1' : (s.heap.push (seqObj "list" #[] 0)).get? l = some o := Heap.get?_push_of_some _ g1
  refine wpAny_bind (wpAny_typeOf (T := T) ⟨o, g1', g2⟩ ?_)
  have tt : (Builtin.List.listSameRef (.ref s.heap.objs.size) (.ref l) || Value.type T == Value.type "list" || Value.type T == Value.type "tuple") = true := by
    rcases hT with rfl | rfl <;> simp
  rw [if_pos tt]
  refine wpAny_bind (listItems_at g1' g3 (wpAny_bind (listItems_at (xs := #[]) (n := 0) (Heap.get?_push_size _ rfl) rfl ?_)))
  rw [if_neg (by simp)]
  refine wpAny_bind (listUpdate_at (xs := #[]) (n := 0) (Heap.get?_push_size _ rfl) rfl (wpAny_pure ?_) (Nat.zero_le _) (by show (#[] ++ vs.toArray).size ≤ sizeLine + 1; simp only [Array.size_append, List.size_toArray, List.length_nil]; omega))
  show wpAny (model prog w) A (do
      let o ← load s.heap.objs.size
      match o.data with
      | .seq xs _ => pure xs.toList
      | _ => unsupported "internal:collect") Q E { s with heap := (s.heap.push (seqObj "list" #[] 0)).update s.heap.objs.size (Obj.mapSeq (· ++ vs.toArray)) }
  refine wpAny_bind (wpAny_load (get?_update_seq (Heap.get?_push_size _ rfl) _) ?_)
  show wpAny _ _ (pure ((#[] : Array Value) ++ vs.toArray).toList) Q E _
  rw [show ((#[] : Array Value) ++ vs.toArray).toList = vs by simp]
  exact wpAny_pure h
theorem sorted_seq {β : Type} {vs : List Value} {bs : List β} {enc : β → PyData} {R : Value → β → Prop} {l : Addr} {T : String} {o : Obj} {n : Nat} {Q : Value → Shared → Prop} (hT : T = "list" ∨ T = "tuple") (g1 : s.heap.get? l = some o) (g2 : o.cls = .type T) (g3 : o.data = .seq vs.toArray n)
    (e : EachIs R vs bs) (er : EachIs (fun v b => ∃ as, Reads s.heap v (enc b) as) vs bs) (al : AllAlike (bs.map enc)) (so : Sortable (bs.map enc)) (hz : bs.length ≤ sizeLine) (hu : ∀ b, b ∈ bs → A.units + 2 + (enc b).depth < cLine)
    (h : ∀ out, out.length = bs.length → EachIs R out (bs.mergeSort (dataLe false enc)) → Q (.ref (s.heap.objs.size + 1)) { s with heap := sortedAll s.heap vs (List.toArray out) }) : wpAny (model prog w) A (call (.builtin "sorted") [.ref l]) Q E s := by
  have hv : vs.length ≤ sizeLine := by rw [e.length]; exact hz
  have er' : EachIs (fun v b => ∃ as, Reads (sortingHeap (copyHeap s.heap vs) (s.heap.objs.size + 1) vs) v (enc b) as) vs bs := er.mono fun _ _ ⟨as, r⟩ => ⟨as, PyProof.Rows.Reads.keeps (fun _ _ => sorting_copy_old) r⟩
  refine call_function_entry_kw kind_sorted plain_sorted entry_sorted (args_sorted1 _) ?_
  unfold Builtin.«sorted»
  refine wpAny_bind (m := checkCount "sorted" 1 1 _) (wpAny_pure ?_)
  refine wpAny_bind (collect_seq hT g1 g2 g3 hv ?_)
  refine wpAny_bind (wpAny_newList ?_ hv)
  have sz : ((s.heap.push (seqObj "list" #[] 0)).update s.heap.objs.size (Obj.mapSeq (· ++ vs.toArray))).objs.size = s.heap.objs.size + 1 := by
    rw [Heap.size_update, size_push']
  show wpAny _ _ _ _ _ { s with heap := copyHeap s.heap vs }
  rw [sz]
  refine wpAny_bind (wpAny_holding (wpAny_call_entry_kw slot_list_sort ⟨_, copyHeap_at s.heap vs, rfl⟩ entry_list_sort ?body (args_list_sort _)))
  case body =>
    show wpAny (model prog w) A.in1.in1 (Builtin.«list.sort» ⟨[.ref (s.heap.objs.size + 1)], []⟩) _ _ _
    refine list_sort_vals (s := { s with heap := copyHeap s.heap vs }) (κ := dataKind (sortingHeap (copyHeap s.heap vs) (s.heap.objs.size + 1) vs) (bs.map enc)) (copyHeap_at s.heap vs)
      (SortsAt.data (s := { s with heap := sortingHeap (copyHeap s.heap vs) (s.heap.objs.size + 1) vs }) (each_map (R := fun v d => ∃ as, Reads (sortingHeap (copyHeap s.heap vs) (s.heap.objs.size + 1) vs) v d as) enc er') al so (bound_map hu)) hv ?_
    exact ⟨_, rfl, wpAny_pure ⟨_, rfl, h _ (by rw [sortVals_length false rfl]; exact e.length) (sortVals_data false e er' al)⟩⟩
end
/-! ### over the layer -/
abbrev VD : Type := V × PyData
def srtD (xs : List VD) : List VD := xs.mergeSort (dataLe false (·.2))
theorem each_vals {X : Cx} {pins : List (Addr × Obj)} {σ : L2.St} {H : Hp} {s : Shared} (I : L2.Inv X pins σ H s) : ∀ (xs : List VD) (us : List Value), Vals (xs.map (·.1)) us → (∀ p ∈ xs, Dp X.K H p.1 p.2) →
    EachIs (fun v (b : VD) => RelV b.1 v) us xs ∧ EachIs (fun v (b : VD) => ∃ as, Reads s.heap v b.2 as) us xs
  | [], _, .nil, _ => ⟨.nil, .nil⟩
  | p :: xs, _, .cons r t, hd => by
    obtain ⟨q1, q2⟩ := each_vals I xs _ t fun x hx => hd x (List.mem_cons_of_mem _ hx)
    exact ⟨.cons r q1, .cons (Dp.reads I p.2 p.1 _ (hd p List.mem_cons_self) r) q2⟩
theorem vals_each : ∀ (xs : List VD) (us : List Value), EachIs (fun v (b : VD) => RelV b.1 v) us xs → Vals (xs.map (·.1)) us
  | [], _, .nil => .nil
  | _ :: xs, _, .cons r t => .cons r (vals_each xs _ t)
def rSortD (K : PySem.W.Frag) : List V → Hp → VK → Prop := fun vs H Q => ∃ (a : Addr) (xs : List VD), vs = [.ref a] ∧ (SqL K H a (xs.map (·.1)) ∨ SqT K H a (xs.map (·.1))) ∧ (∀ p ∈ xs, Dp K H p.1 p.2) ∧ AllAlike (xs.map (·.2)) ∧ Sortable (xs.map (·.2)) ∧ (∀ p ∈ xs, p.2.depth ≤ 8) ∧
  ∀ p, H p = none → Q (.ref p) (upd H p (.lst ((srtD xs).map (·.1))))
theorem cr_sortD {X : Cx} (hu : X.A.units + 64 < cLine) : CallR X (.builtin "sorted") (rSortD X.K) := by
  intro pins s σ H vs us Q I r h
  obtain ⟨a, xs, rfl, hs, hd, al, so, dp, q⟩ := h
  rw [Vals.ref1 r]
  have fin : ∀ (T : String) (its : List Value) (o : Obj) (n : Nat), (T = "list" ∨ T = "tuple") → s.heap.get? a = some o → o.cls = .type T → o.data = .seq its.toArray n → Vals (xs.map (·.1)) its → (xs.map (·.1)).length ≤ sizeLine →
      wpAny (model X.prog X.w) X.A (call (.builtin "sorted") [.ref a]) (EP X pins σ Q) X.xe s := fun T its o n hT g1 g2 g3 rv hz => by
    obtain ⟨e, er⟩ := each_vals I xs its rv hd
    rw [List.length_map] at hz
    refine sorted_seq (enc := fun b : VD => b.2) (R := fun v b => RelV b.1 v) hT g1 g2 g3 e er al so hz (fun b hb => by have := dp b hb; omega) fun out ol eo => ?_
    obtain ⟨ep, he⟩ := PyProof.Rows.sortedAll_at s.heap its out.toArray
    have hl : ((srtD xs).map (·.1)).length ≤ sizeLine := by
      unfold srtD
      rw [List.length_map, List.length_mergeSort]
      exact hz
    exact ⟨.ref _, upd H (s.heap.objs.size + 1) (.lst ((srtD xs).map (·.1))), I.laid (t' := s.toks) (fun _ _ => PyProof.Rows.sortedAll_old) (Nat.le_succ _) ⟨hl, out, ep, vals_each _ _ eo, he⟩, rfl, q _ (I.hok.fresh (Nat.le_succ _))⟩
  rcases hs with hs | hs
  · obtain ⟨its, rv, pl, hz⟩ := I.list hs
    obtain ⟨o, g1, g2, n, g3⟩ := pl.isList
    exact fin "list" its o n (.inl rfl) g1 g2 g3 rv hz
  · obtain ⟨its, rv, pl, hz⟩ := I.tuple hs
    obtain ⟨o, g1, g2, n, g3⟩ := pl
    exact fin "tuple" its o n (.inr rfl) g1 g2 g3 rv hz
end Onp
set_option maxHeartbeats 4000000
set_option autoImplicit false
/-! machines: letters, arrows, rows of them -/
namespace Onp
open PySem PySem.Spec PyProof.Rows L2
def smallL : List Nat := [97, 98, 99, 100, 101, 102, 103, 104, 105, 106, 107, 108, 109, 110, 111, 112, 113, 114, 115, 116, 117, 118, 119, 120, 121, 122]
theorem small_eq : ("abcdefghijklmnopqrstuvwxyz" : Str) = Sx smallL := by decide +kernel
theorem em_eq : ("" : Str) = Sx [] := by decide +kernel
theorem cut_to (xs : List Nat) (n : Nat) (h : n ≤ xs.length) : cutS (Sx xs) none (some (n : Int)) = Sx (xs.take n) := by
  unfold cutS
  rw [HT.sIx_none, HT.sIx_nat, sx_cps, sx_len, List.drop_zero, Nat.sub_zero, Nat.min_eq_left h]
  rfl
theorem cut_from (xs : List Nat) (n : Nat) : cutS (Sx xs) (some (n : Int)) none = Sx (xs.drop n) := by
  unfold cutS
  rw [HT.sIx_none, HT.sIx_nat, sx_cps, sx_len]
  by_cases h : n ≤ xs.length
  · rw [Nat.min_eq_left h, List.take_of_length_le (by rw [List.length_drop]; omega)]
    rfl
  · rw [Nat.min_eq_right (by omega), List.drop_length, List.drop_eq_nil_of_le (by omega), List.take_nil]
    rfl
/-! ### letters -/
def risB (xs : List Nat) : Bool := (xs.zip (xs.drop 1)).all fun p => decide (p.1 < p.2)
def smaB (xs : List Nat) : Bool := xs.all fun c => decide (c ∈ smallL)
def letB (xs : List Nat) : Bool := risB xs && (smaB xs && (decide (1 ≤ xs.length) && decide (xs.length ≤ 3)))
theorem one_lt (c d : Nat) : decide (([c] : List Nat) < [d]) = decide (c < d) := by
  by_cases h : c < d
  · rw [decide_eq_true h, decide_eq_true]
    exact List.Lex.rel h
  · rw [decide_eq_false h, decide_eq_false]
    intro z
    cases z with
    | rel z => exact h z
    | cons z => cases z
/-! ### arrows -/
abbrev Arw : Type := Int × Str × Str × Int
def akey (a : Arw) : List Key := [.inl a.1, .inr a.2.1, .inr a.2.2.1, .inl a.2.2.2]
def aV (a : Arw) : List V := [.int a.1, .str a.2.1, .str a.2.2.1, .int a.2.2.2]
theorem akey_V (a : Arw) : (akey a).map kV = aV a := rfl
theorem akey_inj {a b : Arw} (h : akey a = akey b) : a = b := by
  obtain ⟨a1, a2, a3, a4⟩ := a
  obtain ⟨b1, b2, b3, b4⟩ := b
  simp only [akey, List.cons.injEq, Sum.inl.injEq, Sum.inr.injEq, and_true] at h
  obtain ⟨rfl, rfl, rfl, rfl⟩ := h
  rfl
def adat (a : Arw) : PyData := .tuple [.int a.1, .str a.2.1, .str a.2.2.1, .int a.2.2.2]
abbrev AR : Type := Addr × Arw
def rfs (ps : List AR) : List V := ps.map fun p => V.ref p.1
def RowAt (K : PySem.W.Frag) (H : Hp) (ps : List AR) : Prop := ∀ p ∈ ps, SqT K H p.1 (aV p.2)
theorem sameT {K : PySem.W.Frag} {H H' : Hp} {a : Addr} {xs : List V} (e : Same H H') (h : SqT K H a xs) : SqT K H' a xs := by
  rcases h with (h | ⟨o, h⟩) | h
  · exact .inl (.inl (e _ _ h))
  · exact .inl (.inr ⟨o, e _ _ h⟩)
  · exact .inr h
theorem RowAt.same {K : PySem.W.Frag} {H H' : Hp} {ps : List AR} (r : RowAt K H ps) (s : Same H H') : RowAt K H' ps := fun p hp => sameT s (r p hp)
theorem dp_arw {K : PySem.W.Frag} {H : Hp} {p : AR} (h : SqT K H p.1 (aV p.2)) : Dp K H (.ref p.1) (adat p.2) := .tup h (.cons (.int _) (.cons (.str _) (.cons (.str _) (.cons (.int _) .nil))))
/-- whether a tuple of four is an arrow -/
def arrB (n : Int) (ls : List Nat) (a : Arw) : Bool := decide (0 ≤ a.1) && decide (a.1 < n) && (decide (0 ≤ a.2.2.2) && decide (a.2.2.2 < n)) && (ls.any fun c => decide (a.2.1 = Sx [c])) && decide (a.2.2.1 ∈ deedsL)
def rooB (n : Int) (r : Int) : Bool := decide (0 ≤ r) && decide (r < n)
/-! ### sorted -/
def sortA (as : List Arw) : List Arw := as.mergeSort (PySem.W.dataLe false adat)
def sortI (ns : List Int) : List Int := ns.mergeSort fun a b => decide (a ≤ b)
end Onp
set_option maxHeartbeats 8000000
set_option autoImplicit false
namespace Onp
open PySem PySem.Spec PyProof.Rows L2
abbrev sAreL : Stmt := topS 33
abbrev sIsL : Stmt := topS 34
abbrev sIsA : Stmt := topS 35
abbrev sNeedA : Stmt := topS 36
abbrev sNeedR : Stmt := topS 37
abbrev sStepsB : Stmt := topS 38
structure FnM (K : PySem.W.Frag) (mg : Str → Option Value) (f : Addr) (fd : FuncData) (x : Str) (st : Stmt) (ps : List Str) : Prop where
  F : Fun K x x st f fd
  b : Binds K fd ps []
  g : mg x = some (.ref f)
structure Bl1 (mg : Str → Option Value) : Prop where
  all : mg "all" = none
  zip : mg "zip" = none
  len : mg "len" = none
  set : mg "set" = none
structure CsM (K : PySem.W.Frag) (mg : Str → Option Value) (tD : Addr) : Prop where
  small : ∃ t, mg "SMALL_LETTERS" = some (.str "abcdefghijklmnopqrstuvwxyz" t)
  letters : ∃ t, mg "MOST_LETTERS" = some (.int 3 t)
  rooms : ∃ t, mg "MOST_ROOMS" = some (.int 8 t)
  arrows : ∃ t, mg "MOST_ARROWS" = some (.int 40 t)
  deeds : mg "DEEDS" = some (.ref tD)
  deedsT : ∀ H, SqT K H tD (deedsL.map V.str)
section
variable {P : Program} {w : World} {K : PySem.W.Frag} {mg : Str → Option Value} {base : Heap}
/-! ### are_letters -/
def NAl : List Str := ["text", "rising", "small", "one", "other", "sign"]
theorem scAreL : FnScope NAl ["text"] (defScope sAreL) := ⟨rfl, rfl, rfl, by decide +kernel, rfl, by decide +kernel, by decide +kernel⟩
def spAreL : Sp := fun vs H Q _ => ∃ xs : List Nat, vs = [.str (Sx xs)] ∧ xs.length ≤ 1000 ∧ ∀ H', Same H H' → Q (.bl (letB xs)) H'
theorem ok_areL {f tD : Addr} {fd : FuncData} {k : Nat} (F : Fun K "are_letters" "are_letters" sAreL f fd) (B : Bl1 mg) (C : CsM K mg tD) : FnOk P w K mg base CX0 (k + 1) f fd ["text"] spAreL := by
  obtain ⟨t1, gS⟩ := C.small
  obtain ⟨t2, gL⟩ := C.letters
  refine F.ok scAreL (fun vs H Q E h => ?_) (fun cdv A outer s H vs Q E hr h => ?_)
  · obtain ⟨xs, rfl, _⟩ := h
    rfl
  · obtain ⟨xs, rfl, hlen, q⟩ := h
    refine ⟨_, pss_cons (ps_set (i := 1) scAreL.nd rfl (.inl rfl) (pe_callB (cr_all rfl) (by rfl) B.all (by decide +kernel) (pa_cons (pe_lc (own := [("one", 3), ("other", 4)]) (g := gTup K 2 (gCons (gName 3) (gCons (gName 4) gNil))) (tt := tYes) rfl scAreL.nd
          (pi_zipS (by rfl) B.zip (pa_cons (pv 0) (pa_cons (pe_slice sl_str (pv 0) (po_some pe_int) po_none) pa_nil)))
          (blkOk_by (own := [("one", 3), ("other", 4)]) (N := NAl) (sc := defScope sAreL) (by decide +kernel))
          (fun _ _ _ _ _ => pg_tup rfl (pgs_cons (pg_name (i := 3) scAreL.nd rfl (.inl rfl)) (pgs_cons (pg_name (i := 4) scAreL.nd rfl (.inl rfl)) pgs_nil)))
          (fun _ _ _ _ _ => pts_nil) (fun _ _ _ _ _ => pe_cmpR op_lt_str (pv 3) (pv 4) (nomark _))) pa_nil)))
      (pss_cons (ps_set (i := 2) scAreL.nd rfl (.inl rfl) (pe_callB (cr_all rfl) (by rfl) B.all (by decide +kernel) (pa_cons (pe_lc (own := [("sign", 5)]) (g := gName 5) (tt := tYes) rfl scAreL.nd
          (pi_str (pv 0)) (blkOk_by (own := [("sign", 5)]) (N := NAl) (sc := defScope sAreL) (by decide +kernel))
          (fun _ _ _ _ _ => pg_name (i := 5) scAreL.nd rfl (.inl rfl)) (fun _ _ _ _ _ => pts_nil) (fun _ _ _ _ _ => pe_cmpR op_in_sign (pv 5) (pe_glob (v := .str "abcdefghijklmnopqrstuvwxyz") rfl gS ⟨_, rfl⟩) (by rfl))) pa_nil)))
      (pss_one (ps_ret (pe_and (pv 1) (pe_and (pv 2) (pe_one (pe_chain op_le op_le pe_int (pe_callB call_len_str (by rfl) B.len PySem.boot_len (pa_cons (pv 0) pa_nil)) (pe_glob (v := .int 3) rfl gL ⟨_, rfl⟩)))))))), ?_⟩
    have hbig : 5000 ≤ sizeLine := by decide
    refine ⟨_, rfl, _, rfl, 1, rfl, Sx xs, rfl, by rw [sx_len]; omega, ?_⟩
    rw [show (some (1 : Int)) = some ((1 : Nat) : Int) from rfl, cut_from]
    refine ⟨Sx xs, Sx (xs.drop 1), rfl, fun D nD => ?_⟩
    have hn : min (Sx xs).cps.size (Sx (xs.drop 1)).cps.size = (xs.zip (xs.drop 1)).length := by
      rw [List.length_zip]
      rfl
    refine lc_it (walk_zipS (Sx xs) (Sx (xs.drop 1))) (fun i H' => Same H H' ∧ H D = none ∧ H' D = some (.lst ((((xs.zip (xs.drop 1)).take i).map fun p => decide (p.1 < p.2)).map V.bl)))
      ⟨same_upd nD, nD, upd_same⟩ (fun _ _ _ _ => True.intro) ?_ ?_
    · rintro i v H1 H2 hi ⟨sm, fD, hD⟩ ⟨T, c, d, rfl, nT, rfl, hc, hd⟩
      have hc : xs[i]? = some c := by
        have : xs.toArray[i]? = some c := hc
        simpa using this
      have hd : (xs.drop 1)[i]? = some d := by
        have : (xs.drop 1).toArray[i]? = some d := hd
        simpa using this
      have ez : (xs.zip (xs.drop 1))[i]? = some (c, d) := by
        rw [List.getElem?_zip_eq_some]
        exact ⟨hc, hd⟩
      have et : (xs.zip (xs.drop 1)).take (i + 1) = (xs.zip (xs.drop 1)).take i ++ [(c, d)] := by rw [List.take_add_one, ez]; rfl
      have st : Same H1 (upd H1 T (.tup [sgn c, sgn d])) := same_upd nT
      refine ⟨T, _, rfl, SqT.of upd_same, rfl, _, _, rfl, _, _, rfl, rfl, rfl, ?_⟩
      unfold tYes
      dsimp only
      rw [if_pos rfl]
      refine ⟨_, rfl, _, rfl, ⟨#[c]⟩, ⟨#[d]⟩, rfl, rfl, _, st _ _ hD, ?_, fun b o e => ?_, fD, ?_⟩
      · rw [List.length_map, List.length_map, List.length_take]
        rw [hn] at hi
        rw [List.length_zip] at hi ⊢
        omega
      · rw [upd_ne (ne_of_none e fD)]
        exact st _ _ (sm _ _ e)
      · rw [upd_same, et, List.map_append, List.map_append]
        show some (HO.lst (_ ++ [V.bl (decide (([c] : List Nat) < [d]))])) = _
        rw [one_lt]
        rfl
    · rintro H1 ⟨s1, fD, hD⟩
      rw [hn, List.take_length] at hD
      refine ⟨D, _, rfl, SqL.of hD, ?_⟩
      have er : ((xs.zip (xs.drop 1)).map fun p => decide (p.1 < p.2)).all id = risB xs := by
        unfold risB
        rw [List.all_map]
        rfl
      rw [er]
      refine ⟨_, rfl, Sx xs, rfl, fun D2 nD2 => ?_⟩
      refine lc_it walk_str (fun i H' => Same H1 H' ∧ H1 D2 = none ∧ H' D2 = some (.lst (((xs.take i).map fun c => decide (c ∈ smallL)).map V.bl))) ⟨same_upd nD2, nD2, upd_same⟩ (fun _ _ _ _ => True.intro) ?_ ?_
      · rintro i v H2 H3 hi ⟨sm, fD2, hD2⟩ ⟨rfl, c, hc, rfl⟩
        have hc : xs[i]? = some c := by
          have : xs.toArray[i]? = some c := hc
          simpa using this
        have et : xs.take (i + 1) = xs.take i ++ [c] := by rw [List.take_add_one, hc]; rfl
        refine ⟨rfl, ?_⟩
        unfold tYes
        dsimp only
        rw [if_pos rfl]
        refine ⟨_, rfl, c, "abcdefghijklmnopqrstuvwxyz", rfl, rfl, _, hD2, ?_, fun b o e => ?_, fD2, ?_⟩
        · rw [List.length_map, List.length_map, List.length_take]
          omega
        · rw [upd_ne (ne_of_none e fD2)]
          exact sm _ _ e
        · rw [upd_same, et, List.map_append, List.map_append, small_eq, sx_cps]
          rfl
      · rintro H2 ⟨s2, fD2, hD2⟩
        have hsz : (Sx xs).cps.size = xs.length := sx_len xs
        rw [hsz, List.take_length] at hD2
        refine ⟨D2, _, rfl, SqL.of hD2, ?_⟩
        have es : (xs.map fun c => decide (c ∈ smallL)).all id = smaB xs := by
          unfold smaB
          rw [List.all_map]
          rfl
        rw [es]
        have q1 := q H2 (s1.trans s2)
        unfold letB at q1
        refine ⟨_, rfl, _, rfl, ?_⟩
        cases hr1 : risB xs with
        | false =>
          rw [hr1] at q1
          exact iteF q1
        | true =>
          rw [hr1, Bool.true_and] at q1
          refine iteT ⟨_, rfl, _, rfl, ?_⟩
          cases hs1 : smaB xs with
          | false =>
            rw [hs1] at q1
            exact iteF q1
          | true =>
            rw [hs1, Bool.true_and] at q1
            refine iteT ⟨_, rfl, Sx xs, rfl, by rw [sx_len]; omega, _, _, rfl, rfl, _, rfl, ?_⟩
            rw [sx_len]
            by_cases h1 : 1 ≤ xs.length
            · rw [decide_eq_true h1, Bool.true_and] at q1
              refine itT (by omega) ⟨_, _, rfl, rfl, ?_⟩
              have e : decide ((xs.length : Int) ≤ 3) = decide (xs.length ≤ 3) := by
                by_cases h : xs.length ≤ 3
                · rw [decide_eq_true h, decide_eq_true (by omega)]
                · rw [decide_eq_false h, decide_eq_false (by omega)]
              rw [← e] at q1
              exact q1
            · rw [decide_eq_false h1, Bool.false_and] at q1
              rw [decide_eq_false (by omega)]
              exact iteF q1
end
end Onp
set_option maxHeartbeats 8000000
set_option autoImplicit false
namespace Onp
open PySem PySem.Spec PyProof.Rows L2
theorem in_one (xs : List Nat) (c : Nat) : (!(Builtin.Str.occurrences (Sx xs) (Sx [c]) 0 (Sx xs).length 1).isEmpty) = decide (c ∈ xs) := PySem.StrLaws.found_one (Sx xs) c
theorem any_one (ls : List Nat) (c : Nat) : (ls.any fun d => decide (Sx [c] = Sx [d])) = decide (c ∈ ls) := by
  rw [Bool.eq_iff_iff, List.any_eq_true, decide_eq_true_eq]
  constructor
  · rintro ⟨d, h1, h2⟩
    have := sx_inj (of_decide_eq_true h2)
    rw [(List.cons.inj this).1]
    exact h1
  · exact fun h => ⟨c, h, decide_eq_true rfl⟩
theorem any_not (ls : List Nat) {z : Str} (h : z.length ≠ 1) : (ls.any fun d => decide (z = Sx [d])) = false := by
  rw [Bool.eq_false_iff]
  intro e
  obtain ⟨d, _, h2⟩ := List.any_eq_true.mp e
  rw [of_decide_eq_true h2] at h
  exact h rfl
theorem len_one {z : Str} (h : z.length = 1) : ∃ c, z = Sx [c] := by
  have h1 : z.cps.toList.length = 1 := by simpa [Str.length] using h
  obtain ⟨c, hc⟩ := List.length_eq_one_iff.mp h1
  exact ⟨c, by rw [sx_of z, hc]⟩
section
variable {P : Program} {w : World} {K : PySem.W.Frag} {mg : Str → Option Value} {base : Heap}
/-! ### is_letter -/
theorem scIsL : FnScope ["text", "letters"] ["text", "letters"] (defScope sIsL) := ⟨rfl, rfl, rfl, by decide +kernel, rfl, by decide +kernel, by decide +kernel⟩
def spIsL : Sp := fun vs H Q _ => ∃ (z : Str) (ls : List Nat), vs = [.str z, .str (Sx ls)] ∧ z.length ≤ sizeLine ∧ Q (.bl (ls.any fun c => decide (z = Sx [c]))) H
theorem ok_isL {f : Addr} {fd : FuncData} {k : Nat} (F : Fun K "is_letter" "is_letter" sIsL f fd) (B : Bl1 mg) : FnOk P w K mg base CX0 (k + 1) f fd ["text", "letters"] spIsL := by
  refine F.ok scIsL (fun vs H Q E h => ?_) (fun cdv A outer s H vs Q E hr h => ?_)
  · obtain ⟨z, ls, rfl, _⟩ := h
    rfl
  · obtain ⟨z, ls, rfl, hz, q⟩ := h
    refine ⟨_, pss_one (ps_ret (pe_and (pe_cmpR op_eq (pe_callB call_len_str (by rfl) B.len PySem.boot_len (pa_cons (pv 0) pa_nil)) pe_int (nomark _)) (pe_one (pe_cmpR op_in_str (pv 0) (pv 1) (by rfl))))), ?_⟩
    refine ⟨_, rfl, z, rfl, hz, rfl, _, rfl, ?_⟩
    by_cases h1 : z.length = 1
    · obtain ⟨c, rfl⟩ := len_one h1
      rw [any_one] at q
      refine itT (by rw [h1]; rfl) ⟨_, rfl, _, rfl, Sx [c], Sx ls, rfl, rfl, ?_⟩
      rw [in_one]
      exact q
    · rw [any_not ls h1] at q
      exact itF (fun e => h1 (Int.ofNat.inj (V.int.inj e))) q
/-! ### is_arrow -/
def NIa : List Str := ["arrow", "rooms", "letters", "start", "letter", "deed", "end"]
theorem scIsA : FnScope NIa ["arrow", "rooms", "letters"] (defScope sIsA) := ⟨rfl, rfl, rfl, by decide +kernel, rfl, by decide +kernel, by decide +kernel⟩
def spIsA (K : PySem.W.Frag) : Sp := fun vs H Q _ => ∃ (t : Addr) (a : Arw) (n : Int) (ls : List Nat), vs = [.ref t, .int n, .str (Sx ls)] ∧ SqT K H t (aV a) ∧ a.2.1.length ≤ sizeLine ∧ Q (.bl (arrB n ls a)) H
theorem ok_isA {f fL tD : Addr} {fd fdL : FuncData} {k : Nat} (F : Fun K "is_arrow" "is_arrow" sIsA f fd) (Il : FnM K mg fL fdL "is_letter" sIsL ["text", "letters"]) (B : Bl1 mg) (C : CsM K mg tD) : FnOk P w K mg base CX0 (k + 2) f fd ["arrow", "rooms", "letters"] (spIsA K) := by
  have GL : FnOk P w K mg base CX0 (k + 1) fL fdL ["text", "letters"] spIsL := ok_isL Il.F B
  refine F.ok scIsA (fun vs H Q E h => ?_) (fun cdv A outer s H vs Q E hr h => ?_)
  · obtain ⟨t, a, n, ls, rfl, _⟩ := h
    rfl
  · obtain ⟨t, ⟨a1, a2, a3, a4⟩, n, ls, rfl, hT, hz, q⟩ := h
    refine ⟨_, pss_cons (ps_asg (pv 0) (pg_tup rfl (pgs_cons (pg_name (i := 3) scIsA.nd rfl (.inl rfl)) (pgs_cons (pg_name (i := 4) scIsA.nd rfl (.inl rfl)) (pgs_cons (pg_name (i := 5) scIsA.nd rfl (.inl rfl)) (pgs_cons (pg_name (i := 6) scIsA.nd rfl (.inl rfl)) pgs_nil))))))
      (pss_one (ps_ret (pe_and (pe_chain op_le op_lt pe_int (pv 3) (pv 1)) (pe_and (pe_chain op_le op_lt pe_int (pv 6) (pv 1)) (pe_and (pe_call GL hr (by rfl) Il.g Il.F.kp Il.b .nil pass0 (pa_cons (pv 4) (pa_cons (pv 2) pa_nil)))
        (pe_one (pe_cmpR op_in_seq (pv 5) (pe_glob (v := .ref tD) rfl C.deeds rfl) (by rfl)))))))), ?_⟩
    refine ⟨_, rfl, t, _, rfl, hT, rfl, _, _, rfl, _, _, rfl, _, _, rfl, _, _, rfl, rfl, ?_⟩
    unfold arrB at q
    dsimp only at q
    refine ⟨_, rfl, _, _, rfl, rfl, _, rfl, ?_⟩
    by_cases h1 : 0 ≤ a1
    · rw [decide_eq_true h1, Bool.true_and] at q
      refine itT h1 ⟨_, rfl, _, _, rfl, rfl, _, rfl, ?_⟩
      by_cases h2 : a1 < n
      · rw [decide_eq_true h2, Bool.true_and] at q
        rw [decide_eq_true h2]
        refine iteT ⟨_, rfl, _, _, rfl, rfl, _, rfl, ?_⟩
        by_cases h3 : 0 ≤ a4
        · rw [decide_eq_true h3, Bool.true_and] at q
          refine itT h3 ⟨_, rfl, _, _, rfl, rfl, _, rfl, ?_⟩
          by_cases h4 : a4 < n
          · rw [decide_eq_true h4, Bool.true_and] at q
            rw [decide_eq_true h4]
            refine iteT ⟨_, rfl, _, rfl, a2, ls, rfl, hz, _, rfl, ?_⟩
            cases h5 : (ls.any fun c => decide (a2 = Sx [c])) with
            | true =>
              rw [h5, Bool.true_and] at q
              refine iteT ⟨_, rfl, tD, deedsL.map V.str, rfl, .inr (C.deedsT _), rfl, by decide +kernel, ?_⟩
              show Q (.bl (inV (.str a3) (deedsL.map V.str))) H
              rw [inV_strs]
              exact q
            | false =>
              rw [h5, Bool.false_and] at q
              exact iteF q
          · rw [decide_eq_false h4, Bool.false_and, Bool.false_and] at q
            rw [decide_eq_false h4]
            exact iteF q
        · rw [decide_eq_false h3, Bool.false_and, Bool.false_and, Bool.false_and] at q
          exact itF h3 ⟨_, rfl, iteF q⟩
      · rw [decide_eq_false h2, Bool.false_and, Bool.false_and, Bool.false_and] at q
        rw [decide_eq_false h2]
        exact iteF q
    · rw [decide_eq_false h1, Bool.false_and, Bool.false_and, Bool.false_and, Bool.false_and] at q
      exact itF h1 ⟨_, rfl, iteF q⟩
end
end Onp
set_option maxHeartbeats 8000000
set_option autoImplicit false
namespace Onp
open PySem PySem.Spec PyProof.Rows L2
theorem arrB_len {n : Int} {ls : List Nat} {a : Arw} (h : arrB n ls a = true) : a.2.1.length ≤ sizeLine := by
  unfold arrB at h
  simp only [Bool.and_eq_true] at h
  obtain ⟨d, _, e⟩ := List.any_eq_true.mp h.1.2
  rw [of_decide_eq_true e]
  exact (by decide : 1 ≤ sizeLine)
theorem nodup_map_inj {α β : Type} {f : α → β} (hf : ∀ a b, f a = f b → a = b) {l : List α} (h : l.Nodup) : (l.map f).Nodup := List.pairwise_map.mpr (h.imp fun n e => n (hf _ _ e))
section
variable {P : Program} {w : World} {K : PySem.W.Frag} {mg : Str → Option Value} {base : Heap}
/-! ### need_arrows, need_rooms, of what they let pass -/
def NNa : List Str := ["arrows", "rooms", "letters", "arrow"]
theorem scNeedA : FnScope NNa ["arrows", "rooms", "letters"] (defScope sNeedA) := ⟨rfl, rfl, rfl, by decide +kernel, rfl, by decide +kernel, by decide +kernel⟩
def spNeedA (K : PySem.W.Frag) : Sp := fun vs H Q _ => ∃ (l : Addr) (ps : List AR) (n : Int) (ls : List Nat), vs = [.ref l, .int n, .str (Sx ls)] ∧ (SqL K H l (rfs ps) ∨ SqT K H l (rfs ps)) ∧ RowAt K H ps ∧ (∀ p ∈ ps, arrB n ls p.2 = true) ∧ (ps.map (·.2)).Nodup ∧ ps.length ≤ 40 ∧
  ∀ H', Same H H' → Q .non H'
theorem ok_needA {f fA fL tD : Addr} {fd fdA fdL : FuncData} {k : Nat} (F : Fun K "need_arrows" "need_arrows" sNeedA f fd) (Ia : FnM K mg fA fdA "is_arrow" sIsA ["arrow", "rooms", "letters"]) (Il : FnM K mg fL fdL "is_letter" sIsL ["text", "letters"]) (B : Bl1 mg) (C : CsM K mg tD) :
    FnOk P w K mg base CX0 (k + 3) f fd ["arrows", "rooms", "letters"] (spNeedA K) := by
  have GA : FnOk P w K mg base CX0 (k + 2) fA fdA ["arrow", "rooms", "letters"] (spIsA K) := ok_isA Ia.F Il B C
  obtain ⟨t1, gA⟩ := C.arrows
  refine F.ok scNeedA (fun vs H Q E h => ?_) (fun cdv A outer s H vs Q E hr h => ?_)
  · obtain ⟨l, ps, n, ls, rfl, _⟩ := h
    rfl
  · obtain ⟨l, ps, n, ls, rfl, hl, hR, hA, hnd, hfew, q⟩ := h
    refine ⟨_, pss_cons (ps_if (PW.pt (pw_or (pt_not (pt_val (pe_callB (cr_all rfl) (by rfl) B.all (by decide +kernel) (pa_cons (pe_lc (own := [("arrow", 3)]) (g := gName 3) (tt := tYes) (te := tCall (spIsA K) [] E0 (tCons (tVar 3) (tCons (tVar 1) (tCons (tVar 2) tNil)))) rfl scNeedA.nd
          (pi_any (pv 0)) (blkOk_by (own := [("arrow", 3)]) (N := NNa) (sc := defScope sNeedA) (by decide +kernel)) (fun _ _ _ _ _ => pg_name (i := 3) scNeedA.nd rfl (.inl rfl)) (fun _ _ _ _ _ => pts_nil)
          (fun _ _ _ _ _ => pe_call GA hr (by rfl) Ia.g Ia.F.kp Ia.b .nil pass0 (pa_cons (pv 3) (pa_cons (pv 1) (pa_cons (pv 2) pa_nil))))) pa_nil))))
          (pw_or1 (pt_cmpR op_lt (pe_lenSetM rfl hr.units (by rfl) B.len (by rfl) B.set (pv 0)) (pe_callB call_len_seq (by rfl) B.len PySem.boot_len (pa_cons (pv 0) pa_nil)) (nomark _))))) pss_never pss_nil)
      (pss_one (ps_if (pt_cmpR op_gt (pe_callB call_len_seq (by rfl) B.len PySem.boot_len (pa_cons (pv 0) pa_nil)) (pe_glob (v := .int 40) rfl gA ⟨_, rfl⟩) (nomark _)) pss_never pss_nil)), ?_⟩
    refine ⟨_, rfl, l, rfs ps, rfl, hl, fun J G W hG D nD => ?_⟩
    have hlen : (rfs ps).length = ps.length := List.length_map ..
    have hbig : 5000 ≤ sizeLine := by decide
    refine lc_it W (fun i H' => Same H H' ∧ H D = none ∧ H' D = some (.lst ((List.replicate i true).map V.bl))) ⟨same_upd nD, nD, upd_same⟩ (fun i H' _ ⟨sm, _, _⟩ => hG H' sm) ?_ ?_
    · rintro i v H1 H2 hi ⟨sm, fD, hD⟩ ⟨rfl, hv⟩
      rw [hlen] at hi
      have hp : ps[i]? = some ps[i] := List.getElem?_eq_getElem hi
      have ev : v = .ref ps[i].1 := by
        unfold rfs at hv
        rw [List.getElem?_map, hp] at hv
        exact (Option.some.inj hv).symm
      subst ev
      refine ⟨rfl, ?_⟩
      unfold tYes
      dsimp only
      rw [if_pos rfl]
      refine ⟨_, rfl, _, rfl, _, rfl, ps[i].1, ps[i].2, n, ls, rfl, same_seqT sm (hR _ (List.getElem_mem hi)), arrB_len (hA _ (List.getElem_mem hi)), ?_⟩
      rw [hA _ (List.getElem_mem hi)]
      refine ⟨_, hD, ?_, fun b o e => ?_, fD, ?_⟩
      · rw [List.length_map, List.length_replicate]
        omega
      · rw [upd_ne (ne_of_none e fD)]
        exact sm _ _ e
      · rw [upd_same, List.replicate_succ', List.map_append]
        rfl
    · rintro H1 ⟨s1, fD, hD⟩
      refine ⟨D, _, rfl, SqL.of hD, _, rfl, ?_⟩
      have ea : (List.replicate (rfs ps).length true).all id = true := List.all_eq_true.mpr fun b hb => by rw [(List.mem_replicate.mp hb).2]; rfl
      rw [ea]
      refine iteF ⟨_, rfl, l, ps.map fun p => (p.1, akey p.2), rfl, ?_, ?_, by rw [List.length_map]; omega, fun m m1 m2 => ?_⟩
      · have e : ((ps.map fun p => (p.1, akey p.2)).map fun p => V.ref p.1) = rfs ps := by
          unfold rfs
          rw [List.map_map]
          rfl
        rw [e]
        exact hl.elim (fun h => .inl (s1.seq h)) (fun h => .inr (same_seqT s1 h))
      · intro p hp
        obtain ⟨a, ha, rfl⟩ := List.mem_map.mp hp
        exact same_seqT s1 (hR a ha)
      · have em : m = ps.length := by
          rw [List.length_map] at m1 m2
          have nd2 : ((ps.map fun p => (p.1, akey p.2)).map (·.2)).Nodup := by
            rw [List.map_map]
            have e : ((fun p : AK => p.2) ∘ fun p : AR => (p.1, akey p.2)) = akey ∘ (fun p : AR => p.2) := rfl
            rw [e, ← List.map_map]
            exact nodup_map_inj (fun _ _ => akey_inj) hnd
          by_cases h : m < ps.length
          · exact absurd nd2 (m2.mp h)
          · omega
        subst em
        refine ⟨_, rfl, l, rfs ps, rfl, hl.elim (fun h => .inl (s1.seq h)) (fun h => .inr (same_seqT s1 h)), _, _, rfl, rfl, _, rfl, itF (by rw [hlen]; omega) ?_⟩
        refine ⟨_, rfl, l, rfs ps, rfl, hl.elim (fun h => .inl (s1.seq h)) (fun h => .inr (same_seqT s1 h)), _, _, rfl, rfl, _, rfl, itF (by rw [hlen]; omega) (q H1 s1)⟩
def NNr : List Str := ["some", "rooms", "room"]
theorem scNeedR : FnScope NNr ["some", "rooms"] (defScope sNeedR) := ⟨rfl, rfl, rfl, by decide +kernel, rfl, by decide +kernel, by decide +kernel⟩
def spNeedR (K : PySem.W.Frag) : Sp := fun vs H Q _ => ∃ (l : Addr) (ns : List Int) (n : Int), vs = [.ref l, .int n] ∧ (SqL K H l (ns.map V.int) ∨ SqT K H l (ns.map V.int)) ∧ (∀ r ∈ ns, rooB n r = true) ∧ ns.Nodup ∧ ns.length ≤ 100 ∧ ∀ H', Same H H' → Q .non H'
theorem ok_needR {f : Addr} {fd : FuncData} {k : Nat} (F : Fun K "need_rooms" "need_rooms" sNeedR f fd) (B : Bl1 mg) : FnOk P w K mg base CX0 (k + 1) f fd ["some", "rooms"] (spNeedR K) := by
  refine F.ok scNeedR (fun vs H Q E h => ?_) (fun cdv A outer s H vs Q E hr h => ?_)
  · obtain ⟨l, ns, n, rfl, _⟩ := h
    rfl
  · obtain ⟨l, ns, n, rfl, hl, hA, hnd, hfew, q⟩ := h
    refine ⟨_, pss_one (ps_if (PW.pt (pw_or (pt_not (pt_val (pe_callB (cr_all rfl) (by rfl) B.all (by decide +kernel) (pa_cons (pe_lc (own := [("room", 2)]) (g := gName 2) (tt := tYes) rfl scNeedR.nd
          (pi_any (pv 0)) (blkOk_by (own := [("room", 2)]) (N := NNr) (sc := defScope sNeedR) (by decide +kernel)) (fun _ _ _ _ _ => pg_name (i := 2) scNeedR.nd rfl (.inl rfl)) (fun _ _ _ _ _ => pts_nil)
          (fun _ _ _ _ _ => pe_chain op_le op_lt pe_int (pv 2) (pv 1))) pa_nil))))
          (pw_or1 (pt_cmpR op_lt (pe_lenSetK rfl (by rfl) B.len (by rfl) B.set (pv 0)) (pe_callB call_len_seq (by rfl) B.len PySem.boot_len (pa_cons (pv 0) pa_nil)) (nomark _))))) pss_never pss_nil), ?_⟩
    have hlen : (ns.map V.int).length = ns.length := List.length_map ..
    have hbig : 5000 ≤ sizeLine := by decide
    refine ⟨_, rfl, l, ns.map V.int, rfl, hl, fun J G W hG D nD => ?_⟩
    refine lc_it W (fun i H' => Same H H' ∧ H D = none ∧ H' D = some (.lst ((List.replicate i true).map V.bl))) ⟨same_upd nD, nD, upd_same⟩ (fun i H' _ ⟨sm, _, _⟩ => hG H' sm) ?_ ?_
    · rintro i v H1 H2 hi ⟨sm, fD, hD⟩ ⟨rfl, hv⟩
      rw [hlen] at hi
      rw [List.getElem?_map, List.getElem?_eq_getElem hi] at hv
      obtain rfl := Option.some.inj hv
      have hr1 := hA _ (List.getElem_mem hi)
      unfold rooB at hr1
      rw [Bool.and_eq_true, decide_eq_true_eq, decide_eq_true_eq] at hr1
      refine ⟨rfl, ?_⟩
      unfold tYes
      dsimp only
      rw [if_pos rfl]
      have fin : ∃ acc, H2 D = some (.lst acc) ∧ acc.length < sizeLine ∧ Same H (upd H2 D (.lst (acc ++ [V.bl true]))) ∧ H D = none ∧ (upd H2 D (.lst (acc ++ [V.bl true]))) D = some (.lst ((List.replicate (i + 1) true).map V.bl)) := by
        refine ⟨_, hD, ?_, fun b o e => ?_, fD, ?_⟩
        · rw [List.length_map, List.length_replicate]
          omega
        · rw [upd_ne (ne_of_none e fD)]
          exact sm _ _ e
        · rw [upd_same, List.replicate_succ', List.map_append]
          rfl
      refine ⟨_, rfl, _, _, rfl, rfl, _, rfl, itT hr1.1 ⟨_, rfl, _, _, rfl, rfl, ?_⟩⟩
      show ∃ acc, _ ∧ _ ∧ Same H (upd H2 D (.lst (acc ++ [V.bl (decide (ns[i] < n))]))) ∧ _ ∧ (upd H2 D (.lst (acc ++ [V.bl (decide (ns[i] < n))]))) D = _
      rw [decide_eq_true hr1.2]
      exact fin
    · rintro H1 ⟨s1, fD, hD⟩
      refine ⟨D, _, rfl, SqL.of hD, _, rfl, ?_⟩
      have ea : (List.replicate (ns.map V.int).length true).all id = true := List.all_eq_true.mpr fun b hb => by rw [(List.mem_replicate.mp hb).2]; rfl
      rw [ea]
      refine iteF ⟨_, rfl, l, ns.map Sum.inl, rfl, ?_, by rw [List.length_map]; omega, fun m m1 m2 => ?_⟩
      · have e : (ns.map Sum.inl).map kV = ns.map V.int := by
          rw [List.map_map]
          rfl
        rw [e]
        exact hl.elim (fun h => .inl (s1.seq h)) (fun h => .inr (same_seqT s1 h))
      · have em : m = ns.length := by
          rw [List.length_map] at m1 m2
          by_cases h : m < ns.length
          · exact absurd (nodup_map_inj (fun _ _ e => Sum.inl.inj e) hnd) (m2.mp h)
          · omega
        subst em
        exact ⟨_, rfl, l, ns.map V.int, rfl, hl.elim (fun h => .inl (s1.seq h)) (fun h => .inr (same_seqT s1 h)), _, _, rfl, rfl, _, rfl, itF (by rw [hlen]; omega) (q H1 s1)⟩
end
end Onp
set_option maxHeartbeats 4000000
set_option autoImplicit false
/-! d.setdefault(key, z), the key a tuple of ints and texts -/
namespace Onp
open PySem PySem.Spec PyProof.Rows L2
section
variable {X : Cx} {pins : List (Addr × Obj)} {σ : L2.St} {H : Hp} {s : Shared} {a b : Addr} {r : Value} {d : V} {k : List L2.Key} {A : Around} {E : Value → Shared → Prop}
theorem d_setdT {kvs : List (List L2.Key × V)} {Q : Value → Shared → Prop} (hu : A.units + 1 < cLine) (I : Inv X pins σ H s) (e : H a = some (.dT kvs)) (eb : H b = some (.tup (k.map kV))) (rd : RelV d r) (hl : kvs.length < sizeLine)
    (h1 : ∀ v, valV kvs k = some v → ∀ (w' : Value) (s' : Shared), Inv X pins σ H s' → RelV v w' → Q w' s') (h2 : valV kvs k = none → ∀ (w' : Value) (s' : Shared), Inv X pins σ (upd H a (.dT (putK kvs k d))) s' → RelV d w' → Q w' s') :
    wpAny (model X.prog X.w) A (call (.builtin "dict.setdefault") [.ref a, .ref b, r]) Q E s := by
  obtain ⟨z, hd, xs, rel, dd⟩ := dt_of I.hok e
  have hz : xs.length ≤ sizeLine := by rw [← Paired.length rel]; exact z
  have rk := rel.val k
  refine call_setdefault_heap (hsz := hz) (tupleKind_room_in1 hu) (key_of I.hok eb) hd dd (fun p hp => ?_) fun hn h' dd' hs => ?_
  · rw [hp] at rk
    cases ev : valV kvs k with
    | none =>
      rw [ev] at rk
      exact (show False from rk).elim
    | some v0 =>
      rw [ev] at rk
      exact h1 v0 ev _ _ (I.tok _) rk
  · rw [hn] at rk
    cases ev : valV kvs k with
    | some v0 =>
      rw [ev] at rk
      exact (show False from rk).elim
    | none =>
      have hl2 : (putK kvs k d).length ≤ sizeLine := by
        have := length_putK kvs k d
        omega
      obtain ⟨q, es, ep, hq, c2, c3, c4, _, c5⟩ := dd'
      refine h2 ev _ _ (d_write I (by rw [e]; exact True.intro) hs ⟨q, hq⟩ ⟨hl2, hd, _, (rel.put k eb rd).keeps fun c ys ec => ?_, q, es, ep, hq, c2, c3, c4, c5⟩) rd
      rw [upd_ne (ne_of ec e (fun z => nomatch z))]
      exact ec
end
def tDSetT (td ty tx : TE) : TE := fun σ H Q => td σ H fun x H1 => ∃ a, x = .ref a ∧ (∃ kvs, H1 a = some (.dT kvs)) ∧ ty σ H1 fun y H2 => tx σ H2 fun z H3 => ∃ (kvs : List (List L2.Key × V)) (k : List L2.Key) (b : Addr), H3 a = some (.dT kvs) ∧ y = .ref b ∧ H3 b = some (.tup (k.map kV)) ∧ kvs.length < sizeLine ∧
  (∀ v, valV kvs k = some v → Q v H3) ∧ (valV kvs k = none → Q z (upd H3 a (.dT (putK kvs k z))))
section
variable {X : Cx} {o e f : Expr} {td ty tx : TE} {apos cpos : Pos}
theorem pe_dsetT (hu : X.A.units + 64 < cLine) (ho : PE X o td) (he : PE X e ty) (hf : PE X f tx) (m : M2 X o "setdefault" apos e f cpos) : PE X (.Call (.Attribute o "setdefault" apos) [e, f] [] cpos) (tDSetT td ty tx) := by
  refine ⟨fun pins s σ H Q I h => ?_⟩
  refine wpAny_Call_method m.base m.few m.line PySem.F.plainAttrs_dict PySem.F.slot_dict_setdefault PySem.F.type_dict_setdefault (thn (ho.run pins s σ H _ I h) fun u s1 ⟨x, H1, I1, rx, a, ex, ⟨kv0, d⟩, q1⟩ => ?_)
  subst ex
  obtain rfl : u = Value.ref a := rx
  obtain ⟨t1, t2, _⟩ := isD_at I1 (.inr ⟨kv0, .inl d⟩)
  refine ⟨t1, t2, ?_⟩
  rw [m.trees]
  refine Calls.callWith_builtin rfl (Calls.evalArgs_plain (Calls.spliced_cons (thn (he.run pins s1 σ H1 _ I1 q1) fun iv s2 ⟨y, H2, I2, ry, q2⟩ =>
    Calls.spliced_cons (thn (hf.run pins s2 σ H2 _ I2 q2) fun fv s3 ⟨z, H3, I3, rz, kvs, k, b, ea, ey, eb, hl, q3, q4⟩ => Calls.spliced_nil ?_))))
  subst ey
  obtain rfl : iv = Value.ref b := ry
  exact d_setdT (by omega) I3 ea eb rz hl (fun v hv w' s4 I4 rw' => ⟨v, _, I4, rw', q3 v hv⟩) fun hn w' s4 I4 rw' => ⟨z, _, I4, rw', q4 hn⟩
end
end Onp
set_option maxHeartbeats 4000000
set_option autoImplicit false
namespace Onp
open PySem PySem.Spec PyProof.Rows L2
/-! ### the steps of each room and letter -/
def stepsOf (as : List Arw) (r : Int) (l : Str) : List (Str × Int) := (as.filter fun a => decide (a.1 = r) && decide (a.2.1 = l)).map fun a => (a.2.2.1, a.2.2.2)
theorem stepsOf_snoc (as : List Arw) (a : Arw) (r : Int) (l : Str) : stepsOf (as ++ [a]) r l = stepsOf as r l ++ (if (decide (a.1 = r) && decide (a.2.1 = l)) = true then [(a.2.2.1, a.2.2.2)] else []) := by
  unfold stepsOf
  rw [List.filter_append, List.map_append]
  congr 1
  by_cases h : (decide (a.1 = r) && decide (a.2.1 = l)) = true
  · rw [if_pos h, List.filter_cons_of_pos (p := fun a : Arw => decide (a.1 = r) && decide (a.2.1 = l)) h]
    rfl
  · rw [if_neg h, List.filter_cons_of_neg (p := fun a : Arw => decide (a.1 = r) && decide (a.2.1 = l)) h]
    rfl
abbrev ST : Type := Addr × Str × Int
def skey (r : Int) (l : Str) : List L2.Key := [.inl r, .inr l]
theorem skey_inj {r r' : Int} {l l' : Str} (h : skey r l = skey r' l') : r = r' ∧ l = l' := by
  simp only [skey, List.cons.injEq, Sum.inl.injEq, Sum.inr.injEq, and_true] at h
  exact h
/-- one key's list, new since H0 -/
structure OneS (H0 H : Hp) (at_ : Addr) (ys : List (Str × Int)) : Prop where
  fr : H0 at_ = none
  ex : ∃ xs : List ST, H at_ = some (.lst (xs.map fun x => V.ref x.1)) ∧ (∀ x ∈ xs, H x.1 = some (.tup [.str x.2.1, .int x.2.2])) ∧ xs.map (·.2) = ys
structure StepsK (H0 H : Hp) (D : Addr) (as : List Arw) (kvs : List (List L2.Key × V)) : Prop where
  at' : H D = some (.dT kvs)
  len : kvs.length ≤ as.length
  no : ∀ r l, stepsOf as r l = [] → valV kvs (skey r l) = none
  yes : ∀ r l, stepsOf as r l ≠ [] → ∃ a, valV kvs (skey r l) = some (.ref a) ∧ OneS H0 H a (stepsOf as r l)
  inj : ∀ r l r' l' a, valV kvs (skey r l) = some (.ref a) → valV kvs (skey r' l') = some (.ref a) → r = r' ∧ l = l'
def StepsAt (H0 H : Hp) (D : Addr) (as : List Arw) : Prop := ∃ kvs, StepsK H0 H D as kvs
theorem cond_iff {r r' : Int} {l l' : Str} : (decide (r' = r) && decide (l' = l)) = true ↔ r' = r ∧ l' = l := by
  rw [Bool.and_eq_true, decide_eq_true_eq, decide_eq_true_eq]
/-- a step more for a key that is there -/
theorem stepOld {H H2 H' : Hp} {D at_ p3 : Addr} {as : List Arw} {kvs : List (List L2.Key × V)} {a1 a4 : Int} {a2 a3 : Str} {xs : List ST} (S : StepsK H H2 D as kvs) (hv : valV kvs (skey a1 a2) = some (.ref at_)) (fr : H at_ = none) (x1 : H2 at_ = some (.lst (xs.map fun x => V.ref x.1))) (x2 : ∀ x ∈ xs, H2 x.1 = some (.tup [.str x.2.1, .int x.2.2])) (x3 : xs.map (·.2) = stepsOf as a1 a2)
    (kp : ∀ b o, b ≠ at_ → H2 b = some o → H' b = some o) (n1 : H' at_ = some (.lst ((xs.map fun x => V.ref x.1) ++ [.ref p3]))) (n3 : H' p3 = some (.tup [.str a3, .int a4])) : StepsAt H H' D (as ++ [(a1, a2, a3, a4)]) := by
  have hx : ∀ {b : Addr} {ys : List V}, H2 b = some (.tup ys) → H' b = some (.tup ys) := fun e => kp _ _ (ne_of e x1 (fun z => nomatch z)) e
  refine ⟨kvs, kp _ _ (ne_of S.at' x1 (fun z => nomatch z)) S.at', by rw [List.length_append]; have := S.len; omega, fun r l h => ?_, fun r l h => ?_, S.inj⟩
  · rw [stepsOf_snoc] at h
    exact S.no r l (List.append_eq_nil_iff.mp h).1
  · rw [stepsOf_snoc] at h ⊢
    by_cases c : a1 = r ∧ a2 = l
    · obtain ⟨rfl, rfl⟩ := c
      rw [if_pos (cond_iff.mpr ⟨rfl, rfl⟩)]
      refine ⟨at_, hv, fr, xs ++ [(p3, a3, a4)], by rw [n1, List.map_append]; rfl, fun x hx' => ?_, by rw [List.map_append, x3]; rfl⟩
      rcases List.mem_append.mp hx' with y | y
      · exact hx (x2 x y)
      · rw [List.mem_singleton.mp y]
        exact n3
    · rw [if_neg (fun z => c (cond_iff.mp z)), List.append_nil] at h ⊢
      obtain ⟨a, ea, O⟩ := S.yes r l h
      obtain ⟨ys, y1, y2, y3⟩ := O.ex
      have ne : a ≠ at_ := fun z => by
        rw [z] at ea
        exact c (S.inj _ _ _ _ _ hv ea)
      exact ⟨a, ea, O.fr, ys, kp _ _ ne y1, fun x hx' => hx (y2 x hx'), y3⟩
/-- a step for a new key -/
theorem stepNew {H H2 H' : Hp} {D p2 p3 : Addr} {as : List Arw} {kvs : List (List L2.Key × V)} {a1 a4 : Int} {a2 a3 : Str} (S : StepsK H H2 D as kvs) (hv : valV kvs (skey a1 a2) = none) (fr : H p2 = none) (fr2 : H2 p2 = none)
    (kp : ∀ b o, b ≠ D → H2 b = some o → H' b = some o) (n0 : H' D = some (.dT (putK kvs (skey a1 a2) (.ref p2)))) (n1 : H' p2 = some (.lst [.ref p3])) (n3 : H' p3 = some (.tup [.str a3, .int a4])) : StepsAt H H' D (as ++ [(a1, a2, a3, a4)]) := by
  have e0 : stepsOf as a1 a2 = [] := by
    by_cases z : stepsOf as a1 a2 = []
    · exact z
    · obtain ⟨a, ea, _⟩ := S.yes a1 a2 z
      rw [hv] at ea
      cases ea
  have hx : ∀ {b : Addr} {ys : List V}, H2 b = some (.tup ys) → H' b = some (.tup ys) := fun e => kp _ _ (ne_of e S.at' (fun z => nomatch z)) e
  have hl : ∀ {b : Addr} {ys : List V}, H2 b = some (.lst ys) → H' b = some (.lst ys) := fun e => kp _ _ (ne_of e S.at' (fun z => nomatch z)) e
  have np : ∀ {r : Int} {l : Str} {a : Addr}, valV kvs (skey r l) = some (.ref a) → a ≠ p2 := fun {r l a} ea z => by
    have h : stepsOf as r l ≠ [] := fun y => by
      rw [S.no r l y] at ea
      cases ea
    obtain ⟨a', ea', O⟩ := S.yes r l h
    rw [ea] at ea'
    cases ea'
    obtain ⟨ys, y1, _⟩ := O.ex
    rw [z, fr2] at y1
    cases y1
  have vp : ∀ r l, valV (putK kvs (skey a1 a2) (.ref p2)) (skey r l) = if skey r l = skey a1 a2 then some (.ref p2) else valV kvs (skey r l) := fun r l => valV_put kvs _ _ _
  refine ⟨_, n0, ?_, fun r l h => ?_, fun r l h => ?_, fun r l r' l' a h1 h2 => ?_⟩
  · rw [List.length_append]
    have := S.len
    have := length_putK kvs (skey a1 a2) (V.ref p2)
    simp only [List.length_cons, List.length_nil]
    omega
  · rw [stepsOf_snoc] at h
    have h3 := List.append_eq_nil_iff.mp h
    rw [vp, if_neg (fun z => ?_)]
    · exact S.no r l h3.1
    · obtain ⟨rfl, rfl⟩ := skey_inj z
      rw [if_pos (cond_iff.mpr ⟨rfl, rfl⟩)] at h3
      exact absurd h3.2 (by simp)
  · rw [stepsOf_snoc] at h ⊢
    rw [vp]
    by_cases c : a1 = r ∧ a2 = l
    · obtain ⟨rfl, rfl⟩ := c
      rw [if_pos rfl, if_pos (cond_iff.mpr ⟨rfl, rfl⟩), e0]
      refine ⟨p2, rfl, fr, [(p3, a3, a4)], n1, fun x hx' => ?_, rfl⟩
      rw [List.mem_singleton.mp hx']
      exact n3
    · rw [if_neg (fun z => c (cond_iff.mp z)), List.append_nil] at h ⊢
      rw [if_neg (fun z => c ⟨(skey_inj z).1.symm, (skey_inj z).2.symm⟩)]
      obtain ⟨a, ea, O⟩ := S.yes r l h
      obtain ⟨ys, y1, y2, y3⟩ := O.ex
      exact ⟨a, ea, O.fr, ys, hl y1, fun x hx' => hx (y2 x hx'), y3⟩
  · rw [vp] at h1 h2
    by_cases c1 : skey r l = skey a1 a2
    · by_cases c2 : skey r' l' = skey a1 a2
      · exact skey_inj (c1.trans c2.symm)
      · rw [if_pos c1] at h1
        rw [if_neg c2] at h2
        cases h1
        exact absurd rfl (np h2)
    · by_cases c2 : skey r' l' = skey a1 a2
      · rw [if_neg c1] at h1
        rw [if_pos c2] at h2
        cases h2
        exact absurd rfl (np h1)
      · rw [if_neg c1] at h1
        rw [if_neg c2] at h2
        exact S.inj _ _ _ _ _ h1 h2
end Onp
set_option maxHeartbeats 8000000
set_option autoImplicit false
namespace Onp
open PySem PySem.Spec PyProof.Rows L2
section
variable {P : Program} {w : World} {K : PySem.W.Frag} {mg : Str → Option Value} {base : Heap}
def NSb : List Str := ["arrows", "found", "start", "letter", "deed", "end"]
theorem scStepsB : FnScope NSb ["arrows"] (defScope sStepsB) := ⟨rfl, rfl, rfl, by decide +kernel, rfl, by decide +kernel, by decide +kernel⟩
def spStepsB (K : PySem.W.Frag) : Sp := fun vs H Q _ => ∃ (t : Addr) (ps : List AR), vs = [.ref t] ∧ SqT K H t (rfs ps) ∧ RowAt K H ps ∧ ps.length ≤ 100 ∧ ∀ D H', H D = none → Same H H' → StepsAt H H' D (ps.map (·.2)) → Q (.ref D) H'
theorem ok_stepsB {f : Addr} {fd : FuncData} {k : Nat} (F : Fun K "steps_by_start" "steps_by_start" sStepsB f fd) : FnOk P w K mg base CX0 (k + 1) f fd ["arrows"] (spStepsB K) := by
  refine F.ok scStepsB (fun vs H Q E h => ?_) (fun cdv A outer s H vs Q E hr h => ?_)
  · obtain ⟨t, ps, rfl, _⟩ := h
    rfl
  · obtain ⟨t, ps, rfl, hT, hR, hfew, q⟩ := h
    have hu : (cxOf CX0 P w K mg base NSb "steps_by_start" (defScope sStepsB) f cdv A outer s H E).A.units + 64 < cLine := hr.units
    refine ⟨_, pss_cons (ps_set (i := 1) scStepsB.nd rfl (.inl rfl) pe_dnewT)
      (pss_cons (ps_for PassesOwn.never rfl (pi_tup (pv 0)) (pg_tup rfl (pgs_cons (pg_name (i := 2) scStepsB.nd rfl (.inl rfl)) (pgs_cons (pg_name (i := 3) scStepsB.nd rfl (.inl rfl)) (pgs_cons (pg_name (i := 4) scStepsB.nd rfl (.inl rfl)) (pgs_cons (pg_name (i := 5) scStepsB.nd rfl (.inl rfl)) pgs_nil)))))
        (pss_one (ps_expr (pe_bm PySem.F.plainAttrs_list PySem.F.slot_list_append PySem.F.type_list_append mt_append (pe_dsetT hu (pv 1) (pe_tup (pa_cons (pv 2) (pa_cons (pv 3) pa_nil))) (pe_lst pa_nil) ⟨rfl, rfl, rfl, rfl⟩) (pa_cons (pe_tup (pa_cons (pv 4) (pa_cons (pv 5) pa_nil))) pa_nil)))))
      (pss_one (ps_ret (pv 1)))), ?_⟩
    refine fun D nD => ?_
    have hbig : 5000 ≤ sizeLine := by decide
    have hlen : (rfs ps).length = ps.length := List.length_map ..
    refine ⟨_, rfl, t, rfl, ⟨_, same_seqT (same_upd nD) hT⟩, for_it (walk_tup (xs := rfs ps)) (fun i σ H' => ∃ y2 y3 y4 y5 : Option V, σ = [some (.ref t), some (.ref D), y2, y3, y4, y5] ∧ Same H H' ∧ StepsAt H H' D ((ps.map (·.2)).take i))
      ⟨none, none, none, none, rfl, same_upd nD, [], upd_same, Nat.le_refl _, fun _ _ _ => rfl, fun r l h => absurd rfl h, fun r l r' l' a h => nomatch h⟩ (fun i σ H' _ ⟨_, _, _, _, _, sm, _⟩ => same_seqT sm hT) ?_ ?_⟩
    · rintro i v σ H1 H2 hi ⟨y2, y3, y4, y5, rfl, sm, ⟨kvs, S⟩⟩ ⟨rfl, hv⟩
      have hD := S.at'
      have hkl := S.len
      rw [hlen] at hi
      have hp : ps[i]? = some ps[i] := List.getElem?_eq_getElem hi
      have hT1 := hR _ (List.getElem_mem hi)
      have ev : v = .ref ps[i].1 := by
        unfold rfs at hv
        rw [List.getElem?_map, hp] at hv
        exact (Option.some.inj hv).symm
      subst ev
      have et : (ps.map (·.2)).take (i + 1) = (ps.map (·.2)).take i ++ [ps[i].2] := by
        rw [List.take_add_one, List.getElem?_map, hp]
        rfl
      have hkl' : kvs.length ≤ i := by
        rw [List.length_take] at hkl
        omega
      generalize ps[i] = p at hT1 et
      obtain ⟨pa, a1, a2, a3, a4⟩ := p
      refine ⟨pa, _, rfl, same_seqT sm hT1, rfl, _, _, rfl, _, _, rfl, _, _, rfl, _, _, rfl, rfl, ?_⟩
      refine ⟨_, rfl, D, rfl, ⟨_, hD⟩, _, rfl, _, rfl, (by decide : 2 ≤ sizeLine), fun p1 n1 => ⟨(by decide : 0 ≤ sizeLine), fun p2 n2 => ?_⟩⟩
      have e1 := same_upd (o := .tup [.int a1, .str a2]) n1
      have e2 := e1.trans (same_upd (o := .lst []) n2)
      have g1 : (upd (upd H2 p1 (.tup [.int a1, .str a2])) p2 (.lst [])) p1 = some (.tup ((skey a1 a2).map kV)) := Eq.trans (upd_ne (ne_of_none upd_same n2)) upd_same
      refine ⟨kvs, skey a1 a2, p1, e2 _ _ hD, rfl, g1, by omega, ?_, ?_⟩
      · intro v hval
        have hne : stepsOf ((ps.map (·.2)).take i) a1 a2 ≠ [] := fun z => by
          rw [S.no a1 a2 z] at hval
          cases hval
        obtain ⟨at_, ea, O⟩ := S.yes a1 a2 hne
        rw [hval] at ea
        obtain rfl := Option.some.inj ea
        obtain ⟨xs, x1, x2, x3⟩ := O.ex
        refine ⟨.inl ⟨rfl, _, SqL.of (e2 _ _ x1)⟩, _, rfl, _, rfl, (by decide : 2 ≤ sizeLine), fun p3 n3 => ?_⟩
        have e3 := e2.trans (same_upd (o := .tup [.str a3, .int a4]) n3)
        have nat3 : p3 ≠ at_ := (ne_of_none (e2 _ _ x1) n3).symm
        have hxl : xs.length ≤ i := by
          have z := congrArg List.length x3
          have z2 : (stepsOf ((ps.map (·.2)).take i) a1 a2).length ≤ ((ps.map (·.2)).take i).length := by
            unfold stepsOf
            rw [List.length_map]
            exact List.length_filter_le _ _
          rw [List.length_map] at z
          rw [List.length_take] at z2
          omega
        refine ⟨at_, _, _, rfl, rfl, e3 _ _ x1, by rw [List.length_map]; omega, _, _, _, _, rfl, fun b o e => ?_, ?_⟩
        · rw [upd_ne (fun z => by rw [z, O.fr] at e; cases e)]
          exact e3 _ _ (sm _ _ e)
        · rw [et]
          refine stepOld S hval O.fr x1 x2 x3 (fun b o n e => ?_) upd_same ?_
          · rw [upd_ne n]
            exact e3 _ _ e
          · rw [upd_ne nat3]
            exact upd_same
      · intro hval
        have n2' : H2 p2 = none := e1.free n2
        have nD2 : p2 ≠ D := (ne_of_none (e1 _ _ hD) n2).symm
        refine ⟨.inl ⟨rfl, _, SqL.of ((upd_ne nD2).trans upd_same)⟩, _, rfl, _, rfl, (by decide : 2 ≤ sizeLine), fun p3 n3 => ?_⟩
        have hp2 : (upd (upd (upd H2 p1 (.tup [.int a1, .str a2])) p2 (.lst [])) D (.dT (putK kvs (skey a1 a2) (.ref p2)))) p2 = some (.lst []) := (upd_ne nD2).trans upd_same
        have hDD : (upd (upd (upd H2 p1 (.tup [.int a1, .str a2])) p2 (.lst [])) D (.dT (putK kvs (skey a1 a2) (.ref p2)))) D = some (.dT (putK kvs (skey a1 a2) (.ref p2))) := upd_same
        have keep : ∀ b o, b ≠ D → H2 b = some o → (upd (upd (upd H2 p1 (.tup [.int a1, .str a2])) p2 (.lst [])) D (.dT (putK kvs (skey a1 a2) (.ref p2)))) b = some o := fun b o n e => by
          rw [upd_ne n]
          exact e2 _ _ e
        generalize upd (upd (upd H2 p1 (.tup [.int a1, .str a2])) p2 (.lst [])) D (.dT (putK kvs (skey a1 a2) (.ref p2))) = H3 at hp2 hDD keep n3
        have e3 := same_upd (o := .tup [.str a3, .int a4]) n3
        have n32 : p3 ≠ p2 := (ne_of_none hp2 n3).symm
        have nDp : D ≠ p2 := nD2.symm
        refine ⟨p2, _, _, rfl, rfl, e3 _ _ hp2, (by decide : 0 < sizeLine), _, _, _, _, rfl, fun b o e => ?_, ?_⟩
        · have b1 : b ≠ p2 := fun z => by rw [z, sm.free n2'] at e; cases e
          have b2 : b ≠ D := fun z => by rw [z, nD] at e; cases e
          rw [upd_ne b1]
          exact e3 _ _ (keep _ _ b2 (sm _ _ e))
        · rw [et]
          refine stepNew (p2 := p2) (p3 := p3) S hval (sm.free n2') n2' (fun b o n e => ?_) ?_ upd_same ?_
          · have b1 : b ≠ p2 := fun z => by rw [z, n2'] at e; cases e
            rw [upd_ne b1]
            exact e3 _ _ (keep _ _ n e)
          · rw [upd_ne nDp]
            exact e3 _ _ hDD
          · rw [upd_ne n32]
            exact upd_same
    · rintro σ H1 ⟨y2, y3, y4, y5, rfl, sm, S⟩
      rw [hlen, List.take_of_length_le (by rw [List.length_map]; exact Nat.le_refl _)] at S
      exact ⟨_, rfl, q D H1 nD sm S⟩
end
end Onp
set_option maxHeartbeats 4000000
set_option autoImplicit false
/-! a machine as an object -/
namespace Onp
open PySem PySem.Spec PyProof.Rows L2
/-! ### sorted rows -/
def vdA (p : AR) : VD := (.ref p.1, adat p.2)
def vdI (r : Int) : VD := (.int r, .int r)
def srtR (ps : List AR) : List AR := ps.mergeSort fun p q => PySem.W.dataLe false adat p.2 q.2
theorem srtD_A (ps : List AR) : srtD (ps.map vdA) = (srtR ps).map vdA := (PySem.W.sort_maps vdA (fun _ _ _ _ => rfl)).symm
theorem srtR_as (ps : List AR) : (srtR ps).map (·.2) = sortA (ps.map (·.2)) := PySem.W.sort_maps (fun p : AR => p.2) (fun _ _ _ _ => rfl)
theorem srtR_mem {ps : List AR} {p : AR} : p ∈ srtR ps ↔ p ∈ ps := List.mem_mergeSort
theorem srtR_len (ps : List AR) : (srtR ps).length = ps.length := List.length_mergeSort ..
theorem srtD_I (ns : List Int) : srtD (ns.map vdI) = (sortI ns).map vdI := by
  refine (PySem.W.sort_maps vdI (fun a _ b _ => ?_)).symm
  have e := congrFun (congrFun (PySem.W.dataLe_int (fun b : Int => b)) a) b
  exact e.symm
theorem al_I (ns : List Int) : PySem.W.AllAlike ((ns.map vdI).map (·.2)) := fun d hd d' hd' => by
  obtain ⟨p, hp, rfl⟩ := List.mem_map.mp hd
  obtain ⟨r, _, rfl⟩ := List.mem_map.mp hp
  obtain ⟨p', hp', rfl⟩ := List.mem_map.mp hd'
  obtain ⟨r', _, rfl⟩ := List.mem_map.mp hp'
  rfl
theorem so_I (ns : List Int) : PySem.W.Sortable ((ns.map vdI).map (·.2)) := .inr fun d hd => by
  obtain ⟨p, hp, rfl⟩ := List.mem_map.mp hd
  obtain ⟨r, _, rfl⟩ := List.mem_map.mp hp
  exact ⟨(fun z => nomatch z), (fun _ z => nomatch z)⟩
theorem al_A (ps : List AR) : PySem.W.AllAlike ((ps.map vdA).map (·.2)) := fun d hd d' hd' => by
  obtain ⟨p, hp, rfl⟩ := List.mem_map.mp hd
  obtain ⟨r, _, rfl⟩ := List.mem_map.mp hp
  obtain ⟨p', hp', rfl⟩ := List.mem_map.mp hd'
  obtain ⟨r', _, rfl⟩ := List.mem_map.mp hp'
  rfl
theorem so_A (ps : List AR) : PySem.W.Sortable ((ps.map vdA).map (·.2)) := .inl fun d hd => by
  obtain ⟨p, hp, rfl⟩ := List.mem_map.mp hd
  obtain ⟨r, _, rfl⟩ := List.mem_map.mp hp
  exact ⟨_, _, rfl⟩
theorem vdA_fst (ps : List AR) : (ps.map vdA).map (·.1) = rfs ps := by
  rw [List.map_map]
  rfl
theorem vdI_fst (ns : List Int) : (ns.map vdI).map (·.1) = ns.map V.int := by
  rw [List.map_map]
  rfl
theorem dep_A (ps : List AR) : ∀ p ∈ ps.map vdA, p.2.depth ≤ 8 := fun p hp => by
  obtain ⟨r, _, rfl⟩ := List.mem_map.mp hp
  show (adat r.2).depth ≤ 8
  unfold adat
  simp [PyData.depth, PyData.depthAll]
theorem dep_I (ns : List Int) : ∀ p ∈ ns.map vdI, p.2.depth ≤ 8 := fun p hp => by
  obtain ⟨r, _, rfl⟩ := List.mem_map.mp hp
  show (PyData.int r).depth ≤ 8
  simp [PyData.depth]
/-! ### the object -/
structure AM where
  n : Int
  ls : List Nat
  as : List Arw
  fs : List Int
  gs : List Int
def AM.ok (M : AM) : Prop := 1 ≤ M.n ∧ M.n ≤ 8 ∧ letB M.ls = true ∧ (∀ a ∈ M.as, arrB M.n M.ls a = true) ∧ M.as.Nodup ∧ M.as.length ≤ 40 ∧ (∀ r ∈ M.fs, rooB M.n r = true) ∧ M.fs.Nodup ∧ (∀ r ∈ M.gs, rooB M.n r = true) ∧ M.gs.Nodup ∧ M.fs.length ≤ 100 ∧ M.gs.length ≤ 100
/-- as it is kept: rising -/
def AM.srt (M : AM) : AM := ⟨M.n, M.ls, sortA M.as, sortI M.fs, sortI M.gs⟩
def mfl (n : Int) (ls : List Nat) (ta tf tg D : Addr) : List (Str × V) :=
  putF "step_rows" (.ref D) (putF "last_row" (.ref tg) (putF "first_row" (.ref tf) (putF "arrow_row" (.ref ta) (putF "letter_text" (.str (Sx ls)) (putF "room_count" (.int n) [])))))
section
variable {n : Int} {ls : List Nat} {ta tf tg D : Addr}
theorem mfl_rooms : (mfl n ls ta tf tg D).lookup ("room_count" : Str) = some (.int n) := by
  unfold mfl
  rw [lookup_putF, if_neg (by decide +kernel), lookup_putF, if_neg (by decide +kernel), lookup_putF, if_neg (by decide +kernel), lookup_putF, if_neg (by decide +kernel), lookup_putF, if_neg (by decide +kernel), lookup_putF, if_pos rfl]
theorem mfl_letters : (mfl n ls ta tf tg D).lookup ("letter_text" : Str) = some (.str (Sx ls)) := by
  unfold mfl
  rw [lookup_putF, if_neg (by decide +kernel), lookup_putF, if_neg (by decide +kernel), lookup_putF, if_neg (by decide +kernel), lookup_putF, if_neg (by decide +kernel), lookup_putF, if_pos rfl]
theorem mfl_arrows : (mfl n ls ta tf tg D).lookup ("arrow_row" : Str) = some (.ref ta) := by
  unfold mfl
  rw [lookup_putF, if_neg (by decide +kernel), lookup_putF, if_neg (by decide +kernel), lookup_putF, if_neg (by decide +kernel), lookup_putF, if_pos rfl]
theorem mfl_firsts : (mfl n ls ta tf tg D).lookup ("first_row" : Str) = some (.ref tf) := by
  unfold mfl
  rw [lookup_putF, if_neg (by decide +kernel), lookup_putF, if_neg (by decide +kernel), lookup_putF, if_pos rfl]
theorem mfl_lasts : (mfl n ls ta tf tg D).lookup ("last_row" : Str) = some (.ref tg) := by
  unfold mfl
  rw [lookup_putF, if_neg (by decide +kernel), lookup_putF, if_pos rfl]
theorem mfl_steps : (mfl n ls ta tf tg D).lookup ("step_rows" : Str) = some (.ref D) := by
  unfold mfl
  rw [lookup_putF, if_pos rfl]
def mnames : List Str := ["step_rows", "last_row", "first_row", "arrow_row", "letter_text", "room_count"]
theorem mfl_none {f : Str} (h : f ∉ mnames) : (mfl n ls ta tf tg D).lookup f = none := by
  unfold mnames at h
  simp only [List.mem_cons, List.not_mem_nil, or_false, not_or] at h
  unfold mfl
  rw [lookup_putF, if_neg h.1, lookup_putF, if_neg h.2.1, lookup_putF, if_neg h.2.2.1, lookup_putF, if_neg h.2.2.2.1, lookup_putF, if_neg h.2.2.2.2.1, lookup_putF, if_neg h.2.2.2.2.2]
  rfl
end
theorem putF_len (f : Str) (v : V) : ∀ fs : List (Str × V), (putF f v fs).length ≤ fs.length + 1
  | [] => Nat.le_refl _
  | (g, x) :: r => by
    unfold putF
    by_cases h : g = f
    · rw [if_pos h]
      exact Nat.le_succ _
    · rw [if_neg h]
      exact Nat.succ_le_succ (putF_len f v r)
/-- the steps, to be read -/
def StepsR (H : Hp) (D : Addr) (as : List Arw) : Prop := ∃ kvs : List (List L2.Key × V), H D = some (.dT kvs) ∧ (∀ r l, stepsOf as r l = [] → valV kvs (skey r l) = none) ∧
  (∀ r l, stepsOf as r l ≠ [] → ∃ (a : Addr) (xs : List ST), valV kvs (skey r l) = some (.ref a) ∧ H a = some (.lst (xs.map fun x => V.ref x.1)) ∧ (∀ x ∈ xs, H x.1 = some (.tup [.str x.2.1, .int x.2.2])) ∧ xs.map (·.2) = stepsOf as r l)
theorem StepsAt.rd {H0 H : Hp} {D : Addr} {as : List Arw} (S : StepsAt H0 H D as) : StepsR H D as := by
  obtain ⟨kvs, S⟩ := S
  refine ⟨kvs, S.at', S.no, fun r l h => ?_⟩
  obtain ⟨a, ea, O⟩ := S.yes r l h
  obtain ⟨xs, x1, x2, x3⟩ := O.ex
  exact ⟨a, xs, ea, x1, x2, x3⟩
theorem StepsR.same {H H' : Hp} {D : Addr} {as : List Arw} (S : StepsR H D as) (s : Same H H') : StepsR H' D as := by
  obtain ⟨kvs, h1, h2, h3⟩ := S
  refine ⟨kvs, s _ _ h1, h2, fun r l h => ?_⟩
  obtain ⟨a, xs, ea, x1, x2, x3⟩ := h3 r l h
  exact ⟨a, xs, ea, s _ _ x1, fun x hx => s _ _ (x2 x hx), x3⟩
/-- a machine stands at m -/
def MachAt (K : PySem.W.Frag) (C : Addr) (H : Hp) (m : Addr) (M : AM) : Prop := ∃ (dx ta tf tg D : Addr) (ps : List AR), H m = some (.ins C dx (mfl M.n M.ls ta tf tg D)) ∧ H ta = some (.tup (rfs ps)) ∧ RowAt K H ps ∧ ps.map (·.2) = M.as ∧
  H tf = some (.tup (M.fs.map V.int)) ∧ H tg = some (.tup (M.gs.map V.int)) ∧ StepsR H D M.as
theorem MachAt.same {K : PySem.W.Frag} {C : Addr} {H H' : Hp} {m : Addr} {M : AM} (h : MachAt K C H m M) (s : Same H H') : MachAt K C H' m M := by
  obtain ⟨dx, ta, tf, tg, D, ps, h1, h2, h3, h4, h5, h6, h7⟩ := h
  exact ⟨dx, ta, tf, tg, D, ps, s _ _ h1, s _ _ h2, h3.same s, h4, s _ _ h5, s _ _ h6, h7.same s⟩
end Onp
set_option maxHeartbeats 8000000
set_option autoImplicit false
namespace Onp
open PySem PySem.Spec PyProof.Rows L2
abbrev sMach : Stmt := topS 39
abbrev sMInit : Stmt := inClass sMach 0
structure Bl2 (mg : Str → Option Value) : Prop where
  tuple : mg "tuple" = none
  sorted : mg "sorted" = none
structure ClsM (K : PySem.W.Frag) (C : Addr) : Prop where
  cl : Cls K C
  n1 : NoAttr K C "room_count"
  n2 : NoAttr K C "letter_text"
  n3 : NoAttr K C "arrow_row"
  n4 : NoAttr K C "first_row"
  n5 : NoAttr K C "last_row"
  n6 : NoAttr K C "step_rows"
section
variable {P : Program} {w : World} {K : PySem.W.Frag} {mg : Str → Option Value} {base : Heap}
def psMI : List Str := ["self", "rooms", "letters", "arrows", "firsts", "lasts"]
theorem scMInit : FnScope psMI psMI (defScope sMInit) := ⟨rfl, rfl, rfl, by decide +kernel, rfl, by decide +kernel, by decide +kernel⟩
abbrev SqA (K : PySem.W.Frag) (H : Hp) (l : Addr) (xs : List V) : Prop := SqL K H l xs ∨ SqT K H l xs
theorem sqA_same {K : PySem.W.Frag} {H H' : Hp} {l : Addr} {xs : List V} (s : Same H H') (h : SqA K H l xs) : SqA K H' l xs := h.elim (fun h => .inl (s.seq h)) (fun h => .inr (same_seqT s h))
theorem sqA_keep {K : PySem.W.Frag} {b l : Addr} {H H' : Hp} {xs : List V} (k : Keep b H H') (n : l ≠ b) (h : SqA K H l xs) : SqA K H' l xs := h.elim (fun h => .inl (k.seqL n h)) (fun h => .inr (k.seqT n h))
theorem keepI_T {C x dx a : Addr} {fs : List (Str × V)} {H H' : Hp} {xs : List V} (hx : H x = some (.ins C dx fs)) (k : Keep x H H') (h : SqT K H a xs) : SqT K H' a xs := by
  by_cases e : a = x
  · subst e
    rcases h with (h | ⟨o, h⟩) | h
    · rw [hx] at h
      cases h
    · rw [hx] at h
      cases h
    · exact .inr h
  · exact k.seqT e h
theorem keepI_A {C x dx a : Addr} {fs : List (Str × V)} {H H' : Hp} {xs : List V} (hx : H x = some (.ins C dx fs)) (k : Keep x H H') (h : SqA K H a xs) : SqA K H' a xs := by
  rcases h with h | h
  · by_cases e : a = x
    · subst e
      rcases h with (h | ⟨o, h⟩) | h
      · rw [hx] at h
        cases h
      · rw [hx] at h
        cases h
      · exact .inl (.inr h)
    · exact .inl (k.seqL e h)
  · exact .inr (keepI_T hx k h)
/-- what is handed to Machine(..), of a machine that there is -/
def spMInit (K : PySem.W.Frag) (C : Addr) : Sp := fun vs H Q _ => ∃ (x dx la lf lg : Addr) (ps : List AR) (M : AM), vs = [.ref x, .int M.n, .str (Sx M.ls), .ref la, .ref lf, .ref lg] ∧ H x = some (.ins C dx []) ∧ SqA K H la (rfs ps) ∧ RowAt K H ps ∧ ps.map (·.2) = M.as ∧ SqA K H lf (M.fs.map V.int) ∧ SqA K H lg (M.gs.map V.int) ∧ M.ok ∧
  ∀ H', Keep x H H' → MachAt K C H' x M.srt → Q .non H'
theorem mlen {f : Str} {v : V} {fs : List (Str × V)} {k : Nat} (h : fs.length ≤ k) : (putF f v fs).length ≤ k + 1 := Nat.le_trans (putF_len f v fs) (Nat.succ_le_succ h)
theorem letB_len {xs : List Nat} (h : letB xs = true) : xs.length ≤ 3 := by
  unfold letB at h
  simp only [Bool.and_eq_true, decide_eq_true_eq] at h
  exact h.2.2.2
theorem ok_minit {f C fAl fIl fIa fNa fNr fSb tD : Addr} {fd fdAl fdIl fdIa fdNa fdNr fdSb : FuncData} {k : Nat} {dvs : List V} {kws : List (Str × V)} (F : FunD K "__init__" "Machine.__init__" (defArgs sMInit) (defBody sMInit) (defScope sMInit) dvs kws f fd)
    (Al : FnM K mg fAl fdAl "are_letters" sAreL ["text"]) (Il : FnM K mg fIl fdIl "is_letter" sIsL ["text", "letters"]) (Ia : FnM K mg fIa fdIa "is_arrow" sIsA ["arrow", "rooms", "letters"]) (Na : FnM K mg fNa fdNa "need_arrows" sNeedA ["arrows", "rooms", "letters"]) (Nr : FnM K mg fNr fdNr "need_rooms" sNeedR ["some", "rooms"]) (Sb : FnM K mg fSb fdSb "steps_by_start" sStepsB ["arrows"])
    (B : Bl1 mg) (B2 : Bl2 mg) (Cs : CsM K mg tD) (T : ClsM K C) : FnOk P w K mg base CX0 (k + 4) f fd psMI (spMInit K C) := by
  have GAl : FnOk P w K mg base CX0 (k + 3) fAl fdAl ["text"] spAreL := ok_areL Al.F B Cs
  have GNa : FnOk P w K mg base CX0 (k + 3) fNa fdNa ["arrows", "rooms", "letters"] (spNeedA K) := ok_needA Na.F Ia Il B Cs
  have GNr : FnOk P w K mg base CX0 (k + 3) fNr fdNr ["some", "rooms"] (spNeedR K) := ok_needR Nr.F B
  have GSb : FnOk P w K mg base CX0 (k + 3) fSb fdSb ["arrows"] (spStepsB K) := ok_stepsB Sb.F
  obtain ⟨t1, gR⟩ := Cs.rooms
  refine F.ok scMInit (fun vs H Q E h => ?_) (fun cdv A outer s H vs Q E hr h => ?_)
  · obtain ⟨x, dx, la, lf, lg, ps, M, rfl, _⟩ := h
    rfl
  · obtain ⟨x, dx, la, lf, lg, ps, M, rfl, hx, hla, hR, eas, hlf, hlg, ok, q⟩ := h
    obtain ⟨o1, o2, o3, o4, o5, o6, o7, o8, o9, o10, o11, o12⟩ := ok
    have hu : (cxOf CX0 P w K mg base psMI "Machine.__init__" (defScope sMInit) f cdv A outer s H E).A.units + 64 < cLine := hr.units
    refine ⟨_, pss_cons (ps_if (pt_not (pt_chain op_le op_le pe_int (pv 1) (pe_glob (v := .int 8) rfl gR ⟨_, rfl⟩))) pss_never pss_nil)
      (pss_cons (ps_if (pt_not (pt_val (pe_call GAl hr (by rfl) Al.g Al.F.kp Al.b .nil pass0 (pa_cons (pv 2) pa_nil)))) pss_never pss_nil)
      (pss_cons (ps_expr (pe_call GNa hr (by rfl) Na.g Na.F.kp Na.b .nil pass0 (pa_cons (pv 3) (pa_cons (pv 1) (pa_cons (pv 2) pa_nil)))))
      (pss_cons (ps_expr (pe_call GNr hr (by rfl) Nr.g Nr.F.kp Nr.b .nil pass0 (pa_cons (pv 4) (pa_cons (pv 1) pa_nil))))
      (pss_cons (ps_expr (pe_call GNr hr (by rfl) Nr.g Nr.F.kp Nr.b .nil pass0 (pa_cons (pv 5) (pa_cons (pv 1) pa_nil))))
      (pss_cons (ps_fld (pv 0) (pv 1) rfl)
      (pss_cons (ps_fld (pv 0) (pv 2) rfl)
      (pss_cons (ps_fld (pv 0) (pe_callTy call_tuple_of (by rfl) B2.tuple (by decide +kernel) (pa_cons (pe_callB (cr_sortD hu) (by rfl) B2.sorted (by decide +kernel) (pa_cons (pv 3) pa_nil)) pa_nil)) rfl)
      (pss_cons (ps_fld (pv 0) (pe_callTy call_tuple_of (by rfl) B2.tuple (by decide +kernel) (pa_cons (pe_callB (cr_sortD hu) (by rfl) B2.sorted (by decide +kernel) (pa_cons (pv 4) pa_nil)) pa_nil)) rfl)
      (pss_cons (ps_fld (pv 0) (pe_callTy call_tuple_of (by rfl) B2.tuple (by decide +kernel) (pa_cons (pe_callB (cr_sortD hu) (by rfl) B2.sorted (by decide +kernel) (pa_cons (pv 5) pa_nil)) pa_nil)) rfl)
      (pss_one (ps_fld (pv 0) (pe_call GSb hr (by rfl) Sb.g Sb.F.kp Sb.b .nil pass0 (pa_cons (pe_fld (pv 0) rfl) pa_nil)) rfl))))))))))), ?_⟩
    refine ⟨_, rfl, _, _, rfl, rfl, _, rfl, itT o1 ⟨_, _, rfl, rfl, _, rfl, ?_⟩⟩
    rw [decide_eq_true o2]
    refine iteF ⟨_, rfl, M.ls, rfl, by have := letB_len o3; omega, fun H1 s1 => ⟨_, rfl, ?_⟩⟩
    rw [o3]
    have oa : ∀ p ∈ ps, arrB M.n M.ls p.2 = true := fun p hp => o4 p.2 (by rw [← eas]; exact List.mem_map_of_mem hp)
    have on : (ps.map (·.2)).Nodup := by rw [eas]; exact o5
    have ol : ps.length ≤ 40 := by
      have := congrArg List.length eas
      rw [List.length_map] at this
      omega
    refine iteF ⟨_, rfl, _, rfl, _, rfl, la, ps, M.n, M.ls, rfl, sqA_same s1 hla, hR.same s1, oa, on, ol, fun H2 s2 => ?_⟩
    refine ⟨_, rfl, _, rfl, lf, M.fs, M.n, rfl, sqA_same (s1.trans s2) hlf, o7, o8, o11, fun H3 s3 => ?_⟩
    refine ⟨_, rfl, _, rfl, lg, M.gs, M.n, rfl, sqA_same (s1.trans (s2.trans s3)) hlg, o9, o10, o12, fun H4 s4 => ?_⟩
    have s14 : Same H H4 := s1.trans (s2.trans (s3.trans s4))
    have hx4 := s14 _ _ hx
    -- rooms, letters
    refine ⟨_, rfl, _, rfl, x, C, dx, _, rfl, hx4, T.cl, T.n1, (by decide : 0 < 1000), ?_⟩
    refine ⟨_, rfl, _, rfl, x, C, dx, _, rfl, upd_same, T.cl, T.n2, Nat.lt_of_le_of_lt (mlen (Nat.le_refl 0)) (by decide), ?_⟩
    have k6 : Keep x H4 (upd (upd H4 x (.ins C dx (putF "room_count" (.int M.n) []))) x (.ins C dx (putF "letter_text" (.str (Sx M.ls)) (putF "room_count" (.int M.n) [])))) := Keep.upd.trans Keep.upd
    have hx6 : (upd (upd H4 x (.ins C dx (putF "room_count" (.int M.n) []))) x (.ins C dx (putF "letter_text" (.str (Sx M.ls)) (putF "room_count" (.int M.n) [])))) x = some (.ins C dx (putF "letter_text" (.str (Sx M.ls)) (putF "room_count" (.int M.n) []))) := upd_same
    generalize upd (upd H4 x (.ins C dx (putF "room_count" (.int M.n) []))) x (.ins C dx (putF "letter_text" (.str (Sx M.ls)) (putF "room_count" (.int M.n) []))) = H6 at k6 hx6
    have kx6 : Keep x H H6 := (Keep.of s14).trans k6
    -- arrows
    refine ⟨_, rfl, la, ps.map vdA, rfl, ?_, ?_, al_A ps, so_A ps, dep_A ps, fun p1 np1 => ?_⟩
    · rw [vdA_fst]
      exact keepI_A hx kx6 hla
    · intro p hp
      obtain ⟨a, ha, rfl⟩ := List.mem_map.mp hp
      exact dp_arw (keepI_T hx kx6 (hR a ha))
    rw [srtD_A, vdA_fst]
    refine ⟨p1, _, rfl, .inl ⟨SqL.of upd_same, fun ta nta => ?_⟩⟩
    have e7 := (same_upd (o := .lst (rfs (srtR ps))) np1).trans (same_upd (o := .tup (rfs (srtR ps))) nta)
    have hta : (upd (upd H6 p1 (.lst (rfs (srtR ps)))) ta (.tup (rfs (srtR ps)))) ta = some (.tup (rfs (srtR ps))) := upd_same
    generalize upd (upd H6 p1 (.lst (rfs (srtR ps)))) ta (.tup (rfs (srtR ps))) = H7 at e7 hta
    have hx7 := e7 _ _ hx6
    have kx7 : Keep x H H7 := kx6.trans (Keep.of e7)
    have nta : ta ≠ x := ne_of hta hx7 (fun z => nomatch z)
    refine ⟨_, rfl, x, C, dx, _, rfl, hx7, T.cl, T.n3, Nat.lt_of_le_of_lt (mlen (mlen (Nat.le_refl 0))) (by decide), ?_⟩
    have k8 : Keep x H7 (upd H7 x (.ins C dx (putF "arrow_row" (.ref ta) (putF "letter_text" (.str (Sx M.ls)) (putF "room_count" (.int M.n) []))))) := Keep.upd
    have hx8 : (upd H7 x (.ins C dx (putF "arrow_row" (.ref ta) (putF "letter_text" (.str (Sx M.ls)) (putF "room_count" (.int M.n) []))))) x = some (.ins C dx (putF "arrow_row" (.ref ta) (putF "letter_text" (.str (Sx M.ls)) (putF "room_count" (.int M.n) [])))) := upd_same
    generalize upd H7 x (.ins C dx (putF "arrow_row" (.ref ta) (putF "letter_text" (.str (Sx M.ls)) (putF "room_count" (.int M.n) [])))) = H8 at k8 hx8
    have kx8 : Keep x H H8 := kx7.trans k8
    have hta8 := k8 _ _ nta hta
    -- firsts
    refine ⟨_, rfl, lf, M.fs.map vdI, rfl, ?_, ?_, al_I _, so_I _, dep_I _, fun p2 np2 => ?_⟩
    · rw [vdI_fst]
      exact keepI_A hx kx8 hlf
    · intro p hp
      obtain ⟨a, ha, rfl⟩ := List.mem_map.mp hp
      exact .int a
    rw [srtD_I, vdI_fst]
    refine ⟨p2, _, rfl, .inl ⟨SqL.of upd_same, fun tf ntf => ?_⟩⟩
    have e9 := (same_upd (o := .lst ((sortI M.fs).map V.int)) np2).trans (same_upd (o := .tup ((sortI M.fs).map V.int)) ntf)
    have htf : (upd (upd H8 p2 (.lst ((sortI M.fs).map V.int))) tf (.tup ((sortI M.fs).map V.int))) tf = some (.tup ((sortI M.fs).map V.int)) := upd_same
    generalize upd (upd H8 p2 (.lst ((sortI M.fs).map V.int))) tf (.tup ((sortI M.fs).map V.int)) = H9 at e9 htf
    have hx9 := e9 _ _ hx8
    have kx9 : Keep x H H9 := kx8.trans (Keep.of e9)
    have ntf : tf ≠ x := ne_of htf hx9 (fun z => nomatch z)
    refine ⟨_, rfl, x, C, dx, _, rfl, hx9, T.cl, T.n4, Nat.lt_of_le_of_lt (mlen (mlen (mlen (Nat.le_refl 0)))) (by decide), ?_⟩
    have k10 : Keep x H9 (upd H9 x (.ins C dx (putF "first_row" (.ref tf) (putF "arrow_row" (.ref ta) (putF "letter_text" (.str (Sx M.ls)) (putF "room_count" (.int M.n) [])))))) := Keep.upd
    have hx10 : (upd H9 x (.ins C dx (putF "first_row" (.ref tf) (putF "arrow_row" (.ref ta) (putF "letter_text" (.str (Sx M.ls)) (putF "room_count" (.int M.n) [])))))) x = some (.ins C dx (putF "first_row" (.ref tf) (putF "arrow_row" (.ref ta) (putF "letter_text" (.str (Sx M.ls)) (putF "room_count" (.int M.n) []))))) := upd_same
    generalize upd H9 x (.ins C dx (putF "first_row" (.ref tf) (putF "arrow_row" (.ref ta) (putF "letter_text" (.str (Sx M.ls)) (putF "room_count" (.int M.n) []))))) = H10 at k10 hx10
    have kx10 : Keep x H H10 := kx9.trans k10
    have hta10 := k10 _ _ nta (e9 _ _ hta8)
    have htf10 := k10 _ _ ntf htf
    -- lasts
    refine ⟨_, rfl, lg, M.gs.map vdI, rfl, ?_, ?_, al_I _, so_I _, dep_I _, fun p3 np3 => ?_⟩
    · rw [vdI_fst]
      exact keepI_A hx kx10 hlg
    · intro p hp
      obtain ⟨a, ha, rfl⟩ := List.mem_map.mp hp
      exact .int a
    rw [srtD_I, vdI_fst]
    refine ⟨p3, _, rfl, .inl ⟨SqL.of upd_same, fun tg ntg => ?_⟩⟩
    have e11 := (same_upd (o := .lst ((sortI M.gs).map V.int)) np3).trans (same_upd (o := .tup ((sortI M.gs).map V.int)) ntg)
    have htg : (upd (upd H10 p3 (.lst ((sortI M.gs).map V.int))) tg (.tup ((sortI M.gs).map V.int))) tg = some (.tup ((sortI M.gs).map V.int)) := upd_same
    generalize upd (upd H10 p3 (.lst ((sortI M.gs).map V.int))) tg (.tup ((sortI M.gs).map V.int)) = H11 at e11 htg
    have hx11 := e11 _ _ hx10
    have kx11 : Keep x H H11 := kx10.trans (Keep.of e11)
    have ntg : tg ≠ x := ne_of htg hx11 (fun z => nomatch z)
    refine ⟨_, rfl, x, C, dx, _, rfl, hx11, T.cl, T.n5, Nat.lt_of_le_of_lt (mlen (mlen (mlen (mlen (Nat.le_refl 0))))) (by decide), ?_⟩
    have k12 : Keep x H11 (upd H11 x (.ins C dx (putF "last_row" (.ref tg) (putF "first_row" (.ref tf) (putF "arrow_row" (.ref ta) (putF "letter_text" (.str (Sx M.ls)) (putF "room_count" (.int M.n) []))))))) := Keep.upd
    have hx12 : (upd H11 x (.ins C dx (putF "last_row" (.ref tg) (putF "first_row" (.ref tf) (putF "arrow_row" (.ref ta) (putF "letter_text" (.str (Sx M.ls)) (putF "room_count" (.int M.n) []))))))) x = some (.ins C dx (putF "last_row" (.ref tg) (putF "first_row" (.ref tf) (putF "arrow_row" (.ref ta) (putF "letter_text" (.str (Sx M.ls)) (putF "room_count" (.int M.n) [])))))) := upd_same
    generalize upd H11 x (.ins C dx (putF "last_row" (.ref tg) (putF "first_row" (.ref tf) (putF "arrow_row" (.ref ta) (putF "letter_text" (.str (Sx M.ls)) (putF "room_count" (.int M.n) [])))))) = H12 at k12 hx12
    have kx12 : Keep x H H12 := kx11.trans k12
    have hta12 := k12 _ _ nta (e11 _ _ hta10)
    have htf12 := k12 _ _ ntf (e11 _ _ htf10)
    have htg12 := k12 _ _ ntg htg
    have hR12 : RowAt K H12 (srtR ps) := fun p hp => keepI_T hx kx12 (hR p (srtR_mem.mp hp))
    -- the steps
    have lk : (putF "last_row" (.ref tg) (putF "first_row" (.ref tf) (putF "arrow_row" (.ref ta) (putF "letter_text" (.str (Sx M.ls)) (putF "room_count" (.int M.n) []))))).lookup ("arrow_row" : Str) = some (V.ref ta) := by
      rw [lookup_putF, if_neg (by decide +kernel), lookup_putF, if_neg (by decide +kernel), lookup_putF, if_pos rfl]
    refine ⟨_, rfl, x, C, dx, _, _, rfl, hx12, T.cl, T.n3, lk, ta, srtR ps, rfl, SqT.of hta12, hR12, by rw [srtR_len]; omega, fun D H13 nD s13 S13 => ?_⟩
    have hx13 := s13 _ _ hx12
    refine ⟨_, rfl, x, C, dx, _, rfl, hx13, T.cl, T.n6, Nat.lt_of_le_of_lt (mlen (mlen (mlen (mlen (mlen (Nat.le_refl 0)))))) (by decide), q _ (kx12.trans ((Keep.of s13).trans Keep.upd)) ?_⟩
    have S14 := S13.rd
    have hk : ∀ b o, b ≠ x → H13 b = some o → (upd H13 x (.ins C dx (mfl M.n M.ls ta tf tg D))) b = some o := fun b o n e => by rw [upd_ne n]; exact e
    refine ⟨dx, ta, tf, tg, D, srtR ps, upd_same, hk _ _ nta (s13 _ _ hta12), fun p hp => ?_, ?_, hk _ _ ntf (s13 _ _ htf12), hk _ _ ntg (s13 _ _ htg12), ?_⟩
    · exact keepI_T hx13 Keep.upd (same_seqT s13 (hR12 p hp))
    · rw [srtR_as, eas]
      rfl
    · rw [srtR_as, eas] at S14
      obtain ⟨kvs, h1, h2, h3⟩ := S14
      refine ⟨kvs, hk _ _ (ne_of h1 hx13 (fun z => nomatch z)) h1, h2, fun r l h => ?_⟩
      obtain ⟨a, xs, ea, x1, x2, x3⟩ := h3 r l h
      exact ⟨a, xs, ea, hk _ _ (ne_of x1 hx13 (fun z => nomatch z)) x1, fun y hy => hk _ _ (ne_of (x2 y hy) hx13 (fun z => nomatch z)) (x2 y hy), x3⟩
end
end Onp
set_option maxHeartbeats 8000000
set_option autoImplicit false
namespace Onp
open PySem PySem.Spec PyProof.Rows L2
abbrev sDeed : Stmt := topS 48
abbrev sLett : Stmt := topS 49
abbrev sRooms : Stmt := topS 50
abbrev sArrow : Stmt := topS 51
abbrev sDrawn : Stmt := topS 52
theorem join_signs : ∀ cs : List Nat, Str.join (Sx []) (cs.map fun c => Sx [c]) = Sx cs
  | [] => rfl
  | [c] => rfl
  | c :: d :: r => by
    show Sx [c] ++ Sx [] ++ Str.join (Sx []) ((d :: r).map fun c => Sx [c]) = _
    rw [join_signs (d :: r), sx_app, sx_app]
    rfl
theorem sum_ones : ∀ cs : List Nat, ((cs.map fun c => Sx [c]).map (·.length)).sum = cs.length
  | [] => rfl
  | c :: r => by
    have h := sum_ones r
    rw [List.map_cons, List.map_cons, List.sum_cons, h, List.length_cons, sx_len]
    simp only [List.length_cons, List.length_nil]
    omega
theorem signs_map (cs : List Nat) : signsV cs = (cs.map fun c => Sx [c]).map V.str := by
  unfold signsV
  rw [List.map_map]
  rfl

section
variable {P : Program} {w : World} {K : PySem.W.Frag} {mg : Str → Option Value} {base : Heap}
/-! ### one sign of a text -/
def spOfS : Sp := fun vs H Q _ => ∃ (g : Bid) (ls : List Nat), vs = [.ref g.b, .str (Sx ls)] ∧ Bg H g ∧ 0 < ls.length ∧ ls.length < 1000 ∧ ∀ c H', c ∈ ls → Keep g.b H H' → Bg H' g → Q (.str (Sx [c])) H'
theorem ok_ofS {f fP : Addr} {fd fdP : FuncData} {k : Nat} (F : Fun K "_law_of" "_law_of" sOf f fd) (FP : Fun K "_law_pull" "_law_pull" sPull fP fdP) (bP : Binds K fdP ["_law_bag_here", "_law_many"] []) (gP : mg "_law_pull" = some (.ref fP)) (ml : mg "len" = none) : FnOk P w K mg base CX0 (k + 2) f fd ["_law_bag_here", "_law_some"] spOfS := by
  have GP : FnOk P w K mg base CX0 (k + 1) fP fdP ["_law_bag_here", "_law_many"] (spPull K) := ok_pull FP ml
  refine F.ok scOf (fun vs H Q E h => ?_) (fun cdv A outer s H vs Q E hr h => ?_)
  · obtain ⟨g, ls, rfl, _⟩ := h
    rfl
  · obtain ⟨b, ls, rfl, B, h0, hlen, q⟩ := h
    refine ⟨_, pss_one (ps_ret (pe_ix ix_str (pv 1) (pe_call GP hr (by rfl) gP FP.kp bP .nil pass0 (pa_cons (pv 0) (pa_cons (pe_callB call_len_str (by rfl) ml PySem.boot_len (pa_cons (pv 1) pa_nil)) pa_nil))) (fun _ _ => rfl))), ?_⟩
    have hz : (Sx ls).length ≤ sizeLine := by
      rw [sx_len]
      exact Nat.le_trans (Nat.le_of_lt hlen) (by decide)
    refine ⟨_, rfl, _, rfl, _, rfl, Sx ls, rfl, hz, b, _, rfl, ?_, ?_, B, fun z H' z0 z1 kp B' => ?_⟩
    · rw [sx_len]
      omega
    · rw [sx_len]
      exact Nat.lt_trans (show ((ls.length : Nat) : Int).natAbs < 2 ^ 64 by omega) (by decide)
    · rw [sx_len] at z1
      have e : z = ((z.toNat : Nat) : Int) := by omega
      have hz1 : z.toNat < ls.length := by omega
      rw [e]
      refine ⟨Sx ls, z.toNat, ls[z.toNat], rfl, rfl, hz, ?_, q _ _ (List.getElem_mem hz1) kp B'⟩
      rw [sx_cps]
      exact atI_nat (List.getElem?_eq_getElem hz1)

/-! ### _law_deed -/
def tenD : List Str := ["keep", "cent", "fill", "coin", "brim", "keep", "cent", "cent", "coin", "fill"]
theorem tenD_in : ∀ d ∈ tenD, d ∈ deedsL := by decide +kernel
theorem scDeed : FnScope ["_law_bag_here"] ["_law_bag_here"] (defScope sDeed) := ⟨rfl, rfl, rfl, by decide +kernel, rfl, by decide +kernel, by decide +kernel⟩
def spDeed : Sp := fun vs H Q _ => ∃ g : Bid, vs = [.ref g.b] ∧ Bg H g ∧ ∀ d H', d ∈ deedsL → Keep g.b H H' → Bg H' g → Q (.str d) H'
theorem ok_deed {f fO fP : Addr} {fd fdO fdP : FuncData} {k : Nat} (F : Fun K "_law_deed" "_law_deed" sDeed f fd) (O : FnM K mg fO fdO "_law_of" sOf ["_law_bag_here", "_law_some"]) (Pu : FnM K mg fP fdP "_law_pull" sPull ["_law_bag_here", "_law_many"]) (ml : mg "len" = none) : FnOk P w K mg base CX0 (k + 3) f fd ["_law_bag_here"] spDeed := by
  have GO : FnOk P w K mg base CX0 (k + 2) fO fdO ["_law_bag_here", "_law_some"] (spOf K) := ok_of O.F Pu.F Pu.b Pu.g ml
  refine F.ok scDeed (fun vs H Q E h => ?_) (fun cdv A outer s H vs Q E hr h => ?_)
  · obtain ⟨g, rfl, _⟩ := h
    rfl
  · obtain ⟨g, rfl, B, q⟩ := h
    refine ⟨_, pss_one (ps_ret (pe_call GO hr (by rfl) O.g O.F.kp O.b .nil pass0 (pa_cons (pv 0) (pa_cons (pe_lst (pa_cons pe_str (pa_cons pe_str (pa_cons pe_str (pa_cons pe_str (pa_cons pe_str (pa_cons pe_str (pa_cons pe_str (pa_cons pe_str (pa_cons pe_str (pa_cons pe_str pa_nil))))))))))) pa_nil)))), ?_⟩
    refine ⟨_, rfl, (by decide : 10 ≤ sizeLine), fun p np => ?_⟩
    have s1 := same_upd (o := .lst (tenD.map V.str)) np
    refine ⟨g, p, tenD.map V.str, rfl, B.same s1, B.ne np, SqL.of upd_same, by decide, by decide, fun v H' hv k' B' => ?_⟩
    obtain ⟨d, hd, rfl⟩ := List.mem_map.mp hv
    exact q d H' (tenD_in d hd) ((Keep.of s1).trans k') B'
/-! ### _law_letters -/
def NLe : List Str := ["_law_bag_here", "_law_most", "_law_alphabet", "_law_first", "_law_by", "_law_k"]
theorem scLett : FnScope NLe ["_law_bag_here", "_law_most"] (defScope sLett) := ⟨rfl, rfl, rfl, by decide +kernel, rfl, by decide +kernel, by decide +kernel⟩
def spLett : Sp := fun vs H Q _ => ∃ (g : Bid) (m : Int), vs = [.ref g.b, .int m] ∧ 1 ≤ m ∧ m ≤ 3 ∧ Bg H g ∧ ∀ (ls : List Nat) H', letB ls = true → (ls.length : Int) ≤ m → (∀ c ∈ ls.take 2, c < 122) → Keep g.b H H' → Bg H' g → Q (.str (Sx ls)) H'
def lrow (x y n : Nat) : List Nat := (List.range n).map fun k => 97 + x + y * k
theorem small_code : ∀ j : Fin 26, smallL[j.val]? = some (97 + j.val) := by decide
theorem small_mem : ∀ j : Fin 26, 97 + j.val ∈ smallL := by decide
theorem lrow_ok {x y n : Nat} (hx : x < 20) (hy1 : 1 ≤ y) (hy : y ≤ 3) (h1 : 1 ≤ n) (h3 : n ≤ 3) : letB (lrow x y n) = true := by
  have hs : ∀ k, k < 3 → decide (97 + x + y * k ∈ smallL) = true := fun k hk => by
    have hyk : y * k ≤ 3 * 2 := Nat.mul_le_mul hy (by omega)
    have := small_mem ⟨x + y * k, by omega⟩
    exact decide_eq_true (by rw [Nat.add_assoc]; exact this)
  have e0 := hs 0 (by decide)
  have e1 := hs 1 (by decide)
  have e2 := hs 2 (by decide)
  have r1 : decide (97 + x + y * 0 < 97 + x + y * 1) = true := decide_eq_true (by omega)
  have r2 : decide (97 + x + y * 1 < 97 + x + y * 2) = true := decide_eq_true (by omega)
  have h : n = 1 ∨ n = 2 ∨ n = 3 := by omega
  unfold letB risB smaB
  rcases h with rfl | rfl | rfl
  · show (true && ((decide (97 + x + y * 0 ∈ smallL) && true) && _)) = true
    rw [e0]
    rfl
  · show ((decide (97 + x + y * 0 < 97 + x + y * 1) && true) && ((decide (97 + x + y * 0 ∈ smallL) && (decide (97 + x + y * 1 ∈ smallL) && true)) && _)) = true
    rw [r1, e0, e1]
    rfl
  · show ((decide (97 + x + y * 0 < 97 + x + y * 1) && (decide (97 + x + y * 1 < 97 + x + y * 2) && true)) && ((decide (97 + x + y * 0 ∈ smallL) && (decide (97 + x + y * 1 ∈ smallL) && (decide (97 + x + y * 2 ∈ smallL) && true))) && _)) = true
    rw [r1, r2, e0, e1, e2]
    rfl
theorem lrow_low {x y n : Nat} (hx : x < 20) (hy : y ≤ 3) : ∀ c ∈ (lrow x y n).take 2, c < 122 := by
  intro c hc
  unfold lrow at hc
  rw [← List.map_take] at hc
  obtain ⟨k, hk, rfl⟩ := List.mem_map.mp hc
  rw [List.take_range] at hk
  have hk2 : k < 2 := by
    have := List.mem_range.mp hk
    omega
  have : y * k ≤ 3 * 1 := Nat.mul_le_mul hy (by omega)
  show 97 + x + y * k < 122
  omega
theorem ok_lett {f fP : Addr} {fd fdP : FuncData} {k : Nat} (F : Fun K "_law_letters" "_law_letters" sLett f fd) (Pu : FnM K mg fP fdP "_law_pull" sPull ["_law_bag_here", "_law_many"]) (ml : mg "len" = none) (mr : mg "range" = none) : FnOk P w K mg base CX0 (k + 2) f fd ["_law_bag_here", "_law_most"] spLett := by
  have GP : FnOk P w K mg base CX0 (k + 1) fP fdP ["_law_bag_here", "_law_many"] (spPull K) := ok_pull Pu.F ml
  refine F.ok scLett (fun vs H Q E h => ?_) (fun cdv A outer s H vs Q E hr h => ?_)
  · obtain ⟨g, m, rfl, _⟩ := h
    rfl
  · obtain ⟨g, m, rfl, m1, m2, B, q⟩ := h
    refine ⟨_, pss_cons (ps_set (i := 2) scLett.nd rfl (.inr rfl) pe_str)
      (pss_cons (ps_asg (pe_tup (pa_cons (pe_call GP hr (by rfl) Pu.g Pu.F.kp Pu.b .nil pass0 (pa_cons (pv 0) (pa_cons pe_int pa_nil))) (pa_cons (pe_op op_add pe_int (pe_call GP hr (by rfl) Pu.g Pu.F.kp Pu.b .nil pass0 (pa_cons (pv 0) (pa_cons pe_int pa_nil)))) pa_nil))) (pg_tup rfl (pgs_cons (pg_name (i := 3) scLett.nd rfl (.inr rfl)) (pgs_cons (pg_name (i := 4) scLett.nd rfl (.inr rfl)) pgs_nil))))
      (pss_one (ps_ret (pe_join pe_str (pe_lc (own := [("_law_k", 5)]) (g := gName 5) (tt := tYes) (te := tOp rIxS (tVar 2) (tOp (rI0 fun i j => .int (i + j)) (tVar 3) (tOp (rI CMul fun i j => .int (i * j)) (tVar 4) (tVar 5)))) rfl scLett.nd
        (pi_range1 (by rfl) mr (pa_cons (pe_op op_add pe_int (pe_call GP hr (by rfl) Pu.g Pu.F.kp Pu.b .nil pass0 (pa_cons (pv 0) (pa_cons (pv 1) pa_nil)))) pa_nil)) (blkOk_by (own := [("_law_k", 5)]) (N := NLe) (sc := defScope sLett) (by decide +kernel))
        (fun _ _ _ _ _ => pg_name (i := 5) scLett.nd rfl (Or.inl rfl)) (fun _ _ _ _ _ => pts_nil) (fun _ _ _ _ _ => pe_ix ix_str (pv 2) (pe_op op_add (pv 3) (pe_op op_mul (pv 4) (pv 5))) (fun _ _ => rfl))))))), ?_⟩
    refine ⟨_, rfl, g, 20, rfl, by decide, by decide, B, fun x H1 x0 x1 k1 B1 => ?_⟩
    refine ⟨_, rfl, g, 3, rfl, by decide, by decide, B1, fun y H2 y0 y1 k2 B2 => ?_⟩
    refine ⟨_, _, rfl, rfl, (by decide : 2 ≤ sizeLine), fun p np => ?_⟩
    have s3 := same_upd (o := .tup [.int x, .int (1 + y)]) np
    refine ⟨p, _, rfl, SqT.of upd_same, rfl, _, _, rfl, _, _, rfl, rfl, ?_⟩
    have B3 := B2.same s3
    generalize upd H2 p (.tup [.int x, .int (1 + y)]) = H3 at s3 B3
    refine ⟨⟨_, rfl⟩, _, rfl, _, rfl, g, m, rfl, by omega, Nat.lt_trans (show m.natAbs < 2 ^ 64 by omega) (by decide), B3, fun z H4 z0 z1 k4 B4 => ?_⟩
    obtain ⟨xn, rfl⟩ : ∃ xn : Nat, x = (xn : Int) := ⟨x.toNat, by omega⟩
    obtain ⟨yn, ey⟩ : ∃ yn : Nat, 1 + y = (yn : Int) := ⟨(1 + y).toNat, by omega⟩
    obtain ⟨zn, ez⟩ : ∃ zn : Nat, 1 + z = (zn : Int) := ⟨(1 + z).toNat, by omega⟩
    refine ⟨_, _, rfl, rfl, 1 + z, rfl, by omega, by omega, fun D nD => ?_⟩
    rw [show (1 + z).toNat = zn by omega]
    refine lc_range (lo := 0) (n := zn) (fun i H' => H' D = some (.lst (signsV (lrow xn yn i))) ∧ Same H4 H') ⟨upd_same, same_upd nD⟩ (fun j H' hj ⟨hD, sm⟩ => ?_) (fun H5 ⟨hD, sm⟩ => ?_)
    · refine ⟨rfl, ?_⟩
      unfold tYes
      dsimp only
      rw [if_pos rfl]
      have hyj : yn * j ≤ 3 * 2 := Nat.mul_le_mul (by omega) (by omega)
      have eix : (xn : Int) + (1 + y) * (0 + (j : Int)) = ((xn + yn * j : Nat) : Int) := by
        rw [ey, Int.zero_add, ← Int.natCast_mul, ← Int.natCast_add]
      have hc := small_code ⟨xn + yn * j, by omega⟩
      refine ⟨_, rfl, _, rfl, _, rfl, _, rfl, _, _, rfl, rfl, .inl ⟨by omega, by omega⟩, _, _, rfl, rfl, Sx smallL, ((xn + yn * j : Nat) : Int), 97 + (xn + yn * j), by rw [small_eq], congrArg V.int eix, ?_, ?_, ?_⟩
      · rw [sx_len]
        decide
      · rw [sx_cps]
        exact atI_nat hc
      · refine ⟨_, hD, ?_, ?_, fun b o hb => ?_⟩
        · unfold signsV lrow
          rw [List.length_map, List.length_map, List.length_range]
          exact small1000 (by omega)
        · rw [upd_same]
          unfold signsV lrow
          rw [List.range_succ, List.map_append, List.map_append, ← Nat.add_assoc]
          rfl
        · rw [upd_ne (ne_of_none hb nD)]
          exact sm b o hb
    · have hll : (lrow xn yn zn).length = zn := by
        unfold lrow
        rw [List.length_map, List.length_range]
      refine ⟨Sx [], D, (lrow xn yn zn).map fun c => Sx [c], by rw [em_eq], rfl, .inl (SqL.of (by rw [hD, signs_map])), ?_, ?_⟩
      · rw [sum_ones, sx_len, List.length_nil, Nat.mul_zero, hll]
        omega
      · rw [TL.join_eq, join_signs]
        refine q _ H5 (lrow_ok (by omega) (by omega) (by omega) (by omega) (by omega)) (by rw [hll]; omega) (lrow_low (by omega) (by omega)) ?_ (B4.same sm)
        exact ((k1.trans k2).trans (Keep.of s3)).trans (k4.trans (Keep.of sm))
end
end Onp
set_option maxHeartbeats 4000000
set_option autoImplicit false
namespace Onp
open PySem PySem.Spec PyProof.Rows L2
/-! ### == of arrows and of rows of them -/
theorem eqv_adat (a b : Arw) : PyData.eqv (adat a) (adat b) = decide (a = b) := by
  obtain ⟨a1, a2, a3, a4⟩ := a
  obtain ⟨b1, b2, b3, b4⟩ := b
  simp only [adat, PyData.eqv, PyData.eqvAll]
  rw [Bool.eq_iff_iff, decide_eq_true_eq]
  simp only [Bool.and_eq_true, beq_iff_eq, Prod.mk.injEq, and_true]
theorem any_adat (as : List Arw) (a : Arw) : ((as.map adat).any fun z => PyData.eqv z (adat a)) = decide (a ∈ as) := by
  rw [Bool.eq_iff_iff, List.any_eq_true, decide_eq_true_eq]
  constructor
  · rintro ⟨d, hd, e⟩
    obtain ⟨b, hb, rfl⟩ := List.mem_map.mp hd
    rw [eqv_adat, decide_eq_true_eq] at e
    rw [← e]
    exact hb
  · intro h
    exact ⟨adat a, List.mem_map_of_mem h, by rw [eqv_adat]; exact decide_eq_true rfl⟩
/-- texts of the kind that arrows bear -/
def okS (a : Arw) : Prop := PyData.strOk a.2.1 = true ∧ PyData.strOk a.2.2.1 = true
theorem small_strOk : ∀ c ∈ smallL, PyData.strOk (Sx [c]) = true := by decide +kernel
theorem deeds_strOk : ∀ d ∈ deedsL, PyData.strOk d = true := by decide +kernel
theorem letB_small {ls : List Nat} (h : letB ls = true) : ∀ c ∈ ls, c ∈ smallL := fun c hc => by
  unfold letB smaB at h
  simp only [Bool.and_eq_true] at h
  exact of_decide_eq_true (List.all_eq_true.mp h.2.1 c hc)
theorem arrB_okS {n : Int} {ls : List Nat} {a : Arw} (hl : letB ls = true) (h : arrB n ls a = true) : okS a := by
  unfold arrB at h
  simp only [Bool.and_eq_true] at h
  obtain ⟨c, hc, e⟩ := List.any_eq_true.mp h.1.2
  refine ⟨?_, deeds_strOk _ (of_decide_eq_true h.2)⟩
  rw [of_decide_eq_true e]
  exact small_strOk c (letB_small hl c hc)
theorem lay_adat {a : Arw} (h : okS a) : (adat a).canLay0 = true := by
  unfold adat
  simp only [PyData.canLay0, PyData.canLayAll0, h.1, h.2, Bool.and_true]
theorem lay_row : ∀ {as : List Arw}, (∀ a ∈ as, okS a) → PyData.canLayAll0 (as.map adat) = true
  | [], _ => rfl
  | a :: r, h => by
    show (PyData.canLay0 (adat a) && PyData.canLayAll0 (r.map adat)) = true
    rw [lay_adat (h a List.mem_cons_self), lay_row fun b hb => h b (List.mem_cons_of_mem _ hb)]
    rfl
theorem dep_adat (a : Arw) : (adat a).depth ≤ 8 := by
  unfold adat
  simp [PyData.depth, PyData.depthAll]
theorem dep_row : ∀ as : List Arw, PyData.depthAll (as.map adat) ≤ 8
  | [] => by simp [PyData.depthAll]
  | a :: r => by
    show PyData.depthAll (adat a :: r.map adat) ≤ 8
    have h1 := dep_adat a
    have h2 := dep_row r
    rw [PyData.depthAll]
    exact Nat.max_le.mpr ⟨h1, h2⟩
theorem shA {a : Arw} (h : okS a) : SeqAt.shaped (adat a) = true := by
  unfold SeqAt.shaped
  rw [lay_adat h, decide_eq_true (Nat.le_trans (dep_adat a) (by decide))]
  rfl
theorem shR {as : List Arw} (h : ∀ a ∈ as, okS a) : SeqAt.shaped (.list (as.map adat)) = true := by
  unfold SeqAt.shaped
  have h1 : (PyData.list (as.map adat)).canLay0 = true := by rw [PyData.canLay0]; exact lay_row h
  have h2 : (PyData.list (as.map adat)).depth ≤ 64 := by
    rw [PyData.depth]
    have := dep_row as
    omega
  rw [h1, decide_eq_true h2]
  rfl
theorem lay_ints : ∀ ns : List Int, PyData.canLayAll0 (ns.map PyData.int) = true
  | [] => rfl
  | a :: r => by
    show (PyData.canLay0 (.int a) && PyData.canLayAll0 (r.map PyData.int)) = true
    rw [lay_ints r]
    rfl
theorem shI (ns : List Int) : SeqAt.shaped (.list (ns.map .int)) = true := by
  unfold SeqAt.shaped
  have h1 : (PyData.list (ns.map .int)).canLay0 = true := by rw [PyData.canLay0]; exact lay_ints ns
  have h2 : (PyData.list (ns.map .int)).depth ≤ 64 := by
    rw [PyData.depth, PySem.W.depth_ints]
    decide
  rw [h1, decide_eq_true h2]
  rfl
theorem dpRow {K : PySem.W.Frag} {H : Hp} : ∀ {ps : List AR}, RowAt K H ps → DpAll K H (rfs ps) ((ps.map (·.2)).map adat)
  | [], _ => .nil
  | p :: r, h => .cons (dp_arw (h p List.mem_cons_self)) (dpRow fun q hq => h q (List.mem_cons_of_mem _ hq))
theorem dpInts {K : PySem.W.Frag} {H : Hp} : ∀ ns : List Int, DpAll K H (ns.map V.int) (ns.map PyData.int)
  | [] => .nil
  | _ :: r => .cons (.int _) (dpInts r)
/-! ### what the law draws: a tuple of five -/
def DrawnAt (K : PySem.W.Frag) (H : Hp) (t : Addr) (M : AM) : Prop := ∃ (la lf lg : Addr) (ps : List AR), H t = some (.tup [.int M.n, .str (Sx M.ls), .ref la, .ref lf, .ref lg]) ∧ H la = some (.lst (rfs ps)) ∧ RowAt K H ps ∧ ps.map (·.2) = M.as ∧ H lf = some (.lst (M.fs.map V.int)) ∧ H lg = some (.lst (M.gs.map V.int))
theorem DrawnAt.same {K : PySem.W.Frag} {H H' : Hp} {t : Addr} {M : AM} (h : DrawnAt K H t M) (s : Same H H') : DrawnAt K H' t M := by
  obtain ⟨la, lf, lg, ps, h1, h2, h3, h4, h5, h6⟩ := h
  exact ⟨la, lf, lg, ps, s _ _ h1, s _ _ h2, h3.same s, h4, s _ _ h5, s _ _ h6⟩
end Onp
set_option maxHeartbeats 8000000
set_option autoImplicit false
namespace Onp
open PySem PySem.Spec PyProof.Rows L2
theorem Bg.keepT {K : PySem.W.Frag} {g : Bid} {H H' : Hp} {a : Addr} {xs : List V} (B : Bg H g) (k : Keep g.b H H') (h : SqT K H a xs) : SqT K H' a xs := by
  obtain ⟨i, r, z, c, h1, h2, h3⟩ := B
  by_cases e : a = g.b
  · subst e
    rcases h with (h | ⟨o, h⟩) | h
    · rw [h1] at h
      cases h
    · rw [h1] at h
      cases h
    · exact .inr h
  · exact k.seqT e h
theorem Bg.keepRow {K : PySem.W.Frag} {g : Bid} {H H' : Hp} {ps : List AR} (B : Bg H g) (k : Keep g.b H H') (h : RowAt K H ps) : RowAt K H' ps := fun p hp => B.keepT k (h p hp)
theorem Bg.neRfs {g : Bid} {H : Hp} {a : Addr} {ps : List AR} (B : Bg H g) (h : H a = some (.lst (rfs ps))) : a ≠ g.b := fun e => by
  subst e
  obtain ⟨i, r, z, c, h1, h2, h3⟩ := B
  rw [h1] at h
  unfold bagV at h
  have h' : [V.ref g.l, V.int i, V.int r, V.int z, V.int c] = rfs ps := HO.lst.inj (Option.some.inj h)
  have : V.int i ∈ rfs ps := by rw [← h']; simp
  obtain ⟨p, _, e⟩ := List.mem_map.mp this
  cases e
theorem Bg.neInts {g : Bid} {H : Hp} {a : Addr} {ns : List Int} (B : Bg H g) (h : H a = some (.lst (ns.map V.int))) : a ≠ g.b := fun e => by
  subst e
  obtain ⟨i, r, z, c, h1, h2, h3⟩ := B
  rw [h1] at h
  unfold bagV at h
  match ns, h with
  | [], h => cases h
  | _ :: _, h => cases h
theorem Bg.neTup {g : Bid} {H : Hp} {a : Addr} {xs : List V} (B : Bg H g) (h : H a = some (.tup xs)) : a ≠ g.b := fun e => by
  subst e
  obtain ⟨i, r, z, c, h1, h2, h3⟩ := B
  rw [h1] at h
  cases h
theorem DrawnAt.keep {K : PySem.W.Frag} {H H' : Hp} {t : Addr} {M : AM} {g : Bid} (h : DrawnAt K H t M) (B : Bg H g) (k : Keep g.b H H') : DrawnAt K H' t M := by
  obtain ⟨la, lf, lg, ps, h1, h2, h3, h4, h5, h6⟩ := h
  exact ⟨la, lf, lg, ps, k _ _ (B.neTup h1) h1, k _ _ (B.neRfs h2) h2, B.keepRow k h3, h4, k _ _ (B.neInts h5) h5, k _ _ (B.neInts h6) h6⟩
theorem room65 {k : Nat} {A : Around} (r : Room k A) : A.units + 65 < cLine := by have := r.un; omega
theorem eqv_nil (ds : List PyData) : PyData.eqv (.list ds) (.list []) = decide (ds = []) := by
  cases ds <;> simp [PyData.eqv, PyData.eqvAll]
section
variable {P : Program} {w : World} {K : PySem.W.Frag} {mg : Str → Option Value} {base : Heap}
/-! ### _law_rooms_some -/
def NRs : List Str := ["_law_bag_here", "_law_rooms", "_law_some", "_law_room"]
theorem scRooms : FnScope NRs ["_law_bag_here", "_law_rooms"] (defScope sRooms) := ⟨rfl, rfl, rfl, by decide +kernel, rfl, by decide +kernel, by decide +kernel⟩
def spRooms : Sp := fun vs H Q _ => ∃ (g : Bid) (n : Int), vs = [.ref g.b, .int n] ∧ 1 ≤ n ∧ n ≤ 100 ∧ Bg H g ∧ ∀ (ns : List Int) (l : Addr) H', (∀ r ∈ ns, rooB n r = true) → ns.Nodup → ns.length ≤ 100 → H' l = some (.lst (ns.map V.int)) → Keep g.b H H' → Bg H' g → Q (.ref l) H'
theorem ok_rooms {f fP : Addr} {fd fdP : FuncData} {k : Nat} (F : Fun K "_law_rooms_some" "_law_rooms_some" sRooms f fd) (Pu : FnM K mg fP fdP "_law_pull" sPull ["_law_bag_here", "_law_many"]) (ml : mg "len" = none) (mr : mg "range" = none) : FnOk P w K mg base CX0 (k + 2) f fd ["_law_bag_here", "_law_rooms"] spRooms := by
  have GP : FnOk P w K mg base CX0 (k + 1) fP fdP ["_law_bag_here", "_law_many"] (spPull K) := ok_pull Pu.F ml
  refine F.ok scRooms (fun vs H Q E h => ?_) (fun cdv A outer s H vs Q E hr h => ?_)
  · obtain ⟨g, m, rfl, _⟩ := h
    rfl
  · obtain ⟨g, n, rfl, n1, n2, B, q⟩ := h
    refine ⟨_, pss_cons (ps_setLc (i := 2) (own := [("_law_room", 3)]) (g := gName 3) (tt := tTest (tOp rEq (tCall (spPull K) [] E0 (tCons (tVar 0) (tCons (tC (.int 2)) tNil))) (tC (.int 0)))) (te := tVar 3) rfl scRooms.nd rfl rfl (sw_true rfl rfl rfl (by decide +kernel))
        (pi_range1 (by rfl) mr (pa_cons (pv 1) pa_nil)) (blkOk_by (own := [("_law_room", 3)]) (N := NRs) (sc := defScope sRooms) (by decide +kernel))
        (fun _ _ _ _ _ => pg_name (i := 3) scRooms.nd rfl (Or.inl rfl)) (fun _ _ _ _ _ => pts_one (pt_cmpR op_eq (pe_call GP hr (by rfl) Pu.g Pu.F.kp Pu.b .nil pass0 (pa_cons (pv 0) (pa_cons pe_int pa_nil))) pe_int (nomark _))) (fun _ _ _ _ _ => pv 3))
      (pss_one (ps_ret (pe_ifExp (PW.pt (pw_or (pt_cmpR (op_neD hr.units) (pv 2) (pe_lst pa_nil) (nomark _)) (pw_or1 (pt_cmpR op_eq (pe_call GP hr (by rfl) Pu.g Pu.F.kp Pu.b .nil pass0 (pa_cons (pv 0) (pa_cons pe_int pa_nil))) pe_int (nomark _)))))
        (pv 2) (pe_lst (pa_cons (pe_call GP hr (by rfl) Pu.g Pu.F.kp Pu.b .nil pass0 (pa_cons (pv 0) (pa_cons (pv 1) pa_nil))) pa_nil))))), ?_⟩
    have hbig : 5000 ≤ sizeLine := by decide
    refine ⟨_, rfl, n, rfl, by omega, by omega, fun D nD => ?_⟩
    obtain ⟨m, rfl⟩ : ∃ m : Nat, n = (m : Int) := ⟨n.toNat, by omega⟩
    rw [show (m : Int).toNat = m by omega]
    have neD := B.ne nD
    refine lc_range (lo := 0) (n := m) (fun i H' => ∃ ns : List Int, H' D = some (.lst (ns.map V.int)) ∧ (∀ r ∈ ns, 0 ≤ r ∧ r < i) ∧ ns.Nodup ∧ ns.length ≤ i ∧ Keep g.b H H' ∧ Bg H' g) ⟨[], upd_same, (fun _ h => nomatch h), .nil, Nat.le_refl _, Keep.new nD, B.new nD⟩ (fun j H' hj hI => ?_) (fun H5 hI => ?_)
    · obtain ⟨ns, hD, hb, hnd, hln, kk, BB⟩ := hI
      refine ⟨rfl, ?_⟩
      refine ⟨_, rfl, g, 2, rfl, by decide, by decide, BB, fun z H2 z0 z1 k2 B2 => ?_⟩
      have hD2 := k2 _ _ neD hD
      refine ⟨rfl, _, rfl, ?_⟩
      dsimp only
      split
      · refine ⟨_, rfl, _, hD2, by rw [List.length_map]; omega, ns ++ [0 + (j : Int)], ?_, ?_, ?_, ?_, ?_, ?_⟩
        · rw [upd_same, List.map_append]
          rfl
        · intro r hr'
          rcases List.mem_append.mp hr' with h | h
          · have := hb r h
            omega
          · have := List.mem_singleton.mp h
            omega
        · rw [List.nodup_append]
          refine ⟨hnd, by simp, fun a ha b hb' e => ?_⟩
          have h1 := hb a ha
          have h2 := List.mem_singleton.mp hb'
          omega
        · rw [List.length_append]
          show ns.length + 1 ≤ j + 1
          omega
        · exact fun a o ne e => by
            by_cases e1 : a = D
            · subst e1
              rw [nD] at e
              cases e
            · rw [upd_ne e1]
              exact k2 _ _ ne (kk _ _ ne e)
        · exact B2.put neD (fun e => by
            obtain ⟨_, _, _, _, _, h2, _⟩ := B
            rw [← e, nD] at h2
            cases h2)
      · exact ⟨ns, hD2, fun r h => by have := hb r h; omega, hnd, by omega, kk.trans k2, B2⟩
    · obtain ⟨ns, hD, hb, hnd, hln, kk, BB⟩ := hI
      have hroo : ∀ r ∈ ns, rooB (m : Int) r = true := fun r h => by
        have := hb r h
        unfold rooB
        rw [Bool.and_eq_true, decide_eq_true_eq, decide_eq_true_eq]
        exact this
      refine ⟨.ref D, rfl, (by decide : 0 ≤ sizeLine), fun p np => ?_⟩
      have s1 := same_upd (o := .lst []) np
      refine ⟨.list (ns.map .int), .list [], .lst (SqL.of (s1 _ _ hD)) (dpInts ns), .lst (SqL.of upd_same) .nil, shI ns, by decide +kernel, _, rfl, ?_⟩
      rw [eqv_nil]
      have B1 := BB.same s1
      have k1 : Keep g.b H _ := kk.trans (Keep.of s1)
      by_cases hn : ns = []
      · subst hn
        show if (!decide (([] : List PyData) = [])) = true then _ else _
        rw [decide_eq_true rfl]
        refine iteF ⟨_, rfl, g, 6, rfl, by decide, by decide, B1, fun z H2 z0 z1 k2 B2 => ?_⟩
        refine ⟨rfl, _, rfl, ?_⟩
        dsimp only
        split
        · exact ⟨.ref D, rfl, q [] D H2 hroo hnd (by decide) (k2 _ _ neD (s1 _ _ hD)) (k1.trans k2) B2⟩
        · refine ⟨_, rfl, _, rfl, g, (m : Int), rfl, by omega, Nat.lt_trans (show (m : Int).natAbs < 2 ^ 64 by omega) (by decide), B2, fun y H3 y0 y1 k3 B3 => ?_⟩
          refine ⟨(by decide : 1 ≤ sizeLine), fun p3 np3 => ?_⟩
          refine q [y] p3 _ (fun r h => ?_) (by simp) (show 1 ≤ 100 by decide) upd_same (((k1.trans k2).trans k3).trans (Keep.new np3)) (B3.new np3)
          rw [List.mem_singleton.mp h]
          unfold rooB
          rw [Bool.and_eq_true, decide_eq_true_eq, decide_eq_true_eq]
          exact ⟨y0, y1⟩
      · rw [decide_eq_false (fun e => hn (List.map_eq_nil_iff.mp e))]
        exact iteT (iteT ⟨.ref D, rfl, q ns D _ hroo hnd (by omega) (s1 _ _ hD) k1 B1⟩)
/-! ### _law_arrow -/
theorem scArrow : FnScope ["_law_bag_here", "_law_rooms", "_law_letters_here"] ["_law_bag_here", "_law_rooms", "_law_letters_here"] (defScope sArrow) := ⟨rfl, rfl, rfl, by decide +kernel, rfl, by decide +kernel, by decide +kernel⟩
def spArrow : Sp := fun vs H Q _ => ∃ (g : Bid) (n : Int) (ls : List Nat), vs = [.ref g.b, .int n, .str (Sx ls)] ∧ 1 ≤ n ∧ n ≤ 100 ∧ 0 < ls.length ∧ ls.length < 1000 ∧ Bg H g ∧ ∀ (a : Arw) (t : Addr) H', arrB n ls a = true → H' t = some (.tup (aV a)) → Keep g.b H H' → Bg H' g → Q (.ref t) H'
theorem ok_arrow {f fP fO fD : Addr} {fd fdP fdO fdD : FuncData} {k : Nat} (F : Fun K "_law_arrow" "_law_arrow" sArrow f fd) (Pu : FnM K mg fP fdP "_law_pull" sPull ["_law_bag_here", "_law_many"]) (O : FnM K mg fO fdO "_law_of" sOf ["_law_bag_here", "_law_some"]) (De : FnM K mg fD fdD "_law_deed" sDeed ["_law_bag_here"]) (ml : mg "len" = none) : FnOk P w K mg base CX0 (k + 4) f fd ["_law_bag_here", "_law_rooms", "_law_letters_here"] spArrow := by
  have GP : FnOk P w K mg base CX0 (k + 3) fP fdP ["_law_bag_here", "_law_many"] (spPull K) := ok_pull Pu.F ml
  have GO : FnOk P w K mg base CX0 (k + 3) fO fdO ["_law_bag_here", "_law_some"] spOfS := ok_ofS O.F Pu.F Pu.b Pu.g ml
  have GD : FnOk P w K mg base CX0 (k + 3) fD fdD ["_law_bag_here"] spDeed := ok_deed De.F O Pu ml
  refine F.ok scArrow (fun vs H Q E h => ?_) (fun cdv A outer s H vs Q E hr h => ?_)
  · obtain ⟨g, m, ls, rfl, _⟩ := h
    rfl
  · obtain ⟨g, n, ls, rfl, n1, n2, l1, l2, B, q⟩ := h
    refine ⟨_, pss_one (ps_ret (pe_tup (pa_cons (pe_call GP hr (by rfl) Pu.g Pu.F.kp Pu.b .nil pass0 (pa_cons (pv 0) (pa_cons (pv 1) pa_nil))) (pa_cons (pe_call GO hr (by rfl) O.g O.F.kp O.b .nil pass0 (pa_cons (pv 0) (pa_cons (pv 2) pa_nil)))
      (pa_cons (pe_call GD hr (by rfl) De.g De.F.kp De.b .nil pass0 (pa_cons (pv 0) pa_nil)) (pa_cons (pe_call GP hr (by rfl) Pu.g Pu.F.kp Pu.b .nil pass0 (pa_cons (pv 0) (pa_cons (pv 1) pa_nil))) pa_nil)))))), ?_⟩
    have nb : n.natAbs < 2 ^ 200 := Nat.lt_trans (show n.natAbs < 2 ^ 64 by omega) (by decide)
    refine ⟨_, rfl, _, rfl, g, n, rfl, by omega, nb, B, fun x H1 x0 x1 k1 B1 => ?_⟩
    refine ⟨_, rfl, _, rfl, g, ls, rfl, B1, l1, l2, fun c H2 hc k2 B2 => ?_⟩
    refine ⟨_, rfl, g, rfl, B2, fun d H3 hd k3 B3 => ?_⟩
    refine ⟨_, rfl, _, rfl, g, n, rfl, by omega, nb, B3, fun y H4 y0 y1 k4 B4 => ?_⟩
    refine ⟨(by decide : 4 ≤ sizeLine), fun t nt => ?_⟩
    refine q (x, Sx [c], d, y) t _ ?_ upd_same ((((k1.trans k2).trans k3).trans k4).trans (Keep.new nt)) (B4.new nt)
    unfold arrB
    dsimp only
    rw [decide_eq_true x0, decide_eq_true x1, decide_eq_true y0, decide_eq_true y1, decide_eq_true hd, show (ls.any fun c' => decide (Sx [c] = Sx [c'])) = true from List.any_eq_true.mpr ⟨c, hc, decide_eq_true rfl⟩]
    rfl
/-! ### _law_drawn -/
def NDr : List Str := ["_law_bag_here", "_law_rooms_most", "_law_letters_most", "_law_arrows_most", "_law_rooms", "_law_letters_here", "_law_arrows", "_law_k", "_law_arrow_here"]
def psDr : List Str := ["_law_bag_here", "_law_rooms_most", "_law_letters_most", "_law_arrows_most"]
theorem scDrawn : FnScope NDr psDr (defScope sDrawn) := ⟨rfl, rfl, rfl, by decide +kernel, rfl, by decide +kernel, by decide +kernel⟩
def spDrawn (K : PySem.W.Frag) : Sp := fun vs H Q _ => ∃ (g : Bid) (rm lm am : Int), vs = [.ref g.b, .int rm, .int lm, .int am] ∧ 1 ≤ rm ∧ rm ≤ 8 ∧ 1 ≤ lm ∧ lm ≤ 3 ∧ 0 ≤ am ∧ am ≤ 40 ∧ Bg H g ∧ ∀ (t : Addr) (M : AM) H', M.ok → M.n ≤ rm → (M.ls.length : Int) ≤ lm → (M.as.length : Int) ≤ am → (∀ c ∈ M.ls.take 2, c < 122) → DrawnAt K H' t M → Keep g.b H H' → Bg H' g → Q (.ref t) H'
theorem letB_pos {ls : List Nat} (h : letB ls = true) : 1 ≤ ls.length ∧ ls.length ≤ 3 := by
  unfold letB at h
  simp only [Bool.and_eq_true, decide_eq_true_eq] at h
  omega
theorem ok_drawn {f fP fO fD fL fR fA : Addr} {fd fdP fdO fdD fdL fdR fdA : FuncData} {k : Nat} (F : Fun K "_law_drawn" "_law_drawn" sDrawn f fd) (Pu : FnM K mg fP fdP "_law_pull" sPull ["_law_bag_here", "_law_many"]) (O : FnM K mg fO fdO "_law_of" sOf ["_law_bag_here", "_law_some"]) (De : FnM K mg fD fdD "_law_deed" sDeed ["_law_bag_here"])
    (Le : FnM K mg fL fdL "_law_letters" sLett ["_law_bag_here", "_law_most"]) (Ro : FnM K mg fR fdR "_law_rooms_some" sRooms ["_law_bag_here", "_law_rooms"]) (Ar : FnM K mg fA fdA "_law_arrow" sArrow ["_law_bag_here", "_law_rooms", "_law_letters_here"])
    (ml : mg "len" = none) (mr : mg "range" = none) (mi : mg "int" = none) : FnOk P w K mg base CX0 (k + 5) f fd psDr (spDrawn K) := by
  have GP : FnOk P w K mg base CX0 (k + 4) fP fdP ["_law_bag_here", "_law_many"] (spPull K) := ok_pull Pu.F ml
  have GL : FnOk P w K mg base CX0 (k + 4) fL fdL ["_law_bag_here", "_law_most"] spLett := ok_lett Le.F Pu ml mr
  have GR : FnOk P w K mg base CX0 (k + 4) fR fdR ["_law_bag_here", "_law_rooms"] spRooms := ok_rooms Ro.F Pu ml mr
  have GA : FnOk P w K mg base CX0 (k + 4) fA fdA ["_law_bag_here", "_law_rooms", "_law_letters_here"] spArrow := ok_arrow Ar.F Pu O De ml
  refine F.ok scDrawn (fun vs H Q E h => ?_) (fun cdv A outer s H vs Q E hr h => ?_)
  · obtain ⟨g, rm, lm, am, rfl, _⟩ := h
    rfl
  · obtain ⟨g, rm, lm, am, rfl, r1, r2, l1, l2, a1, a2, B, q⟩ := h
    refine ⟨_, pss_cons (ps_par (i := 4) (j := 5) rfl scDrawn.nd rfl rfl (by decide) rfl rfl (pa_cons (pe_op op_add pe_int (pe_call GP hr (by rfl) Pu.g Pu.F.kp Pu.b .nil pass0 (pa_cons (pv 0) (pa_cons (pv 1) pa_nil)))) (pa_cons (pe_call GL hr (by rfl) Le.g Le.F.kp Le.b .nil pass0 (pa_cons (pv 0) (pa_cons (pv 2) pa_nil))) pa_nil)) rfl)
      (pss_cons (ps_set (i := 6) scDrawn.nd rfl (.inl rfl) (pe_lst pa_nil))
      (pss_cons (ps_for PassesOwn.never rfl (pi_range1 (by rfl) mr (pa_cons (pe_call GP hr (by rfl) Pu.g Pu.F.kp Pu.b .nil pass0 (pa_cons (pv 0) (pa_cons (pe_op op_add (pv 3) pe_int) pa_nil))) pa_nil)) (pg_name (i := 7) scDrawn.nd rfl (.inl rfl))
        (pss_cons (ps_set (i := 8) scDrawn.nd rfl (.inl rfl) (pe_call GA hr (by rfl) Ar.g Ar.F.kp Ar.b .nil pass0 (pa_cons (pv 0) (pa_cons (pv 4) (pa_cons (pv 5) pa_nil)))))
        (pss_one (ps_set (i := 6) scDrawn.nd rfl (.inl rfl) (pe_op op_cat (pv 6) (pe_op op_rep (pe_lst (pa_cons (pv 8) pa_nil)) (pe_callTy call_int1 (by rfl) mi (by decide +kernel) (pa_cons (pe_cmpR (op_notInD (room65 hr)) (pv 8) (pv 6) (by rfl)) pa_nil))))))))
      (pss_one (ps_ret (pe_tup (pa_cons (pv 4) (pa_cons (pv 5) (pa_cons (pv 6) (pa_cons (pe_call GR hr (by rfl) Ro.g Ro.F.kp Ro.b .nil pass0 (pa_cons (pv 0) (pa_cons (pv 4) pa_nil))) (pa_cons (pe_call GR hr (by rfl) Ro.g Ro.F.kp Ro.b .nil pass0 (pa_cons (pv 0) (pa_cons (pv 4) pa_nil))) pa_nil)))))))))), ?_⟩
    have hbig : 5000 ≤ sizeLine := by decide
    refine ⟨_, rfl, _, rfl, g, rm, rfl, by omega, Nat.lt_trans (show rm.natAbs < 2 ^ 64 by omega) (by decide), B, fun x H1 x0 x1 k1 B1 => ?_⟩
    refine ⟨_, _, rfl, rfl, _, rfl, _, rfl, g, lm, rfl, l1, l2, B1, fun ls H2 hls hll hlow k2 B2 => ?_⟩
    have hl3 := letB_pos hls
    refine ⟨_, _, rfl, (by decide : 0 ≤ sizeLine), fun la nla => ?_⟩
    have B3 := B2.new (o := .lst []) nla
    have k3 : Keep g.b H _ := (k1.trans k2).trans (Keep.new (o := .lst []) nla)
    have h3 : upd H2 la (.lst []) la = some (.lst (rfs [])) := upd_same
    generalize upd H2 la (.lst []) = H3 at B3 k3 h3
    refine ⟨_, rfl, _, rfl, _, _, rfl, rfl, g, am + 1, rfl, by omega, Nat.lt_trans (show (am + 1).natAbs < 2 ^ 64 by omega) (by decide), B3, fun z H4 z0 z1 k4 B4 => ?_⟩
    obtain ⟨zn, rfl⟩ : ∃ zn : Nat, z = (zn : Int) := ⟨z.toNat, by omega⟩
    refine ⟨(zn : Int), rfl, by omega, by omega, for_range (lo := 0) (n := zn) (fun i σ H' => ∃ (la : Addr) (ps : List AR) (y7 y8 : Option V), σ = [some (.ref g.b), some (.int rm), some (.int lm), some (.int am), some (.int (1 + x)), some (.str (Sx ls)), some (.ref la), y7, y8] ∧ H' la = some (.lst (rfs ps)) ∧ RowAt K H' ps ∧ (∀ p ∈ ps, arrB (1 + x) ls p.2 = true) ∧ (ps.map (·.2)).Nodup ∧ ps.length ≤ i ∧ Keep g.b H H' ∧ Bg H' g)
      ⟨la, [], _, _, rfl, k4 _ _ (B3.neRfs h3) h3, (fun _ h => nomatch h), (fun _ h => nomatch h), .nil, Nat.le_refl _, k3.trans k4, B4⟩ ?_ ?_⟩
    · rintro i σ H5 hi ⟨la, ps, y7, y8, rfl, hla, hR, hA, hnd, hln, k5, B5⟩
      refine ⟨_, rfl, _, rfl, _, rfl, g, 1 + x, ls, rfl, by omega, by omega, by omega, by omega, B5, fun a t H6 ha ht k6 B6 => ?_⟩
      have hla6 := k6 _ _ (B5.neRfs hla) hla
      have hR6 := B5.keepRow k6 hR
      refine ⟨.ref la, rfl, _, rfl, (by decide : 1 ≤ sizeLine), fun p np => ?_⟩
      have s7 := same_upd (o := .lst [.ref t]) np
      have B7 := B6.same s7
      have hp7 : upd H6 p (.lst [.ref t]) p = some (.lst [.ref t]) := upd_same
      have k7 : Keep g.b H _ := (k5.trans k6).trans (Keep.of s7)
      have hla7 := s7 _ _ hla6
      have hR7 := hR6.same s7
      have ht7 := s7 _ _ ht
      generalize upd H6 p (.lst [.ref t]) = H7 at B7 hp7 k7 hla7 hR7 ht7
      have hok : ∀ b ∈ ps.map (·.2), okS b := fun b hb => by
        obtain ⟨p', hp', rfl⟩ := List.mem_map.mp hb
        exact arrB_okS hls (hA p' hp')
      refine ⟨.ref t, rfl, .ref la, rfl, adat a, (ps.map fun p : AR => p.2).map adat, dp_arw (p := (t, a)) (SqT.of ht7), .lst (SqL.of hla7) (dpRow hR7), shA (arrB_okS hls ha), shR hok, .inr ⟨_, rfl, ?_⟩⟩
      rw [any_adat]
      by_cases hin : a ∈ ps.map (·.2)
      · rw [decide_eq_true hin]
        refine ⟨p, 0, [.ref t], rfl, rfl, hp7, by decide, by decide, (show 1 * 0 ≤ sizeLine by decide), fun p8 np8 => ?_⟩
        have s8 := same_upd (o := .lst (List.replicate (Int.toNat 0) [V.ref t]).flatten) np8
        refine ⟨la, p8, rfs ps, [], rfl, rfl, s8 _ _ hla7, upd_same, ?_, fun p9 np9 => ?_⟩
        · unfold rfs
          rw [List.length_map]
          show ps.length + 0 ≤ sizeLine
          omega
        · have s9 := s8.trans (same_upd (o := .lst (rfs ps ++ [])) np9)
          exact ⟨p9, ps, _, _, rfl, by rw [upd_same, List.append_nil], hR7.same s9, hA, hnd, by omega, k7.trans (Keep.of s9), B7.same s9⟩
      · rw [decide_eq_false hin]
        refine ⟨p, 1, [.ref t], rfl, rfl, hp7, by decide, by decide, (by decide : 1 ≤ sizeLine), fun p8 np8 => ?_⟩
        have s8 := same_upd (o := .lst (List.replicate (Int.toNat 1) [V.ref t]).flatten) np8
        refine ⟨la, p8, rfs ps, [.ref t], rfl, rfl, s8 _ _ hla7, upd_same, ?_, fun p9 np9 => ?_⟩
        · unfold rfs
          rw [List.length_map]
          show ps.length + 1 ≤ sizeLine
          omega
        · have s9 := s8.trans (same_upd (o := .lst (rfs ps ++ [.ref t])) np9)
          refine ⟨p9, ps ++ [(t, a)], _, _, rfl, ?_, ?_, ?_, ?_, ?_, k7.trans (Keep.of s9), B7.same s9⟩
          · rw [upd_same]
            unfold rfs
            rw [List.map_append]
            rfl
          · intro p' hp'
            rcases List.mem_append.mp hp' with h | h
            · exact hR7.same s9 p' h
            · rw [List.mem_singleton.mp h]
              exact SqT.of (s9 _ _ ht7)
          · intro p' hp'
            rcases List.mem_append.mp hp' with h | h
            · exact hA p' h
            · rw [List.mem_singleton.mp h]
              exact ha
          · rw [List.map_append, List.nodup_append]
            refine ⟨hnd, by simp, fun b hb c hc e => ?_⟩
            have := List.mem_singleton.mp hc
            subst this e
            exact hin hb
          · rw [List.length_append]
            show ps.length + 1 ≤ i + 1
            omega
    · rintro σ H5 ⟨la, ps, y7, y8, rfl, hla, hR, hA, hnd, hln, k5, B5⟩
      refine ⟨_, rfl, _, rfl, _, rfl, _, rfl, _, rfl, g, 1 + x, rfl, by omega, by omega, B5, fun fs lf H6 hf1 hf2 hf3 hf4 k6 B6 => ?_⟩
      refine ⟨_, rfl, _, rfl, g, 1 + x, rfl, by omega, by omega, B6, fun gs lg H7 hg1 hg2 hg3 hg4 k7 B7 => ?_⟩
      refine ⟨(by decide : 5 ≤ sizeLine), fun t nt => ?_⟩
      have s8 := same_upd (o := .tup [.int (1 + x), .str (Sx ls), .ref la, .ref lf, .ref lg]) nt
      refine q t ⟨1 + x, ls, ps.map (·.2), fs, gs⟩ _ ⟨(show 1 ≤ 1 + x by omega), (show 1 + x ≤ 8 by omega), hls, fun a ha => ?_, hnd, ?_, hf1, hf2, hg1, hg2, hf3, hg3⟩ (show 1 + x ≤ rm by omega) hll ?_ hlow ⟨la, lf, lg, ps, upd_same, ?_, ?_, rfl, ?_, ?_⟩ (((k5.trans k6).trans k7).trans (Keep.of s8)) (B7.same s8)
      · obtain ⟨p', hp', rfl⟩ := List.mem_map.mp ha
        exact hA p' hp'
      · rw [List.length_map]
        omega
      · rw [List.length_map]
        omega
      · exact s8 _ _ (k7 _ _ (B6.neRfs (k6 _ _ (B5.neRfs hla) hla)) (k6 _ _ (B5.neRfs hla) hla))
      · exact (B6.keepRow k7 (B5.keepRow k6 hR)).same s8
      · exact s8 _ _ (k7 _ _ (B6.neInts hf4) hf4)
      · exact s8 _ _ hg4
end
end Onp
set_option maxHeartbeats 8000000
set_option autoImplicit false
namespace Onp
open PySem PySem.Spec PyProof.Rows L2
abbrev sSortd : Stmt := topS 54
section
variable {P : Program} {w : World} {K : PySem.W.Frag} {mg : Str → Option Value} {base : Heap}
/-! ### Machine(a, b, c, firsts=.., lasts=..) -/
theorem kb_made {f : Addr} {fd : FuncData} {dvs : List V} {kws : List (Str × V)} (F : FunD K "__init__" "Machine.__init__" (defArgs sMInit) (defBody sMInit) (defScope sMInit) dvs kws f fd) (hd : dvs ≠ []) (h1 : dvs.length = 1) :
    ∃ g : List Value → List Value → List Value, KBn K fd psMI 4 ["firsts", "lasts"] g (fun vs zs => vs ++ zs) := by
  obtain ⟨its, h⟩ := F.kbindsD (ps := psMI) 4 ["firsts", "lasts"] (fun us _ ws => us ++ ws) hd (fun r1 _ r3 => r1.append r3) (fun T kV doc pm an cdv ct us its ws l1 l2 l3 => by
    rw [h1] at l2
    match us, l1, ws, l3, its, l2 with
    | [a, b, c, d], _, [e, f], _, [z], _ => exact ⟨_, rfl, rfl⟩)
  exact ⟨_, h⟩
theorem kb_made2 {f : Addr} {fd : FuncData} {dvs : List V} {kws : List (Str × V)} (F : FunD K "__init__" "Machine.__init__" (defArgs sMInit) (defBody sMInit) (defScope sMInit) dvs kws f fd) (hd : dvs ≠ []) (h1 : dvs.length = 1) :
    ∃ g : List Value → List Value → List Value, KBn K fd psMI 4 ["lasts", "firsts"] g (fun vs zs => vs ++ zs.reverse) := by
  obtain ⟨its, h⟩ := F.kbindsD (ps := psMI) 4 ["lasts", "firsts"] (fun us _ ws => us ++ ws.reverse) hd (fun r1 _ r3 => r1.append r3.reverse) (fun T kV doc pm an cdv ct us its ws l1 l2 l3 => by
    rw [h1] at l2
    match us, l1, ws, l3, its, l2 with
    | [a, b, c, d], _, [e, f], _, [z], _ => exact ⟨_, rfl, rfl⟩)
  exact ⟨_, h⟩
/-- the class and what its making needs -/
structure MkM (K : PySem.W.Frag) (mg : Str → Option Value) (C : Addr) (fdI : FuncData) (fI : Addr) (dvs : List V) (kws : List (Str × V)) : Prop where
  F : FunD K "__init__" "Machine.__init__" (defArgs sMInit) (defBody sMInit) (defScope sMInit) dvs kws fI fdI
  mak : Mk K C fI
  g : mg "Machine" = some (.ref C)
  cl : ClsM K C
  nd : dvs ≠ []
  one : dvs.length = 1
/-! ### _law_sorted -/
theorem scSortd : FnScope ["_law_m"] ["_law_m"] (defScope sSortd) := ⟨rfl, rfl, rfl, by decide +kernel, rfl, by decide +kernel, by decide +kernel⟩
def spSortd (K : PySem.W.Frag) : Sp := fun vs H Q _ => ∃ (t : Addr) (M : AM), vs = [.ref t] ∧ DrawnAt K H t M ∧ ∀ (t' : Addr) H', Same H H' → DrawnAt K H' t' M.srt → Q (.ref t') H'
theorem ok_sortd {f : Addr} {fd : FuncData} {k : Nat} (F : Fun K "_law_sorted" "_law_sorted" sSortd f fd) (ms : mg "sorted" = none) : FnOk P w K mg base CX0 (k + 1) f fd ["_law_m"] (spSortd K) := by
  refine F.ok scSortd (fun vs H Q E h => ?_) (fun cdv A outer s H vs Q E hr h => ?_)
  · obtain ⟨t, M, rfl, _⟩ := h
    rfl
  · obtain ⟨t, M, rfl, D, q⟩ := h
    have hu : (cxOf CX0 P w K mg base ["_law_m"] "_law_sorted" (defScope sSortd) f cdv A outer s H E).A.units + 64 < cLine := hr.units
    refine ⟨_, pss_one (ps_ret (pe_tup (pa_cons (pe_ix ix_tup (pv 0) pe_int (fun _ _ => rfl)) (pa_cons (pe_ix ix_tup (pv 0) pe_int (fun _ _ => rfl))
      (pa_cons (pe_callB (cr_sortD hu) (by rfl) ms (by decide +kernel) (pa_cons (pe_ix ix_tup (pv 0) pe_int (fun _ _ => rfl)) pa_nil))
      (pa_cons (pe_callB (cr_sortD hu) (by rfl) ms (by decide +kernel) (pa_cons (pe_ix ix_tup (pv 0) pe_int (fun _ _ => rfl)) pa_nil))
      (pa_cons (pe_callB (cr_sortD hu) (by rfl) ms (by decide +kernel) (pa_cons (pe_ix ix_tup (pv 0) pe_int (fun _ _ => rfl)) pa_nil)) pa_nil))))))), ?_⟩
    obtain ⟨la, lf, lg, ps, h1, h2, h3, h4, h5, h6⟩ := D
    refine ⟨_, rfl, t, _, 0, _, rfl, rfl, SqT.of h1, rfl, ?_⟩
    refine ⟨_, rfl, t, _, 1, _, rfl, rfl, SqT.of h1, rfl, ?_⟩
    refine ⟨_, rfl, t, _, 2, _, rfl, rfl, SqT.of h1, rfl, la, ps.map vdA, rfl, ?_, ?_, al_A ps, so_A ps, dep_A ps, fun p1 n1 => ?_⟩
    · rw [vdA_fst]
      exact .inl (SqL.of h2)
    · intro p hp
      obtain ⟨a, ha, rfl⟩ := List.mem_map.mp hp
      exact dp_arw (h3 a ha)
    rw [srtD_A, vdA_fst]
    have s1 := same_upd (o := .lst (rfs (srtR ps))) n1
    refine ⟨_, rfl, t, _, 3, _, rfl, rfl, SqT.of (s1 _ _ h1), rfl, lf, M.fs.map vdI, rfl, ?_, ?_, al_I _, so_I _, dep_I _, fun p2 n2 => ?_⟩
    · rw [vdI_fst]
      exact .inl (SqL.of (s1 _ _ h5))
    · intro p hp
      obtain ⟨a, ha, rfl⟩ := List.mem_map.mp hp
      exact .int a
    rw [srtD_I, vdI_fst]
    have s2 := same_upd (o := .lst ((sortI M.fs).map V.int)) n2
    refine ⟨_, rfl, t, _, 4, _, rfl, rfl, SqT.of (s2 _ _ (s1 _ _ h1)), rfl, lg, M.gs.map vdI, rfl, ?_, ?_, al_I _, so_I _, dep_I _, fun p3 n3 => ?_⟩
    · rw [vdI_fst]
      exact .inl (SqL.of (s2 _ _ (s1 _ _ h6)))
    · intro p hp
      obtain ⟨a, ha, rfl⟩ := List.mem_map.mp hp
      exact .int a
    rw [srtD_I, vdI_fst]
    have s3 := same_upd (o := .lst ((sortI M.gs).map V.int)) n3
    refine ⟨(by decide : 5 ≤ sizeLine), fun t' nt' => ?_⟩
    have s4 := same_upd (o := .tup [.int M.n, .str (Sx M.ls), .ref p1, .ref p2, .ref p3]) nt'
    have sS := ((s1.trans s2).trans s3).trans s4
    refine q t' _ sS ⟨p1, p2, p3, srtR ps, upd_same, s4 _ _ (s3 _ _ (s2 _ _ upd_same)), fun p hp => sameT sS (h3 p (srtR_mem.mp hp)), ?_, s4 _ _ (s3 _ _ upd_same), s4 _ _ upd_same⟩
    rw [srtR_as, h4]
    rfl
end
end Onp
set_option maxHeartbeats 4000000
set_option autoImplicit false
namespace Onp
open PySem PySem.Spec PyProof.Rows L2 HotX L2H
/-! ### a def that may raise, its errors with no context -/
theorem okN {P : Program} {w : World} {K : PySem.W.Frag} {mg : Str → Option Value} {base : Heap} {x qual : Str} {st : Stmt} {f : Addr} {fd : FuncData} {N ps : List Str} {k : Nat} {sp : Sp} (F : Fun K x qual st f fd) (S : FnScope N ps (defScope st)) (len : ∀ vs H Q E, sp vs H Q E → vs.length = ps.length)
    (hbody : ∀ (cdv : Value) (A : Around) (outer : List Env) (s : Shared) (H : Hp) (vs : List V) (Q : VK) (E : XK), Room k (A.deeper (envOfC qual (defScope st) s.heap.objs.size f cdv)) → sp vs H Q E →
      ∃ t, PSs (cxOf (L2N.CX P w) P w K mg base N qual (defScope st) f cdv A outer s H E) (defBody st) t ∧ t { nx := fun _ H' => Q .non H', rt := Q } (start N vs) H) : FnOk P w K mg base (L2N.CX P w) (k + 1) f fd ps sp := by
  obtain ⟨oc, od, kV, doc, pm, an, cdv, ct, osl, rfl, lk, hcd⟩ := F.ex
  exact fn_of lk hcd S len fun A outer s H vs Q E hr hsp => hbody cdv A outer s H vs Q E hr hsp
/-! ### a def that is called with the handled exception -/
def FnPin (P : Program) (w : World) (K : PySem.W.Frag) (mg : Str → Option Value) (base : Heap) (k : Nat) (f : Addr) (fd : FuncData) (ps : List Str) (sp : Addr × Obj → List V → Hp → VK → Prop) : Prop :=
  ∀ (A : Around) (outer : List Env) (s : Shared) (H : Hp) (us : List Value) (vs : List V) (Q : VK) (p : Addr × Obj), RoomH k A → Hot1 A p → PinOk outer H s p → Env0 P w K mg base A outer s H → BindsTo s fd ⟨us, []⟩ (ps.zip us) → Vals vs us → vs.length = ps.length → sp p vs H Q →
    codeAny (model P w) A (.call (.ref f) ⟨us, []⟩) (CR CX0 outer P w H s Q E0) s
theorem okPin {P : Program} {w : World} {K : PySem.W.Frag} {mg : Str → Option Value} {base : Heap} {x qual : Str} {st : Stmt} {f : Addr} {fd : FuncData} {N ps : List Str} {k : Nat} {sp : Addr × Obj → List V → Hp → VK → Prop} (F : Fun K x qual st f fd) (S : FnScope N ps (defScope st))
    (hbody : ∀ (cdv : Value) (A : Around) (outer : List Env) (s : Shared) (H : Hp) (vs : List V) (Q : VK) (p : Addr × Obj), Hot1 A p → RoomH k (A.deeper (envOfC qual (defScope st) s.heap.objs.size f cdv)) → sp p vs H Q →
      ∃ t, PSs (cxH CX0 P w K mg base N qual (defScope st) f cdv A outer s H E0 p) (defBody st) t ∧ t { nx := fun _ H' => Q .non H', rt := Q } (L2.start N vs) H) : FnPin P w K mg base (k + 1) f fd ps sp := by
  obtain ⟨oc, od, kV, doc, pm, an, cdv, ct, osl, rfl, lk, hcd⟩ := F.ex
  intro A outer s H us vs Q p hr hot hpin e0 hb r hl hsp
  have KX : K.In s.heap := e0.mod.kin.keeps fun b o e => (e0.bs b o e).1
  have lim : s.heap.NoLimit := e0.mod.nolimit.keeps fun b o e => (e0.bs b o e).1
  refine codeAny_call_function hr.depth (KX _ _ lk) rfl S.co S.gen rfl (PySem.W.codeRec_of KX hcd) (hb _ _ _ _ ?_)
  refine wpAny_newFunctionEnv_cells S.kind (fun ⟨n, v⟩ hy => (S.par n (List.of_mem_zip hy).1).imp id fun q => ⟨q, PySem.W.cellsFrom_some _ _ _ (.inl q)⟩) fun env he s1 y => ?_
  subst he
  refine ⟨lim.keeps y.toInCall.keep, codeAny_func ?_⟩
  obtain ⟨t, ht, hq⟩ := hbody cdv A outer s H vs Q p hot (hr.deeper _) hsp
  refine wpAny_mono (ht.run [] s1 (L2.start N vs) H _ (inv_startH S hpin e0 hl r y) hq) (fun fl s' hs => ?_) fun e s' hs => hs
  cases fl with
  | ret u => obtain ⟨v, σ', H', J, rv, q⟩ := hs; exact ⟨v, H', J.os, J.bare, J.base, J.hok, rv, q⟩
  | next => obtain ⟨σ', H', J, q⟩ := hs; exact ⟨.non, H', J.os, J.bare, J.base, J.hok, rfl, q⟩
  | brk => obtain ⟨_, _, _, q⟩ := hs; exact False.elim q
  | cont => obtain ⟨_, _, _, q⟩ := hs; exact False.elim q
theorem pe_callPin {X : Cx} {k : Nat} {f : Addr} {fd : FuncData} {ps : List Str} {sp : Addr × Obj → List V → Hp → VK → Prop} {x : Str} {q pos : Pos} {e : Expr} {es : List Expr} {t : TA} {p : Addr × Obj} (F : FnPin X.prog X.w X.K X.mg X.base k f fd ps sp) (hr : RoomH k X.A) (hot : Hot1 X.A p) (hp : p ∈ X.pn)
    (hg : Gl X x) (hm : X.mg x = some (.ref f)) (hk : PySem.W.keepIn X.K (.ref f) = true) (hb : Binds X.K fd ps []) (ha : PA X (e :: es) t) (hdb : (x == ("__debug__" : Str)) = false := by decide)
    (he : starEach (e :: es) X.env = (false, eval e X.env) :: starEach es X.env := by rfl) (hpl : (backTo pos (starEach es X.env)).any (·.1) = false := by rfl) :
    PE X (.Call (.Name x q) (e :: es) [] pos) (fun σ H Q => t σ H fun vs H1 => vs.length = ps.length ∧ sp p vs H1 Q) := by
  refine ⟨fun pins s σ H Q I h => wpAny_Call_Name_kw (ld_glob I hg hm ?_ hdb)⟩
  refine PySem.W.callWith_K (h₀ := X.base) I.ok.mod.kin hk (thn (ha.run pos pins s σ H _ I h) fun us s1 ⟨vs, H1, I1, r, hl, q⟩ => ⟨I1.kIn, ?_⟩) he hpl
  have b := hb s1 us I1.kIn (by rw [List.append_nil, ← r.length]; exact hl)
  rw [List.append_nil] at b
  have P1 := I1.pin p (List.mem_append_left _ hp)
  have hpin : PinOk X.stack H1 s1 p := ⟨P1.1, P1.2.1, fun z => (List.mem_cons.mp (I1.stkSub p.1 z)).elim P1.2.2.1 P1.2.2.2.1, P1.2.2.2.2⟩
  refine wpAny_call (codeAny_mono (F X.A X.stack s1 H1 us vs Q p hr hot hpin I1.env0 b r hl q) fun r s' hq => ?_)
  cases r with
  | error e => exact (show False from hq).elim
  | ok fl =>
    cases fl with
    | ret u => exact I1.after hq
    | next => exact False.elim hq
    | brk => exact False.elim hq
    | cont => exact False.elim hq
/-! ### what is asked of a pinned exception -/
structure ErrC (K : PySem.W.Frag) (D : Addr) : Prop where
  cl : (PySem.W.clsIn K D).isSome = true
  ga : PySem.W.findIn K (.ref D) "__getattribute__" = some (some (.builtin "BaseException.__getattribute__"))
  gg : PySem.W.findIn K (.ref D) "__getattr__" = some none
  sb : PySem.W.subIn K (.ref D) (.type "BaseException") = some true
  cc : PySem.W.findIn K (.ref D) "__class__" = some (some (.builtin "object.__class__"))
  gs : PySem.W.specialIn K (.builtin "object.__class__") "__get__" = some (some (.builtin "getset_descriptor.__get__"))
  tk : PySem.W.takesIn K (.builtin "object.__class__") = some true
  mo : PySem.W.mroIn K D (.type "object") = some true
  hd : PySem.W.hasDictIn K D = true
theorem inst_pin {X : Cx} {pins : List (Addr × Obj)} {σ : L2.St} {H : Hp} {s : Shared} {p : Addr × Obj} {D d : Addr} {fs : List (Str × V)} (I : Inv X pins σ H s) (hp : p ∈ X.pn) (hz : Zc (.ref D) (some d) p.2) (hf : ∃ vs, p.2.data = .fields vs) (hd : H d = some (.xd fs)) :
    ∃ od, PySem.W.InstAt s.heap p.1 p.2 D (some od) ∧ ∃ mA : Str → Option Value, (∀ f, RelO (fs.lookup f) (mA f)) ∧ ∀ name, PySem.W.lookIn name od = some (mA name) := by
  obtain ⟨mA, hns, hr⟩ := (show ∃ mA, s.heap.Ns1 d mA ∧ ∀ f, RelO (fs.lookup f) (mA f) from I.hok d _ hd)
  obtain ⟨od, ho, hl⟩ := lookIn_ns hns
  obtain ⟨vs, hv⟩ := hf
  exact ⟨od, ⟨(I.pin p (List.mem_append_left _ hp)).1, hz.1, by unfold PySem.W.notCls; rw [hv] <;> rfl, by rw [hz.2]; exact ho⟩, mA, hr, hl⟩
theorem call_isP {X : Cx} {p : Addr × Obj} {D d : Addr} (C : ErrC X.K D) (hp : p ∈ X.pn) (hz : Zc (.ref D) (some d) p.2) (hf : ∃ vs, p.2.data = .fields vs) :
    CallR X (.builtin "isinstance") (fun xs H Q => ∃ (c : Addr) (b : Bool) (fs : List (Str × V)), xs = [.ref p.1, .ref c] ∧ H d = some (.xd fs) ∧ PySem.W.kitOne X.K (.ref D) (.ref c) = some b ∧ Q (.bl b) H) := by
  intro pins s σ H xs us Q I r h
  obtain ⟨c, b, fs, rfl, hd, e, q⟩ := h
  obtain ⟨u, v, rfl, ru, rv⟩ := vals2 r
  cases ru
  cases rv
  obtain ⟨od, J, _⟩ := inst_pin I hp hz hf hd
  exact PySem.W.kia_one (PySem.W.kitx_exc C.cl C.ga C.gg C.sb C.cc C.gs C.tk C.mo) I.kIn J e (fun z => nomatch z) fun tk => ⟨.bl b, H, I.kept (t' := tk) fun _ _ z => z, rfl, q⟩
/-- e.f of it -/
theorem pe_fldP {X : Cx} {p : Addr × Obj} {D d : Addr} {e : Expr} {te : TE} {pos : Pos} {n : Str} (C : ErrC X.K D) (hno : PySem.W.findIn X.K (.ref D) n = some none) (hp : p ∈ X.pn) (hz : Zc (.ref D) (some d) p.2) (hf : ∃ vs, p.2.data = .fields vs) (he : PE X e te)
    (hb : attributeBase e n X.env (eval e X.env) = eval e X.env := by rfl) : PE X (.Attribute e n pos) (fun σ H Q => te σ H fun x H1 => x = .ref p.1 ∧ ∃ (fs : List (Str × V)) (v : V), H1 d = some (.xd fs) ∧ fs.lookup n = some v ∧ Q v H1) := by
  refine ⟨fun pins s σ H Q I h => attr_of hb (thn (he.run pins s σ H _ I h) fun u s1 ⟨x, H1, I1, rx, ex, fs, v, hd, l, q⟩ => ?_)⟩
  subst ex
  obtain rfl : u = Value.ref p.1 := rx
  obtain ⟨od, J, mA, hr, hl⟩ := inst_pin I1 hp hz hf hd
  obtain ⟨u, hu, ru⟩ := RelO.some_of (v := v) (o := mA n) (by rw [← l]; exact hr n)
  exact HandSPX.exc_get I1.kIn J C.ga C.gg C.sb (PySem.W.findObj_own C.hd hno rfl (by rw [hl, hu])) (handed_of ru) ⟨v, H1, I1.tok _, ru, q⟩
/-! ### a comprehension over zip, the first list no longer -/
theorem lc_zip1 {K : PySem.W.Frag} {a b : Addr} {xs ys : List V} {g : TG} {tt : TT} {te : TE} {vs : List Nat} {σ : L2.St} {H1 : Hp} {D : Addr} {Qd : Hp → Prop} (hl : xs.length ≤ ys.length) (Pv : Nat → Hp → Prop) (h0 : Pv 0 (upd H1 D (.lst []))) (hq : ∀ i H, Pv i H → SqL K H a xs ∧ SqL K H b ys)
    (hs : ∀ i x y T H, xs[i]? = some x → ys[i]? = some y → Pv i H → H T = none → g (.ref T) (wipe σ vs) (upd H T (.tup [x, y])) fun σ2 H2 => wipe σ2 vs = wipe σ vs ∧ tt σ2 H2 fun b H3 =>
      if b = true then te σ2 H3 fun y H4 => ∃ acc, H4 D = some (.lst acc) ∧ acc.length < sizeLine ∧ Pv (i + 1) (upd H4 D (.lst (acc ++ [y]))) else Pv (i + 1) H3) (hd : ∀ H, Pv xs.length H → Qd H) :
    ∃ W : Nat → Nat → Hp → Prop, (∃ m, W 0 m (upd H1 D (.lst []))) ∧ ∀ i m H, W i m H → ((Itz1 K a b).stop i H ∧ Qd H) ∨ ((Itz1 K a b).go i H ∧ ∃ Nx : Hp → Prop, (∀ H', Nx H' → ∃ m', m' < m ∧ W (i + 1) m' H') ∧
      ∀ x H', (Itz1 K a b).yld i H x H' → g x (wipe σ vs) H' fun σ2 H2 => wipe σ2 vs = wipe σ vs ∧ tt σ2 H2 fun b H3 => if b = true then te σ2 H3 fun y H4 => ∃ acc, H4 D = some (.lst acc) ∧ acc.length < sizeLine ∧ Nx (upd H4 D (.lst (acc ++ [y]))) else Nx H3) := by
  refine ⟨fun i m H => m = xs.length - i ∧ i ≤ xs.length ∧ Pv i H, ⟨xs.length, by simp, Nat.zero_le _, h0⟩, fun i m H ⟨em, hi, p⟩ => ?_⟩
  obtain ⟨qa, qb⟩ := hq i H p
  by_cases lt : i < xs.length
  · have lt2 : i < ys.length := by omega
    refine .inr ⟨⟨xs, ys, xs[i], ys[i], qa, qb, List.getElem?_eq_getElem lt, List.getElem?_eq_getElem lt2⟩, Pv (i + 1), fun H' p' => ⟨xs.length - (i + 1), by omega, rfl, lt, p'⟩, fun x H' hy => ?_⟩
    obtain ⟨T, x1, x2, rfl, nT, rfl, e1, e2⟩ := hy
    exact hs i x1 x2 T H (e1 _ qa) (e2 _ qb) p nT
  · have e : i = xs.length := by omega
    subst e
    exact .inl ⟨⟨xs, ys, qa, qb, Nat.le_refl _⟩, hd H p⟩
/-! ### the lambda that a def got, called in its try: errors with no context -/
def lamCxN (X : Cx) (A : Around) (outer : List Env) (s : Shared) (H : Hp) (E : XK) (scope : Scope) (f c' : Addr) : Cx :=
  { LamX.lamCx X A outer s H E scope f c' with xe := fun e s' => wpAny (model X.prog X.w) (A.deeper (LamX.lamEnv X scope s.heap.objs.size f c')) (leaving (LamX.lamEnv X scope s.heap.objs.size f c') e) (fun _ s'' => L2N.CX X.prog X.w outer H s E e s'') (fun e' s'' => L2N.CX X.prog X.w outer H s E e' s'') s' }
theorem reXe {X : Cx} {xe : Value → Shared → Prop} {pins : List (Addr × Obj)} {σ : L2.St} {H : Hp} {s : Shared} (I : Inv X pins σ H s) : Inv { X with xe := xe } pins σ H s := by
  have ok := I.ok
  exact ⟨⟨ok.mod, ok.kind, ok.glob, ok.blt, ok.above, ok.inj, ok.has, ok.cab, ok.hd, ok.frames, ok.stk, ok.exf, ok.bs, ok.bsz, ok.noex, ok.exfs, ok.funs, ok.frf⟩, I.os, I.bare, I.base, I.loc, I.cell, I.free, I.freeC, I.pin, I.hok, I.len⟩
section
variable {X : Cx} {pins : List (Addr × Obj)} {σ : L2.St} {H : Hp} {s : Shared}
open LamX
theorem pe_actN {CXg : CXT} {Eg : XK} {Ng : List Str} {qg : Str} {sg : Scope} {g f c' : Addr} {cdg pm ctv : Value} {params : Arguments} {body : Expr} {scope : Scope} {k i : Nat} {a : Str} {pn : List (Addr × Obj)} {xe : Value → Shared → Prop} {W : WX} {E : XK} {tb : TE} {p1 p2 : Pos}
    (I : Inv X pins σ H s) (L : LamS X.env.scope scope) (hf : s.heap.get? f = some (PySem.W.kla_obj "<lambda>" (X.env.qual ++ "<lambda>") params body scope (cloFrom X.env.cells scope.names []) pm c' ctv)) (hfn : H f = none) (hfr : f ∉ frs X.stack)
    (hbind : bindArgs (PySem.W.kla_fn "<lambda>" (X.env.qual ++ "<lambda>") params body scope (cloFrom X.env.cells scope.names []) pm (.ref c') ctv) ⟨[], []⟩ = pure [])
    (tk : L2N.Takes ((cxOf CXg X.prog X.w X.K X.mg X.base Ng qg sg g cdg X.A X.stack s H Eg).tr pn xe) W) (hW : ∀ cls d σ' H', E cls d H' → W cls d σ' H') (hr : Room (k + 1) (X.A.deeper (envOfC qg sg s.heap.objs.size g cdg)))
    (hbody : ∀ (A : Around) (outer : List Env) (s : Shared) (H : Hp), Room k (A.deeper (lamEnv X scope s.heap.objs.size f c')) → PE (lamCxN X A outer s H E scope f c') body tb)
    (hN : Ng[i]? = some a) (hv : Vis sg a) (hd : (a == ("__debug__" : Str)) = false) (hcd : (a == ("__classdict__" : Str)) = false) :
    PE ((cxOf CXg X.prog X.w X.K X.mg X.base Ng qg sg g cdg X.A X.stack s H Eg).tr pn xe) (.Call (.Name a p1) [] [] p2) (fun σZ HZ Q => σZ[i]? = some (some (.ref f)) ∧ HZ c' = some (CodeO c' (X.env.qual ++ "<lambda>")) ∧ tb σ HZ Q) := by
  refine ⟨fun pinsZ sZ σZ HZ Q IZ ⟨hs, hc, ht⟩ => ?_⟩
  refine wpAny_Call_Name_kw (thn ((pe_var (pos := p1) (i := i) hN hv hd hcd).run pinsZ sZ σZ HZ (fun v H1 => v = .ref f ∧ H1 = HZ) IZ ⟨.ref f, hs, rfl, rfl⟩) fun u s1 ⟨v, H1, I1, r1, ev, eH⟩ => ?_)
  subst ev
  rw [eH] at I1
  obtain rfl : u = Value.ref f := r1
  have of1 := I1.base.keep f _ hf hfn hfr (fun z => nomatch (show f ∈ ([] : List Addr) from z))
  refine PySem.W.callWith_F0 ⟨_, _, _, _, of1⟩ ?_
  obtain ⟨⟨oc, vs, t, hoc, hdc, hvc⟩, _, _⟩ := I1.hok c' _ hc
  have rc : codeAny (model X.prog X.w) (X.A.deeper (envOfC qg sg s.heap.objs.size g cdg)) (.call (.ref f) ⟨[], []⟩) (CR (L2N.CX X.prog X.w) (envOfC qg sg s.heap.objs.size g cdg :: X.stack) X.prog X.w HZ s1 Q E) s1 := by
    refine PySem.W.kla_callFunE hr.depth of1 rfl L.co L.gen rfl ⟨c', oc, vs, t, rfl, hoc, hdc, hvc⟩ ?_
    rw [hbind]
    refine wpAny_pure (wpAny_newFunctionEnv (fun y hy => (L.own y hy).2) (fun y hy => absurd hy (by simp)) (fun j hns hsb => ⟨I1.nolimit.fresh _ hsb, ?_⟩) L.kind)
    show codeAny _ _ (.expr body (lamEnv X scope s1.heap.objs.size f c')) _ _
    have kp : ∀ b o, s1.heap.get? b = some o → j.get? b = some o := fun b o e => hsb.extBut b o (Nat.ne_of_lt (Heap.lt_size e)) (Heap.get?_push_of_some _ e)
    have J0 : Inv (lamCx X (X.A.deeper (envOfC qg sg s.heap.objs.size g cdg)) (envOfC qg sg s.heap.objs.size g cdg :: X.stack) s1 HZ E scope f c') [] σ HZ { s1 with heap := j, toks := s1.toks + ([] : List (Str × Value)).length } := lam_start2 I L I1.env0 hr.hd I1.base hns kp
    have J : Inv (lamCxN X (X.A.deeper (envOfC qg sg s.heap.objs.size g cdg)) (envOfC qg sg s.heap.objs.size g cdg :: X.stack) s1 HZ E scope f c') [] σ HZ { s1 with heap := j, toks := s1.toks + ([] : List (Str × Value)).length } := reXe J0
    refine PySem.W.kla_codeExpr (wpAny_mono ((hbody _ _ s1 HZ (hr.deeper _)).run [] _ _ HZ Q J ht) (fun v s' hq => ?_) fun e s' hq => hq)
    obtain ⟨w', H', J', rv, q⟩ := hq
    exact ⟨w', H', J'.os, J'.bare, J'.base, J'.hok, rv, q⟩
  have hx := L2N.passes_call tk hW
  refine wpAny_call (codeAny_mono rc fun r s' hq => ?_)
  cases r with
  | error e => exact hx pinsZ σZ HZ s1 e s' I1 hq
  | ok fl =>
    cases fl with
    | ret u => exact I1.after hq
    | next => exact False.elim hq
    | brk => exact False.elim hq
    | cont => exact False.elim hq
end
end Onp
set_option maxHeartbeats 4000000
set_option autoImplicit false
namespace Onp
open PySem PySem.Spec PyProof.Rows L2 HotX L2H LamX
/-! ### x(lambda: body), x a def that calls what it got in a try; errors with no context -/
def GivesN (X : Cx) (k : Nat) (Ng : List Str) (x : Str) (sg : Scope) (g : Addr) (cdg : Value) (bg : List Stmt) (a : Str) (q : Str) (TT : (XK → Hp → VK → Prop) → Hp → VK → Prop) : Prop :=
  ∀ (f c' : Addr) (s : Shared) (H : Hp) (Q : VK) (tl : XK → Hp → VK → Prop), Room (k + 1) (X.A.deeper (envOfC x sg s.heap.objs.size g cdg)) →
    (∀ (W : WX) (pn : List (Addr × Obj)) (xe : Value → Shared → Prop) (E : XK) (p1 p2 : Pos), L2N.Takes ((cxOf CX0 X.prog X.w X.K X.mg X.base Ng x sg g cdg X.A X.stack s H E0).tr pn xe) W → (∀ cls d σ' H', E cls d H' → W cls d σ' H') →
      PE ((cxOf CX0 X.prog X.w X.K X.mg X.base Ng x sg g cdg X.A X.stack s H E0).tr pn xe) (.Call (.Name a p1) [] [] p2) (fun σZ HZ Q => σZ[0]? = some (some (.ref f)) ∧ HZ c' = some (CodeO c' q) ∧ tl E HZ Q)) →
    H c' = some (CodeO c' q) → TT tl H Q →
    ∃ t, PSs (cxOf CX0 X.prog X.w X.K X.mg X.base Ng x sg g cdg X.A X.stack s H E0).nox bg t ∧ t { nx := fun _ H' => Q .non H', rt := Q } (L2.start Ng [.ref f]) H
theorem pe_lamN {X : Cx} {T : List (Addr × Str)} {TT : (XK → Hp → VK → Prop) → Hp → VK → Prop} {x a : Str} {g c P : Addr} {k : Nat} {pg : Arguments} {bg : List Stmt} {sg : Scope} {dV kV doc pm cdv ct oc : Value} {an od : Option Addr} {osl : Array (Option Value)} {Ng : List Str}
    {params : Arguments} {body : Expr} {scope : Scope} {t : XK → TE} {p lpos pos : Pos} (hg : Gl X x) (hm : X.mg x = some (.ref g)) (hk : PySem.W.keepIn X.K (.ref g) = true) (lk : X.K.lookup g = some ⟨oc, od, .func (PySem.W.fnOf x x pg bg sg dV kV doc pm an cdv ct), osl⟩)
    (hcg : PySem.W.codeIn X.K cdv x = true) (hb : L2.Binds X.K (PySem.W.fnOf x x pg bg sg dV kV doc pm an cdv ct) [a] []) (Sg : FnScope Ng [a] sg) (hNg : Ng[0]? = some a) (hva : Vis sg a) (hG : GivesN X k Ng x sg g cdv bg a (X.env.qual ++ "<lambda>") TT)
    (TB : TabB X.base X.mg c P) (hcode : X.env.code = .ref c) (hmT : (P, X.env.qual ++ "<lambda>") ∈ T) (hu : ∀ p ∈ T, p.1 = P → p.2 = X.env.qual ++ "<lambda>") (hr : Room (k + 2) X.A) (L : LamS X.env.scope scope) (hdef : defaultsOf params X.env = ([], []))
    (hbind : ∀ (q : Str) (cl : List (Str × Addr)) (pm cv ctv : Value), bindArgs (PySem.W.kla_fn "<lambda>" q params body scope cl pm cv ctv) ⟨[], []⟩ = pure [])
    (hbody : ∀ (A : Around) (outer : List Env) (s : Shared) (H : Hp) (E : XK) (f c' : Addr), Room k (A.deeper (lamEnv X scope s.heap.objs.size f c')) → PE (lamCxN X A outer s H E scope f c') body (t E))
    (hdb : (x == ("__debug__" : Str)) = false := by decide) (hd : (a == ("__debug__" : Str)) = false := by decide) (hcd : (a == ("__classdict__" : Str)) = false := by decide) : PE X (.Call (.Name x p) [.Lambda params body scope lpos] [] pos) (tLam T TT t) := by
  refine ⟨fun pins s σ H Q I ⟨hT, h⟩ => wpAny_Call_Name_kw (ld_glob I hg hm ?_ hdb)⟩
  refine PySem.W.callWith_K (h₀ := X.base) I.ok.mod.kin hk ?_ (by rfl) (by rfl)
  show wpAny _ _ (spliced ((false, eval (.Lambda params body scope lpos) X.env) :: backTo pos (starEach [] X.env))) _ _ s
  refine Calls.spliced_cons (lam_make2 I TB hcode hmT hu hT hdef (L.has I.ok) fun f c' pm' ctv H1 s' I1 eN T1 hf hfn hfr hco => Calls.spliced_nil ⟨I1.kIn, ?_⟩)
  have rc : codeAny (model X.prog X.w) X.A (.call (.ref g) ⟨[.ref f], []⟩) (CR CX0 X.stack X.prog X.w H1 s' Q E0) s' := by
    refine run_ofS (N := Ng) (ps := [a]) (us := [.ref f]) (vs := [.ref f]) lk hcg Sg hr I1.env0 (hb s' [.ref f] I1.kIn rfl) (.cons rfl .nil) rfl fun hr' => ?_
    obtain ⟨t', ht', hq'⟩ := hG f c' s' H1 Q (fun E H' Q' => t E σ H' Q') hr' (fun W pn xe E p1 p2 tk hW => pe_actN (i := 0) I1 L hf hfn hfr (hbind _ _ _ _ _) tk hW hr' (fun A outer s H hr2 => hbody A outer s H E f c' hr2) hNg hva hd hcd) hco (h H1 eN T1)
    exact ⟨t', ht'.nox, hq'⟩
  refine wpAny_call (codeAny_mono rc fun r s2 hq => ?_)
  cases r with
  | error e => exact (show False from hq).elim
  | ok fl =>
    cases fl with
    | ret u => exact I1.after hq
    | next => exact False.elim hq
    | brk => exact False.elim hq
    | cont => exact False.elim hq
theorem takes0N {X : Cx} : L2N.Takes X (fun _ _ _ _ => False) := fun _ _ x => by
  obtain ⟨_, _, _, _, _, _, _, _, _, _, _, _, _, _, _, _, z⟩ := x
  exact z.elim
end Onp
set_option maxHeartbeats 8000000
set_option autoImplicit false
namespace Onp
open PySem PySem.Spec PyProof.Rows L2 HotX L2H
abbrev sKind : Stmt := topS 45
abbrev sTold : Stmt := topS 46
/-! ### the kinds of refusals -/
def errNames : List Str := ["BadMark", "BadLetters", "BadRoom", "BadArrow", "BadWord", "BadSize", "BadPattern", "BadTable", "BadTree", "BadText", "BadName", "BadDeed", "BadPage", "Taken", "Full", "Unlike", "NotDear", "InUse", "TooWide", "NoArrow", "NoName", "NoTraveller", "NothingLeft"]
def errWords : List Str := ["badmark", "badletters", "badroom", "badarrow", "badword", "badsize", "badpattern", "badtable", "badtree", "badtext", "badname", "baddeed", "badpage", "taken", "full", "unlike", "notdear", "inuse", "toowide", "noarrow", "noname", "notraveller", "nothingleft"]
def wordOf (x : Str) : Str := ((errNames.zip errWords).lookup x).getD Str.empty
def pick (nm : Str) : List Str := (((errWords.zip (errNames.map (· == nm))).filter (·.2)).map (·.1))
theorem pick_one : ∀ nm ∈ errNames, pick nm = [wordOf nm] := by decide +kernel
theorem join_one : ∀ nm ∈ errNames, Txt.join "+" [wordOf nm] = wordOf nm := by decide +kernel
theorem word_len : ∀ nm ∈ errNames, (wordOf nm).length ≤ 100 := by decide +kernel
structure Kd (K : PySem.W.Frag) (mg : Str → Option Value) (ec : Str → Addr) (used : List Str) (cP cM : Addr) : Prop where
  g : ∀ x ∈ errNames, mg x = some (.ref (ec x))
  cl : ∀ x ∈ errNames, PySem.W.typeIn K (.ref (ec x)) = some (.type "type") ∧ PySem.W.isClsIn K (ec x) = true
  us : ∀ x ∈ used, x ∈ errNames
  er : ∀ x ∈ used, ErrC K (ec x)
  wd : ∀ x ∈ used, PySem.W.findIn K (.ref (ec x)) "word" = some none
  sub : ∀ x ∈ used, ∀ y ∈ errNames, PySem.W.subIn K (.ref (ec x)) (.ref (ec y)) = some (y == x)
  bx : ∀ y ∈ (["BadText", "BadPage", "TooWide"] : List Str), PySem.W.subIn K (.ref (ec y)) (.type "BaseException") = some true
  gP : mg "PurseError" = some (.ref cP)
  gM : mg "Missing" = some (.ref cM)
  any : ∀ x ∈ used, PySem.W.exmAny K (.ref (ec x)) [.ref cP, .ref cM, .ref (ec "NothingLeft")] = some true
section
variable {K : PySem.W.Frag} {mg : Str → Option Value} {ec : Str → Addr} {used : List Str} {cP cM : Addr}
theorem Kd.kit (T : Kd K mg ec used cP cM) {x y : Str} (hx : x ∈ used) (hy : y ∈ errNames) : PySem.W.kitOne K (.ref (ec x)) (.ref (ec y)) = some (y == x) := by
  have s1 := T.sub x hx y hy
  unfold PySem.W.kitOne
  by_cases e : ((Value.ref (ec x)) == (Value.ref (ec y))) = true
  · rw [if_pos e]
    have e' : ec x = ec y := Value.ref.inj (beq_iff_eq.mp e)
    have s2 := T.sub x hx x (T.us x hx)
    rw [← e', s2] at s1
    rw [beq_self_eq_true] at s1
    exact s1
  · rw [if_neg e]
    obtain ⟨h1, h2⟩ := T.cl y hy
    have h2' : (PySem.W.clsIn K (ec y)).isSome = true := h2
    show (if ((PySem.W.clsIn K (ec y)).isSome && PySem.W.typeIn K (.ref (ec y)) == some (.type "type")) = true then PySem.W.subIn K (.ref (ec x)) (.ref (ec y)) else none) = _
    rw [h2', h1, if_pos (by rfl)]
    exact s1
theorem Kd.exm (T : Kd K mg ec used cP cM) {x y : Str} (hx : x ∈ used) (hy : y ∈ (["BadText", "BadPage", "TooWide"] : List Str)) (hy2 : y ∈ errNames) : PySem.W.exmOne K (.ref (ec x)) (.ref (ec y)) = some (y == x) := by
  have e1 : (PySem.W.subIn K (.ref (ec y)) (.type "BaseException") == some true) = true := by rw [T.bx y hy] <;> rfl
  obtain ⟨h1, h2⟩ := T.cl y hy2
  have h2' : (PySem.W.clsIn K (ec y)).isSome = true := h2
  show (if (PySem.W.subIn K (.ref (ec y)) (.type "BaseException") == some true) = true then (if ((PySem.W.clsIn K (ec y)).isSome && PySem.W.typeIn K (.ref (ec y)) == some (.type "type")) = true then PySem.W.subIn K (.ref (ec x)) (.ref (ec y)) else none) else none) = _
  rw [if_pos e1, h2', h1, if_pos (by rfl)]
  exact T.sub x hx y hy2
end
def NK : List Str := ["_law_e", "_law_flags", "_law_words", "_law_found", "_law_one", "_law_here"]
theorem scKind : FnScope NK ["_law_e"] (defScope sKind) := ⟨rfl, rfl, rfl, by decide +kernel, rfl, by decide +kernel, by decide +kernel⟩
section
variable {P : Program} {w : World} {K : PySem.W.Frag} {mg : Str → Option Value} {base : Heap} {ec : Str → Addr} {used : List Str} {cP cM : Addr}
def spKind (ec : Str → Addr) (used : List Str) : Addr × Obj → List V → Hp → VK → Prop := fun p vs H Q => ∃ (nm : Str) (dd : Addr) (fs : List (Str × V)), nm ∈ used ∧ vs = [.ref p.1] ∧ L2N.Zn (.ref (ec nm)) (some dd) p.2 ∧ H dd = some (.xd fs) ∧
  fs.lookup ("word" : Str) = some (V.str (wordOf nm)) ∧ ∀ H', Same H H' → Q (.str (wordOf nm)) H'
def allW : Str := "badmark badletters badroom badarrow badword badsize badpattern badtable badtree badtext badname baddeed badpage taken full unlike notdear inuse toowide noarrow noname notraveller nothingleft"
theorem ok_kind {f : Addr} {fd : FuncData} {k : Nat} (F : Fun K "_law_kind" "_law_kind" sKind f fd) (T : Kd K mg ec used cP cM) (mi : mg "isinstance" = none) (mz : mg "zip" = none) : FnPin P w K mg base (k + 1) f fd ["_law_e"] (spKind ec used) := by
  refine okPin F scKind fun cdv A outer s H vs Q p hot hr h => ?_
  obtain ⟨nm, dd, fs, hnm, rfl, hz, hd, hwd, q⟩ := h
  have hu := T.us nm hnm
  have hf : ∃ vs, p.2.data = .fields vs := by
    obtain ⟨_, v, e, _⟩ := hot
    exact ⟨v, e⟩
  have C := T.er nm hnm
  have hpm : p ∈ (cxH CX0 P w K mg base NK "_law_kind" (defScope sKind) f cdv A outer s H E0 p).pn := List.mem_cons_self
  have hotX : Hot1 (cxH CX0 P w K mg base NK "_law_kind" (defScope sKind) f cdv A outer s H E0 p).A p := hot
  have ci := call_isP (X := cxH CX0 P w K mg base NK "_law_kind" (defScope sKind) f cdv A outer s H E0 p) C hpm hz.zc hf
  refine ⟨_, pss_cons (ps_set (i := 1) scKind.nd rfl (.inl rfl) (pe_lst (pa_cons (pe_callB ci (by rfl) mi (by decide +kernel) (pa_cons (pv 0) (pa_cons (pe_glob (v := .ref (ec "BadMark")) rfl (T.g "BadMark" (by decide +kernel)) rfl) pa_nil)))
      (pa_cons (pe_callB ci (by rfl) mi (by decide +kernel) (pa_cons (pv 0) (pa_cons (pe_glob (v := .ref (ec "BadLetters")) rfl (T.g "BadLetters" (by decide +kernel)) rfl) pa_nil)))
      (pa_cons (pe_callB ci (by rfl) mi (by decide +kernel) (pa_cons (pv 0) (pa_cons (pe_glob (v := .ref (ec "BadRoom")) rfl (T.g "BadRoom" (by decide +kernel)) rfl) pa_nil))) pa_nil)))))
    (pss_cons (ps_set (i := 1) scKind.nd rfl (.inl rfl) (pe_op op_cat (pv 1) (pe_lst (pa_cons (pe_callB ci (by rfl) mi (by decide +kernel) (pa_cons (pv 0) (pa_cons (pe_glob (v := .ref (ec "BadArrow")) rfl (T.g "BadArrow" (by decide +kernel)) rfl) pa_nil))) (pa_cons (pe_callB ci (by rfl) mi (by decide +kernel) (pa_cons (pv 0) (pa_cons (pe_glob (v := .ref (ec "BadWord")) rfl (T.g "BadWord" (by decide +kernel)) rfl) pa_nil))) (pa_cons (pe_callB ci (by rfl) mi (by decide +kernel) (pa_cons (pv 0) (pa_cons (pe_glob (v := .ref (ec "BadSize")) rfl (T.g "BadSize" (by decide +kernel)) rfl) pa_nil))) pa_nil))))))
    (pss_cons (ps_set (i := 1) scKind.nd rfl (.inl rfl) (pe_op op_cat (pv 1) (pe_lst (pa_cons (pe_callB ci (by rfl) mi (by decide +kernel) (pa_cons (pv 0) (pa_cons (pe_glob (v := .ref (ec "BadPattern")) rfl (T.g "BadPattern" (by decide +kernel)) rfl) pa_nil))) (pa_cons (pe_callB ci (by rfl) mi (by decide +kernel) (pa_cons (pv 0) (pa_cons (pe_glob (v := .ref (ec "BadTable")) rfl (T.g "BadTable" (by decide +kernel)) rfl) pa_nil))) (pa_cons (pe_callB ci (by rfl) mi (by decide +kernel) (pa_cons (pv 0) (pa_cons (pe_glob (v := .ref (ec "BadTree")) rfl (T.g "BadTree" (by decide +kernel)) rfl) pa_nil))) pa_nil))))))
    (pss_cons (ps_set (i := 1) scKind.nd rfl (.inl rfl) (pe_op op_cat (pv 1) (pe_lst (pa_cons (pe_callB ci (by rfl) mi (by decide +kernel) (pa_cons (pv 0) (pa_cons (pe_glob (v := .ref (ec "BadText")) rfl (T.g "BadText" (by decide +kernel)) rfl) pa_nil))) (pa_cons (pe_callB ci (by rfl) mi (by decide +kernel) (pa_cons (pv 0) (pa_cons (pe_glob (v := .ref (ec "BadName")) rfl (T.g "BadName" (by decide +kernel)) rfl) pa_nil))) (pa_cons (pe_callB ci (by rfl) mi (by decide +kernel) (pa_cons (pv 0) (pa_cons (pe_glob (v := .ref (ec "BadDeed")) rfl (T.g "BadDeed" (by decide +kernel)) rfl) pa_nil))) pa_nil))))))
    (pss_cons (ps_set (i := 1) scKind.nd rfl (.inl rfl) (pe_op op_cat (pv 1) (pe_lst (pa_cons (pe_callB ci (by rfl) mi (by decide +kernel) (pa_cons (pv 0) (pa_cons (pe_glob (v := .ref (ec "BadPage")) rfl (T.g "BadPage" (by decide +kernel)) rfl) pa_nil))) (pa_cons (pe_callB ci (by rfl) mi (by decide +kernel) (pa_cons (pv 0) (pa_cons (pe_glob (v := .ref (ec "Taken")) rfl (T.g "Taken" (by decide +kernel)) rfl) pa_nil))) (pa_cons (pe_callB ci (by rfl) mi (by decide +kernel) (pa_cons (pv 0) (pa_cons (pe_glob (v := .ref (ec "Full")) rfl (T.g "Full" (by decide +kernel)) rfl) pa_nil))) pa_nil))))))
    (pss_cons (ps_set (i := 1) scKind.nd rfl (.inl rfl) (pe_op op_cat (pv 1) (pe_lst (pa_cons (pe_callB ci (by rfl) mi (by decide +kernel) (pa_cons (pv 0) (pa_cons (pe_glob (v := .ref (ec "Unlike")) rfl (T.g "Unlike" (by decide +kernel)) rfl) pa_nil))) (pa_cons (pe_callB ci (by rfl) mi (by decide +kernel) (pa_cons (pv 0) (pa_cons (pe_glob (v := .ref (ec "NotDear")) rfl (T.g "NotDear" (by decide +kernel)) rfl) pa_nil))) (pa_cons (pe_callB ci (by rfl) mi (by decide +kernel) (pa_cons (pv 0) (pa_cons (pe_glob (v := .ref (ec "InUse")) rfl (T.g "InUse" (by decide +kernel)) rfl) pa_nil))) pa_nil))))))
    (pss_cons (ps_set (i := 1) scKind.nd rfl (.inl rfl) (pe_op op_cat (pv 1) (pe_lst (pa_cons (pe_callB ci (by rfl) mi (by decide +kernel) (pa_cons (pv 0) (pa_cons (pe_glob (v := .ref (ec "TooWide")) rfl (T.g "TooWide" (by decide +kernel)) rfl) pa_nil))) (pa_cons (pe_callB ci (by rfl) mi (by decide +kernel) (pa_cons (pv 0) (pa_cons (pe_glob (v := .ref (ec "NoArrow")) rfl (T.g "NoArrow" (by decide +kernel)) rfl) pa_nil))) (pa_cons (pe_callB ci (by rfl) mi (by decide +kernel) (pa_cons (pv 0) (pa_cons (pe_glob (v := .ref (ec "NoName")) rfl (T.g "NoName" (by decide +kernel)) rfl) pa_nil))) pa_nil))))))
    (pss_cons (ps_set (i := 1) scKind.nd rfl (.inl rfl) (pe_op op_cat (pv 1) (pe_lst (pa_cons (pe_callB ci (by rfl) mi (by decide +kernel) (pa_cons (pv 0) (pa_cons (pe_glob (v := .ref (ec "NoTraveller")) rfl (T.g "NoTraveller" (by decide +kernel)) rfl) pa_nil))) (pa_cons (pe_callB ci (by rfl) mi (by decide +kernel) (pa_cons (pv 0) (pa_cons (pe_glob (v := .ref (ec "NothingLeft")) rfl (T.g "NothingLeft" (by decide +kernel)) rfl) pa_nil))) pa_nil)))))
    (pss_cons (ps_set (i := 2) scKind.nd rfl (.inl rfl) pe_str)
    (pss_cons (ps_set (i := 2) scKind.nd rfl (.inl rfl) (pe_op op_add_str (pv 2) pe_str))
    (pss_cons (ps_set (i := 2) scKind.nd rfl (.inl rfl) (pe_op op_add_str (pv 2) pe_str))
    (pss_cons (ps_set (i := 3) scKind.nd rfl (.inl rfl) (pe_join pe_str (pe_lcH (own := [("_law_one", 4), ("_law_here", 5)]) (g := gTup K 2 (gCons (gName 4) (gCons (gName 5) gNil))) (te := tVar 4) hotX hpm scKind.nd
        (pi_zipH (by rfl) mz (pa_cons (pe_split (pv 2) pe_str) (pa_cons (pv 1) pa_nil)))
        (blkOk_by (own := [("_law_one", 4), ("_law_here", 5)]) (N := NK) (sc := defScope sKind) (by decide +kernel))
        (fun _ _ _ _ _ => pg_tupH (n := 2) (hotBlk hotX) (pgs_cons (pg_name (i := 4) scKind.nd rfl (.inl rfl) (.inr rfl)) (pgs_cons (pg_name (i := 5) scKind.nd rfl (.inl rfl) (.inr rfl)) pgs_nil)))
        (fun _ _ _ _ _ => pts_one (pt_val (pv 5))) (fun _ _ _ _ _ => pv 4))))
    (pss_one (ps_ret (pe_ifExp (pt_cmpR op_eq (pe_fldP C (T.wd nm hnm) hpm hz.zc hf (pv 0)) (pv 3) (nomark _)) (pv 3) (pe_op op_add_str (pv 3) pe_str))))))))))))))), ?_⟩
  have dz : ∀ {Hx : Hp}, Same H Hx → Hx dd = some (.xd fs) := fun e => e _ _ hd
  -- the flags
  refine ⟨_, rfl, ec "BadMark", _, fs, rfl, hd, T.kit hnm (by decide +kernel), _, rfl, ec "BadLetters", _, fs, rfl, hd, T.kit hnm (by decide +kernel), _, rfl, ec "BadRoom", _, fs, rfl, hd, T.kit hnm (by decide +kernel), (by decide : 3 ≤ sizeLine), fun l0 n0 => ?_⟩
  have s0 := same_upd (o := .lst [.bl (("BadMark" : Str) == nm), .bl (("BadLetters" : Str) == nm), .bl (("BadRoom" : Str) == nm)]) n0
  refine ⟨_, rfl, _, rfl, ec "BadArrow", _, fs, rfl, dz s0, T.kit hnm (by decide +kernel), _, rfl, ec "BadWord", _, fs, rfl, dz s0, T.kit hnm (by decide +kernel), _, rfl, ec "BadSize", _, fs, rfl, dz s0, T.kit hnm (by decide +kernel), (by decide : 3 ≤ sizeLine), fun m0 k0 => ?_⟩
  have u0 := s0.trans (same_upd (o := .lst [.bl (("BadArrow" : Str) == nm), .bl (("BadWord" : Str) == nm), .bl (("BadSize" : Str) == nm)]) k0)
  refine ⟨l0, m0, [.bl (("BadMark" : Str) == nm), .bl (("BadLetters" : Str) == nm), .bl (("BadRoom" : Str) == nm)], [.bl (("BadArrow" : Str) == nm), .bl (("BadWord" : Str) == nm), .bl (("BadSize" : Str) == nm)], rfl, rfl, Eq.trans (upd_ne (ne_of_none upd_same k0)) upd_same, upd_same, (by show 6 ≤ sizeLine; decide), fun l1 n1 => ?_⟩
  have s1 := u0.trans (same_upd (o := .lst [.bl (("BadMark" : Str) == nm), .bl (("BadLetters" : Str) == nm), .bl (("BadRoom" : Str) == nm), .bl (("BadArrow" : Str) == nm), .bl (("BadWord" : Str) == nm), .bl (("BadSize" : Str) == nm)]) n1)
  refine ⟨_, rfl, _, rfl, ec "BadPattern", _, fs, rfl, dz s1, T.kit hnm (by decide +kernel), _, rfl, ec "BadTable", _, fs, rfl, dz s1, T.kit hnm (by decide +kernel), _, rfl, ec "BadTree", _, fs, rfl, dz s1, T.kit hnm (by decide +kernel), (by decide : 3 ≤ sizeLine), fun m1 k1 => ?_⟩
  have u1 := s1.trans (same_upd (o := .lst [.bl (("BadPattern" : Str) == nm), .bl (("BadTable" : Str) == nm), .bl (("BadTree" : Str) == nm)]) k1)
  refine ⟨l1, m1, [.bl (("BadMark" : Str) == nm), .bl (("BadLetters" : Str) == nm), .bl (("BadRoom" : Str) == nm), .bl (("BadArrow" : Str) == nm), .bl (("BadWord" : Str) == nm), .bl (("BadSize" : Str) == nm)], [.bl (("BadPattern" : Str) == nm), .bl (("BadTable" : Str) == nm), .bl (("BadTree" : Str) == nm)], rfl, rfl, Eq.trans (upd_ne (ne_of_none upd_same k1)) upd_same, upd_same, (by show 9 ≤ sizeLine; decide), fun l2 n2 => ?_⟩
  have s2 := u1.trans (same_upd (o := .lst [.bl (("BadMark" : Str) == nm), .bl (("BadLetters" : Str) == nm), .bl (("BadRoom" : Str) == nm), .bl (("BadArrow" : Str) == nm), .bl (("BadWord" : Str) == nm), .bl (("BadSize" : Str) == nm), .bl (("BadPattern" : Str) == nm), .bl (("BadTable" : Str) == nm), .bl (("BadTree" : Str) == nm)]) n2)
  refine ⟨_, rfl, _, rfl, ec "BadText", _, fs, rfl, dz s2, T.kit hnm (by decide +kernel), _, rfl, ec "BadName", _, fs, rfl, dz s2, T.kit hnm (by decide +kernel), _, rfl, ec "BadDeed", _, fs, rfl, dz s2, T.kit hnm (by decide +kernel), (by decide : 3 ≤ sizeLine), fun m2 k2 => ?_⟩
  have u2 := s2.trans (same_upd (o := .lst [.bl (("BadText" : Str) == nm), .bl (("BadName" : Str) == nm), .bl (("BadDeed" : Str) == nm)]) k2)
  refine ⟨l2, m2, [.bl (("BadMark" : Str) == nm), .bl (("BadLetters" : Str) == nm), .bl (("BadRoom" : Str) == nm), .bl (("BadArrow" : Str) == nm), .bl (("BadWord" : Str) == nm), .bl (("BadSize" : Str) == nm), .bl (("BadPattern" : Str) == nm), .bl (("BadTable" : Str) == nm), .bl (("BadTree" : Str) == nm)], [.bl (("BadText" : Str) == nm), .bl (("BadName" : Str) == nm), .bl (("BadDeed" : Str) == nm)], rfl, rfl, Eq.trans (upd_ne (ne_of_none upd_same k2)) upd_same, upd_same, (by show 12 ≤ sizeLine; decide), fun l3 n3 => ?_⟩
  have s3 := u2.trans (same_upd (o := .lst [.bl (("BadMark" : Str) == nm), .bl (("BadLetters" : Str) == nm), .bl (("BadRoom" : Str) == nm), .bl (("BadArrow" : Str) == nm), .bl (("BadWord" : Str) == nm), .bl (("BadSize" : Str) == nm), .bl (("BadPattern" : Str) == nm), .bl (("BadTable" : Str) == nm), .bl (("BadTree" : Str) == nm), .bl (("BadText" : Str) == nm), .bl (("BadName" : Str) == nm), .bl (("BadDeed" : Str) == nm)]) n3)
  refine ⟨_, rfl, _, rfl, ec "BadPage", _, fs, rfl, dz s3, T.kit hnm (by decide +kernel), _, rfl, ec "Taken", _, fs, rfl, dz s3, T.kit hnm (by decide +kernel), _, rfl, ec "Full", _, fs, rfl, dz s3, T.kit hnm (by decide +kernel), (by decide : 3 ≤ sizeLine), fun m3 k3 => ?_⟩
  have u3 := s3.trans (same_upd (o := .lst [.bl (("BadPage" : Str) == nm), .bl (("Taken" : Str) == nm), .bl (("Full" : Str) == nm)]) k3)
  refine ⟨l3, m3, [.bl (("BadMark" : Str) == nm), .bl (("BadLetters" : Str) == nm), .bl (("BadRoom" : Str) == nm), .bl (("BadArrow" : Str) == nm), .bl (("BadWord" : Str) == nm), .bl (("BadSize" : Str) == nm), .bl (("BadPattern" : Str) == nm), .bl (("BadTable" : Str) == nm), .bl (("BadTree" : Str) == nm), .bl (("BadText" : Str) == nm), .bl (("BadName" : Str) == nm), .bl (("BadDeed" : Str) == nm)], [.bl (("BadPage" : Str) == nm), .bl (("Taken" : Str) == nm), .bl (("Full" : Str) == nm)], rfl, rfl, Eq.trans (upd_ne (ne_of_none upd_same k3)) upd_same, upd_same, (by show 15 ≤ sizeLine; decide), fun l4 n4 => ?_⟩
  have s4 := u3.trans (same_upd (o := .lst [.bl (("BadMark" : Str) == nm), .bl (("BadLetters" : Str) == nm), .bl (("BadRoom" : Str) == nm), .bl (("BadArrow" : Str) == nm), .bl (("BadWord" : Str) == nm), .bl (("BadSize" : Str) == nm), .bl (("BadPattern" : Str) == nm), .bl (("BadTable" : Str) == nm), .bl (("BadTree" : Str) == nm), .bl (("BadText" : Str) == nm), .bl (("BadName" : Str) == nm), .bl (("BadDeed" : Str) == nm), .bl (("BadPage" : Str) == nm), .bl (("Taken" : Str) == nm), .bl (("Full" : Str) == nm)]) n4)
  refine ⟨_, rfl, _, rfl, ec "Unlike", _, fs, rfl, dz s4, T.kit hnm (by decide +kernel), _, rfl, ec "NotDear", _, fs, rfl, dz s4, T.kit hnm (by decide +kernel), _, rfl, ec "InUse", _, fs, rfl, dz s4, T.kit hnm (by decide +kernel), (by decide : 3 ≤ sizeLine), fun m4 k4 => ?_⟩
  have u4 := s4.trans (same_upd (o := .lst [.bl (("Unlike" : Str) == nm), .bl (("NotDear" : Str) == nm), .bl (("InUse" : Str) == nm)]) k4)
  refine ⟨l4, m4, [.bl (("BadMark" : Str) == nm), .bl (("BadLetters" : Str) == nm), .bl (("BadRoom" : Str) == nm), .bl (("BadArrow" : Str) == nm), .bl (("BadWord" : Str) == nm), .bl (("BadSize" : Str) == nm), .bl (("BadPattern" : Str) == nm), .bl (("BadTable" : Str) == nm), .bl (("BadTree" : Str) == nm), .bl (("BadText" : Str) == nm), .bl (("BadName" : Str) == nm), .bl (("BadDeed" : Str) == nm), .bl (("BadPage" : Str) == nm), .bl (("Taken" : Str) == nm), .bl (("Full" : Str) == nm)], [.bl (("Unlike" : Str) == nm), .bl (("NotDear" : Str) == nm), .bl (("InUse" : Str) == nm)], rfl, rfl, Eq.trans (upd_ne (ne_of_none upd_same k4)) upd_same, upd_same, (by show 18 ≤ sizeLine; decide), fun l5 n5 => ?_⟩
  have s5 := u4.trans (same_upd (o := .lst [.bl (("BadMark" : Str) == nm), .bl (("BadLetters" : Str) == nm), .bl (("BadRoom" : Str) == nm), .bl (("BadArrow" : Str) == nm), .bl (("BadWord" : Str) == nm), .bl (("BadSize" : Str) == nm), .bl (("BadPattern" : Str) == nm), .bl (("BadTable" : Str) == nm), .bl (("BadTree" : Str) == nm), .bl (("BadText" : Str) == nm), .bl (("BadName" : Str) == nm), .bl (("BadDeed" : Str) == nm), .bl (("BadPage" : Str) == nm), .bl (("Taken" : Str) == nm), .bl (("Full" : Str) == nm), .bl (("Unlike" : Str) == nm), .bl (("NotDear" : Str) == nm), .bl (("InUse" : Str) == nm)]) n5)
  refine ⟨_, rfl, _, rfl, ec "TooWide", _, fs, rfl, dz s5, T.kit hnm (by decide +kernel), _, rfl, ec "NoArrow", _, fs, rfl, dz s5, T.kit hnm (by decide +kernel), _, rfl, ec "NoName", _, fs, rfl, dz s5, T.kit hnm (by decide +kernel), (by decide : 3 ≤ sizeLine), fun m5 k5 => ?_⟩
  have u5 := s5.trans (same_upd (o := .lst [.bl (("TooWide" : Str) == nm), .bl (("NoArrow" : Str) == nm), .bl (("NoName" : Str) == nm)]) k5)
  refine ⟨l5, m5, [.bl (("BadMark" : Str) == nm), .bl (("BadLetters" : Str) == nm), .bl (("BadRoom" : Str) == nm), .bl (("BadArrow" : Str) == nm), .bl (("BadWord" : Str) == nm), .bl (("BadSize" : Str) == nm), .bl (("BadPattern" : Str) == nm), .bl (("BadTable" : Str) == nm), .bl (("BadTree" : Str) == nm), .bl (("BadText" : Str) == nm), .bl (("BadName" : Str) == nm), .bl (("BadDeed" : Str) == nm), .bl (("BadPage" : Str) == nm), .bl (("Taken" : Str) == nm), .bl (("Full" : Str) == nm), .bl (("Unlike" : Str) == nm), .bl (("NotDear" : Str) == nm), .bl (("InUse" : Str) == nm)], [.bl (("TooWide" : Str) == nm), .bl (("NoArrow" : Str) == nm), .bl (("NoName" : Str) == nm)], rfl, rfl, Eq.trans (upd_ne (ne_of_none upd_same k5)) upd_same, upd_same, (by show 21 ≤ sizeLine; decide), fun l6 n6 => ?_⟩
  have s6 := u5.trans (same_upd (o := .lst [.bl (("BadMark" : Str) == nm), .bl (("BadLetters" : Str) == nm), .bl (("BadRoom" : Str) == nm), .bl (("BadArrow" : Str) == nm), .bl (("BadWord" : Str) == nm), .bl (("BadSize" : Str) == nm), .bl (("BadPattern" : Str) == nm), .bl (("BadTable" : Str) == nm), .bl (("BadTree" : Str) == nm), .bl (("BadText" : Str) == nm), .bl (("BadName" : Str) == nm), .bl (("BadDeed" : Str) == nm), .bl (("BadPage" : Str) == nm), .bl (("Taken" : Str) == nm), .bl (("Full" : Str) == nm), .bl (("Unlike" : Str) == nm), .bl (("NotDear" : Str) == nm), .bl (("InUse" : Str) == nm), .bl (("TooWide" : Str) == nm), .bl (("NoArrow" : Str) == nm), .bl (("NoName" : Str) == nm)]) n6)
  refine ⟨_, rfl, _, rfl, ec "NoTraveller", _, fs, rfl, dz s6, T.kit hnm (by decide +kernel), _, rfl, ec "NothingLeft", _, fs, rfl, dz s6, T.kit hnm (by decide +kernel), (by decide : 2 ≤ sizeLine), fun m6 k6 => ?_⟩
  have u6 := s6.trans (same_upd (o := .lst [.bl (("NoTraveller" : Str) == nm), .bl (("NothingLeft" : Str) == nm)]) k6)
  refine ⟨l6, m6, [.bl (("BadMark" : Str) == nm), .bl (("BadLetters" : Str) == nm), .bl (("BadRoom" : Str) == nm), .bl (("BadArrow" : Str) == nm), .bl (("BadWord" : Str) == nm), .bl (("BadSize" : Str) == nm), .bl (("BadPattern" : Str) == nm), .bl (("BadTable" : Str) == nm), .bl (("BadTree" : Str) == nm), .bl (("BadText" : Str) == nm), .bl (("BadName" : Str) == nm), .bl (("BadDeed" : Str) == nm), .bl (("BadPage" : Str) == nm), .bl (("Taken" : Str) == nm), .bl (("Full" : Str) == nm), .bl (("Unlike" : Str) == nm), .bl (("NotDear" : Str) == nm), .bl (("InUse" : Str) == nm), .bl (("TooWide" : Str) == nm), .bl (("NoArrow" : Str) == nm), .bl (("NoName" : Str) == nm)], [.bl (("NoTraveller" : Str) == nm), .bl (("NothingLeft" : Str) == nm)], rfl, rfl, Eq.trans (upd_ne (ne_of_none upd_same k6)) upd_same, upd_same, (by show 23 ≤ sizeLine; decide), fun l7 n7 => ?_⟩
  have s7 := u6.trans (same_upd (o := .lst [.bl (("BadMark" : Str) == nm), .bl (("BadLetters" : Str) == nm), .bl (("BadRoom" : Str) == nm), .bl (("BadArrow" : Str) == nm), .bl (("BadWord" : Str) == nm), .bl (("BadSize" : Str) == nm), .bl (("BadPattern" : Str) == nm), .bl (("BadTable" : Str) == nm), .bl (("BadTree" : Str) == nm), .bl (("BadText" : Str) == nm), .bl (("BadName" : Str) == nm), .bl (("BadDeed" : Str) == nm), .bl (("BadPage" : Str) == nm), .bl (("Taken" : Str) == nm), .bl (("Full" : Str) == nm), .bl (("Unlike" : Str) == nm), .bl (("NotDear" : Str) == nm), .bl (("InUse" : Str) == nm), .bl (("TooWide" : Str) == nm), .bl (("NoArrow" : Str) == nm), .bl (("NoName" : Str) == nm), .bl (("NoTraveller" : Str) == nm), .bl (("NothingLeft" : Str) == nm)]) n7)
  -- the words
  refine ⟨_, rfl, _, _, rfl, rfl, by decide +kernel, ?_⟩
  refine ⟨_, rfl, _, _, rfl, rfl, by decide +kernel, ?_⟩
  -- '+'.join([.. for .. in zip(words.split(' '), flags) if ..])
  refine ⟨⟨_, rfl⟩, _, rfl, ⟨_, rfl⟩, allW, " ", ?_, rfl, by decide +kernel, by decide +kernel, fun wl nwl => ?_⟩
  · exact congrArg V.str (by decide +kernel)
  have esp : Txt.split allW " " = errWords := by decide +kernel
  rw [esp]
  have sw := s7.trans (same_upd (o := .lst (errWords.map V.str)) nwl)
  have nlw : l7 ≠ wl := ne_of_none upd_same nwl
  refine ⟨_, rfl, wl, l7, errWords.map V.str, (errNames.map (· == nm)).map V.bl, rfl, SqL.of upd_same, SqL.of (by rw [upd_ne nlw, upd_same]; rfl), fun D nD => ?_⟩
  have nDw : wl ≠ D := ne_of_none upd_same nD
  have nDl : l7 ≠ D := by
    refine ne_of_none (o := .lst ((errNames.map (· == nm)).map V.bl)) ?_ nD
    rw [upd_ne nlw, upd_same]
    rfl
  refine lc_zip1 (xs := errWords.map V.str) (ys := (errNames.map (· == nm)).map V.bl) (by rw [List.length_map, List.length_map, List.length_map]; decide) (fun i H' => Same H H' ∧ H' wl = some (.lst (errWords.map V.str)) ∧ H' l7 = some (.lst ((errNames.map (· == nm)).map V.bl)) ∧ H D = none ∧
      H' D = some (.lst (((((errWords.zip (errNames.map (· == nm))).take i).filter (·.2)).map (·.1)).map V.str)))
    ⟨sw.trans (same_upd nD), by rw [upd_ne nDw, upd_same], by rw [upd_ne nDl, upd_ne nlw, upd_same]; rfl, sw.free nD, upd_same⟩ (fun i H' ⟨_, h1, h2, _⟩ => ⟨SqL.of h1, SqL.of h2⟩) ?_ ?_
  · rintro i x y t Hx hx hy ⟨sm, h1, h2, fD, h3⟩ nt
    obtain ⟨wi, ewi, rfl⟩ : ∃ wi, errWords[i]? = some wi ∧ x = .str wi := by
      rw [List.getElem?_map] at hx
      cases e : errWords[i]? with
      | none => rw [e] at hx; cases hx
      | some u => rw [e] at hx; exact ⟨u, rfl, (Option.some.inj hx).symm⟩
    obtain ⟨bi, ebi, rfl⟩ : ∃ bi, (errNames.map (· == nm))[i]? = some bi ∧ y = .bl bi := by
      rw [List.getElem?_map] at hy
      cases e : (errNames.map (· == nm))[i]? with
      | none => rw [e] at hy; cases hy
      | some u => rw [e] at hy; exact ⟨u, rfl, (Option.some.inj hy).symm⟩
    have ez : (errWords.zip (errNames.map (· == nm)))[i]? = some (wi, bi) := by
      rw [List.getElem?_zip_eq_some]
      exact ⟨ewi, ebi⟩
    have et : (errWords.zip (errNames.map (· == nm))).take (i + 1) = (errWords.zip (errNames.map (· == nm))).take i ++ [(wi, bi)] := by rw [List.take_add_one, ez]; rfl
    have st : Same Hx (upd Hx t (.tup [.str wi, .bl bi])) := same_upd nt
    refine ⟨t, _, rfl, SqT.of upd_same, rfl, _, _, rfl, _, _, rfl, rfl, rfl, _, rfl, bi, rfl, ?_⟩
    cases bi with
    | true =>
      rw [if_pos rfl]
      refine ⟨_, rfl, _, st _ _ h3, ?_, ?_⟩
      · rw [List.length_map, List.length_map]
        refine Nat.lt_of_le_of_lt (List.length_filter_le _ _) ?_
        rw [List.length_take]
        rw [List.length_zip]
        exact Nat.lt_of_le_of_lt (Nat.le_trans (Nat.min_le_right _ _) (Nat.min_le_left _ _)) (by decide +kernel)
      · refine ⟨fun b o e => ?_, ?_, ?_, fD, ?_⟩
        · rw [upd_ne (ne_of_none e fD)]
          exact st _ _ (sm _ _ e)
        · rw [upd_ne nDw]
          exact st _ _ h1
        · rw [upd_ne nDl]
          exact st _ _ h2
        · rw [upd_same, et, List.filter_append, List.map_append, List.map_append]
          rfl
    | false =>
      rw [if_neg (by decide)]
      refine ⟨sm.trans st, st _ _ h1, st _ _ h2, fD, ?_⟩
      rw [et, List.filter_append, show List.filter (fun x : Str × Bool => x.2) [(wi, false)] = [] from rfl, List.append_nil]
      exact st _ _ h3
  · rintro Hx ⟨sm, h1, h2, fD, h3⟩
    have ep : ((((errWords.zip (errNames.map (· == nm))).take (errWords.map V.str).length).filter (·.2)).map (·.1)) = [wordOf nm] := by
      rw [List.take_of_length_le (by rw [List.length_map, List.length_zip]; omega)]
      exact pick_one nm hu
    rw [ep] at h3
    refine ⟨_, D, [wordOf nm], rfl, rfl, .inl (SqL.of h3), ?_, ?_⟩
    · show (wordOf nm).length + 0 + 1 * 1 ≤ 16777216
      have := word_len nm hu
      omega
    · rw [join_one nm hu]
      refine ⟨_, rfl, rfl, fs, _, sm _ _ hd, hwd, _, rfl, rfl, _, rfl, ?_⟩
      rw [decide_eq_true rfl]
      exact iteT ⟨_, rfl, q _ sm⟩
end
end Onp
set_option maxHeartbeats 8000000
set_option autoImplicit false
namespace Onp
open PySem PySem.Spec PyProof.Rows L2 HotX L2H LamX
def NT : List Str := ["_law_ask", "_law_e"]
theorem scTold : FnScope NT ["_law_ask"] (defScope sTold) := ⟨rfl, rfl, rfl, by decide +kernel, rfl, by decide +kernel, by decide +kernel⟩
/-- what is told of a refusal besides its word -/
def secV (nm : Str) (fs : List (Str × V)) : V := if nm = "TooWide" then (fs.lookup ("most" : Str)).getD .non else .non
def Eh (ec : Str → Addr) (used : List Str) (Q : VK) : XK := fun cls d H' => ∃ (nm : Str) (dd : Addr) (fs : List (Str × V)), nm ∈ used ∧ cls = .ref (ec nm) ∧ d = some dd ∧ H' dd = some (.xd fs) ∧ fs.lookup ("word" : Str) = some (V.str (wordOf nm)) ∧
  (nm = "TooWide" → ∃ v, fs.lookup ("most" : Str) = some v) ∧ ∀ H'' p, Same H' H'' → H'' p = none → Q (.ref p) (upd H'' p (.tup [.str (wordOf nm), secV nm fs]))
def TTold (ec : Str → Addr) (used : List Str) : (XK → Hp → VK → Prop) → Hp → VK → Prop := fun tl H Q => tl (Eh ec used Q) H (fun v H' => ∀ p, H' p = none → Q (.ref p) (upd H' p (.tup [.str "told", v])))
/-- a clause's suite -/
def tsE (ec : Str → Addr) (used : List Str) (ok : Str → Prop) : Addr → Value → Option Addr → TS := fun a cls d D σ H => ∃ (nm : Str) (dd : Addr) (fs : List (Str × V)), ok nm ∧ nm ∈ used ∧ cls = .ref (ec nm) ∧ d = some dd ∧ σ[1]? = some (some (.ref a)) ∧ H dd = some (.xd fs) ∧ fs.lookup ("word" : Str) = some (V.str (wordOf nm)) ∧
  (nm = "TooWide" → ∃ v, fs.lookup ("most" : Str) = some v) ∧ ∀ H'' p, Same H H'' → H'' p = none → D.rt (.ref p) (upd H'' p (.tup [.str (wordOf nm), secV nm fs]))
section
variable {X : Cx} {ec : Str → Addr} {used : List Str} {cP cM : Addr}
abbrev toldX (X : Cx) (g : Addr) (cdg : Value) (s : Shared) (H : Hp) : Cx := (cxOf CX0 X.prog X.w X.K X.mg X.base NT "_law_told" (defScope sTold) g cdg X.A X.stack s H E0).nox
theorem suite_none {k : Nat} {g fK : Addr} {cdg : Value} {fdK : FuncData} {s : Shared} {H : Hp} {a : Addr} {oe : Obj} {cls : Value} {d : Option Addr} {pn : List (Addr × Obj)} {p1 p2 p3 p4 p5 p6 : Pos} (GK : FnPin X.prog X.w X.K X.mg X.base (k + 1) fK fdK ["_law_e"] (spKind ec used)) (hr : Room (k + 1) (X.A.deeper (envOfC "_law_told" (defScope sTold) s.heap.objs.size g cdg)))
    (FK : Fun X.K "_law_kind" "_law_kind" sKind fK fdK) (bK : Binds X.K fdK ["_law_e"] []) (gK : X.mg "_law_kind" = some (.ref fK)) (hz : L2N.Zn cls d oe) (hf : ∃ vs, oe.data = .fields vs) :
    PSs ((toldX X g cdg s H).suite a ((a, oe) :: pn)) [.Return (some (.Tuple [.Call (.Name "_law_kind" p1) [.Name "_law_e" p2] [] p3, .Constant .none 0 p4] 0 p5)) p6] (tsE ec used (fun nm => nm ≠ "TooWide") a cls d) := by
  refine ⟨fun pins s' σ H' D I h' => ?_⟩
  obtain ⟨nm, dd, fs, ho, hu, rfl, rfl, h1, h2, h3, h4, h5⟩ := h'
  obtain ⟨vs, hv⟩ := hf
  have hot : Hot1 ((toldX X g cdg s H).suite a ((a, oe) :: pn)).A (a, oe) := ⟨rfl, vs, hv, hz.2.2 vs hv⟩
  have hrun : PSs ((toldX X g cdg s H).suite a ((a, oe) :: pn)) [.Return (some (.Tuple [.Call (.Name "_law_kind" p1) [.Name "_law_e" p2] [] p3, .Constant .none 0 p4] 0 p5)) p6] _ :=
    pss_one (ps_ret (pe_tup (pa_cons (pe_callPin (p := (a, oe)) GK ⟨hr.dp, hr.un⟩ hot List.mem_cons_self (by rfl) gK FK.kp bK (pa_cons (pv 1) pa_nil)) (pa_cons pe_non pa_nil))))
  refine hrun.run pins s' σ H' D I ⟨_, h1, rfl, nm, dd, fs, hu, rfl, hz, h2, h3, fun H2 sm => ⟨(by decide : 2 ≤ sizeLine), fun p np => ?_⟩⟩
  have e := h5 H2 p sm np
  unfold secV at e
  rw [if_neg ho] at e
  exact e
theorem suite_most {k : Nat} {g fK : Addr} {cdg : Value} {fdK : FuncData} {s : Shared} {H : Hp} {a : Addr} {oe : Obj} {cls : Value} {d : Option Addr} {pn : List (Addr × Obj)} {p1 p2 p3 p4 p5 p6 p7 : Pos} (GK : FnPin X.prog X.w X.K X.mg X.base (k + 1) fK fdK ["_law_e"] (spKind ec used)) (hr : Room (k + 1) (X.A.deeper (envOfC "_law_told" (defScope sTold) s.heap.objs.size g cdg)))
    (FK : Fun X.K "_law_kind" "_law_kind" sKind fK fdK) (bK : Binds X.K fdK ["_law_e"] []) (gK : X.mg "_law_kind" = some (.ref fK)) (T : Kd X.K X.mg ec used cP cM) (mo : ("TooWide" : Str) ∈ used → PySem.W.findIn X.K (.ref (ec "TooWide")) "most" = some none) (hz : L2N.Zn cls d oe) (hf : ∃ vs, oe.data = .fields vs) :
    PSs ((toldX X g cdg s H).suite a ((a, oe) :: pn)) [.Return (some (.Tuple [.Call (.Name "_law_kind" p1) [.Name "_law_e" p2] [] p3, .Attribute (.Name "_law_e" p4) "most" p5] 0 p6)) p7] (tsE ec used (fun nm => nm = "TooWide") a cls d) := by
  refine ⟨fun pins s' σ H' D I h' => ?_⟩
  obtain ⟨nm, dd, fs, ho, hu, rfl, rfl, h1, h2, h3, h4, h5⟩ := h'
  obtain ⟨vs, hv⟩ := hf
  subst ho
  obtain ⟨v, ev⟩ := h4 rfl
  have hot : Hot1 ((toldX X g cdg s H).suite a ((a, oe) :: pn)).A (a, oe) := ⟨rfl, vs, hv, hz.2.2 vs hv⟩
  have hrun : PSs ((toldX X g cdg s H).suite a ((a, oe) :: pn)) [.Return (some (.Tuple [.Call (.Name "_law_kind" p1) [.Name "_law_e" p2] [] p3, .Attribute (.Name "_law_e" p4) "most" p5] 0 p6)) p7] _ :=
    pss_one (ps_ret (pe_tup (pa_cons (pe_callPin (p := (a, oe)) GK ⟨hr.dp, hr.un⟩ hot List.mem_cons_self (by rfl) gK FK.kp bK (pa_cons (pv 1) pa_nil)) (pa_cons (pe_fldP (p := (a, oe)) (T.er _ hu) (mo hu) List.mem_cons_self hz.zc ⟨vs, hv⟩ (pv 1)) pa_nil))))
  refine hrun.run pins s' σ H' D I ⟨_, h1, rfl, "TooWide", dd, fs, hu, rfl, hz, h2, h3, fun H2 sm => ⟨_, h1, rfl, fs, v, sm _ _ h2, ev, (by decide : 2 ≤ sizeLine), fun p np => ?_⟩⟩
  have e := h5 H2 p sm np
  unfold secV at e
  rw [if_pos rfl, ev] at e
  exact e
theorem body_told {g f c' : Addr} {cdg : Value} {s : Shared} {H : Hp} {q : Str} {W : WX} {pn : List (Addr × Obj)} {xe : Value → Shared → Prop} {tl : XK → Hp → VK → Prop} {p0 p1 p2 p3 p4 : Pos}
    (act : ∀ (E : XK), (∀ cls d σ' H', E cls d H' → W cls d σ' H') → PE ((toldX X g cdg s H).tr pn xe) (.Call (.Name "_law_ask" p1) [] [] p2) (fun σZ HZ Q => σZ[0]? = some (some (.ref f)) ∧ HZ c' = some (CodeO c' q) ∧ tl E HZ Q)) :
    PSs ((toldX X g cdg s H).tr pn xe) [.Return (some (.Tuple [.Constant (.str "told") 0 p0, .Call (.Name "_law_ask" p1) [] [] p2] 0 p3)) p4]
      (fun D σ H => ∃ Ech : XK, (∀ cls d σ' H', Ech cls d H' → W cls d σ' H') ∧ σ[0]? = some (some (.ref f)) ∧ H c' = some (CodeO c' q) ∧ tl Ech H (fun v H' => (2 : Nat) ≤ sizeLine ∧ ∀ p, H' p = none → D.rt (.ref p) (upd H' p (.tup [.str "told", v])))) := by
  refine ⟨fun pins s' σ H' D I h' => ?_⟩
  obtain ⟨Ech, hW, h1, h2, h3⟩ := h'
  have hrun : PSs ((toldX X g cdg s H).tr pn xe) [.Return (some (.Tuple [.Constant (.str "told") 0 p0, .Call (.Name "_law_ask" p1) [] [] p2] 0 p3)) p4] _ := pss_one (ps_ret (pe_tup (pa_cons pe_str (pa_cons (act Ech hW) pa_nil))))
  exact hrun.run pins s' σ H' D I ⟨h1, h2, h3⟩
theorem told_gives {k : Nat} {g fK : Addr} {cdg : Value} {fdK : FuncData} {q : Str} (T : Kd X.K X.mg ec used cP cM) (nb : ("BadText" : Str) ∉ used ∧ ("BadPage" : Str) ∉ used) (mo : ("TooWide" : Str) ∈ used → PySem.W.findIn X.K (.ref (ec "TooWide")) "most" = some none)
    (FK : Fun X.K "_law_kind" "_law_kind" sKind fK fdK) (bK : Binds X.K fdK ["_law_e"] []) (gK : X.mg "_law_kind" = some (.ref fK)) (mi : X.mg "isinstance" = none) (mz : X.mg "zip" = none) :
    GivesN X k NT "_law_told" (defScope sTold) g cdg (defBody sTold) "_law_ask" q (TTold ec used) := by
  intro f c' s H Q tl hr act hc h
  have GK : FnPin X.prog X.w X.K X.mg X.base (k + 1) fK fdK ["_law_e"] (spKind ec used) := ok_kind FK T mi mz
  refine ⟨_, pss_one (ps_try_clauses (X := toldX X g cdg s H) (n := "_law_e") (i := 1) (Wout := fun _ _ _ _ => False)
      (tb := fun W D σ H => ∃ Ech : XK, (∀ cls d σ' H', Ech cls d H' → W cls d σ' H') ∧ σ[0]? = some (some (.ref f)) ∧ H c' = some (CodeO c' q) ∧ tl Ech H (fun v H' => (2 : Nat) ≤ sizeLine ∧ ∀ p, H' p = none → D.rt (.ref p) (upd H' p (.tup [.str "told", v]))))
      (l := [(fun cls => PySem.W.exmOne X.K cls (.ref (ec "BadText")), fun _ _ _ => tNever), (fun cls => PySem.W.exmOne X.K cls (.ref (ec "BadPage")), fun _ _ _ => tNever), (fun cls => PySem.W.exmOne X.K cls (.ref (ec "TooWide")), tsE ec used (fun nm => nm = "TooWide")),
        (fun cls => PySem.W.exmAny X.K cls [.ref cP, .ref cM, .ref (ec "NothingLeft")], tsE ec used (fun nm => nm ≠ "TooWide"))])
      rfl rfl scTold.nd rfl rfl takes0N (fun W pn xe tk _ => body_told fun E hW => act W pn xe E _ _ tk hW)
      (.cons (test_name rfl (by decide) (T.g "BadText" (by decide +kernel))) (fun _ _ _ _ _ _ _ => pss_never)
      (.cons (test_name rfl (by decide) (T.g "BadPage" (by decide +kernel))) (fun _ _ _ _ _ _ _ => pss_never)
      (.cons (test_name rfl (by decide) (T.g "TooWide" (by decide +kernel))) (fun a oe cls d pn hz hf => suite_most GK hr FK bK gK T mo hz hf)
      (.cons (test_three rfl rfl rfl (by decide) (by decide) (by decide) T.gP T.gM (T.g "NothingLeft" (by decide +kernel))) (fun a oe cls d pn hz hf => suite_none GK hr FK bK gK hz hf) .nil))))), ?_⟩
  have e : (fun (v : V) (H' : Hp) => (2 : Nat) ≤ sizeLine ∧ ∀ p, H' p = none → Q (.ref p) (upd H' p (.tup [.str "told", v]))) = (fun v H' => ∀ p, H' p = none → Q (.ref p) (upd H' p (.tup [.str "told", v]))) := by
    funext v H'
    exact propext ⟨fun z => z.2, fun z => ⟨by decide, z⟩⟩
  refine ⟨Eh ec used Q, fun cls d σ' H' hE hlen => ?_, rfl, hc, by rw [e]; exact h⟩
  obtain ⟨nm, dd, fs, hu, rfl, rfl, h2, h3, h4, h5⟩ := hE
  have n1 : (("BadText" : Str) == nm) = false := beq_eq_false_iff_ne.mpr fun e => nb.1 (e ▸ hu)
  have n2 : (("BadPage" : Str) == nm) = false := beq_eq_false_iff_ne.mpr fun e => nb.2 (e ▸ hu)
  have x1 := T.exm hu (y := "BadText") (by decide +kernel) (by decide +kernel)
  have x2 := T.exm hu (y := "BadPage") (by decide +kernel) (by decide +kernel)
  have x3 := T.exm hu (y := "TooWide") (by decide +kernel) (by decide +kernel)
  rw [n1] at x1
  rw [n2] at x2
  have sl : ∀ (z : V), (σ'.set 1 (some z))[1]? = some (some z) := fun z => by
    have hl : σ'.length = 2 := hlen
    rw [List.getElem?_set_self (by omega)]
  refine ⟨false, x1, fun z => Bool.noConfusion z, fun _ => ⟨false, x2, fun z => Bool.noConfusion z, fun _ => ⟨_, x3, fun e a na => ?_, fun e => ⟨true, T.any nm hu, fun _ a na => ?_, fun z => Bool.noConfusion z⟩⟩⟩⟩
  · exact ⟨nm, dd, fs, (beq_iff_eq.mp e).symm, hu, rfl, rfl, sl _, h2, h3, h4, h5⟩
  · have ee : nm ≠ "TooWide" := fun z => by
      rw [z, beq_self_eq_true] at e
      exact Bool.noConfusion e
    exact ⟨nm, dd, fs, ee, hu, rfl, rfl, sl _, h2, h3, h4, h5⟩
end
end Onp
set_option maxHeartbeats 8000000
set_option autoImplicit false
namespace Onp
open PySem PySem.Spec PyProof.Rows L2
abbrev sSame : Stmt := topS 44
/-! ### data -/
def Lvl : Nat → PyData → Prop
  | _, .none => True
  | _, .bool _ => True
  | _, .int _ => True
  | _, .str _ => True
  | n + 1, .list ds => ds.length ≤ 1000 ∧ ∀ d ∈ ds, Lvl n d
  | n + 1, .tuple ds => ds.length ≤ 1000 ∧ ∀ d ∈ ds, Lvl n d
  | _, _ => False
mutual
theorem dpSame {K : PySem.W.Frag} {H H' : Hp} (e : Same H H') : ∀ {v : V} {d : PyData}, Dp K H v d → Dp K H' v d
  | _, _, .non => .non
  | _, _, .bl b => .bl b
  | _, _, .int i => .int i
  | _, _, .str x => .str x
  | _, _, .lst h a => .lst (e.seq h) (dpAllSame e a)
  | _, _, .tup h a => .tup (same_seqT e h) (dpAllSame e a)
theorem dpAllSame {K : PySem.W.Frag} {H H' : Hp} (e : Same H H') : ∀ {vs : List V} {ds : List PyData}, DpAll K H vs ds → DpAll K H' vs ds
  | _, _, .nil => .nil
  | _, _, .cons a b => .cons (dpSame e a) (dpAllSame e b)
end
theorem dpLen {K : PySem.W.Frag} {H : Hp} : ∀ {vs : List V} {ds : List PyData}, DpAll K H vs ds → vs.length = ds.length
  | _, _, .nil => rfl
  | _, _, .cons _ b => by rw [List.length_cons, List.length_cons, dpLen b]
theorem dpAt {K : PySem.W.Frag} {H : Hp} : ∀ {vs : List V} {ds : List PyData} {i : Nat} {v : V}, DpAll K H vs ds → vs[i]? = some v → ∃ d, ds[i]? = some d ∧ Dp K H v d
  | _, _, _, _, .nil, h => by simp at h
  | _, _, 0, _, .cons a _, h => by simp at h; subst h; exact ⟨_, rfl, a⟩
  | _, _, i + 1, _, .cons _ b, h => by
    obtain ⟨d, h1, h2⟩ := dpAt (i := i) b (by simpa using h)
    exact ⟨d, by simpa using h1, h2⟩
theorem tyL {K : PySem.W.Frag} {H : Hp} {a : Addr} {xs : List V} (h : SqL K H a xs) : TyX K H (.ref a) (.type "list") := by
  rcases h with (h | ⟨o, h⟩) | ⟨o, its, n, h, c, _⟩
  · exact .base (.lst h)
  · exact .base (.frz h)
  · exact .kList h c
theorem tyT {K : PySem.W.Frag} {H : Hp} {a : Addr} {xs : List V} (h : SqT K H a xs) : TyX K H (.ref a) (.type "tuple") := by
  rcases h with (h | ⟨o, h⟩) | ⟨o, its, n, h, c, _⟩
  · exact .base (.tup h)
  · exact .fTuple h
  · exact .kTuple h c
theorem kitAny2 {K : PySem.W.Frag} {t c1 c2 : Value} {b1 b2 : Bool} (h1 : PySem.W.kitOne K t c1 = some b1) (h2 : PySem.W.kitOne K t c2 = some b2) : PySem.W.kitAny K t [c1, c2] = some (b1 || b2) := by
  unfold PySem.W.kitAny
  rw [h1]
  cases b1 with
  | true => rfl
  | false =>
    show PySem.W.kitAny K t [c2] = _
    unfold PySem.W.kitAny
    rw [h2]
    cases b2 <;> rfl
theorem qT {Q : VK} {H : Hp} {c : Prop} [Decidable c] (hc : c) (h : Q (.bl true) H) : Q (.bl (decide c)) H := by
  rw [decide_eq_true hc]
  exact h
theorem qB {Q : VK} {H : Hp} {b : Bool} (hb : b = true) (h : Q (.bl true) H) : Q (.bl b) H := by
  rw [hb]
  exact h
theorem pe_no {X : Cx} {e : Expr} : PE X e (fun _ _ _ => False) := ⟨fun _ _ _ _ _ _ h => h.elim⟩
/-! ### a comprehension over zip of two of one length -/
def ItzG (S : Hp → Addr → List V → Prop) (a b : Addr) : It :=
  ⟨fun i H => ∃ (xs ys : List V) (x y : V), S H a xs ∧ S H b ys ∧ xs[i]? = some x ∧ ys[i]? = some y,
    fun i H v H' => ∃ T x y, v = .ref T ∧ H T = none ∧ H' = upd H T (.tup [x, y]) ∧ (∀ xs, S H a xs → xs[i]? = some x) ∧ ∀ ys, S H b ys → ys[i]? = some y,
    fun i H => ∃ xs ys : List V, S H a xs ∧ S H b ys ∧ (xs.length ≤ i ∨ ys.length ≤ i)⟩
theorem lc_zipG {S : Hp → Addr → List V → Prop} {a b : Addr} {xs ys : List V} {g : TG} {tt : TT} {te : TE} {vs : List Nat} {σ : L2.St} {H1 : Hp} {D : Addr} {Qd : Hp → Prop} (hl : xs.length = ys.length) (Pv : Nat → Hp → Prop) (h0 : Pv 0 (upd H1 D (.lst []))) (hq : ∀ i H, Pv i H → S H a xs ∧ S H b ys)
    (hs : ∀ i x y T H, xs[i]? = some x → ys[i]? = some y → Pv i H → H T = none → g (.ref T) (wipe σ vs) (upd H T (.tup [x, y])) fun σ2 H2 => wipe σ2 vs = wipe σ vs ∧ tt σ2 H2 fun b H3 =>
      if b = true then te σ2 H3 fun y H4 => ∃ acc, H4 D = some (.lst acc) ∧ acc.length < sizeLine ∧ Pv (i + 1) (upd H4 D (.lst (acc ++ [y]))) else Pv (i + 1) H3) (hd : ∀ H, Pv xs.length H → Qd H) :
    ∃ W : Nat → Nat → Hp → Prop, (∃ m, W 0 m (upd H1 D (.lst []))) ∧ ∀ i m H, W i m H → ((ItzG S a b).stop i H ∧ Qd H) ∨ ((ItzG S a b).go i H ∧ ∃ Nx : Hp → Prop, (∀ H', Nx H' → ∃ m', m' < m ∧ W (i + 1) m' H') ∧
      ∀ x H', (ItzG S a b).yld i H x H' → g x (wipe σ vs) H' fun σ2 H2 => wipe σ2 vs = wipe σ vs ∧ tt σ2 H2 fun b H3 => if b = true then te σ2 H3 fun y H4 => ∃ acc, H4 D = some (.lst acc) ∧ acc.length < sizeLine ∧ Nx (upd H4 D (.lst (acc ++ [y]))) else Nx H3) := by
  refine ⟨fun i m H => m = xs.length - i ∧ i ≤ xs.length ∧ Pv i H, ⟨xs.length, by simp, Nat.zero_le _, h0⟩, fun i m H ⟨em, hi, p⟩ => ?_⟩
  obtain ⟨qa, qb⟩ := hq i H p
  by_cases lt : i < xs.length
  · have lt2 : i < ys.length := by omega
    refine .inr ⟨⟨xs, ys, xs[i], ys[i], qa, qb, List.getElem?_eq_getElem lt, List.getElem?_eq_getElem lt2⟩, Pv (i + 1), fun H' p' => ⟨xs.length - (i + 1), by omega, rfl, lt, p'⟩, fun x H' hy => ?_⟩
    obtain ⟨T, x1, x2, rfl, nT, rfl, e1, e2⟩ := hy
    exact hs i x1 x2 T H (e1 _ qa) (e2 _ qb) p nT
  · have e : i = xs.length := by omega
    subst e
    exact .inl ⟨⟨xs, ys, qa, qb, .inl (Nat.le_refl _)⟩, hd H p⟩
def NS : List Str := ["_law_found", "_law_due_here", "_law_a", "_law_b"]
theorem scSame : FnScope NS ["_law_found", "_law_due_here"] (defScope sSame) := ⟨rfl, rfl, rfl, by decide +kernel, rfl, by decide +kernel, by decide +kernel⟩
def spSame (K : PySem.W.Frag) (n : Nat) : Sp := fun vs H Q _ => ∃ (x y : V) (d : PyData), vs = [x, y] ∧ Dp K H x d ∧ Dp K H y d ∧ Lvl n d ∧ ∀ H', Same H H' → Q (.bl true) H'
structure Blt (mg : Str → Option Value) : Prop where
  isi : mg "isinstance" = none
  list : mg "list" = none
  tuple : mg "tuple" = none
  bool : mg "bool" = none
  int : mg "int" = none
  str : mg "str" = none
  len : mg "len" = none
  all : mg "all" = none
  zip : mg "zip" = none
section
variable {P : Program} {w : World} {K : PySem.W.Frag} {mg : Str → Option Value} {base : Heap}
theorem ok_same {f : Addr} {fd : FuncData} (F : Fun K "_law_same" "_law_same" sSame f fd) (bS : Binds K fd ["_law_found", "_law_due_here"] []) (gS : mg "_law_same" = some (.ref f)) (B : Blt mg) : ∀ (n k : Nat), FnOk P w K mg base CX0 (k + n + 1) f fd ["_law_found", "_law_due_here"] (spSame K n) := by
  intro n
  induction n with
  | zero =>
    intro k
    refine F.ok scSame (fun vs H Q E h => ?_) (fun cdv A outer s H vs Q E hr h => ?_)
    · obtain ⟨x, y, d, rfl, _⟩ := h
      rfl
    · obtain ⟨x, y, d, rfl, hx, hy, hl, q⟩ := h
      refine ⟨_, pss_cons (ps_if (pt_val (pe_callB call_isiT (by rfl) B.isi (by decide +kernel) (pa_cons (pv 1) (pa_cons (pe_tup (pa_cons (pe_bltn (v := .ty "list") (by rfl) B.list (by decide +kernel) rfl) (pa_cons (pe_bltn (v := .ty "tuple") (by rfl) B.tuple (by decide +kernel) rfl) pa_nil))) pa_nil)))) pss_never pss_nil)
      (pss_cons (ps_if (PW.pt (pw_or (pt_cmp (pc_isN (pv 1))) (pw_or1 (pt_cmp (pc_isN (pv 0)))))) (pss_one (ps_ret (pe_and (pe_cmp (pc_isN (pv 0)) rfl) (pe_one (pe_cmp (pc_isN (pv 1)) rfl))))) pss_nil)
      (pss_cons (ps_if (PW.pt (pw_or (pt_cmpR op_ne (pe_callB call_isi (by rfl) B.isi (by decide +kernel) (pa_cons (pv 0) (pa_cons (pe_bltn (v := .ty "bool") (by rfl) B.bool (by decide +kernel) rfl) pa_nil))) (pe_callB call_isi (by rfl) B.isi (by decide +kernel) (pa_cons (pv 1) (pa_cons (pe_bltn (v := .ty "bool") (by rfl) B.bool (by decide +kernel) rfl) pa_nil))) (nomark _)) (pw_or1 (pt_cmpR op_ne (pe_callB call_isi (by rfl) B.isi (by decide +kernel) (pa_cons (pv 0) (pa_cons (pe_bltn (v := .ty "int") (by rfl) B.int (by decide +kernel) rfl) pa_nil))) (pe_callB call_isi (by rfl) B.isi (by decide +kernel) (pa_cons (pv 1) (pa_cons (pe_bltn (v := .ty "int") (by rfl) B.int (by decide +kernel) rfl) pa_nil))) (nomark _))))) pss_never pss_nil)
      (pss_one (ps_ret (pe_and (pe_cmpR op_eq (pe_callB call_isi (by rfl) B.isi (by decide +kernel) (pa_cons (pv 0) (pa_cons (pe_bltn (v := .ty "str") (by rfl) B.str (by decide +kernel) rfl) pa_nil))) (pe_callB call_isi (by rfl) B.isi (by decide +kernel) (pa_cons (pv 1) (pa_cons (pe_bltn (v := .ty "str") (by rfl) B.str (by decide +kernel) rfl) pa_nil))) (nomark _)) (pe_one (pe_cmpR op_eq (pv 0) (pv 1) (nomark _)))))))), ?_⟩
      cases hx with
      | lst h a => exact hl.elim
      | tup h a => exact hl.elim
      | non =>
        cases hy
        refine ⟨_, rfl, (by decide : 2 ≤ sizeLine), fun tp ntp => ?_⟩
        have s1 := same_upd (o := .tup [.ty "list", .ty "tuple"]) ntp
        refine ⟨.non, tp, _, _, _, _, rfl, upd_same, .cons (.ty _) (.cons (.ty _) .nil), .base .non, kitAny2 (b1 := false) (b2 := false) (kit_ty (by decide +kernel)) (kit_ty (by decide +kernel)), _, rfl, iteF ?_⟩
        refine ⟨_, rfl, _, rfl, itT rfl (iteT ?_)⟩
        refine ⟨_, rfl, _, rfl, itT rfl ⟨_, rfl, ?_⟩⟩
        exact qT (Q := Q) rfl (q _ s1)
      | bl b =>
        cases hy
        refine ⟨_, rfl, (by decide : 2 ≤ sizeLine), fun tp ntp => ?_⟩
        have s1 := same_upd (o := .tup [.ty "list", .ty "tuple"]) ntp
        refine ⟨(.bl b), tp, _, _, _, _, rfl, upd_same, .cons (.ty _) (.cons (.ty _) .nil), .base (.bl _), kitAny2 (b1 := false) (b2 := false) (kit_ty (by decide +kernel)) (kit_ty (by decide +kernel)), _, rfl, iteF ?_⟩
        refine ⟨_, rfl, _, rfl, itF (fun h => nomatch h) ⟨_, rfl, _, rfl, itF (fun h => nomatch h) ?_⟩⟩
        refine ⟨_, rfl, (.bl b), .ty "bool", .type "bool", .type "bool", true, rfl, .ty _, .base (.bl _), kit_ty (by decide +kernel), _, rfl, (.bl b), .ty "bool", .type "bool", .type "bool", true, rfl, .ty _, .base (.bl _), kit_ty (by decide +kernel), rfl, _, rfl, iteNS rfl ⟨_, rfl, (.bl b), .ty "int", .type "bool", .type "int", true, rfl, .ty _, .base (.bl _), kit_ty (by decide +kernel), _, rfl, (.bl b), .ty "int", .type "bool", .type "int", true, rfl, .ty _, .base (.bl _), kit_ty (by decide +kernel), rfl, _, rfl, iteNS rfl ?_⟩⟩
        refine ⟨_, rfl, (.bl b), .ty "str", .type "bool", .type "str", false, rfl, .ty _, .base (.bl _), kit_ty (by decide +kernel), _, rfl, (.bl b), .ty "str", .type "bool", .type "str", false, rfl, .ty _, .base (.bl _), kit_ty (by decide +kernel), rfl, _, rfl, itT rfl ⟨_, rfl, _, rfl, rfl, ?_⟩⟩
        exact qT (Q := Q) rfl (q _ s1)
      | int i =>
        cases hy
        refine ⟨_, rfl, (by decide : 2 ≤ sizeLine), fun tp ntp => ?_⟩
        have s1 := same_upd (o := .tup [.ty "list", .ty "tuple"]) ntp
        refine ⟨(.int i), tp, _, _, _, _, rfl, upd_same, .cons (.ty _) (.cons (.ty _) .nil), .base (.int _), kitAny2 (b1 := false) (b2 := false) (kit_ty (by decide +kernel)) (kit_ty (by decide +kernel)), _, rfl, iteF ?_⟩
        refine ⟨_, rfl, _, rfl, itF (fun h => nomatch h) ⟨_, rfl, _, rfl, itF (fun h => nomatch h) ?_⟩⟩
        refine ⟨_, rfl, (.int i), .ty "bool", .type "int", .type "bool", false, rfl, .ty _, .base (.int _), kit_ty (by decide +kernel), _, rfl, (.int i), .ty "bool", .type "int", .type "bool", false, rfl, .ty _, .base (.int _), kit_ty (by decide +kernel), rfl, _, rfl, iteNS rfl ⟨_, rfl, (.int i), .ty "int", .type "int", .type "int", true, rfl, .ty _, .base (.int _), kit_ty (by decide +kernel), _, rfl, (.int i), .ty "int", .type "int", .type "int", true, rfl, .ty _, .base (.int _), kit_ty (by decide +kernel), rfl, _, rfl, iteNS rfl ?_⟩⟩
        refine ⟨_, rfl, (.int i), .ty "str", .type "int", .type "str", false, rfl, .ty _, .base (.int _), kit_ty (by decide +kernel), _, rfl, (.int i), .ty "str", .type "int", .type "str", false, rfl, .ty _, .base (.int _), kit_ty (by decide +kernel), rfl, _, rfl, itT rfl ⟨_, rfl, _, rfl, rfl, ?_⟩⟩
        exact qT (Q := Q) rfl (q _ s1)
      | str z =>
        cases hy
        refine ⟨_, rfl, (by decide : 2 ≤ sizeLine), fun tp ntp => ?_⟩
        have s1 := same_upd (o := .tup [.ty "list", .ty "tuple"]) ntp
        refine ⟨(.str z), tp, _, _, _, _, rfl, upd_same, .cons (.ty _) (.cons (.ty _) .nil), .base (.str _), kitAny2 (b1 := false) (b2 := false) (kit_ty (by decide +kernel)) (kit_ty (by decide +kernel)), _, rfl, iteF ?_⟩
        refine ⟨_, rfl, _, rfl, itF (fun h => nomatch h) ⟨_, rfl, _, rfl, itF (fun h => nomatch h) ?_⟩⟩
        refine ⟨_, rfl, (.str z), .ty "bool", .type "str", .type "bool", false, rfl, .ty _, .base (.str _), kit_ty (by decide +kernel), _, rfl, (.str z), .ty "bool", .type "str", .type "bool", false, rfl, .ty _, .base (.str _), kit_ty (by decide +kernel), rfl, _, rfl, iteNS rfl ⟨_, rfl, (.str z), .ty "int", .type "str", .type "int", false, rfl, .ty _, .base (.str _), kit_ty (by decide +kernel), _, rfl, (.str z), .ty "int", .type "str", .type "int", false, rfl, .ty _, .base (.str _), kit_ty (by decide +kernel), rfl, _, rfl, iteNS rfl ?_⟩⟩
        refine ⟨_, rfl, (.str z), .ty "str", .type "str", .type "str", true, rfl, .ty _, .base (.str _), kit_ty (by decide +kernel), _, rfl, (.str z), .ty "str", .type "str", .type "str", true, rfl, .ty _, .base (.str _), kit_ty (by decide +kernel), rfl, _, rfl, itT rfl ⟨_, rfl, _, rfl, rfl, ?_⟩⟩
        exact qT (Q := Q) rfl (q _ s1)
  | succ n ih =>
    intro k
    have G : FnOk P w K mg base CX0 (k + n + 1) f fd ["_law_found", "_law_due_here"] (spSame K n) := ih k
    refine F.ok scSame (fun vs H Q E h => ?_) (fun cdv A outer s H vs Q E hr h => ?_)
    · obtain ⟨x, y, d, rfl, _⟩ := h
      rfl
    · obtain ⟨x, y, d, rfl, hx, hy, hl, q⟩ := h
      refine ⟨_, pss_cons (ps_if (pt_val (pe_callB call_isiT (by rfl) B.isi (by decide +kernel) (pa_cons (pv 1) (pa_cons (pe_tup (pa_cons (pe_bltn (v := .ty "list") (by rfl) B.list (by decide +kernel) rfl) (pa_cons (pe_bltn (v := .ty "tuple") (by rfl) B.tuple (by decide +kernel) rfl) pa_nil))) pa_nil))))
          (pss_cons (ps_if (PW.pt (pw_or (pt_cmpR op_ne (pe_callB call_isi (by rfl) B.isi (by decide +kernel) (pa_cons (pv 0) (pa_cons (pe_bltn (v := .ty "list") (by rfl) B.list (by decide +kernel) rfl) pa_nil))) (pe_callB call_isi (by rfl) B.isi (by decide +kernel) (pa_cons (pv 1) (pa_cons (pe_bltn (v := .ty "list") (by rfl) B.list (by decide +kernel) rfl) pa_nil))) (nomark _)) (pw_or1 (pt_cmpR op_ne (pe_callB call_isi (by rfl) B.isi (by decide +kernel) (pa_cons (pv 0) (pa_cons (pe_bltn (v := .ty "tuple") (by rfl) B.tuple (by decide +kernel) rfl) pa_nil))) (pe_callB call_isi (by rfl) B.isi (by decide +kernel) (pa_cons (pv 1) (pa_cons (pe_bltn (v := .ty "tuple") (by rfl) B.tuple (by decide +kernel) rfl) pa_nil))) (nomark _))))) pss_never pss_nil)
          (pss_one (ps_ret (pe_and (pe_cmpR op_eq (pe_callB call_len_seq (by rfl) B.len PySem.boot_len (pa_cons (pv 0) pa_nil)) (pe_callB call_len_seq (by rfl) B.len PySem.boot_len (pa_cons (pv 1) pa_nil)) (nomark _))
            (pe_one (pe_callB (cr_all rfl) (by rfl) B.all (by decide +kernel) (pa_cons (pe_lc (own := [("_law_a", 2), ("_law_b", 3)]) (g := gTup K 2 (gCons (gName 2) (gCons (gName 3) gNil))) (tt := tYes) rfl scSame.nd
              (RZ.pi_zipA (by rfl) B.zip (pa_cons (pv 0) (pa_cons (pv 1) pa_nil))) (blkOk_by (own := [("_law_a", 2), ("_law_b", 3)]) (N := NS) (sc := defScope sSame) (by decide +kernel))
              (fun _ _ _ _ _ => pg_tup (n := 2) rfl (pgs_cons (pg_name (i := 2) scSame.nd rfl (.inl rfl) (.inr rfl)) (pgs_cons (pg_name (i := 3) scSame.nd rfl (.inl rfl) (.inr rfl)) pgs_nil))) (fun _ _ _ _ _ => pts_nil)
              (fun _ _ _ _ _ => pe_call G hr (by rfl) gS F.kp bS .nil pass0 (pa_cons (pv 2) (pa_cons (pv 3) pa_nil)))) pa_nil))))))) pss_nil)
      (pss_cons (ps_if (PW.pt (pw_or (pt_cmp (pc_isN (pv 1))) (pw_or1 (pt_cmp (pc_isN (pv 0)))))) (pss_one (ps_ret (pe_and (pe_cmp (pc_isN (pv 0)) rfl) (pe_one (pe_cmp (pc_isN (pv 1)) rfl))))) pss_nil)
      (pss_cons (ps_if (PW.pt (pw_or (pt_cmpR op_ne (pe_callB call_isi (by rfl) B.isi (by decide +kernel) (pa_cons (pv 0) (pa_cons (pe_bltn (v := .ty "bool") (by rfl) B.bool (by decide +kernel) rfl) pa_nil))) (pe_callB call_isi (by rfl) B.isi (by decide +kernel) (pa_cons (pv 1) (pa_cons (pe_bltn (v := .ty "bool") (by rfl) B.bool (by decide +kernel) rfl) pa_nil))) (nomark _)) (pw_or1 (pt_cmpR op_ne (pe_callB call_isi (by rfl) B.isi (by decide +kernel) (pa_cons (pv 0) (pa_cons (pe_bltn (v := .ty "int") (by rfl) B.int (by decide +kernel) rfl) pa_nil))) (pe_callB call_isi (by rfl) B.isi (by decide +kernel) (pa_cons (pv 1) (pa_cons (pe_bltn (v := .ty "int") (by rfl) B.int (by decide +kernel) rfl) pa_nil))) (nomark _))))) pss_never pss_nil)
      (pss_one (ps_ret (pe_and (pe_cmpR op_eq (pe_callB call_isi (by rfl) B.isi (by decide +kernel) (pa_cons (pv 0) (pa_cons (pe_bltn (v := .ty "str") (by rfl) B.str (by decide +kernel) rfl) pa_nil))) (pe_callB call_isi (by rfl) B.isi (by decide +kernel) (pa_cons (pv 1) (pa_cons (pe_bltn (v := .ty "str") (by rfl) B.str (by decide +kernel) rfl) pa_nil))) (nomark _)) (pe_one (pe_cmpR op_eq (pv 0) (pv 1) (nomark _)))))))), ?_⟩
      cases hx with
      | @lst pa xs ds h a =>
        cases hy with
        | @lst pb ys _ h2 a2 =>
          refine ⟨_, rfl, (by decide : 2 ≤ sizeLine), fun tp ntp => ?_⟩
          have s1 := same_upd (o := .tup [.ty "list", .ty "tuple"]) ntp
          refine ⟨(.ref pb), tp, _, _, _, _, rfl, upd_same, .cons (.ty _) (.cons (.ty _) .nil), tyL (s1.seq h2), kitAny2 (b1 := true) (b2 := false) (kit_ty (by decide +kernel)) (kit_ty (by decide +kernel)), _, rfl, iteT ?_⟩
          refine ⟨_, rfl, .ref pa, .ty "list", .type "list", .type "list", true, rfl, .ty _, tyL (s1.seq h), kit_ty (by decide +kernel), _, rfl, .ref pb, .ty "list", .type "list", .type "list", true, rfl, .ty _, tyL (s1.seq h2), kit_ty (by decide +kernel), rfl, _, rfl, iteNS rfl ⟨_, rfl, .ref pa, .ty "tuple", .type "list", .type "tuple", false, rfl, .ty _, tyL (s1.seq h), kit_ty (by decide +kernel), _, rfl, .ref pb, .ty "tuple", .type "list", .type "tuple", false, rfl, .ty _, tyL (s1.seq h2), kit_ty (by decide +kernel), rfl, _, rfl, iteNS rfl ?_⟩⟩
          have lx := dpLen a
          have ly := dpLen a2
          have hlz : ds.length ≤ 1000 := hl.1
          have eI : V.int ((xs.length : Nat) : Int) = V.int ((ys.length : Nat) : Int) := by rw [lx, ly]
          refine ⟨_, rfl, pa, xs, rfl, .inl (s1.seq h), _, rfl, pb, ys, rfl, .inl (s1.seq h2), rfl, _, rfl, itT eI ?_⟩
          refine ⟨_, rfl, _, rfl, pa, pb, xs, ys, rfl, .inl ⟨(s1.seq h), (s1.seq h2), fun D nD => ?_⟩⟩
          refine lc_zipG (S := SqL K) (xs := xs) (ys := ys) (by omega) (fun i H' => Same H H' ∧ H D = none ∧ H' D = some (.lst (List.replicate i (.bl true)))) ⟨s1.trans (same_upd nD), s1.free nD, upd_same⟩ (fun i H' ⟨sm, _, _⟩ => ⟨(sm.seq h), (sm.seq h2)⟩) ?_ ?_
          · rintro i x y t Hx hx hy ⟨sm, fD, hD⟩ nt
            obtain ⟨d, hd, dx⟩ := dpAt a hx
            obtain ⟨d', hd', dy⟩ := dpAt a2 hy
            rw [hd] at hd'
            cases hd'
            have st : Same Hx (upd Hx t (.tup [x, y])) := same_upd nt
            refine ⟨t, _, rfl, SqT.of upd_same, rfl, _, _, rfl, _, _, rfl, rfl, rfl, ?_⟩
            unfold tYes
            dsimp only
            rw [if_pos rfl]
            refine ⟨_, rfl, _, rfl, x, y, d, rfl, dpSame (sm.trans st) dx, dpSame (sm.trans st) dy, hl.2 d (List.mem_of_getElem? hd), fun H4 s4 => ?_⟩
            have lt : i < xs.length := (List.getElem?_eq_some_iff.mp hx).1
            refine ⟨_, s4 _ _ (st _ _ hD), by rw [List.length_replicate]; exact small1000 (by omega), fun b o e => ?_, fD, ?_⟩
            · rw [upd_ne (ne_of_none e fD)]
              exact s4 _ _ (st _ _ (sm _ _ e))
            · rw [upd_same, List.replicate_succ']
          · rintro Hx ⟨sm, fD, hD⟩
            refine ⟨D, List.replicate xs.length true, rfl, SqL.of (by rw [hD, List.map_replicate]), ?_⟩
            have ea : (List.replicate xs.length true).all id = true := List.all_eq_true.mpr fun b hb => by rw [(List.mem_replicate.mp hb).2]; rfl
            exact qB (Q := Q) ea (q _ sm)
      | @tup pa xs ds h a =>
        cases hy with
        | @tup pb ys _ h2 a2 =>
          refine ⟨_, rfl, (by decide : 2 ≤ sizeLine), fun tp ntp => ?_⟩
          have s1 := same_upd (o := .tup [.ty "list", .ty "tuple"]) ntp
          refine ⟨(.ref pb), tp, _, _, _, _, rfl, upd_same, .cons (.ty _) (.cons (.ty _) .nil), tyT (same_seqT s1 h2), kitAny2 (b1 := false) (b2 := true) (kit_ty (by decide +kernel)) (kit_ty (by decide +kernel)), _, rfl, iteT ?_⟩
          refine ⟨_, rfl, .ref pa, .ty "list", .type "tuple", .type "list", false, rfl, .ty _, tyT (same_seqT s1 h), kit_ty (by decide +kernel), _, rfl, .ref pb, .ty "list", .type "tuple", .type "list", false, rfl, .ty _, tyT (same_seqT s1 h2), kit_ty (by decide +kernel), rfl, _, rfl, iteNS rfl ⟨_, rfl, .ref pa, .ty "tuple", .type "tuple", .type "tuple", true, rfl, .ty _, tyT (same_seqT s1 h), kit_ty (by decide +kernel), _, rfl, .ref pb, .ty "tuple", .type "tuple", .type "tuple", true, rfl, .ty _, tyT (same_seqT s1 h2), kit_ty (by decide +kernel), rfl, _, rfl, iteNS rfl ?_⟩⟩
          have lx := dpLen a
          have ly := dpLen a2
          have hlz : ds.length ≤ 1000 := hl.1
          have eI : V.int ((xs.length : Nat) : Int) = V.int ((ys.length : Nat) : Int) := by rw [lx, ly]
          refine ⟨_, rfl, pa, xs, rfl, .inr (same_seqT s1 h), _, rfl, pb, ys, rfl, .inr (same_seqT s1 h2), rfl, _, rfl, itT eI ?_⟩
          refine ⟨_, rfl, _, rfl, pa, pb, xs, ys, rfl, .inr ⟨(same_seqT s1 h), (same_seqT s1 h2), fun D nD => ?_⟩⟩
          refine lc_zipG (S := SqT K) (xs := xs) (ys := ys) (by omega) (fun i H' => Same H H' ∧ H D = none ∧ H' D = some (.lst (List.replicate i (.bl true)))) ⟨s1.trans (same_upd nD), s1.free nD, upd_same⟩ (fun i H' ⟨sm, _, _⟩ => ⟨(same_seqT sm h), (same_seqT sm h2)⟩) ?_ ?_
          · rintro i x y t Hx hx hy ⟨sm, fD, hD⟩ nt
            obtain ⟨d, hd, dx⟩ := dpAt a hx
            obtain ⟨d', hd', dy⟩ := dpAt a2 hy
            rw [hd] at hd'
            cases hd'
            have st : Same Hx (upd Hx t (.tup [x, y])) := same_upd nt
            refine ⟨t, _, rfl, SqT.of upd_same, rfl, _, _, rfl, _, _, rfl, rfl, rfl, ?_⟩
            unfold tYes
            dsimp only
            rw [if_pos rfl]
            refine ⟨_, rfl, _, rfl, x, y, d, rfl, dpSame (sm.trans st) dx, dpSame (sm.trans st) dy, hl.2 d (List.mem_of_getElem? hd), fun H4 s4 => ?_⟩
            have lt : i < xs.length := (List.getElem?_eq_some_iff.mp hx).1
            refine ⟨_, s4 _ _ (st _ _ hD), by rw [List.length_replicate]; exact small1000 (by omega), fun b o e => ?_, fD, ?_⟩
            · rw [upd_ne (ne_of_none e fD)]
              exact s4 _ _ (st _ _ (sm _ _ e))
            · rw [upd_same, List.replicate_succ']
          · rintro Hx ⟨sm, fD, hD⟩
            refine ⟨D, List.replicate xs.length true, rfl, SqL.of (by rw [hD, List.map_replicate]), ?_⟩
            have ea : (List.replicate xs.length true).all id = true := List.all_eq_true.mpr fun b hb => by rw [(List.mem_replicate.mp hb).2]; rfl
            exact qB (Q := Q) ea (q _ sm)
      | non =>
        cases hy
        refine ⟨_, rfl, (by decide : 2 ≤ sizeLine), fun tp ntp => ?_⟩
        have s1 := same_upd (o := .tup [.ty "list", .ty "tuple"]) ntp
        refine ⟨.non, tp, _, _, _, _, rfl, upd_same, .cons (.ty _) (.cons (.ty _) .nil), .base .non, kitAny2 (b1 := false) (b2 := false) (kit_ty (by decide +kernel)) (kit_ty (by decide +kernel)), _, rfl, iteF ?_⟩
        refine ⟨_, rfl, _, rfl, itT rfl (iteT ?_)⟩
        refine ⟨_, rfl, _, rfl, itT rfl ⟨_, rfl, ?_⟩⟩
        exact qT (Q := Q) rfl (q _ s1)
      | bl b =>
        cases hy
        refine ⟨_, rfl, (by decide : 2 ≤ sizeLine), fun tp ntp => ?_⟩
        have s1 := same_upd (o := .tup [.ty "list", .ty "tuple"]) ntp
        refine ⟨(.bl b), tp, _, _, _, _, rfl, upd_same, .cons (.ty _) (.cons (.ty _) .nil), .base (.bl _), kitAny2 (b1 := false) (b2 := false) (kit_ty (by decide +kernel)) (kit_ty (by decide +kernel)), _, rfl, iteF ?_⟩
        refine ⟨_, rfl, _, rfl, itF (fun h => nomatch h) ⟨_, rfl, _, rfl, itF (fun h => nomatch h) ?_⟩⟩
        refine ⟨_, rfl, (.bl b), .ty "bool", .type "bool", .type "bool", true, rfl, .ty _, .base (.bl _), kit_ty (by decide +kernel), _, rfl, (.bl b), .ty "bool", .type "bool", .type "bool", true, rfl, .ty _, .base (.bl _), kit_ty (by decide +kernel), rfl, _, rfl, iteNS rfl ⟨_, rfl, (.bl b), .ty "int", .type "bool", .type "int", true, rfl, .ty _, .base (.bl _), kit_ty (by decide +kernel), _, rfl, (.bl b), .ty "int", .type "bool", .type "int", true, rfl, .ty _, .base (.bl _), kit_ty (by decide +kernel), rfl, _, rfl, iteNS rfl ?_⟩⟩
        refine ⟨_, rfl, (.bl b), .ty "str", .type "bool", .type "str", false, rfl, .ty _, .base (.bl _), kit_ty (by decide +kernel), _, rfl, (.bl b), .ty "str", .type "bool", .type "str", false, rfl, .ty _, .base (.bl _), kit_ty (by decide +kernel), rfl, _, rfl, itT rfl ⟨_, rfl, _, rfl, rfl, ?_⟩⟩
        exact qT (Q := Q) rfl (q _ s1)
      | int i =>
        cases hy
        refine ⟨_, rfl, (by decide : 2 ≤ sizeLine), fun tp ntp => ?_⟩
        have s1 := same_upd (o := .tup [.ty "list", .ty "tuple"]) ntp
        refine ⟨(.int i), tp, _, _, _, _, rfl, upd_same, .cons (.ty _) (.cons (.ty _) .nil), .base (.int _), kitAny2 (b1 := false) (b2 := false) (kit_ty (by decide +kernel)) (kit_ty (by decide +kernel)), _, rfl, iteF ?_⟩
        refine ⟨_, rfl, _, rfl, itF (fun h => nomatch h) ⟨_, rfl, _, rfl, itF (fun h => nomatch h) ?_⟩⟩
        refine ⟨_, rfl, (.int i), .ty "bool", .type "int", .type "bool", false, rfl, .ty _, .base (.int _), kit_ty (by decide +kernel), _, rfl, (.int i), .ty "bool", .type "int", .type "bool", false, rfl, .ty _, .base (.int _), kit_ty (by decide +kernel), rfl, _, rfl, iteNS rfl ⟨_, rfl, (.int i), .ty "int", .type "int", .type "int", true, rfl, .ty _, .base (.int _), kit_ty (by decide +kernel), _, rfl, (.int i), .ty "int", .type "int", .type "int", true, rfl, .ty _, .base (.int _), kit_ty (by decide +kernel), rfl, _, rfl, iteNS rfl ?_⟩⟩
        refine ⟨_, rfl, (.int i), .ty "str", .type "int", .type "str", false, rfl, .ty _, .base (.int _), kit_ty (by decide +kernel), _, rfl, (.int i), .ty "str", .type "int", .type "str", false, rfl, .ty _, .base (.int _), kit_ty (by decide +kernel), rfl, _, rfl, itT rfl ⟨_, rfl, _, rfl, rfl, ?_⟩⟩
        exact qT (Q := Q) rfl (q _ s1)
      | str z =>
        cases hy
        refine ⟨_, rfl, (by decide : 2 ≤ sizeLine), fun tp ntp => ?_⟩
        have s1 := same_upd (o := .tup [.ty "list", .ty "tuple"]) ntp
        refine ⟨(.str z), tp, _, _, _, _, rfl, upd_same, .cons (.ty _) (.cons (.ty _) .nil), .base (.str _), kitAny2 (b1 := false) (b2 := false) (kit_ty (by decide +kernel)) (kit_ty (by decide +kernel)), _, rfl, iteF ?_⟩
        refine ⟨_, rfl, _, rfl, itF (fun h => nomatch h) ⟨_, rfl, _, rfl, itF (fun h => nomatch h) ?_⟩⟩
        refine ⟨_, rfl, (.str z), .ty "bool", .type "str", .type "bool", false, rfl, .ty _, .base (.str _), kit_ty (by decide +kernel), _, rfl, (.str z), .ty "bool", .type "str", .type "bool", false, rfl, .ty _, .base (.str _), kit_ty (by decide +kernel), rfl, _, rfl, iteNS rfl ⟨_, rfl, (.str z), .ty "int", .type "str", .type "int", false, rfl, .ty _, .base (.str _), kit_ty (by decide +kernel), _, rfl, (.str z), .ty "int", .type "str", .type "int", false, rfl, .ty _, .base (.str _), kit_ty (by decide +kernel), rfl, _, rfl, iteNS rfl ?_⟩⟩
        refine ⟨_, rfl, (.str z), .ty "str", .type "str", .type "str", true, rfl, .ty _, .base (.str _), kit_ty (by decide +kernel), _, rfl, (.str z), .ty "str", .type "str", .type "str", true, rfl, .ty _, .base (.str _), kit_ty (by decide +kernel), rfl, _, rfl, itT rfl ⟨_, rfl, _, rfl, rfl, ?_⟩⟩
        exact qT (Q := Q) rfl (q _ s1)
end
end Onp
set_option maxHeartbeats 8000000
set_option autoImplicit false
namespace Onp
open PySem PySem.Spec PyProof.Rows L2 HotX L2H LamX
section
variable {P : Program} {w : World} {K : PySem.W.Frag} {mg : Str → Option Value} {base : Heap}
theorem passN {X : Cx} : Passes (L2N.CX X.prog X.w) X E0 := fun _ _ _ _ _ _ _ h => by
  obtain ⟨_, _, _, _, _, _, _, _, _, _, _, _, z⟩ := h
  exact z.elim
end
/-- a refusal that is a word alone -/
def badW (C : Addr) (z : Str) (H : Hp) (E : XK) : Prop := ∀ d, H d = none → E (.ref C) (some d) (upd H d (.xd [("word", .str z)]))
abbrev sInitBadSize : Stmt := inClass (topS 9) 0
structure MkBadSize (K : PySem.W.Frag) (mg : Str → Option Value) (C fI : Addr) (fdI : FuncData) : Prop where
  T : OexC K C
  iC : PySem.W.findIn K (.ref C) "__init__" = some (some (.ref fI))
  tI : PySem.W.typeIn K (.ref fI) = some (.type "function")
  F : Fun K "__init__" "BadSize.__init__" sInitBadSize fI fdI
  b : Binds K fdI ["self"] []
  g : mg "BadSize" = some (.ref C)
  nw : PySem.W.findIn K (.ref C) "word" = some none
theorem scIBadSize : FnScope ["self"] ["self"] (defScope sInitBadSize) := ⟨rfl, rfl, rfl, by decide +kernel, rfl, by decide +kernel, by decide +kernel⟩
theorem ok_initBadSize {P : Program} {w : World} {K : PySem.W.Frag} {mg : Str → Option Value} {base : Heap} {C fI : Addr} {fdI : FuncData} {k : Nat} (B : MkBadSize K mg C fI fdI) : FnOk P w K mg base CX0 (k + 1) fI fdI ["self"] (spWord C "badsize") := by
  refine B.F.ok scIBadSize (fun vs H Q E h => ?_) (fun cdv A outer s H vs Q E hr h => ?_)
  · obtain ⟨a, rfl, _⟩ := h
    rfl
  · obtain ⟨a, rfl, ha, q⟩ := h
    refine ⟨_, pss_one (ps_ost (pv 0) pe_str), ?_⟩
    exact ⟨_, rfl, a, C, rfl, B.T, B.nw, .inl ⟨ha, fun dx nd ne => q dx nd ne⟩⟩
abbrev sInitBadLetters : Stmt := inClass (topS 5) 0
structure MkBadLetters (K : PySem.W.Frag) (mg : Str → Option Value) (C fI : Addr) (fdI : FuncData) : Prop where
  T : OexC K C
  iC : PySem.W.findIn K (.ref C) "__init__" = some (some (.ref fI))
  tI : PySem.W.typeIn K (.ref fI) = some (.type "function")
  F : Fun K "__init__" "BadLetters.__init__" sInitBadLetters fI fdI
  b : Binds K fdI ["self"] []
  g : mg "BadLetters" = some (.ref C)
  nw : PySem.W.findIn K (.ref C) "word" = some none
theorem scIBadLetters : FnScope ["self"] ["self"] (defScope sInitBadLetters) := ⟨rfl, rfl, rfl, by decide +kernel, rfl, by decide +kernel, by decide +kernel⟩
theorem ok_initBadLetters {P : Program} {w : World} {K : PySem.W.Frag} {mg : Str → Option Value} {base : Heap} {C fI : Addr} {fdI : FuncData} {k : Nat} (B : MkBadLetters K mg C fI fdI) : FnOk P w K mg base CX0 (k + 1) fI fdI ["self"] (spWord C "badletters") := by
  refine B.F.ok scIBadLetters (fun vs H Q E h => ?_) (fun cdv A outer s H vs Q E hr h => ?_)
  · obtain ⟨a, rfl, _⟩ := h
    rfl
  · obtain ⟨a, rfl, ha, q⟩ := h
    refine ⟨_, pss_one (ps_ost (pv 0) pe_str), ?_⟩
    exact ⟨_, rfl, a, C, rfl, B.T, B.nw, .inl ⟨ha, fun dx nd ne => q dx nd ne⟩⟩
abbrev sInitBadArrow : Stmt := inClass (topS 7) 0
structure MkBadArrow (K : PySem.W.Frag) (mg : Str → Option Value) (C fI : Addr) (fdI : FuncData) : Prop where
  T : OexC K C
  iC : PySem.W.findIn K (.ref C) "__init__" = some (some (.ref fI))
  tI : PySem.W.typeIn K (.ref fI) = some (.type "function")
  F : Fun K "__init__" "BadArrow.__init__" sInitBadArrow fI fdI
  b : Binds K fdI ["self"] []
  g : mg "BadArrow" = some (.ref C)
  nw : PySem.W.findIn K (.ref C) "word" = some none
theorem scIBadArrow : FnScope ["self"] ["self"] (defScope sInitBadArrow) := ⟨rfl, rfl, rfl, by decide +kernel, rfl, by decide +kernel, by decide +kernel⟩
theorem ok_initBadArrow {P : Program} {w : World} {K : PySem.W.Frag} {mg : Str → Option Value} {base : Heap} {C fI : Addr} {fdI : FuncData} {k : Nat} (B : MkBadArrow K mg C fI fdI) : FnOk P w K mg base CX0 (k + 1) fI fdI ["self"] (spWord C "badarrow") := by
  refine B.F.ok scIBadArrow (fun vs H Q E h => ?_) (fun cdv A outer s H vs Q E hr h => ?_)
  · obtain ⟨a, rfl, _⟩ := h
    rfl
  · obtain ⟨a, rfl, ha, q⟩ := h
    refine ⟨_, pss_one (ps_ost (pv 0) pe_str), ?_⟩
    exact ⟨_, rfl, a, C, rfl, B.T, B.nw, .inl ⟨ha, fun dx nd ne => q dx nd ne⟩⟩
abbrev sInitBadRoom : Stmt := inClass (topS 6) 0
structure MkBadRoom (K : PySem.W.Frag) (mg : Str → Option Value) (C fI : Addr) (fdI : FuncData) : Prop where
  T : OexC K C
  iC : PySem.W.findIn K (.ref C) "__init__" = some (some (.ref fI))
  tI : PySem.W.typeIn K (.ref fI) = some (.type "function")
  F : Fun K "__init__" "BadRoom.__init__" sInitBadRoom fI fdI
  b : Binds K fdI ["self"] []
  g : mg "BadRoom" = some (.ref C)
  nw : PySem.W.findIn K (.ref C) "word" = some none
theorem scIBadRoom : FnScope ["self"] ["self"] (defScope sInitBadRoom) := ⟨rfl, rfl, rfl, by decide +kernel, rfl, by decide +kernel, by decide +kernel⟩
theorem ok_initBadRoom {P : Program} {w : World} {K : PySem.W.Frag} {mg : Str → Option Value} {base : Heap} {C fI : Addr} {fdI : FuncData} {k : Nat} (B : MkBadRoom K mg C fI fdI) : FnOk P w K mg base CX0 (k + 1) fI fdI ["self"] (spWord C "badroom") := by
  refine B.F.ok scIBadRoom (fun vs H Q E h => ?_) (fun cdv A outer s H vs Q E hr h => ?_)
  · obtain ⟨a, rfl, _⟩ := h
    rfl
  · obtain ⟨a, rfl, ha, q⟩ := h
    refine ⟨_, pss_one (ps_ost (pv 0) pe_str), ?_⟩
    exact ⟨_, rfl, a, C, rfl, B.T, B.nw, .inl ⟨ha, fun dx nd ne => q dx nd ne⟩⟩
abbrev sInitFull : Stmt := inClass (topS 18) 0
structure MkFull (K : PySem.W.Frag) (mg : Str → Option Value) (C fI : Addr) (fdI : FuncData) : Prop where
  T : OexC K C
  iC : PySem.W.findIn K (.ref C) "__init__" = some (some (.ref fI))
  tI : PySem.W.typeIn K (.ref fI) = some (.type "function")
  F : Fun K "__init__" "Full.__init__" sInitFull fI fdI
  b : Binds K fdI ["self"] []
  g : mg "Full" = some (.ref C)
  nw : PySem.W.findIn K (.ref C) "word" = some none
theorem scIFull : FnScope ["self"] ["self"] (defScope sInitFull) := ⟨rfl, rfl, rfl, by decide +kernel, rfl, by decide +kernel, by decide +kernel⟩
theorem ok_initFull {P : Program} {w : World} {K : PySem.W.Frag} {mg : Str → Option Value} {base : Heap} {C fI : Addr} {fdI : FuncData} {k : Nat} (B : MkFull K mg C fI fdI) : FnOk P w K mg base CX0 (k + 1) fI fdI ["self"] (spWord C "full") := by
  refine B.F.ok scIFull (fun vs H Q E h => ?_) (fun cdv A outer s H vs Q E hr h => ?_)
  · obtain ⟨a, rfl, _⟩ := h
    rfl
  · obtain ⟨a, rfl, ha, q⟩ := h
    refine ⟨_, pss_one (ps_ost (pv 0) pe_str), ?_⟩
    exact ⟨_, rfl, a, C, rfl, B.T, B.nw, .inl ⟨ha, fun dx nd ne => q dx nd ne⟩⟩
end Onp
set_option autoImplicit false
/-! small things that several layers want -/
namespace Onp
open PySem PySem.Spec PyProof.Rows L2
theorem yes2 {σ : L2.St} {H : Hp} {a b : Hp → Prop} (h : a H) : tYes σ H fun c H3 => if c = true then a H3 else b H3 := by
  show if true = true then a H else b H
  rw [if_pos rfl]
  exact h
theorem take_next {α : Type} {xs : List α} {i : Nat} {x : α} (h : xs[i]? = some x) : xs.take (i + 1) = xs.take i ++ [x] := by
  rw [List.take_succ, h]
  rfl
end Onp
set_option maxHeartbeats 8000000
set_option autoImplicit false
namespace Onp
open PySem PySem.Spec PyProof.Rows L2 HotX L2H LamX
/-! ### Machine(..), of whatever is handed in -/
def arwG (n : Int) (ls : List Nat) (as : List Arw) : Prop := (∀ a ∈ as, arrB n ls a = true) ∧ as.Nodup
instance (n : Int) (ls : List Nat) (as : List Arw) : Decidable (arwG n ls as) := by unfold arwG; exact inferInstance
def rooG (n : Int) (ns : List Int) : Prop := (∀ r ∈ ns, rooB n r = true) ∧ ns.Nodup
instance (n : Int) (ns : List Int) : Decidable (rooG n ns) := by unfold rooG; exact inferInstance
/-- why it is refused -/
def whyM (M : AM) : Option Str := if ¬ (1 ≤ M.n ∧ M.n ≤ 8) then some "BadSize" else if letB M.ls = false then some "BadLetters" else if ¬ arwG M.n M.ls M.as then some "BadArrow" else if 40 < M.as.length then some "Full" else if ¬ rooG M.n M.fs then some "BadRoom" else if ¬ rooG M.n M.gs then some "BadRoom" else none
theorem wo_size : wordOf "BadSize" = "badsize" := by decide +kernel
theorem wo_letters : wordOf "BadLetters" = "badletters" := by decide +kernel
theorem wo_arrow : wordOf "BadArrow" = "badarrow" := by decide +kernel
theorem wo_full : wordOf "Full" = "full" := by decide +kernel
theorem wo_room : wordOf "BadRoom" = "badroom" := by decide +kernel
section
variable {P : Program} {w : World} {K : PySem.W.Frag} {mg : Str → Option Value} {base : Heap}
def spNeedAX (K : PySem.W.Frag) (CA CF : Addr) : Sp := fun vs H Q E => ∃ (l : Addr) (ps : List AR) (n : Int) (ls : List Nat), vs = [.ref l, .int n, .str (Sx ls)] ∧ SqA K H l (rfs ps) ∧ RowAt K H ps ∧ (∀ p ∈ ps, p.2.2.1.length ≤ sizeLine) ∧ ps.length < 64 ∧
  (¬ arwG n ls (ps.map (·.2)) → ∀ H', Same H H' → badW CA "badarrow" H' E) ∧ (arwG n ls (ps.map (·.2)) → 40 < ps.length → ∀ H', Same H H' → badW CF "full" H' E) ∧ (arwG n ls (ps.map (·.2)) → ps.length ≤ 40 → ∀ H', Same H H' → Q .non H')
theorem ok_needAX {f fA fL tD CA CF iA iF : Addr} {fd fdA fdL fdiA fdiF : FuncData} {k : Nat} (F : Fun K "need_arrows" "need_arrows" sNeedA f fd) (Ia : FnM K mg fA fdA "is_arrow" sIsA ["arrow", "rooms", "letters"]) (Il : FnM K mg fL fdL "is_letter" sIsL ["text", "letters"]) (SA : MkBadArrow K mg CA iA fdiA) (SF : MkFull K mg CF iF fdiF) (B : Bl1 mg) (C : CsM K mg tD) :
    FnOk P w K mg base (L2N.CX P w) (k + 3) f fd ["arrows", "rooms", "letters"] (spNeedAX K CA CF) := by
  have GA : FnOk P w K mg base CX0 (k + 2) fA fdA ["arrow", "rooms", "letters"] (spIsA K) := ok_isA Ia.F Il B C
  obtain ⟨t1, gA⟩ := C.arrows
  refine okN F scNeedA (fun vs H Q E h => ?_) (fun cdv A outer s H vs Q E hr h => ?_)
  · obtain ⟨l, ps, n, ls, rfl, _⟩ := h
    rfl
  · obtain ⟨l, ps, n, ls, rfl, hl, hR, hA, hfew, eA, eF, q⟩ := h
    refine ⟨_, pss_cons (ps_if (PW.pt (pw_or (pt_not (pt_val (pe_callB (cr_all rfl) (by rfl) B.all (by decide +kernel) (pa_cons (pe_lc (own := [("arrow", 3)]) (g := gName 3) (tt := tYes) (te := tCall (spIsA K) [] E0 (tCons (tVar 3) (tCons (tVar 1) (tCons (tVar 2) tNil)))) rfl scNeedA.nd
          (pi_any (pv 0)) (blkOk_by (own := [("arrow", 3)]) (N := NNa) (sc := defScope sNeedA) (by decide +kernel)) (fun _ _ _ _ _ => pg_name (i := 3) scNeedA.nd rfl (.inl rfl)) (fun _ _ _ _ _ => pts_nil)
          (fun _ _ _ _ _ => pe_call GA hr (by rfl) Ia.g Ia.F.kp Ia.b .nil pass0 (pa_cons (pv 3) (pa_cons (pv 1) (pa_cons (pv 2) pa_nil))))) pa_nil))))
          (pw_or1 (pt_cmpR op_lt (pe_lenSetM rfl hr.units (by rfl) B.len (by rfl) B.set (pv 0)) (pe_callB call_len_seq (by rfl) B.len PySem.boot_len (pa_cons (pv 0) pa_nil)) (nomark _))))) (pss_one (L2N.ps_raise rfl (L2N.takes_of rfl rfl rfl rfl) (pmk_word (k := k + 1) SA.T SA.iC SA.tI (ok_initBadArrow SA) hr SA.b (by rfl) SA.g))) pss_nil)
      (pss_one (ps_if (pt_cmpR op_gt (pe_callB call_len_seq (by rfl) B.len PySem.boot_len (pa_cons (pv 0) pa_nil)) (pe_glob (v := .int 40) rfl gA ⟨_, rfl⟩) (nomark _)) (pss_one (L2N.ps_raise rfl (L2N.takes_of rfl rfl rfl rfl) (pmk_word (k := k + 1) SF.T SF.iC SF.tI (ok_initFull SF) hr SF.b (by rfl) SF.g))) pss_nil)), ?_⟩
    refine ⟨_, rfl, l, rfs ps, rfl, hl, fun J G W hG D nD => ?_⟩
    have hlen : (rfs ps).length = ps.length := List.length_map ..
    have hbig : 5000 ≤ sizeLine := by decide
    refine lc_it W (fun i H' => Same H H' ∧ H' D = some (.lst (((ps.take i).map fun p => arrB n ls p.2).map V.bl))) ⟨same_upd nD, upd_same⟩ (fun i H' _ ⟨sm, _⟩ => hG H' sm) ?_ ?_
    · rintro i v H1 H2 hi ⟨sm, hD⟩ ⟨rfl, hv⟩
      rw [hlen] at hi
      have hp : ps[i]? = some ps[i] := List.getElem?_eq_getElem hi
      have ev : v = .ref ps[i].1 := by
        unfold rfs at hv
        rw [List.getElem?_map, hp] at hv
        exact (Option.some.inj hv).symm
      subst ev
      refine ⟨rfl, ?_⟩
      refine yes2 ?_
      refine ⟨_, rfl, _, rfl, _, rfl, ps[i].1, ps[i].2, n, ls, rfl, same_seqT sm (hR _ (List.getElem_mem hi)), hA _ (List.getElem_mem hi), ?_⟩
      refine ⟨_, hD, ?_, fun b o e => ?_, ?_⟩
      · rw [List.length_map, List.length_map, List.length_take]
        omega
      · rw [upd_ne (ne_of_none e nD)]
        exact sm _ _ e
      · rw [upd_same, take_next hp, List.map_append, List.map_append]
        rfl
    · rintro H1 ⟨s1, hD⟩
      rw [hlen, List.take_length] at hD
      refine ⟨D, _, rfl, SqL.of hD, _, rfl, ?_⟩
      have ea : (ps.map fun p => arrB n ls p.2).all id = decide (∀ a ∈ (ps.map fun p : AR => p.2), arrB n ls a = true) := by
        rw [Bool.eq_iff_iff, List.all_eq_true, decide_eq_true_eq]
        constructor
        · intro h a ha
          obtain ⟨p, hp, rfl⟩ := List.mem_map.mp ha
          exact h _ (List.mem_map.mpr ⟨p, hp, rfl⟩)
        · intro h b hb
          obtain ⟨p, hp, rfl⟩ := List.mem_map.mp hb
          exact h p.2 (List.mem_map_of_mem hp)
      rw [ea]
      rcases Classical.em (∀ a ∈ (ps.map fun p : AR => p.2), arrB n ls a = true) with hall | hall
      rotate_left
      · rw [decide_eq_false hall]
        exact iteT (fun d hd => eA (fun g => hall g.1) H1 s1 d hd)
      rw [decide_eq_true hall]
      have hl1 := sqA_same s1 hl
      refine iteF ⟨_, rfl, l, ps.map fun p => (p.1, akey p.2), rfl, ?_, ?_, by rw [List.length_map]; omega, fun m m1 m2 => ?_⟩
      · have e : ((ps.map fun p => (p.1, akey p.2)).map fun p => V.ref p.1) = rfs ps := by
          unfold rfs
          rw [List.map_map]
          rfl
        rw [e]
        exact hl1
      · intro p hp
        obtain ⟨a, ha, rfl⟩ := List.mem_map.mp hp
        exact same_seqT s1 (hR a ha)
      · rw [List.length_map] at m1 m2
        have enk : (ps.map fun p => (p.1, akey p.2)).map (·.2) = (ps.map (·.2)).map akey := by
          rw [List.map_map, List.map_map]
          rfl
        rw [enk] at m2
        refine ⟨_, rfl, l, rfs ps, rfl, hl1, _, _, rfl, rfl, _, rfl, ?_⟩
        by_cases hnd : (ps.map (·.2)).Nodup
        · have em : m = ps.length := by
            by_cases h : m < ps.length
            · exact absurd (nodup_map_inj (fun _ _ => akey_inj) hnd) (m2.mp h)
            · omega
          subst em
          refine itF (by rw [hlen]; omega) ?_
          refine ⟨_, rfl, l, rfs ps, rfl, hl1, _, _, rfl, rfl, _, rfl, ?_⟩
          by_cases h40 : 40 < ps.length
          · refine itT (show ((rfs ps).length : Int) > 40 by rw [hlen]; omega) (fun d hd => eF ⟨hall, hnd⟩ h40 H1 s1 d hd)
          · exact itF (show ¬ ((rfs ps).length : Int) > 40 by rw [hlen]; omega) (q ⟨hall, hnd⟩ (by omega) H1 s1)
        · have hk : ¬ ((ps.map (·.2)).map akey).Nodup := fun z => hnd (List.Pairwise.of_map akey (fun a b h e => h (by rw [e])) z)
          have hm := m2.mpr hk
          exact itT (by rw [hlen]; omega) (fun d hd => eA (fun g => hnd g.2) H1 s1 d hd)
/-! ### need_rooms -/
def spNeedRX (K : PySem.W.Frag) (CR : Addr) : Sp := fun vs H Q E => ∃ (l : Addr) (ns : List Int) (n : Int), vs = [.ref l, .int n] ∧ SqA K H l (ns.map V.int) ∧ ns.length ≤ 100 ∧ (¬ rooG n ns → ∀ H', Same H H' → badW CR "badroom" H' E) ∧ (rooG n ns → ∀ H', Same H H' → Q .non H')
theorem ok_needRX {f CR iR : Addr} {fd fdiR : FuncData} {k : Nat} (F : Fun K "need_rooms" "need_rooms" sNeedR f fd) (SR : MkBadRoom K mg CR iR fdiR) (B : Bl1 mg) : FnOk P w K mg base (L2N.CX P w) (k + 3) f fd ["some", "rooms"] (spNeedRX K CR) := by
  refine okN F scNeedR (fun vs H Q E h => ?_) (fun cdv A outer s H vs Q E hr h => ?_)
  · obtain ⟨l, ns, n, rfl, _⟩ := h
    rfl
  · obtain ⟨l, ns, n, rfl, hl, hfew, eR, q⟩ := h
    refine ⟨_, pss_one (ps_if (PW.pt (pw_or (pt_not (pt_val (pe_callB (cr_all rfl) (by rfl) B.all (by decide +kernel) (pa_cons (pe_lc (own := [("room", 2)]) (g := gName 2) (tt := tYes) rfl scNeedR.nd
          (pi_any (pv 0)) (blkOk_by (own := [("room", 2)]) (N := NNr) (sc := defScope sNeedR) (by decide +kernel)) (fun _ _ _ _ _ => pg_name (i := 2) scNeedR.nd rfl (.inl rfl)) (fun _ _ _ _ _ => pts_nil)
          (fun _ _ _ _ _ => pe_chain op_le op_lt pe_int (pv 2) (pv 1))) pa_nil))))
          (pw_or1 (pt_cmpR op_lt (pe_lenSetK rfl (by rfl) B.len (by rfl) B.set (pv 0)) (pe_callB call_len_seq (by rfl) B.len PySem.boot_len (pa_cons (pv 0) pa_nil)) (nomark _))))) (pss_one (L2N.ps_raise rfl (L2N.takes_of rfl rfl rfl rfl) (pmk_word (k := k + 1) SR.T SR.iC SR.tI (ok_initBadRoom SR) hr SR.b (by rfl) SR.g))) pss_nil), ?_⟩
    have hlen : (ns.map V.int).length = ns.length := List.length_map ..
    have hbig : 5000 ≤ sizeLine := by decide
    refine ⟨_, rfl, l, ns.map V.int, rfl, hl, fun J G W hG D nD => ?_⟩
    refine lc_it W (fun i H' => Same H H' ∧ H' D = some (.lst (((ns.take i).map fun r => rooB n r).map V.bl))) ⟨same_upd nD, upd_same⟩ (fun i H' _ ⟨sm, _⟩ => hG H' sm) ?_ ?_
    · rintro i v H1 H2 hi ⟨sm, hD⟩ ⟨rfl, hv⟩
      rw [hlen] at hi
      have hp : ns[i]? = some ns[i] := List.getElem?_eq_getElem hi
      rw [List.getElem?_map, hp] at hv
      obtain rfl := Option.some.inj hv
      refine ⟨rfl, ?_⟩
      refine yes2 ?_
      have fin : ∃ acc, H2 D = some (.lst acc) ∧ acc.length < sizeLine ∧ Same H (upd H2 D (.lst (acc ++ [V.bl (rooB n ns[i])]))) ∧ (upd H2 D (.lst (acc ++ [V.bl (rooB n ns[i])]))) D = some (.lst (((ns.take (i + 1)).map fun r => rooB n r).map V.bl)) := by
        refine ⟨_, hD, ?_, fun b o e => ?_, ?_⟩
        · rw [List.length_map, List.length_map, List.length_take]
          omega
        · rw [upd_ne (ne_of_none e nD)]
          exact sm _ _ e
        · rw [upd_same, take_next hp, List.map_append, List.map_append]
          rfl
      by_cases h0 : 0 ≤ ns[i]
      · refine ⟨_, rfl, _, _, rfl, rfl, _, rfl, itT h0 ⟨_, rfl, _, _, rfl, rfl, ?_⟩⟩
        have eb : rooB n ns[i] = decide (ns[i] < n) := by
          unfold rooB
          rw [decide_eq_true h0, Bool.true_and]
        rw [eb] at fin
        exact fin
      · refine ⟨_, rfl, _, _, rfl, rfl, _, rfl, itF h0 ?_⟩
        have eb : rooB n ns[i] = false := by
          unfold rooB
          rw [decide_eq_false h0, Bool.false_and]
        rw [eb] at fin
        exact fin
    · rintro H1 ⟨s1, hD⟩
      rw [hlen, List.take_length] at hD
      refine ⟨D, _, rfl, SqL.of hD, _, rfl, ?_⟩
      have ea : (ns.map fun r => rooB n r).all id = decide (∀ r ∈ ns, rooB n r = true) := by
        rw [Bool.eq_iff_iff, List.all_eq_true, decide_eq_true_eq]
        constructor
        · intro h r hr
          exact h _ (List.mem_map.mpr ⟨r, hr, rfl⟩)
        · intro h b hb
          obtain ⟨r, hr, rfl⟩ := List.mem_map.mp hb
          exact h r hr
      rw [ea]
      rcases Classical.em (∀ r ∈ ns, rooB n r = true) with hall | hall
      rotate_left
      · rw [decide_eq_false hall]
        exact iteT (fun d hd => eR (fun g => hall g.1) H1 s1 d hd)
      rw [decide_eq_true hall]
      have hl1 := sqA_same s1 hl
      refine iteF ⟨_, rfl, l, ns.map Sum.inl, rfl, ?_, by rw [List.length_map]; omega, fun m m1 m2 => ?_⟩
      · have e : (ns.map Sum.inl).map kV = ns.map V.int := by
          rw [List.map_map]
          rfl
        rw [e]
        exact hl1
      · rw [List.length_map] at m1 m2
        refine ⟨_, rfl, l, ns.map V.int, rfl, hl1, _, _, rfl, rfl, _, rfl, ?_⟩
        by_cases hnd : ns.Nodup
        · have em : m = ns.length := by
            by_cases h : m < ns.length
            · exact absurd (nodup_map_inj (fun _ _ e => Sum.inl.inj e) hnd) (m2.mp h)
            · omega
          subst em
          exact itF (by rw [hlen]; omega) (q ⟨hall, hnd⟩ H1 s1)
        · have hk : ¬ (ns.map (Sum.inl : Int → L2.Key)).Nodup := fun z => hnd (List.Pairwise.of_map Sum.inl (fun a b h e => h (by rw [e])) z)
          have hm := m2.mpr hk
          exact itT (by rw [hlen]; omega) (fun d hd => eR (fun g => hnd g.2) H1 s1 d hd)
/-! ### Machine.__init__ -/
def spMInitX (K : PySem.W.Frag) (C : Addr) (ec : Str → Addr) : Sp := fun vs H Q E => ∃ (x dx la lf lg : Addr) (ps : List AR) (M : AM), vs = [.ref x, .int M.n, .str (Sx M.ls), .ref la, .ref lf, .ref lg] ∧ H x = some (.ins C dx []) ∧ SqA K H la (rfs ps) ∧ RowAt K H ps ∧ ps.map (·.2) = M.as ∧ (∀ p ∈ ps, p.2.2.1.length ≤ sizeLine) ∧ ps.length < 64 ∧ SqA K H lf (M.fs.map V.int) ∧ SqA K H lg (M.gs.map V.int) ∧ M.ls.length ≤ 1000 ∧ M.fs.length ≤ 100 ∧ M.gs.length ≤ 100 ∧
  (∀ nm, whyM M = some nm → ∀ H', Same H H' → badW (ec nm) (wordOf nm) H' E) ∧ (whyM M = none → ∀ H', Keep x H H' → MachAt K C H' x M.srt → Q .non H')
theorem ok_minitX {f C fAl fIl fIa fNa fNr fSb tD iS iL iA iF iR : Addr} {fd fdAl fdIl fdIa fdNa fdNr fdSb fdiS fdiL fdiA fdiF fdiR : FuncData} {ec : Str → Addr} {k : Nat} {dvs : List V} {kws : List (Str × V)} (F : FunD K "__init__" "Machine.__init__" (defArgs sMInit) (defBody sMInit) (defScope sMInit) dvs kws f fd)
    (Al : FnM K mg fAl fdAl "are_letters" sAreL ["text"]) (Il : FnM K mg fIl fdIl "is_letter" sIsL ["text", "letters"]) (Ia : FnM K mg fIa fdIa "is_arrow" sIsA ["arrow", "rooms", "letters"]) (Na : FnM K mg fNa fdNa "need_arrows" sNeedA ["arrows", "rooms", "letters"]) (Nr : FnM K mg fNr fdNr "need_rooms" sNeedR ["some", "rooms"]) (Sb : FnM K mg fSb fdSb "steps_by_start" sStepsB ["arrows"])
    (SS : MkBadSize K mg (ec "BadSize") iS fdiS) (SL : MkBadLetters K mg (ec "BadLetters") iL fdiL) (SA : MkBadArrow K mg (ec "BadArrow") iA fdiA) (SF : MkFull K mg (ec "Full") iF fdiF) (SR : MkBadRoom K mg (ec "BadRoom") iR fdiR)
    (B : Bl1 mg) (B2 : Bl2 mg) (Cs : CsM K mg tD) (T : ClsM K C) : FnOk P w K mg base (L2N.CX P w) (k + 4) f fd psMI (spMInitX K C ec) := by
  have GAl : FnOk P w K mg base CX0 (k + 3) fAl fdAl ["text"] spAreL := ok_areL Al.F B Cs
  have GNa : FnOk P w K mg base (L2N.CX P w) (k + 3) fNa fdNa ["arrows", "rooms", "letters"] (spNeedAX K (ec "BadArrow") (ec "Full")) := ok_needAX Na.F Ia Il SA SF B Cs
  have GNr : FnOk P w K mg base (L2N.CX P w) (k + 3) fNr fdNr ["some", "rooms"] (spNeedRX K (ec "BadRoom")) := ok_needRX Nr.F SR B
  have GSb : FnOk P w K mg base CX0 (k + 3) fSb fdSb ["arrows"] (spStepsB K) := ok_stepsB Sb.F
  obtain ⟨t1, gR⟩ := Cs.rooms
  refine F.ok scMInit (fun vs H Q E h => ?_) (fun cdv A outer s H vs Q E hr h => ?_)
  · obtain ⟨x, dx, la, lf, lg, ps, M, rfl, _⟩ := h
    rfl
  · obtain ⟨x, dx, la, lf, lg, ps, M, rfl, hx, hla, hR, eas, hpl, hp64, hlf, hlg, l1, o11, o12, er, q⟩ := h
    have hu : (cxOf (L2N.CX P w) P w K mg base psMI "Machine.__init__" (defScope sMInit) f cdv A outer s H E).A.units + 64 < cLine := hr.units
    refine ⟨_, pss_cons (ps_if (pt_not (pt_chain op_le op_le pe_int (pv 1) (pe_glob (v := .int 8) rfl gR ⟨_, rfl⟩))) (pss_one (L2N.ps_raise rfl (L2N.takes_of rfl rfl rfl rfl) (pmk_word (k := k + 2) SS.T SS.iC SS.tI (ok_initBadSize SS) hr SS.b (by rfl) SS.g))) pss_nil)
      (pss_cons (ps_if (pt_not (pt_val (pe_call GAl hr (by rfl) Al.g Al.F.kp Al.b .nil pass0 (pa_cons (pv 2) pa_nil)))) (pss_one (L2N.ps_raise rfl (L2N.takes_of rfl rfl rfl rfl) (pmk_word (k := k + 2) SL.T SL.iC SL.tI (ok_initBadLetters SL) hr SL.b (by rfl) SL.g))) pss_nil)
      (pss_cons (ps_expr (pe_call (E := E) GNa hr (by rfl) Na.g Na.F.kp Na.b .nil (L2N.passes_call (L2N.takes_of (E := E) rfl rfl rfl rfl) fun _ _ _ _ z => z) (pa_cons (pv 3) (pa_cons (pv 1) (pa_cons (pv 2) pa_nil)))))
      (pss_cons (ps_expr (pe_call (E := E) GNr hr (by rfl) Nr.g Nr.F.kp Nr.b .nil (L2N.passes_call (L2N.takes_of (E := E) rfl rfl rfl rfl) fun _ _ _ _ z => z) (pa_cons (pv 4) (pa_cons (pv 1) pa_nil))))
      (pss_cons (ps_expr (pe_call (E := E) GNr hr (by rfl) Nr.g Nr.F.kp Nr.b .nil (L2N.passes_call (L2N.takes_of (E := E) rfl rfl rfl rfl) fun _ _ _ _ z => z) (pa_cons (pv 5) (pa_cons (pv 1) pa_nil))))
      (pss_cons (ps_fld (pv 0) (pv 1) rfl)
      (pss_cons (ps_fld (pv 0) (pv 2) rfl)
      (pss_cons (ps_fld (pv 0) (pe_callTy call_tuple_of (by rfl) B2.tuple (by decide +kernel) (pa_cons (pe_callB (cr_sortD hu) (by rfl) B2.sorted (by decide +kernel) (pa_cons (pv 3) pa_nil)) pa_nil)) rfl)
      (pss_cons (ps_fld (pv 0) (pe_callTy call_tuple_of (by rfl) B2.tuple (by decide +kernel) (pa_cons (pe_callB (cr_sortD hu) (by rfl) B2.sorted (by decide +kernel) (pa_cons (pv 4) pa_nil)) pa_nil)) rfl)
      (pss_cons (ps_fld (pv 0) (pe_callTy call_tuple_of (by rfl) B2.tuple (by decide +kernel) (pa_cons (pe_callB (cr_sortD hu) (by rfl) B2.sorted (by decide +kernel) (pa_cons (pv 5) pa_nil)) pa_nil)) rfl)
      (pss_one (ps_fld (pv 0) (pe_call GSb hr (by rfl) Sb.g Sb.F.kp Sb.b .nil pass0 (pa_cons (pe_fld (pv 0) rfl) pa_nil)) rfl))))))))))), ?_⟩
    have er' : ∀ {nm wd : Str}, whyM M = some nm → wordOf nm = wd → ∀ H', Same H H' → badW (ec nm) wd H' E := fun h e => by
      subst e
      exact er _ h
    have eS : ¬ (1 ≤ M.n ∧ M.n ≤ 8) → ∀ d, H d = none → E (.ref (ec "BadSize")) (some d) (upd H d (.xd [("word", .str "badsize")])) := fun hc => er' (by unfold whyM; rw [if_pos hc]) wo_size H (fun _ _ h => h)
    refine ⟨_, rfl, _, _, rfl, rfl, _, rfl, ?_⟩
    rcases Classical.em (1 ≤ M.n) with c1 | c1
    rotate_left
    · exact itF c1 ⟨_, rfl, iteT (eS fun z => c1 z.1)⟩
    refine itT c1 ⟨_, _, rfl, rfl, _, rfl, ?_⟩
    rcases Classical.em (M.n ≤ 8) with c2 | c2
    rotate_left
    · rw [decide_eq_false c2]
      exact iteT (eS fun z => c2 z.2)
    rw [decide_eq_true c2]
    have c12 : ¬ ¬ (1 ≤ M.n ∧ M.n ≤ 8) := fun z => z ⟨c1, c2⟩
    refine iteF ⟨_, rfl, M.ls, rfl, by omega, fun H1 s1 => ⟨_, rfl, ?_⟩⟩
    cases o3 : letB M.ls with
    | false => exact iteT (fun d hd => er' (by unfold whyM; rw [if_neg c12, if_pos o3]) wo_letters H1 s1 d hd)
    | true =>
    have c3 : ¬ letB M.ls = false := fun z => by rw [o3] at z; cases z
    have ela : ps.length = M.as.length := by rw [← eas, List.length_map]
    refine iteF ⟨_, rfl, _, rfl, _, rfl, la, ps, M.n, M.ls, rfl, sqA_same s1 hla, hR.same s1, hpl, hp64, fun ng H2 s2 => er' (by unfold whyM; rw [if_neg c12, if_neg c3, if_pos (by rw [← eas]; exact ng)]) wo_arrow H2 (s1.trans s2), fun g h40 H2 s2 => er' (by unfold whyM; rw [if_neg c12, if_neg c3, if_neg (fun z => z (by rw [← eas]; exact g)), if_pos (by omega)]) wo_full H2 (s1.trans s2), fun g h40 H2 s2 => ?_⟩
    have c4 : ¬ ¬ arwG M.n M.ls M.as := fun z => z (by rw [← eas]; exact g)
    have c5 : ¬ 40 < M.as.length := by omega
    refine ⟨_, rfl, _, rfl, lf, M.fs, M.n, rfl, sqA_same (s1.trans s2) hlf, o11, fun ng H3 s3 => er' (by unfold whyM; rw [if_neg c12, if_neg c3, if_neg c4, if_neg c5, if_pos ng]) wo_room H3 (s1.trans (s2.trans s3)), fun gf H3 s3 => ?_⟩
    have c6 : ¬ ¬ rooG M.n M.fs := fun z => z gf
    refine ⟨_, rfl, _, rfl, lg, M.gs, M.n, rfl, sqA_same (s1.trans (s2.trans s3)) hlg, o12, fun ng H4 s4 => er' (by unfold whyM; rw [if_neg c12, if_neg c3, if_neg c4, if_neg c5, if_neg c6, if_pos ng]) wo_room H4 (s1.trans (s2.trans (s3.trans s4))), fun gg H4 s4 => ?_⟩
    have q := q (by unfold whyM; rw [if_neg c12, if_neg c3, if_neg c4, if_neg c5, if_neg c6, if_neg (fun z => z gg)])
    have s14 : Same H H4 := s1.trans (s2.trans (s3.trans s4))
    have hx4 := s14 _ _ hx
    -- rooms, letters
    refine ⟨_, rfl, _, rfl, x, C, dx, _, rfl, hx4, T.cl, T.n1, (by decide : 0 < 1000), ?_⟩
    refine ⟨_, rfl, _, rfl, x, C, dx, _, rfl, upd_same, T.cl, T.n2, Nat.lt_of_le_of_lt (mlen (Nat.le_refl 0)) (by decide), ?_⟩
    have k6 : Keep x H4 (upd (upd H4 x (.ins C dx (putF "room_count" (.int M.n) []))) x (.ins C dx (putF "letter_text" (.str (Sx M.ls)) (putF "room_count" (.int M.n) [])))) := Keep.upd.trans Keep.upd
    have hx6 : (upd (upd H4 x (.ins C dx (putF "room_count" (.int M.n) []))) x (.ins C dx (putF "letter_text" (.str (Sx M.ls)) (putF "room_count" (.int M.n) [])))) x = some (.ins C dx (putF "letter_text" (.str (Sx M.ls)) (putF "room_count" (.int M.n) []))) := upd_same
    generalize upd (upd H4 x (.ins C dx (putF "room_count" (.int M.n) []))) x (.ins C dx (putF "letter_text" (.str (Sx M.ls)) (putF "room_count" (.int M.n) []))) = H6 at k6 hx6
    have kx6 : Keep x H H6 := (Keep.of s14).trans k6
    -- arrows
    refine ⟨_, rfl, la, ps.map vdA, rfl, ?_, ?_, al_A ps, so_A ps, dep_A ps, fun p1 np1 => ?_⟩
    · rw [vdA_fst]
      exact keepI_A hx kx6 hla
    · intro p hp
      obtain ⟨a, ha, rfl⟩ := List.mem_map.mp hp
      exact dp_arw (keepI_T hx kx6 (hR a ha))
    rw [srtD_A, vdA_fst]
    refine ⟨p1, _, rfl, .inl ⟨SqL.of upd_same, fun ta nta => ?_⟩⟩
    have e7 := (same_upd (o := .lst (rfs (srtR ps))) np1).trans (same_upd (o := .tup (rfs (srtR ps))) nta)
    have hta : (upd (upd H6 p1 (.lst (rfs (srtR ps)))) ta (.tup (rfs (srtR ps)))) ta = some (.tup (rfs (srtR ps))) := upd_same
    generalize upd (upd H6 p1 (.lst (rfs (srtR ps)))) ta (.tup (rfs (srtR ps))) = H7 at e7 hta
    have hx7 := e7 _ _ hx6
    have kx7 : Keep x H H7 := kx6.trans (Keep.of e7)
    have nta : ta ≠ x := ne_of hta hx7 (fun z => nomatch z)
    refine ⟨_, rfl, x, C, dx, _, rfl, hx7, T.cl, T.n3, Nat.lt_of_le_of_lt (mlen (mlen (Nat.le_refl 0))) (by decide), ?_⟩
    have k8 : Keep x H7 (upd H7 x (.ins C dx (putF "arrow_row" (.ref ta) (putF "letter_text" (.str (Sx M.ls)) (putF "room_count" (.int M.n) []))))) := Keep.upd
    have hx8 : (upd H7 x (.ins C dx (putF "arrow_row" (.ref ta) (putF "letter_text" (.str (Sx M.ls)) (putF "room_count" (.int M.n) []))))) x = some (.ins C dx (putF "arrow_row" (.ref ta) (putF "letter_text" (.str (Sx M.ls)) (putF "room_count" (.int M.n) [])))) := upd_same
    generalize upd H7 x (.ins C dx (putF "arrow_row" (.ref ta) (putF "letter_text" (.str (Sx M.ls)) (putF "room_count" (.int M.n) [])))) = H8 at k8 hx8
    have kx8 : Keep x H H8 := kx7.trans k8
    have hta8 := k8 _ _ nta hta
    -- firsts
    refine ⟨_, rfl, lf, M.fs.map vdI, rfl, ?_, ?_, al_I _, so_I _, dep_I _, fun p2 np2 => ?_⟩
    · rw [vdI_fst]
      exact keepI_A hx kx8 hlf
    · intro p hp
      obtain ⟨a, ha, rfl⟩ := List.mem_map.mp hp
      exact .int a
    rw [srtD_I, vdI_fst]
    refine ⟨p2, _, rfl, .inl ⟨SqL.of upd_same, fun tf ntf => ?_⟩⟩
    have e9 := (same_upd (o := .lst ((sortI M.fs).map V.int)) np2).trans (same_upd (o := .tup ((sortI M.fs).map V.int)) ntf)
    have htf : (upd (upd H8 p2 (.lst ((sortI M.fs).map V.int))) tf (.tup ((sortI M.fs).map V.int))) tf = some (.tup ((sortI M.fs).map V.int)) := upd_same
    generalize upd (upd H8 p2 (.lst ((sortI M.fs).map V.int))) tf (.tup ((sortI M.fs).map V.int)) = H9 at e9 htf
    have hx9 := e9 _ _ hx8
    have kx9 : Keep x H H9 := kx8.trans (Keep.of e9)
    have ntf : tf ≠ x := ne_of htf hx9 (fun z => nomatch z)
    refine ⟨_, rfl, x, C, dx, _, rfl, hx9, T.cl, T.n4, Nat.lt_of_le_of_lt (mlen (mlen (mlen (Nat.le_refl 0)))) (by decide), ?_⟩
    have k10 : Keep x H9 (upd H9 x (.ins C dx (putF "first_row" (.ref tf) (putF "arrow_row" (.ref ta) (putF "letter_text" (.str (Sx M.ls)) (putF "room_count" (.int M.n) [])))))) := Keep.upd
    have hx10 : (upd H9 x (.ins C dx (putF "first_row" (.ref tf) (putF "arrow_row" (.ref ta) (putF "letter_text" (.str (Sx M.ls)) (putF "room_count" (.int M.n) [])))))) x = some (.ins C dx (putF "first_row" (.ref tf) (putF "arrow_row" (.ref ta) (putF "letter_text" (.str (Sx M.ls)) (putF "room_count" (.int M.n) []))))) := upd_same
    generalize upd H9 x (.ins C dx (putF "first_row" (.ref tf) (putF "arrow_row" (.ref ta) (putF "letter_text" (.str (Sx M.ls)) (putF "room_count" (.int M.n) []))))) = H10 at k10 hx10
    have kx10 : Keep x H H10 := kx9.trans k10
    have hta10 := k10 _ _ nta (e9 _ _ hta8)
    have htf10 := k10 _ _ ntf htf
    -- lasts
    refine ⟨_, rfl, lg, M.gs.map vdI, rfl, ?_, ?_, al_I _, so_I _, dep_I _, fun p3 np3 => ?_⟩
    · rw [vdI_fst]
      exact keepI_A hx kx10 hlg
    · intro p hp
      obtain ⟨a, ha, rfl⟩ := List.mem_map.mp hp
      exact .int a
    rw [srtD_I, vdI_fst]
    refine ⟨p3, _, rfl, .inl ⟨SqL.of upd_same, fun tg ntg => ?_⟩⟩
    have e11 := (same_upd (o := .lst ((sortI M.gs).map V.int)) np3).trans (same_upd (o := .tup ((sortI M.gs).map V.int)) ntg)
    have htg : (upd (upd H10 p3 (.lst ((sortI M.gs).map V.int))) tg (.tup ((sortI M.gs).map V.int))) tg = some (.tup ((sortI M.gs).map V.int)) := upd_same
    generalize upd (upd H10 p3 (.lst ((sortI M.gs).map V.int))) tg (.tup ((sortI M.gs).map V.int)) = H11 at e11 htg
    have hx11 := e11 _ _ hx10
    have kx11 : Keep x H H11 := kx10.trans (Keep.of e11)
    have ntg : tg ≠ x := ne_of htg hx11 (fun z => nomatch z)
    refine ⟨_, rfl, x, C, dx, _, rfl, hx11, T.cl, T.n5, Nat.lt_of_le_of_lt (mlen (mlen (mlen (mlen (Nat.le_refl 0))))) (by decide), ?_⟩
    have k12 : Keep x H11 (upd H11 x (.ins C dx (putF "last_row" (.ref tg) (putF "first_row" (.ref tf) (putF "arrow_row" (.ref ta) (putF "letter_text" (.str (Sx M.ls)) (putF "room_count" (.int M.n) []))))))) := Keep.upd
    have hx12 : (upd H11 x (.ins C dx (putF "last_row" (.ref tg) (putF "first_row" (.ref tf) (putF "arrow_row" (.ref ta) (putF "letter_text" (.str (Sx M.ls)) (putF "room_count" (.int M.n) []))))))) x = some (.ins C dx (putF "last_row" (.ref tg) (putF "first_row" (.ref tf) (putF "arrow_row" (.ref ta) (putF "letter_text" (.str (Sx M.ls)) (putF "room_count" (.int M.n) [])))))) := upd_same
    generalize upd H11 x (.ins C dx (putF "last_row" (.ref tg) (putF "first_row" (.ref tf) (putF "arrow_row" (.ref ta) (putF "letter_text" (.str (Sx M.ls)) (putF "room_count" (.int M.n) [])))))) = H12 at k12 hx12
    have kx12 : Keep x H H12 := kx11.trans k12
    have hta12 := k12 _ _ nta (e11 _ _ hta10)
    have htf12 := k12 _ _ ntf (e11 _ _ htf10)
    have htg12 := k12 _ _ ntg htg
    have hR12 : RowAt K H12 (srtR ps) := fun p hp => keepI_T hx kx12 (hR p (srtR_mem.mp hp))
    -- the steps
    have lk : (putF "last_row" (.ref tg) (putF "first_row" (.ref tf) (putF "arrow_row" (.ref ta) (putF "letter_text" (.str (Sx M.ls)) (putF "room_count" (.int M.n) []))))).lookup ("arrow_row" : Str) = some (V.ref ta) := by
      rw [lookup_putF, if_neg (by decide +kernel), lookup_putF, if_neg (by decide +kernel), lookup_putF, if_pos rfl]
    refine ⟨_, rfl, x, C, dx, _, _, rfl, hx12, T.cl, T.n3, lk, ta, srtR ps, rfl, SqT.of hta12, hR12, by rw [srtR_len]; omega, fun D H13 nD s13 S13 => ?_⟩
    have hx13 := s13 _ _ hx12
    refine ⟨_, rfl, x, C, dx, _, rfl, hx13, T.cl, T.n6, Nat.lt_of_le_of_lt (mlen (mlen (mlen (mlen (mlen (Nat.le_refl 0)))))) (by decide), q _ (kx12.trans ((Keep.of s13).trans Keep.upd)) ?_⟩
    have S14 := S13.rd
    have hk : ∀ b o, b ≠ x → H13 b = some o → (upd H13 x (.ins C dx (mfl M.n M.ls ta tf tg D))) b = some o := fun b o n e => by rw [upd_ne n]; exact e
    refine ⟨dx, ta, tf, tg, D, srtR ps, upd_same, hk _ _ nta (s13 _ _ hta12), fun p hp => ?_, ?_, hk _ _ ntf (s13 _ _ htf12), hk _ _ ntg (s13 _ _ htg12), ?_⟩
    · exact keepI_T hx13 Keep.upd (same_seqT s13 (hR12 p hp))
    · rw [srtR_as, eas]
      rfl
    · rw [srtR_as, eas] at S14
      obtain ⟨kvs, h1, h2, h3⟩ := S14
      refine ⟨kvs, hk _ _ (ne_of h1 hx13 (fun z => nomatch z)) h1, h2, fun r l h => ?_⟩
      obtain ⟨a, xs, ea, x1, x2, x3⟩ := h3 r l h
      exact ⟨a, xs, ea, hk _ _ (ne_of x1 hx13 (fun z => nomatch z)) x1, fun y hy => hk _ _ (ne_of (x2 y hy) hx13 (fun z => nomatch z)) (x2 y hy), x3⟩
end
end Onp
set_option maxHeartbeats 4000000
set_option autoImplicit false
namespace Onp
open PySem PySem.Spec PyProof.Rows L2 HotX L2H LamX
/-! ### a lambda with one parameter, which has a whole number as its default and isn't used -/
abbrev dOb (q : Str) (ar : Arguments) (e : Expr) (sc : Scope) (cl : List (Str × Addr)) (T : Addr) (dc pm : Value) (c' : Addr) (ct : Value) : Obj := PySem.W.kdv_obj "<lambda>" q ar (.expr e) sc cl (.ref T) dc pm c' ct
structure LamD (sc scope : Scope) (x : Str) : Prop where
  kind : scope.kind = .function
  co : scope.isCoroutine = false
  gen : scope.isGenerator = false
  own : ∀ y ∈ scope.names, y.2 ≠ .cell ∧ (y.2 = .local → y.1 = x)
  par : scope.names.lookup x = some .local
  free : ∀ y ∈ scope.names, y.2 = .free → sc.names.lookup y.1 = some .cell ∨ sc.names.lookup y.1 = some .free
  non : ∀ y ∈ scope.names, y.1 ≠ ("" : Str)
def lamDB (sc scope : Scope) (x : Str) : Bool :=
  decide (scope.kind = .function) && !scope.isCoroutine && !scope.isGenerator && decide (scope.names.lookup x = some .local) &&
    scope.names.all fun y => !decide (y.2 = .cell) && (!decide (y.2 = .local) || decide (y.1 = x)) && !decide (y.1 = ("" : Str)) && (!decide (y.2 = .free) || decide (sc.names.lookup y.1 = some .cell) || decide (sc.names.lookup y.1 = some .free))
theorem lamD_by {sc scope : Scope} {x : Str} (h : lamDB sc scope x = true) : LamD sc scope x := by
  unfold lamDB at h
  simp only [Bool.and_eq_true, Bool.or_eq_true, Bool.not_eq_true', decide_eq_true_eq, decide_eq_false_iff_not, List.all_eq_true] at h
  obtain ⟨⟨⟨⟨h1, h2⟩, h3⟩, h5⟩, h4⟩ := h
  refine ⟨h1, h2, h3, fun y hy => ⟨(h4 y hy).1.1.1, fun z => ?_⟩, h5, fun y hy e => ?_, fun y hy => (h4 y hy).1.2⟩
  · exact (h4 y hy).1.1.2.elim (fun q => absurd z q) id
  · exact (h4 y hy).2.elim (fun q => q.elim (fun q => absurd e q) .inl) .inr
theorem LamD.has {X : Cx} {scope : Scope} {x : Str} (L : LamD X.env.scope scope x) (ok : X.Ok) : ∀ y ∈ scope.names, y.2 = .free → ∃ c, X.env.cells.lookup y.1 = some c := fun y hy e =>
  (L.free y hy e).elim (fun k => ok.has _ (.inl k)) (fun k => ok.has _ (.inr k))
def mask (x y : Str) : Str := if y = x then "" else y
def lamCxD (X : Cx) (A : Around) (outer : List Env) (s : Shared) (H : Hp) (E : XK) (scope : Scope) (f c' : Addr) (x : Str) : Cx := { lamCxN X A outer s H E scope f c' with N := X.N.map (mask x) }
section
variable {X : Cx} {pins : List (Addr × Obj)} {σ : L2.St} {H : Hp} {s : Shared}
theorem lam_makeD {T : List (Addr × Str)} {c P : Addr} {ar : Arguments} {body : Expr} {sc : Scope} {pos p0 : Pos} {z : Int} {u0 : Nat} {Er : Value → Shared → Prop} {Qv : Value → Shared → Prop} (I : Inv X pins σ H s) (TB : TabB X.base X.mg c P) (hcode : X.env.code = .ref c)
    (hm : (P, X.env.qual ++ "<lambda>") ∈ T) (hu : ∀ p ∈ T, p.1 = P → p.2 = X.env.qual ++ "<lambda>") (hT : Tabs T H) (hd1 : ar.defaults = [.Constant (.int z) u0 p0]) (hd2 : ar.kw_defaults = []) (hfree : ∀ y ∈ sc.names, y.2 = .free → ∃ c, X.env.cells.lookup y.1 = some c)
    (h : ∀ (f c' t : Addr) (dc pm ct : Value) (H1 : Hp) (s' : Shared), Inv X pins σ H1 s' → ExtN H H1 → Tabs T H1 → s'.heap.get? f = some (dOb (X.env.qual ++ "<lambda>") ar body sc (cloFrom X.env.cells sc.names []) t dc pm c' ct) →
      H1 f = none → f ∉ frs X.stack → H1 c' = some (CodeO c' (X.env.qual ++ "<lambda>")) → H1 t = some (.tup [.int z]) → Qv (.ref f) s') :
    wpAny (model X.prog X.w) X.A (eval (.Lambda ar body sc pos) X.env) Qv Er s := by
  refine PySem.W.kdv_lam (by rw [hd1]; rfl) hd2 ?_
  rw [hd1]
  refine PySem.W.kdv_all1 (wpAny_Constant_int (PySem.W.kdv_all0 ?_))
  have I1 := I.tok (s.toks + 1)
  have r1 : RelV (.int z) (.int z s.toks) := ⟨_, rfl⟩
  generalize (Value.int z s.toks) = uv at r1
  generalize ({ s with toks := s.toks + 1 } : Shared) = s1 at I1
  rw [makeFunction_eq]
  simp only [List.zip_nil_right, List.filterMap_nil, List.isEmpty_nil, if_true, pure_bind, List.isEmpty_cons, Bool.false_eq_true, if_false]
  refine wpAny_bind (wpAny_newTextTuple ?_)
  have nT : H s1.heap.objs.size = none := I1.hok.fresh (Nat.le_refl _)
  have I2 : Inv X pins σ (upd H s1.heap.objs.size (.tup [.int z])) { s1 with heap := s1.heap.push { cls := .type "tuple", data := .seq [uv].toArray } } :=
    I1.laid (t' := s1.toks) (fun b u e => Heap.get?_push_of_some _ e) (Nat.le_refl _) ⟨(by decide : 1 ≤ sizeLine), [uv], .cons r1 .nil, ⟨_, Heap.get?_push_size _ rfl, rfl, _, rfl⟩⟩
  have hT2 : Tabs T (upd H s1.heap.objs.size (.tup [.int z])) := hT.ext fun b o e => by
    rw [upd_ne (ne_of_none e nT)]
    exact e
  have e2 : ExtN H (upd H s1.heap.objs.size (.tup [.int z])) := ExtN.of fun b o e => by
    rw [upd_ne (ne_of_none e nT)]
    exact e
  have hTt : (upd H s1.heap.objs.size (.tup [.int z])) s1.heap.objs.size = some (.tup [.int z]) := upd_same
  generalize upd H s1.heap.objs.size (.tup [.int z]) = H2 at I2 hT2 e2 hTt
  generalize s1.heap.objs.size = t at hTt
  generalize ({ s1 with heap := s1.heap.push { cls := .type "tuple", data := .seq [uv].toArray } } : Shared) = s2 at I2
  obtain ⟨ps, hP, ht, ha⟩ := hT2 _ hm
  have bP : s2.heap.BuiltinsAt X.mg P := TB.bm.keeps I2.bk
  have hP' : s2.heap.get? P = some { cls := .none, data := .fields ps } := I2.hok P _ hP
  have nofr : ∀ f, s2.heap.objs.size ≤ f → f ∉ frs X.stack := fun f hf w => by
    rcases List.mem_cons.mp (I2.stkSub _ w) with e | e
    · have q := I2.lt
      rw [← e] at q
      exact absurd (Nat.lt_of_lt_of_le q hf) (Nat.lt_irrefl f)
    · exact I2.nofs hf e
  cases hc : codeAmong pos ps.toList with
  | none =>
    refine PySem.W.kdv_makeTail (mg := X.mg) (c := c) (P := P) (ps := ps) (dV := .ref t) (closure_ok hfree) I2.ok.glob (I2.mod.glob.keeps I2.bk) hcode (TB.code.keeps I2.bk) hP' ht hc TB.gP bP fun c' ct dc h' tk hx hge hlt hrec htb => ?_
    obtain ⟨c2, oc, vs, tq, e3, hoc, hd, hv⟩ := hrec
    cases e3
    have hsz : s2.heap.objs.size ≤ h'.objs.size := by omega
    have nC : H2 c' = none := I2.hok.fresh hge
    have J := inv_table (t' := tk) (more := #[rawInt pos.line, rawInt pos.col, .ref c']) (h' := h'.push (dOb (X.env.qual ++ "<lambda>") ar body sc (cloFrom X.env.cells sc.names []) t dc ((X.mg "__name__").getD .none) c' ct)) I2 hP
      (fun b o hb e => Heap.get?_push_of_some _ (hx b o hb e)) (Heap.get?_push_of_some _ htb) hge ⟨oc, vs, tq, Heap.get?_push_of_some _ hoc, hd, hv⟩
    have hE : ExtN H2 (upd (upd H2 P (.tbl (ps ++ #[rawInt pos.line, rawInt pos.col, .ref c']))) c' (CodeO c' (X.env.qual ++ "<lambda>"))) := fun b o e n => by
      rw [upd_ne (ne_of_none e nC), upd_ne (fun w => n ps (Option.some.inj (e.symm.trans (by rw [w]; exact hP))))]
      exact e
    have eL : (ps ++ #[rawInt pos.line, rawInt pos.col, .ref c']).toList = ps.toList ++ [rawInt pos.line, rawInt pos.col, .ref c'] := by simp
    refine h h'.objs.size c' t dc ((X.mg "__name__").getD .none) ct _ _ J (e2.trans hE) (fun p hp => ?_) (Heap.get?_push_size _ rfl) ?_ (nofr _ hsz) upd_same (hE _ _ hTt fun ps w => by cases w)
    · by_cases hb : p.1 = P
      · rw [hu p hp hb, hb]
        refine ⟨_, by rw [upd_ne (ne_of_none hP nC), upd_same], by rw [eL]; exact PySem.TriplesOk_snoc _ _ _ _ ht, fun p' cv hcv => ?_⟩
        rw [eL] at hcv
        rcases among_app _ ht hcv with w | w
        · obtain ⟨c0, q1, q2⟩ := ha p' cv w
          exact ⟨c0, q1, hE _ _ q2 codeO_ne⟩
        · exact ⟨c', w, upd_same⟩
      · obtain ⟨ps', a1, a2, a3⟩ := hT2 p hp
        refine ⟨ps', by rw [upd_ne (ne_of_none a1 nC), upd_ne hb]; exact a1, a2, fun p' cv hcv => ?_⟩
        obtain ⟨c0, q1, q2⟩ := a3 p' cv hcv
        exact ⟨c0, q1, hE _ _ q2 codeO_ne⟩
    · have n1 : h'.objs.size ≠ c' := by omega
      have n2 : h'.objs.size ≠ P := by
        exact Nat.ne_of_gt (Nat.lt_of_lt_of_le (Heap.lt_size hP') (by omega))
      rw [upd_ne n1, upd_ne n2]
      exact I2.hok.fresh hsz
  | some cv =>
    obtain ⟨c', e, hco⟩ := ha pos cv hc
    subst e
    refine PySem.W.kdv_makeTailHit (mg := X.mg) (c := c) (P := P) (ps := ps) (dV := .ref t) (closure_ok hfree) I2.ok.glob (I2.mod.glob.keeps I2.bk) hcode (TB.code.keeps I2.bk) hP' ht hc bP fun ct dc h' tk hx hsz => ?_
    have J : Inv X pins σ H2 { s2 with heap := h'.push (dOb (X.env.qual ++ "<lambda>") ar body sc (cloFrom X.env.cells sc.names []) t dc ((X.mg "__name__").getD .none) c' ct), toks := tk } := I2.kept fun b o e => Heap.get?_push_of_some _ (hx b o e)
    exact h h'.objs.size c' t dc ((X.mg "__name__").getD .none) ct H2 _ J e2 hT2 (Heap.get?_push_size _ rfl) (I2.hok.fresh hsz) (nofr _ hsz) hco hTt
theorem lam_startD {HZ : Hp} {s1 : Shared} {A : Around} {outer : List Env} {E : XK} {sc : Scope} {f c' : Addr} {x : Str} {uz : Value} {j : Heap} {tk : Nat} (I : Inv X pins σ H s) (L : LamD X.env.scope sc x) (e0 : Env0 X.prog X.w X.K X.mg X.base A outer s1 HZ) (hd : A.handled = none)
    (un : Un (frs X.stack) [] H HZ s.heap s1.heap) (hns : j.Ns s1.heap.objs.size fun y => ([(x, uz)] : List (Str × Value)).reverse.lookup y) (kp : ∀ b o, s1.heap.get? b = some o → j.get? b = some o) : Inv (lamCxD X A outer s1 HZ E sc f c' x) [] σ HZ { s1 with heap := j, toks := tk } := by
  have hfree := L.has I.ok
  have cm : ∀ {y c}, (cloFrom X.env.cells sc.names []).lookup y = some c → X.env.cells.lookup y = some c := fun {y c} e => by
    rcases cloFrom_mem (PySem.mem_of_lookup e) with q | ⟨q1, q2⟩
    · cases q
    · obtain ⟨c1, hc⟩ := hfree _ q1 rfl
      have hc : X.env.cells.lookup y = some c1 := hc
      rw [hc] at q2
      rw [q2]
      exact hc
  have look : ∀ {y}, sc.names.lookup y = some .free → ∃ c, (cloFrom X.env.cells sc.names []).lookup y = some c := fun {y} q => mem_lookup (cloFrom_has (cells := X.env.cells) (acc := []) (PySem.mem_of_lookup q))
  have cellK : ∀ {c : Addr} {v : Option Value}, H c = none → s.heap.IsCell c v → j.IsCell c v := fun {c v} n ⟨o, ho, hd⟩ => by
    obtain ⟨sl, q⟩ := un.any ho n (by simp)
    exact ⟨_, kp _ _ q, hd⟩
  have noA : ∀ b : Addr, b ∉ (lamCxD X A outer s1 HZ E sc f c' x).ex := fun b w => nomatch (show b ∈ ([] : List Addr) from w)
  refine ⟨⟨e0.mod, L.kind, rfl, rfl, Nat.le_refl _, fun y w c e1 e2 => I.ok.inj y w c (cm e1) (cm e2), fun y hy => ?_, fun y c w _ => ?_, fun _ => hd, Around.frames_deeper e0.frames, .inr ⟨rfl, rfl⟩, fun b w => absurd w (noA b), e0.bs, e0.bsz, fun b _ _ => noA b,
      fun b w => absurd w (noA b), e0.funs, e0.frf⟩, rfl, e0.bare, Un.kept kp, ⟨_, hns, fun i y v e1 e2 e3 => ?_⟩, fun y c e => ?_, e0.hok.fresh (Nat.le_refl _), fun y c e => ?_, fun q hq => (nomatch (show q ∈ ([] : List (Addr × Obj)) from hq)), e0.hok.kept kp, ?_⟩
  · have hy : sc.names.lookup y = some .cell ∨ sc.names.lookup y = some .free := hy
    rcases hy with hy | hy
    · exact absurd rfl (L.own _ (PySem.mem_of_lookup hy)).1
    · exact look hy
  · exact absurd (show false = true from w) (by decide)
  · have e1 : (X.N.map (mask x))[i]? = some y := e1
    rw [List.getElem?_map] at e1
    obtain ⟨y0, ey, em⟩ := Option.map_eq_some_iff.mp e1
    have e3 : Vis sc y := e3
    by_cases hx : y0 = x
    · have ym : y = "" := by
        rw [← em]
        unfold mask
        rw [if_pos hx]
      rcases e3 with k | k | k <;> exact absurd ym (L.non _ (PySem.mem_of_lookup k))
    · have ym : y0 = y := by
        rw [← em]
        unfold mask
        rw [if_neg hx]
      subst ym
      rcases e3 with k | k | k
      · exact absurd ((L.own _ (PySem.mem_of_lookup k)).2 rfl) hx
      · exact absurd rfl (L.own _ (PySem.mem_of_lookup k)).1
      · obtain ⟨m, hn, hl⟩ := I.loc
        have hf := L.free _ (PySem.mem_of_lookup k) rfl
        have hvis : Vis X.env.scope y0 := hf.elim (fun k => .inr (.inl k)) (fun k => .inr (.inr k))
        obtain ⟨u', r, q⟩ := hl i y0 v ey e2 hvis
        obtain ⟨c2, h2⟩ := look k
        refine ⟨u', r, .inr ⟨.inr k, c2, h2, ?_⟩⟩
        have c1 := cm h2
        rcases q with ⟨k', _⟩ | ⟨_, c3, e', w⟩
        · have k' : X.env.scope.names.lookup y0 = some .local := k'
          rcases hf with k2 | k2 <;> rw [show X.env.scope.names.lookup y0 = _ from k2] at k' <;> cases k'
        · rw [c1] at e'
          cases e'
          exact cellK (I.freeC y0 _ c1) w
  · obtain ⟨u', w⟩ := I.cell y c (cm e)
    exact ⟨u', cellK (I.freeC y c (cm e)) w⟩
  · obtain ⟨v, o, ho, hd⟩ := I.cell y c (cm e)
    exact un.free c o ho (I.freeC y c (cm e)) (by simp)
  · show σ.length = (X.N.map (mask x)).length
    rw [List.length_map]
    exact I.len
/-- how a default is bound -/
def BindD (ar : Arguments) (body : Expr) (sc : Scope) (x : Str) : Prop := ∀ (q : Str) (cl : List (Str × Addr)) (T : Addr) (dc pm cv ct : Value), ∃ k, bindArgs (PySem.W.kdv_fn "<lambda>" q ar (.expr body) sc cl (.ref T) dc pm cv ct) ⟨[], []⟩ = seqItems? (.ref T) >>= k ∧ ∀ u, k (some #[u]) = pure [(x, u)]
theorem pe_actD {CXg : CXT} {Eg : XK} {Ng : List Str} {qg : Str} {sg : Scope} {g f c' t : Addr} {cdg dc pm ct : Value} {ar : Arguments} {body : Expr} {sc : Scope} {k i : Nat} {a x : Str} {z : Int} {pn : List (Addr × Obj)} {xe : Value → Shared → Prop} {W : WX} {E : XK} {tb : TE} {p1 p2 : Pos}
    (I : Inv X pins σ H s) (L : LamD X.env.scope sc x) (hf : s.heap.get? f = some (dOb (X.env.qual ++ "<lambda>") ar body sc (cloFrom X.env.cells sc.names []) t dc pm c' ct)) (hfn : H f = none) (hfr : f ∉ frs X.stack) (hbind : BindD ar body sc x)
    (tk : L2N.Takes ((cxOf CXg X.prog X.w X.K X.mg X.base Ng qg sg g cdg X.A X.stack s H Eg).tr pn xe) W) (hW : ∀ cls d σ' H', E cls d H' → W cls d σ' H') (hr : Room (k + 1) (X.A.deeper (envOfC qg sg s.heap.objs.size g cdg)))
    (hbody : ∀ (A : Around) (outer : List Env) (s : Shared) (H : Hp), Room k (A.deeper (lamEnv X sc s.heap.objs.size f c')) → PE (lamCxD X A outer s H E sc f c' x) body tb)
    (hN : Ng[i]? = some a) (hv : Vis sg a) (hd : (a == ("__debug__" : Str)) = false) (hcd : (a == ("__classdict__" : Str)) = false) :
    PE ((cxOf CXg X.prog X.w X.K X.mg X.base Ng qg sg g cdg X.A X.stack s H Eg).tr pn xe) (.Call (.Name a p1) [] [] p2) (fun σZ HZ Q => σZ[i]? = some (some (.ref f)) ∧ HZ c' = some (CodeO c' (X.env.qual ++ "<lambda>")) ∧ HZ t = some (.tup [.int z]) ∧ tb σ HZ Q) := by
  refine ⟨fun pinsZ sZ σZ HZ Q IZ ⟨hs, hc, hz, ht⟩ => ?_⟩
  refine wpAny_Call_Name_kw (thn ((pe_var (pos := p1) (i := i) hN hv hd hcd).run pinsZ sZ σZ HZ (fun v H1 => v = .ref f ∧ H1 = HZ) IZ ⟨.ref f, hs, rfl, rfl⟩) fun u s1 ⟨v, H1, I1, r1, ev, eH⟩ => ?_)
  subst ev
  rw [eH] at I1
  obtain rfl : u = Value.ref f := r1
  have of1 := I1.base.keep f _ hf hfn hfr (fun w => nomatch (show f ∈ ([] : List Addr) from w))
  refine PySem.W.callWith_F0 ⟨_, _, _, _, of1⟩ ?_
  obtain ⟨⟨oc, vs, tq, hoc, hdc, hvc⟩, _, _⟩ := I1.hok c' _ hc
  obtain ⟨_, us, rz, ⟨ot, hot, hcl, n, hdt⟩⟩ := I1.hok t _ hz
  obtain ⟨uz, rfl⟩ : ∃ uz, us = [uz] := by
    cases rz with
    | cons r1 r2 =>
      cases r2
      exact ⟨_, rfl⟩
  obtain ⟨kb, b1, b2⟩ := hbind (X.env.qual ++ "<lambda>") (cloFrom X.env.cells sc.names []) t dc pm (.ref c') ct
  have rc : codeAny (model X.prog X.w) (X.A.deeper (envOfC qg sg s.heap.objs.size g cdg)) (.call (.ref f) ⟨[], []⟩) (CR (L2N.CX X.prog X.w) (envOfC qg sg s.heap.objs.size g cdg :: X.stack) X.prog X.w HZ s1 Q E) s1 := by
    refine PySem.W.kla_callFunE hr.depth of1 rfl L.co L.gen rfl ⟨c', oc, vs, tq, rfl, hoc, hdc, hvc⟩ (BindsTo.of_defaults (T := t) rfl hot hdt b1 (b2 uz) _ _ _ _ ?_)
    refine wpAny_newFunctionEnv (fun y hy => (L.own y hy).1) (fun y hy => ?_) (fun j hns hsb => ⟨I1.nolimit.fresh _ hsb, ?_⟩) L.kind
    · rw [List.mem_singleton.mp hy]
      exact L.par
    show codeAny _ _ (.expr body (lamEnv X sc s1.heap.objs.size f c')) _ _
    have kp : ∀ b o, s1.heap.get? b = some o → j.get? b = some o := fun b o e => hsb.extBut b o (Nat.ne_of_lt (Heap.lt_size e)) (Heap.get?_push_of_some _ e)
    have J : Inv (lamCxD X (X.A.deeper (envOfC qg sg s.heap.objs.size g cdg)) (envOfC qg sg s.heap.objs.size g cdg :: X.stack) s1 HZ E sc f c' x) [] σ HZ { s1 with heap := j, toks := s1.toks + ([(x, uz)] : List (Str × Value)).length } := lam_startD I L I1.env0 hr.hd I1.base hns kp
    refine PySem.W.kla_codeExpr (wpAny_mono ((hbody _ _ s1 HZ (hr.deeper _)).run [] _ _ HZ Q J ht) (fun v s' hq => ?_) fun e s' hq => hq)
    obtain ⟨w', H', J', rv, q⟩ := hq
    exact ⟨w', H', J'.os, J'.bare, J'.base, J'.hok, rv, q⟩
  have hx := L2N.passes_call tk hW
  refine wpAny_call (codeAny_mono rc fun r s' hq => ?_)
  rcases r with e | fl
  · exact hx pinsZ σZ HZ s1 e s' I1 hq
  · cases fl with
    | ret u => exact I1.after hq
    | next => exact False.elim hq
    | brk => exact False.elim hq
    | cont => exact False.elim hq
/-- what the def makes of the lambda may also be told that a fact of the heap holds -/
def Adds (TT : (XK → Hp → VK → Prop) → Hp → VK → Prop) : Prop := ∀ (c : Hp → Prop) (tl : XK → Hp → VK → Prop) (H : Hp) (Q : VK), c H → TT tl H Q → TT (fun E H' Q' => c H' ∧ tl E H' Q') H Q
theorem pe_lamD {T : List (Addr × Str)} {TT : (XK → Hp → VK → Prop) → Hp → VK → Prop} {x a y : Str} {g c P : Addr} {k : Nat} {pg : Arguments} {bg : List Stmt} {sg : Scope} {dV kV doc pm cdv ct oc : Value} {an od : Option Addr} {osl : Array (Option Value)} {Ng : List Str}
    {ar : Arguments} {body : Expr} {sc : Scope} {t : XK → TE} {z : Int} {u0 : Nat} {p p0 lpos pos : Pos} (hg : Gl X x) (hm : X.mg x = some (.ref g)) (hk : PySem.W.keepIn X.K (.ref g) = true) (lk : X.K.lookup g = some ⟨oc, od, .func (PySem.W.fnOf x x pg bg sg dV kV doc pm an cdv ct), osl⟩)
    (hcg : PySem.W.codeIn X.K cdv x = true) (hb : L2.Binds X.K (PySem.W.fnOf x x pg bg sg dV kV doc pm an cdv ct) [a] []) (Sg : FnScope Ng [a] sg) (hNg : Ng[0]? = some a) (hva : Vis sg a) (hG : GivesN X k Ng x sg g cdv bg a (X.env.qual ++ "<lambda>") TT) (hA : Adds TT)
    (TB : TabB X.base X.mg c P) (hcode : X.env.code = .ref c) (hmT : (P, X.env.qual ++ "<lambda>") ∈ T) (hu : ∀ p ∈ T, p.1 = P → p.2 = X.env.qual ++ "<lambda>") (hr : Room (k + 2) X.A) (L : LamD X.env.scope sc y) (hd1 : ar.defaults = [.Constant (.int z) u0 p0]) (hd2 : ar.kw_defaults = []) (hbind : BindD ar body sc y)
    (hbody : ∀ (A : Around) (outer : List Env) (s : Shared) (H : Hp) (E : XK) (f c' : Addr), Room k (A.deeper (lamEnv X sc s.heap.objs.size f c')) → PE (lamCxD X A outer s H E sc f c' y) body (t E))
    (hdb : (x == ("__debug__" : Str)) = false := by decide) (hd : (a == ("__debug__" : Str)) = false := by decide) (hcd : (a == ("__classdict__" : Str)) = false := by decide) : PE X (.Call (.Name x p) [.Lambda ar body sc lpos] [] pos) (tLam T TT t) := by
  refine ⟨fun pins s σ H Q I ⟨hT, h⟩ => wpAny_Call_Name_kw (ld_glob I hg hm ?_ hdb)⟩
  refine PySem.W.callWith_K (h₀ := X.base) I.ok.mod.kin hk ?_ (by rfl) (by rfl)
  show wpAny _ _ (spliced ((false, eval (.Lambda ar body sc lpos) X.env) :: backTo pos (starEach [] X.env))) _ _ s
  refine Calls.spliced_cons (lam_makeD I TB hcode hmT hu hT hd1 hd2 (L.has I.ok) fun f c' tt dc pm' ctv H1 s' I1 eN T1 hf hfn hfr hco htt => Calls.spliced_nil ⟨I1.kIn, ?_⟩)
  have rc : codeAny (model X.prog X.w) X.A (.call (.ref g) ⟨[.ref f], []⟩) (CR CX0 X.stack X.prog X.w H1 s' Q E0) s' := by
    refine run_ofS (N := Ng) (ps := [a]) (us := [.ref f]) (vs := [.ref f]) lk hcg Sg hr I1.env0 (hb s' [.ref f] I1.kIn rfl) (.cons rfl .nil) rfl fun hr' => ?_
    obtain ⟨t', ht', hq'⟩ := hG f c' s' H1 Q (fun E H' Q' => H' tt = some (.tup [.int z]) ∧ t E σ H' Q') hr' (fun W pn xe E p1 p2 tk hW => pe_actD (i := 0) I1 L hf hfn hfr hbind tk hW hr' (fun A outer s H hr2 => hbody A outer s H E f c' hr2) hNg hva hd hcd) hco (hA _ _ _ _ htt (h H1 eN T1))
    exact ⟨t', ht'.nox, hq'⟩
  refine wpAny_call (codeAny_mono rc fun r s2 hq => ?_)
  rcases r with e | fl
  · exact (show False from hq).elim
  · cases fl with
    | ret u => exact I1.after hq
    | next => exact False.elim hq
    | brk => exact False.elim hq
    | cont => exact False.elim hq
end
end Onp
set_option maxHeartbeats 8000000
set_option autoImplicit false
/-! what laws with refusals want of the heap -/
namespace Onp
open PySem PySem.Spec PyProof.Rows L2 HotX L2H LamX
theorem tabs_keep {T : List (Addr × Str)} {H H' : Hp} {g : Bid} (t : Tabs T H) (B : Bg H g) (k : Keep g.b H H') : Tabs T H' := fun p hp => by
  obtain ⟨ps, h1, h2, h3⟩ := t p hp
  obtain ⟨i, r, sd, c, hb, _⟩ := B
  refine ⟨ps, k _ _ (ne_of h1 hb (fun z => by cases z)) h1, h2, fun pos cv hc => ?_⟩
  obtain ⟨c0, e1, e2⟩ := h3 pos cv hc
  refine ⟨c0, e1, k _ _ (ne_of e2 hb (fun z => ?_)) e2⟩
  unfold CodeO bagV at z
  cases z
theorem bg_ext {H H' : Hp} {g : Bid} (B : Bg H g) (e : ExtN H H') : Bg H' g := by
  obtain ⟨i, r, sd, c, h1, h2, h3⟩ := B
  exact ⟨i, r, sd, c, e _ _ h1 (fun ps z => by cases z), e _ _ h2 (fun ps z => by cases z), h3⟩
theorem tabs_put {T : List (Addr × Str)} {H : Hp} {a : Addr} {xs ys : List V} (t : Tabs T H) (h : H a = some (.lst xs)) : Tabs T (upd H a (.lst ys)) := fun p hp => by
  obtain ⟨ps, h1, h2, h3⟩ := t p hp
  refine ⟨ps, by rw [upd_ne (ne_of h1 h (fun z => by cases z))]; exact h1, h2, fun pos cv hc => ?_⟩
  obtain ⟨c0, e1, e2⟩ := h3 pos cv hc
  refine ⟨c0, e1, ?_⟩
  rw [upd_ne (ne_of e2 h (fun z => ?_))]
  · exact e2
  · unfold CodeO at z
    cases z
theorem Bg.neSt {g : Bid} {H : Hp} {a : Addr} {xs : List ST} (B : Bg H g) (h : H a = some (.lst (xs.map fun x => V.ref x.1))) : a ≠ g.b := fun e => by
  subst e
  obtain ⟨i, r, z, c, h1, h2, h3⟩ := B
  rw [h1] at h
  unfold bagV at h
  have h' : [V.ref g.l, V.int i, V.int r, V.int z, V.int c] = xs.map fun x => V.ref x.1 := HO.lst.inj (Option.some.inj h)
  have : V.int i ∈ xs.map fun x => V.ref x.1 := by rw [← h']; simp
  obtain ⟨p, _, e⟩ := List.mem_map.mp this
  cases e
theorem MachAt.keep {K : PySem.W.Frag} {C : Addr} {H H' : Hp} {m : Addr} {M : AM} {g : Bid} (h : MachAt K C H m M) (B : Bg H g) (k : Keep g.b H H') : MachAt K C H' m M := by
  obtain ⟨dx, ta, tf, tg, D, ps, h1, h2, h3, h4, h5, h6, kvs, h7, h8, h9⟩ := h
  have B' := B
  obtain ⟨i, r, z, c, hb, _⟩ := B'
  refine ⟨dx, ta, tf, tg, D, ps, k _ _ (fun e => by rw [e, hb] at h1; cases h1) h1, k _ _ (B.neTup h2) h2, B.keepRow k h3, h4, k _ _ (B.neTup h5) h5, k _ _ (B.neTup h6) h6, kvs, k _ _ (fun e => by rw [e, hb] at h7; cases h7) h7, h8, fun r l h => ?_⟩
  obtain ⟨a, xs, ea, x1, x2, x3⟩ := h9 r l h
  exact ⟨a, xs, ea, k _ _ (B.neSt x1) x1, fun x hx => k _ _ (B.neTup (x2 x hx)) (x2 x hx), x3⟩
theorem sqT_extN {K : PySem.W.Frag} {H H' : Hp} {a : Addr} {xs : List V} (e : ExtN H H') (h : SqT K H a xs) : SqT K H' a xs := by
  rcases h with (h | ⟨o, h⟩) | h
  · exact .inl (.inl (e _ _ h (fun ps z => by cases z)))
  · exact .inl (.inr ⟨o, e _ _ h (fun ps z => by cases z)⟩)
  · exact .inr h
theorem MachAt.extN {K : PySem.W.Frag} {C : Addr} {H H' : Hp} {m : Addr} {M : AM} (h : MachAt K C H m M) (e : ExtN H H') : MachAt K C H' m M := by
  obtain ⟨dx, ta, tf, tg, D, ps, h1, h2, h3, h4, h5, h6, kvs, h7, h8, h9⟩ := h
  refine ⟨dx, ta, tf, tg, D, ps, e _ _ h1 (fun ps z => by cases z), e _ _ h2 (fun ps z => by cases z), fun p hp => sqT_extN e (h3 p hp), h4, e _ _ h5 (fun ps z => by cases z), e _ _ h6 (fun ps z => by cases z), kvs, e _ _ h7 (fun ps z => by cases z), h8, fun r l h => ?_⟩
  obtain ⟨a, xs, ea, x1, x2, x3⟩ := h9 r l h
  exact ⟨a, xs, ea, e _ _ x1 (fun ps z => by cases z), fun x hx => e _ _ (x2 x hx) (fun ps z => by cases z), x3⟩
/-- a refusal that is a word alone, as it is told -/
theorem eh_w {ec : Str → Addr} {us : List Str} {Q : VK} {H : Hp} {nm wd : Str} (hu : nm ∈ us) (hw : wordOf nm = wd) (ht : nm ≠ "TooWide") (h : ∀ H' p, Same H H' → H' p = some (.tup [.str wd, .non]) → Q (.ref p) H') : badW (ec nm) wd H (Eh ec us Q) := fun dd ndd => by
  refine ⟨nm, dd, _, hu, rfl, rfl, upd_same, by rw [hw]; rfl, fun z => absurd z ht, fun H2 p s2 np => ?_⟩
  refine h _ p (((same_upd ndd).trans s2).trans (same_upd np)) ?_
  rw [hw, upd_same]
  unfold secV
  rw [if_neg ht]
theorem same_extN {H H' : Hp} (s : Same H H') : ExtN H H' := ExtN.of s
/-- a list that was not there, put anew -/
theorem extN_put {H0 H : Hp} {a : Addr} {o : HO} (e : ExtN H0 H) (n : ∀ b o, H0 b = some o → (∀ ps, o ≠ .tbl ps) → b ≠ a) : ExtN H0 (upd H a o) := fun b o' h t => by
  rw [upd_ne (n b o' h t)]
  exact e b o' h t
theorem DrawnAt.extN {K : PySem.W.Frag} {H H' : Hp} {t : Addr} {M : AM} (h : DrawnAt K H t M) (e : ExtN H H') : DrawnAt K H' t M := by
  obtain ⟨la, lf, lg, ps, h1, h2, h3, h4, h5, h6⟩ := h
  exact ⟨la, lf, lg, ps, e _ _ h1 (fun ps z => by cases z), e _ _ h2 (fun ps z => by cases z), fun p hp => sqT_extN e (h3 p hp), h4, e _ _ h5 (fun ps z => by cases z), e _ _ h6 (fun ps z => by cases z)⟩
theorem told_adds {ec : Str → Addr} {us : List Str} : Adds (TTold ec us) := fun c tl H Q hc h => ⟨hc, h⟩
end Onp
set_option maxHeartbeats 4000000
set_option autoImplicit false
namespace PySem.W
open PySem PySem.Calls PyProof.Rows Builtin
section
variable {prog : Program} {w : World} {A : Around} {E : Value → Shared → Prop} {s : Shared} {K : Frag} {x C L f : Addr} {h₀ : Heap} {m : Str → Option Value} {ox : Obj} {od : Option Obj} {b tb : Value} {name : Str}
/-- a dunder that is the built-in one, asked for by name -/
theorem ifBound_B {M : Model} {id : String} {args : List Value} {Q : Option Value → Shared → Prop} (X : K.In s.heap) (I : InstAt s.heap x ox C od) (hs : findIn K (.ref C) name = some (some (.builtin id))) (hb : ∀ self, bindSpecial (.builtin id) self = pure (.builtin id, [self]))
    (h : wpAny M A (call (.builtin id) (.ref x :: args)) (fun v => Q (some v)) E s) : wpAny M A (callSpecialIfBound? (.ref x) name args) Q E s := by
  simp only [callSpecialIfBound?, bindSpecialIfBound?]
  refine wpAny_holding (wpAny_bind (wpAny_bind (wpAny_bind (I.type.here ((looks_findIn X hs).here ?_)))))
  refine wpAny_bind (wpAny_askSetting (wpAny_ite ?_))
  have fin : wpAny M A (call (.builtin id) ([.ref x] ++ args) >>= fun v => pure (some v)) Q E s := wpAny_bind (wpAny_mono h (fun v s' h' => wpAny_pure h') fun _ _ h' => h')
  split
  · exact wpAny_bind ((Looks.of_pure (hb _)).here (wpAny_pure (by exact fin)))
  · exact wpAny_tryCatch (wpAny_bind ((Looks.of_pure (hb _)).here (wpAny_pure (by exact fin))))
/-- object.__ne__ asks the own __eq__ -/
theorem one_call {Q : Value → Shared → Prop} (X : K.In s.heap) (I : InstAt s.heap x ox C od) (hm : mroIn K C (.type "object") = some true) (hu : A.in1.units < cLine) (hs : findIn K (.ref C) "__eq__" = some (some (.ref f))) (hf : isFn K (.ref f) = true)
    (h : wpAny (model prog w) A.in1 (call (.ref f) [.ref x, b]) (BoolBack fun r s' => Q (.bool (!r)) s') E s) : wpAny (model prog w) A (call (.builtin "object.__ne__") [.ref x, b]) Q E s := by
  refine wpAny_call (codeAny_call_builtin PySem.F.slot_object_ne.plain PySem.F.entry_object_ne (check_slot (i := "object.__ne__") (owner := "object") (n := "__ne__") (by decide +kernel) (by decide +kernel) (I.type.andThen (looks_mroIn X hm)) (PySem.F.args_object_ne_2 _ _) ?_))
  unfold Builtin.«object.__ne__»
  refine wpAny_bind (m := slotArgs "__ne__" 1 _) (wpAny_pure ?_)
  refine wpAny_bind (m := cRoomFor _ _) (wpAny_cRoomFor hu ?_)
  refine wpAny_bind (m := callSpecialIfBound? (.ref x) (Str.ofString "__eq__") _) (ifBound_K X I hs hf (wpAny_mono h (fun r s' hq => ?_) fun _ _ y => y))
  cases r <;> first | exact hq.elim | skip
  exact wpAny_bind (wpAny_pure (wpAny_pure hq))
theorem ne_K {Q : Value → Shared → Prop} (hu0 : A.units < cLine) (hu : A.in1.units < cLine) (X : K.In s.heap) (I : InstAt s.heap x ox C od) (hb : Looks (model prog w) s.heap (typeOf b) tb) (hn : notFirst K C tb = true) (hm : mroIn K C (.type "object") = some true)
    (hs : findIn K (.ref C) "__ne__" = some (some (.builtin "object.__ne__"))) (he : findIn K (.ref C) "__eq__" = some (some (.ref f))) (hf : isFn K (.ref f) = true)
    (h : wpAny (model prog w) A.in1 (call (.ref f) [.ref x, b]) (BoolBack fun r s' => Q (.bool (!r)) s') E s) : wpAny (model prog w) A (richCompare .NotEq (.ref x) b) Q E s := by
  have one : wpAny (model prog w) A (tryCompare (.ref x) (cmpInfo .NotEq).2.1 b) (fun r s' => ∃ v, r = some v ∧ Q v s') E s := by
    unfold tryCompare
    refine wpAny_bind (ifBound_B X I hs PySem.F.slot_object_ne.bind (one_call X I hm hu he hf (wpAny_mono h (fun v s' hv => ?_) fun _ _ e => e)))
    cases v <;> first | exact hv.elim | exact wpAny_pure ⟨_, rfl, hv⟩
  unfold richCompare
  simp only [oneThing_ref]
  refine wpAny_holding (wpAny_bind (wpAny_cRoomFor hu0 ?_))
  refine wpAny_bind (I.type.here (wpAny_bind (hb.here ?_)))
  split
  · rename_i q
    have e : subIn K tb (.ref C) = some false := by
      rcases Bool.or_eq_true_iff.mp hn with e | e
      · rw [beq_iff_eq.mp e] at q; simp at q
      · exact beq_iff_eq.mp e
    refine wpAny_bind ((looks_subIn X e).here ?_)
    simp only [Bool.false_eq_true, if_false]
    refine wpAny_bind (wpAny_mono one (fun r s' z => ?_) fun _ _ e => e)
    obtain ⟨v, rfl, hq⟩ := z
    exact wpAny_pure hq
  · refine wpAny_bind (wpAny_pure ?_)
    simp only [Bool.false_eq_true, if_false]
    refine wpAny_bind (wpAny_mono one (fun r s' z => ?_) fun _ _ e => e)
    obtain ⟨v, rfl, hq⟩ := z
    exact wpAny_pure hq
end
end PySem.W
namespace L2
open PySem PySem.Spec PyProof.Rows
section
variable {X : Cx} {CX : CXT} {n : Nat} {C f : Addr} {fd : FuncData} {ps : List Str} {sp : Sp} {E : XK}
/-- an own function called anywhere below the running body -/
theorem run_at {A : Around} {pins : List (Addr × Obj)} {σ : St} {H : Hp} {s : Shared} {Q : VK} {us : List Value} {vs : List V} (F : FnOk X.prog X.w X.K X.mg X.base CX n f fd ps sp) (hb : Binds X.K fd ps []) (hx : Passes CX X E) (sb : Sub X n A)
    (I : Inv X pins σ H s) (r : Vals vs us) (h : sp vs H Q E) : wpAny (model X.prog X.w) A (call (.ref f) us) (EP X pins σ Q) X.xe s := by
  have e0 : Env0 X.prog X.w X.K X.mg X.base A X.stack s H := by
    have e := I.env0
    exact ⟨by rw [sb.fr]; exact e.frames, e.mod, e.bs, e.bsz, e.funs, e.frf, e.hok, e.bare⟩
  have hl : us.length = ps.length := by rw [← r.length]; exact F.len _ _ _ _ h
  refine wpAny_call (codeAny_mono (F.run A X.stack s H ⟨us, []⟩ us vs _ E sb.room e0 (by
    have := hb s us I.kIn (by simpa using hl)
    simpa using this) r h) fun r s' hq => ?_)
  cases r with
  | error e => exact hx pins σ H s e s' I hq
  | ok fl =>
    cases fl with
    | ret w => exact I.after hq
    | next => exact False.elim hq
    | brk => exact False.elim hq
    | cont => exact False.elim hq
/-- what == and != of an own class with an own __eq__ ask -/
structure OwnE (K : PySem.W.Frag) (C f : Addr) : Prop where
  eq : PySem.W.findIn K (.ref C) "__eq__" = some (some (.ref f))
  fn : PySem.W.isFn K (.ref f) = true
  ne : PySem.W.findIn K (.ref C) "__ne__" = some (some (.builtin "object.__ne__"))
  ob : PySem.W.mroIn K C (.type "object") = some true
/-- instance == y -/
def rOwn (K : PySem.W.Frag) (C : Addr) (sp : Sp) (E : XK) (neg : Bool) : R2 := fun x y H Q => ∃ a dx fs t, x = .ref a ∧ H a = some (.ins C dx fs) ∧ TyX K H y t ∧ PySem.W.notFirst K C t = true ∧ sp [x, y] H (fun v H' => ∃ b, v = .bl b ∧ Q (.bl (neg != b)) H') E
theorem rc_own {A : Around} {pins : List (Addr × Obj)} {σ : St} {H : Hp} {s : Shared} {x y : V} {u v : Value} {Q : VK} (F : FnOk X.prog X.w X.K X.mg X.base CX n f fd ps sp) (hb : Binds X.K fd ps []) (hx : Passes CX X E) (O : OwnE X.K C f) (sb : Sub X n A)
    (I : Inv X pins σ H s) (rx : RelV x u) (ry : RelV y v) (h : rOwn X.K C sp E false x y H Q) : wpAny (model X.prog X.w) A (richCompare .Eq u v) (EP X pins σ Q) X.xe s := by
  obtain ⟨a, dx, fs, t, rfl, ha, ty, hn, q⟩ := h
  cases rx
  obtain ⟨mA, J, _⟩ := ins_get I.hok ha
  obtain ⟨od, J, _⟩ := J.look
  obtain ⟨m, hF⟩ := I.fr
  obtain ⟨P, Z, p, _⟩ := kit_of I ry ty
  refine PySem.W.cmp_K (op := .Eq) (tb := t) sb.room.units0 hF I.ok.mod.kin J (Z.ty _ _ I.kIn p) hn O.eq O.fn ?_
  refine wpAny_mono (run_at F hb hx sb I (show Vals [V.ref a, y] [Value.ref a, v] from .cons rfl (.cons ry .nil)) q) (fun r s' z => ?_) fun _ _ z => z
  obtain ⟨v', H', I', rv, b, rfl, q'⟩ := z
  cases rv
  exact ⟨.bl b, H', I', rfl, by simpa using q'⟩
theorem op_eqOwn (F : FnOk X.prog X.w X.K X.mg X.base CX n f fd ps sp) (hb : Binds X.K fd ps []) (hx : Passes CX X E) (O : OwnE X.K C f) (hr : Room n X.A) : OpR X (compareOp .Eq) (rOwn X.K C sp E false) := fun pins s σ H x y v u Q I rx ry h =>
  show wpAny (model X.prog X.w) X.A (richCompare .Eq v u) (EP X pins σ Q) X.xe s from rc_own F hb hx O ⟨hr, rfl⟩ I rx ry h
theorem op_neOwn (F : FnOk X.prog X.w X.K X.mg X.base CX n f fd ps sp) (hb : Binds X.K fd ps []) (hx : Passes CX X E) (O : OwnE X.K C f) (hr : Room (n + 1) X.A) : OpR X (compareOp .NotEq) (rOwn X.K C sp E true) := by
  intro pins s σ H x y u v Q I rx ry h
  show wpAny (model X.prog X.w) X.A (richCompare .NotEq u v) (EP X pins σ Q) X.xe s
  obtain ⟨a, dx, fs, t, rfl, ha, ty, hn, q⟩ := h
  cases rx
  obtain ⟨mA, J, _⟩ := ins_get I.hok ha
  obtain ⟨od, J, _⟩ := J.look
  obtain ⟨P, Z, p, _⟩ := kit_of I ry ty
  refine PySem.W.ne_K (tb := t) hr.units0 hr.in1.units0 I.kIn J (Z.ty _ _ I.kIn p) hn O.ob O.ne O.eq O.fn ?_
  refine wpAny_mono (run_at F hb hx (Sub.in1 ⟨hr, rfl⟩) I (show Vals [V.ref a, y] [Value.ref a, v] from .cons rfl (.cons ry .nil)) q) (fun r s' z => ?_) fun _ _ z => z
  obtain ⟨v', H', I', rv, b, rfl, q'⟩ := z
  cases rv
  exact ⟨.bl (!b), H', I', rfl, by simpa using q'⟩
/-- len(instance), repr(instance) -/
def rLenOwn (C : Addr) (sp : Sp) (E : XK) : List V → Hp → VK → Prop := fun xs H Q => ∃ a dx fs, xs = [.ref a] ∧ H a = some (.ins C dx fs) ∧ sp xs H (fun v H' => ∃ i : Int, v = .int i ∧ 0 ≤ i ∧ i < 2 ^ 63 ∧ Q (.int i) H') E
theorem call_lenOwn (F : FnOk X.prog X.w X.K X.mg X.base CX n f fd ps sp) (hb : Binds X.K fd ps []) (hx : Passes CX X E) (hs : PySem.W.findIn X.K (.ref C) "__len__" = some (some (.ref f))) (hf : PySem.W.isFn X.K (.ref f) = true) (hr : Room (n + 1) X.A) : CallR X (.builtin "len") (rLenOwn C sp E) := by
  intro pins s σ H xs us Q I r h
  obtain ⟨a, dx, fs, rfl, ha, q⟩ := h
  cases r with
  | cons r1 r2 =>
    cases r1
    cases r2
    obtain ⟨mA, J, _⟩ := ins_get I.hok ha
    obtain ⟨od, J, _⟩ := J.look
    obtain ⟨m, hF⟩ := I.fr
    refine PySem.W.len_K hF I.ok.mod.kin J hs hf ?_
    refine wpAny_mono (run_at F hb hx (Sub.in1 ⟨hr, rfl⟩) I (show Vals [V.ref a] [Value.ref a] from .cons rfl .nil) q) (fun r s' z => ?_) fun _ _ z => z
    obtain ⟨v', H', I', rv, i, rfl, h0, h1, q'⟩ := z
    obtain ⟨tk, rfl⟩ := rv
    exact ⟨⟨h0, h1⟩, .int i, H', I'.tok _, ⟨_, rfl⟩, q'⟩
def rRepOwn (C : Addr) (sp : Sp) (E : XK) : List V → Hp → VK → Prop := fun xs H Q => ∃ a dx fs, xs = [.ref a] ∧ H a = some (.ins C dx fs) ∧ sp xs H (fun v H' => ∃ z : Str, v = .str z ∧ Q (.str z) H') E
theorem call_repOwn (F : FnOk X.prog X.w X.K X.mg X.base CX n f fd ps sp) (hb : Binds X.K fd ps []) (hx : Passes CX X E) (hs : PySem.W.findIn X.K (.ref C) "__repr__" = some (some (.ref f))) (hf : PySem.W.isFn X.K (.ref f) = true) (hr : Room (n + 1) X.A) : CallR X (.builtin "repr") (rRepOwn C sp E) := by
  intro pins s σ H xs us Q I r h
  obtain ⟨a, dx, fs, rfl, ha, q⟩ := h
  cases r with
  | cons r1 r2 =>
    cases r1
    cases r2
    obtain ⟨mA, J, _⟩ := ins_get I.hok ha
    obtain ⟨od, J, _⟩ := J.look
    obtain ⟨m, hF⟩ := I.fr
    refine PySem.W.repr_K hr.in1.units0 hF I.ok.mod.kin J hs hf ?_
    refine wpAny_mono (run_at F hb hx (Sub.in1 ⟨hr, rfl⟩) I (show Vals [V.ref a] [Value.ref a] from .cons rfl .nil) q) (fun r s' z => ?_) fun _ _ z => z
    obtain ⟨v', H', I', rv, y, rfl, q'⟩ := z
    obtain ⟨tk, rfl⟩ := rv
    exact ⟨.str y, H', I', ⟨_, rfl⟩, q'⟩
end
end L2
set_option maxHeartbeats 4000000
set_option autoImplicit false
namespace PySem.W
open PySem PySem.Calls PyProof.Rows Builtin
section
variable {prog : Program} {w : World} {A : Around} {E : Value → Shared → Prop} {s : Shared} {K : Frag} {x C L f : Addr} {h₀ : Heap} {m : Str → Option Value} {ox : Obj} {od : Option Obj} {b tb : Value} {name : Str}
theorem len_bodyO {Q : Value → Shared → Prop} (X : K.In s.heap) (I : InstAt s.heap x ox C od) (hs : findIn K (.ref C) "__len__" = some (some (.ref f))) (hf : isFn K (.ref f) = true)
    (h : wpAny (model prog w) A (call (.ref f) [.ref x]) (LenBack Q) E s) : wpAny (model prog w) A (Builtin.«len» ⟨[.ref x], []⟩) (fun fin s' => ∃ r, fin = .done (.ret r) ∧ Q r s') E s := by
  unfold Builtin.«len»
  refine wpAny_bind (m := oneArg "len" _) (wpAny_pure ?_)
  refine wpAny_bind (m := callSpecial? (.ref x) (Str.ofString "__len__")) (special_fn X I hs (beq_iff_eq.mp hf) (wpAny_mono h (fun r s' hr => ?_) fun _ _ y => y))
  cases r <;> first | exact hr.elim | skip
  rename_i n u
  obtain ⟨⟨h0, h1⟩, hq⟩ := hr
  refine wpAny_bind (wpAny_holding (wpAny_pure ?_))
  refine wpAny_bind (wpAny_letGo ?_)
  show wpAny _ _ (if n < 0 then _ else _) _ _ _
  rw [if_neg (by omega)]
  show wpAny _ _ (if n ≥ 2 ^ 63 then _ else _) _ _ _
  rw [if_neg (by omega)]
  exact wpAny_bind (wpAny_mkInt (wpAny_pure ⟨_, rfl, hq⟩))
/-- truth by an own __len__ -/
theorem truthy_L {Q : Bool → Shared → Prop} (X : K.In s.heap) (I : InstAt s.heap x ox C od) (hb : findIn K (.ref C) "__bool__" = some none) (hs : findIn K (.ref C) "__len__" = some (some (.ref f))) (hf : isFn K (.ref f) = true)
    (h : wpAny (model prog w) A.in1 (call (.ref f) [.ref x]) (LenBack fun v s' => ∃ (n : Int) (t : Tok), v = .int n t ∧ Q (n != 0) s') E s) : wpAny (model prog w) A (truthy (.ref x)) Q E s := by
  have key : wpAny (model prog w) A (runValue (.builtin "len" ⟨[.ref x], []⟩)) (fun r s' => ∃ (n : Int) (t : Tok), r = .int n t ∧ Q (n != 0) s') E s := by
    refine wpAny_runValue (codeAny_builtin entry_len ?_)
    rw [Around.under_plainId plain_len _]
    exact wpAny_mono (len_bodyO X I hs hf h) (fun fin s' h' => by obtain ⟨r, rfl, hq⟩ := h'; exact hq) fun _ _ e => e
  have hsp : ∀ {Q' : Option Value → Shared → Prop}, Q' (some (.ref f)) s → wpAny (model prog w) A (specialOf (.ref x) "__len__") Q' E s := fun q => by
    unfold specialOf
    exact wpAny_bind (I.type.here ((looks_findIn X hs).here q))
  unfold truthy
  first
    | refine wpAny_bind (DSub.special_no (name := Str.ofString "__bool__") X I hb ?_)
    | refine wpAny_bind (wpAny_pure (wpAny_bind (DSub.special_no (name := Str.ofString "__bool__") X I hb ?_)))
  first
    | refine wpAny_bind (hsp ?_)
    | refine wpAny_bind (wpAny_pure (wpAny_bind (hsp ?_)))
  first
    | exact wpAny_bind (wpAny_mono key (fun r s' h' => by obtain ⟨n, t, rfl, hq⟩ := h'; exact wpAny_pure hq) fun _ _ e => e)
    | exact wpAny_bind (wpAny_pure (wpAny_bind (wpAny_mono key (fun r s' h' => by obtain ⟨n, t, rfl, hq⟩ := h'; exact wpAny_pure hq) fun _ _ e => e)))
theorem meets_boolO (v : Value) : MeetsIn prog w (Builtin.«bool.__new__» ⟨[.type "bool", v], []⟩) (fun A R s => wpAny (model prog w) A.in1 (truthy v) (fun b s' => R (.ok (.ret (.bool b))) s') (fun e s' => R (.error e) s') s) := fun A R s hs => by
  obtain ⟨hp, g, d, tk, os⟩ := s
  have f1 := F.conv_sub_bool
  unfold Builtin.«bool.__new__»
  repeat (any_goals (first | assumption | (with_reducible refine wpAny_bind (m := truthy v) (wpAny_mono hs (fun r s' h' => ?_) fun _ _ e => e)) | wp_step))
  all_goals first | exact ⟨_, rfl, ‹_›⟩ | exact ‹_› | skip
theorem call_boolO {v : Value} {Q : Value → Shared → Prop} (h : wpAny (model prog w) A.in1.in1 (truthy v) (fun b s' => Q (.bool b) s') E s) : wpAny (model prog w) A (call (.type "bool") [v]) Q E s :=
  callType_newIn F.called_bool F.newNe_bool (F.typeCall_bool_1 v) (F.newCall_bool_1 v) (fun obj => F.args_object_init_2 obj v) F.entry_bool_new (meets_boolO v) (wpAny_mono h (fun b s' q => ⟨rfl, q⟩) fun _ _ e => e)
end
end PySem.W
namespace GQ
open PySem PySem.SeqAt
open AutoSeq1 (wpAny_loadPart')
open MeetsSeq MeetsSeq2 MeetsSeq3 SeqRoads2
section
variable {prog : Program} {w : World} {A : Around} {R : Result → Shared → Prop} {s : Shared}
def lstO (its : Array Value) (n : Nat) : Obj := { cls := .type "list", data := .seq its n }
/-- x in [y] -/
theorem contains1_end (l : Addr) (its : Array Value) (x : Value) (n : Nat) (h1 : its[1]? = none) (hl : s.heap.get? l = some (lstO its n)) (h : R (.ok (.ret (.bool false))) s) :
    wpAny (model prog w) A.in1 (Builtin.«list.__contains__.loop» ⟨[.ref l, x, rawInt 1], []⟩) (FinOf prog w A R) (fun e s' => R (.error e) s') s := by
  unfold lstO at hl
  obtain ⟨hp, g, d, tk, os⟩ := s
  wp_walk using wpAny_loadPart' hl
  have h1' : its[((1 : Nat) : Int).toNat]? = none := h1
  rw [show Int.toNat 1 = 1 from rfl, h1]
  wp_walk
  exact h
theorem contains1 (l : Addr) (its : Array Value) (y x : Value) (n : Nat) (h0 : its[0]? = some y) (h1 : its[1]? = none) (hl : s.heap.get? l = some (lstO its n))
    (h : wpAny (model prog w) A.in1 (eqBool y x) (fun r s' => (r = true → R (.ok (.ret (.bool true))) s') ∧ (r = false → (∃ its' n', its'[1]? = none ∧ s'.heap.get? l = some (lstO its' n')) ∧ R (.ok (.ret (.bool false))) s')) (fun e s' => R (.error e) s') s) :
    wpAny (model prog w) A.in1 (Builtin.«list.__contains__» ⟨[.ref l, x], []⟩) (FinOf prog w A R) (fun e s' => R (.error e) s') s := by
  have loop : wpAny (model prog w) A.in1 (Builtin.«list.__contains__.loop» ⟨[.ref l, x, rawInt 0], []⟩) (FinOf prog w A R) (fun e s' => R (.error e) s') s := by
    unfold lstO at hl
    obtain ⟨hp, g, d, tk, os⟩ := s
    wp_walk using wpAny_loadPart' hl
    rw [show Int.toNat 0 = 0 from rfl, h0]
    refine wpAny_bind (wpAny_mono h (fun r s2 h2 => ?_) fun _ _ x => x)
    cases r with
    | true =>
      have h3 := h2.1 rfl
      obtain ⟨hp2, g2, d2, tk2, os2⟩ := s2
      wp_walk
      exact h3
    | false =>
      obtain ⟨⟨its', n', h1', hl'⟩, h3⟩ := h2.2 rfl
      have he := contains1_end (prog := prog) (w := w) (A := A) (R := R) l its' x n' h1' hl' h3
      obtain ⟨hp2, g2, d2, tk2, os2⟩ := s2
      wp_walk
      exact ⟨plainId_quiet plain_contains_loop _, codeAny_builtin entry_contains_loop (by
        rw [Around.under_plainId plain_contains_loop _]
        exact he)⟩
  obtain ⟨hp, g, d, tk, os⟩ := s
  wp_walk
  exact ⟨plainId_quiet plain_contains_loop _, codeAny_builtin entry_contains_loop (by
    rw [Around.under_plainId plain_contains_loop _]
    exact loop)⟩
end
section
variable {prog : Program} {w : World} {A : Around} {E : Value → Shared → Prop} {s : Shared}
theorem in_list1 {l : Addr} {its : Array Value} {y x : Value} {n : Nat} {Q : Value → Shared → Prop} (h0 : its[0]? = some y) (h1 : its[1]? = none) (hl : s.heap.get? l = some (lstO its n))
    (h : wpAny (model prog w) A.in1 (eqBool y x) (fun r s' => (r = true → Q (.bool true) s') ∧ (r = false → (∃ its' n', its'[1]? = none ∧ s'.heap.get? l = some (lstO its' n')) ∧ Q (.bool false) s')) E s) :
    wpAny (model prog w) A (compareOp .In x (.ref l)) Q E s := by
  show wpAny _ A (do return .bool (← contains (.ref l) x)) Q E s
  have hT : s.TypeIs (.ref l) "list" := ⟨_, hl, rfl⟩
  refine wpAny_bind (wpAny_contains_slot hT F.slot_list_contains (wpAny_mono (call_here (Q := fun v s' => ∃ b, v = .bool b ∧ Q (.bool b) s') F.slot_list_contains hT F.entry_list_contains (F.args_list_contains_2 _ _) (contains1 (R := wants (fun v s' => ∃ b, v = .bool b ∧ Q (.bool b) s') E) l its y x n h0 h1 hl (wpAny_mono h (fun r s' q => ⟨fun e => ⟨_, rfl, q.1 e⟩, fun e => ⟨(q.2 e).1, _, rfl, (q.2 e).2⟩⟩) fun _ _ e => e))) (fun v s' hv => ?_) fun _ _ e => e))
  obtain ⟨b, rfl, hq⟩ := hv
  exact wpAny_truthy_bool (wpAny_pure hq)
end
end GQ
namespace L2
open PySem PySem.Spec PyProof.Rows
section
variable {X : Cx} {CX : CXT} {n : Nat} {C f : Addr} {fd : FuncData} {ps : List Str} {sp : Sp} {E : XK}
/-- bool(instance), by its own __len__ -/
def rBoolOwn (C : Addr) (sp : Sp) (E : XK) : List V → Hp → VK → Prop := fun xs H Q => ∃ a dx fs, xs = [.ref a] ∧ H a = some (.ins C dx fs) ∧ sp xs H (fun v H' => ∃ i : Int, v = .int i ∧ 0 ≤ i ∧ i < 2 ^ 63 ∧ Q (.bl (i != 0)) H') E
theorem call_boolOwn (F : FnOk X.prog X.w X.K X.mg X.base CX n f fd ps sp) (hb : Binds X.K fd ps []) (hx : Passes CX X E) (h0 : PySem.W.findIn X.K (.ref C) "__bool__" = some none) (hs : PySem.W.findIn X.K (.ref C) "__len__" = some (some (.ref f))) (hf : PySem.W.isFn X.K (.ref f) = true) (hr : Room (n + 3) X.A) : CallR X (.type "bool") (rBoolOwn C sp E) := by
  intro pins s σ H xs us Q I r h
  obtain ⟨a, dx, fs, rfl, ha, q⟩ := h
  cases r with
  | cons r1 r2 =>
    cases r1
    cases r2
    obtain ⟨mA, J, _⟩ := ins_get I.hok ha
    obtain ⟨od, J, _⟩ := J.look
    refine PySem.W.call_boolO (PySem.W.truthy_L I.kIn J h0 hs hf ?_)
    refine wpAny_mono (run_at F hb hx (Sub.in1 (Sub.in1 (Sub.in1 ⟨hr, rfl⟩))) I (show Vals [V.ref a] [Value.ref a] from .cons rfl .nil) q) (fun r s' z => ?_) fun _ _ z => z
    obtain ⟨v', H', I', rv, i, rfl, h0, h1, q'⟩ := z
    obtain ⟨tk, rfl⟩ := rv
    exact ⟨⟨h0, h1⟩, i, _, rfl, .bl (i != 0), H', I'.tok _, rfl, q'⟩
/-- instance in [instance] -/
def rInOwn (K : PySem.W.Frag) (C : Addr) (sp : Sp) (E : XK) : R2 := fun x y H Q => ∃ a b l, x = .ref a ∧ y = .ref l ∧ H l = some (.lst [.ref b]) ∧ ((b = a ∧ Q (.bl true) H) ∨ (b ≠ a ∧ rOwn K C sp E false (.ref b) (.ref a) H (fun v H' => ∃ r, v = .bl r ∧ H' l = some (.lst [.ref b]) ∧ Q v H')))
theorem op_inOwn (F : FnOk X.prog X.w X.K X.mg X.base CX n f fd ps sp) (hb : Binds X.K fd ps []) (hx : Passes CX X E) (O : OwnE X.K C f) (hr : Room (n + 1) X.A) : OpR X (compareOp .In) (rInOwn X.K C sp E) := by
  intro pins s σ H x y u v Q I rx ry h
  obtain ⟨a, b, l, rfl, rfl, hl, hq⟩ := h
  cases rx
  cases ry
  obtain ⟨z, its, m, r, hlen, e⟩ := I.lstM hl
  cases r with
  | cons r1 r2 =>
    cases r1
    cases r2
    refine GQ.in_list1 (y := .ref b) (n := m) rfl rfl e ?_
    rcases hq with ⟨rfl, q⟩ | ⟨hab, hq⟩
    · exact SeqAt.EqAt.same (A := X.A.in1) (s := s) (.ref b) X.prog X.w X.xe _ ⟨fun _ => ⟨.bl true, H, I, rfl, q⟩, fun z => nomatch z⟩
    · refine GQ.eqBool_refG hab (wpAny_mono (rc_own F hb hx O (Sub.in1 ⟨hr, rfl⟩) I (show RelV (.ref b) (.ref b) from rfl) (show RelV (.ref a) (.ref a) from rfl) hq) (fun r s' q => ?_) fun _ _ x => x)
      obtain ⟨v', H', I', rv, r', rfl, hl', q'⟩ := q
      cases rv
      refine ⟨r', rfl, fun e => ?_, fun e => ?_⟩
      · subst e
        exact ⟨.bl true, H', I', rfl, q'⟩
      · subst e
        obtain ⟨z2, its2, m2, rr, hlen2, e2⟩ := I'.lstM hl'
        refine ⟨⟨its2.toArray, m2, ?_, e2⟩, .bl false, H', I', rfl, q'⟩
        cases rr with
        | cons r1 r2 =>
          cases r2
          rfl
end
end L2
set_option maxHeartbeats 8000000
set_option autoImplicit false
namespace Onp
open PySem PySem.Spec PyProof.Rows L2
abbrev sMEq : Stmt := inClass sMach 16
abbrev sMLen : Stmt := inClass sMach 17
abbrev sMRep : Stmt := inClass sMach 18
theorem eqvAll_A : ∀ as bs : List Arw, PyData.eqvAll (as.map adat) (bs.map adat) = decide (as = bs)
  | [], [] => by simp [PyData.eqvAll]
  | [], _ :: _ => by simp [PyData.eqvAll]
  | _ :: _, [] => by simp [PyData.eqvAll]
  | a :: r, b :: t => by
    show PyData.eqvAll (adat a :: r.map adat) (adat b :: t.map adat) = _
    rw [PyData.eqvAll, eqv_adat, eqvAll_A r t, Bool.eq_iff_iff]
    simp only [Bool.and_eq_true, decide_eq_true_eq, List.cons.injEq]
theorem eqvAll_I : ∀ as bs : List Int, PyData.eqvAll (as.map PyData.int) (bs.map PyData.int) = decide (as = bs)
  | [], [] => by simp [PyData.eqvAll]
  | [], _ :: _ => by simp [PyData.eqvAll]
  | _ :: _, [] => by simp [PyData.eqvAll]
  | a :: r, b :: t => by
    show PyData.eqvAll (.int a :: r.map .int) (.int b :: t.map .int) = _
    rw [PyData.eqvAll, eqvAll_I r t, Bool.eq_iff_iff]
    simp only [Bool.and_eq_true, decide_eq_true_eq, List.cons.injEq, PyData.eqv, beq_iff_eq]
theorem shTR {as : List Arw} (h : ∀ a ∈ as, okS a) : SeqAt.shaped (.tuple (as.map adat)) = true := by
  unfold SeqAt.shaped
  have h1 : (PyData.tuple (as.map adat)).canLay0 = true := by rw [PyData.canLay0]; exact lay_row h
  have h2 : (PyData.tuple (as.map adat)).depth ≤ 64 := by
    rw [PyData.depth]
    have := dep_row as
    omega
  rw [h1, decide_eq_true h2]
  rfl
theorem shTI (ns : List Int) : SeqAt.shaped (.tuple (ns.map .int)) = true := by
  unfold SeqAt.shaped
  have h1 : (PyData.tuple (ns.map .int)).canLay0 = true := by rw [PyData.canLay0]; exact lay_ints ns
  have h2 : (PyData.tuple (ns.map .int)).depth ≤ 64 := by
    rw [PyData.depth, PySem.W.depth_ints]
    decide
  rw [h1, decide_eq_true h2]
  rfl
/-- whether two machines are the same -/
def eqM (M N : AM) : Bool := decide (M.n = N.n) && (decide (M.ls = N.ls) && (decide (M.as = N.as) && (decide (M.fs = N.fs) && decide (M.gs = N.gs))))
def AM.okS (M : AM) : Prop := ∀ a ∈ M.as, Onp.okS a
/-- what isinstance asks of the class -/
structure InsM (K : PySem.W.Frag) (C : Addr) : Prop where
  cl : Cls K C
  ha : PySem.W.findIn K (.ref C) "__class__" = some (some (.builtin "object.__class__"))
  hn : PySem.W.specialIn K (.builtin "object.__class__") "__get__" = some (some (.builtin "getset_descriptor.__get__"))
  htk : PySem.W.takesIn K (.builtin "object.__class__") = some true
  hm : PySem.W.mroIn K C (.type "object") = some true
  me : PySem.W.kitOne K (.ref C) (.ref C) = some true
section
variable {P : Program} {w : World} {K : PySem.W.Frag} {mg : Str → Option Value} {base : Heap}
/-! ### Machine.__eq__ -/
theorem scMEq : FnScope ["self", "other"] ["self", "other"] (defScope sMEq) := ⟨rfl, rfl, rfl, by decide +kernel, rfl, by decide +kernel, by decide +kernel⟩
def spMEq (K : PySem.W.Frag) (C : Addr) : Sp := fun vs H Q _ => ∃ (a : Addr) (y : V) (M : AM), vs = [.ref a, y] ∧ MachAt K C H a M ∧ M.okS ∧
  ((∃ (b : Addr) (N : AM), y = .ref b ∧ MachAt K C H b N ∧ N.okS ∧ Q (.bl (eqM M N)) H) ∨ (∃ t, TyX K H y t ∧ PySem.W.kitOne K t (.ref C) = some false ∧ Q (.bl false) H))
theorem ok_meq {f C : Addr} {fd : FuncData} {k : Nat} (F : Fun K "__eq__" "Machine.__eq__" sMEq f fd) (T : ClsM K C) (IC : InsM K C) (gM : mg "Machine" = some (.ref C)) (mi : mg "isinstance" = none) : FnOk P w K mg base CX0 (k + 1) f fd ["self", "other"] (spMEq K C) := by
  refine F.ok scMEq (fun vs H Q E h => ?_) (fun cdv A outer s H vs Q E hr h => ?_)
  · obtain ⟨a, y, M, rfl, _⟩ := h
    rfl
  · obtain ⟨a, y, M, rfl, hM, oM, h⟩ := h
    refine ⟨_, pss_one (ps_ret (pe_and (pe_callB call_isi (by rfl) mi (by decide +kernel) (pa_cons (pv 1) (pa_cons (pe_glob (v := .ref C) rfl gM rfl) pa_nil)))
      (pe_and (pe_cmpR op_eq (pe_fld (pv 0) rfl) (pe_fld (pv 1) rfl) (nomark _))
      (pe_and (pe_cmpR op_eq (pe_fld (pv 0) rfl) (pe_fld (pv 1) rfl) (nomark _))
      (pe_and (pe_cmpR (op_eqD hr.units) (pe_fld (pv 0) rfl) (pe_fld (pv 1) rfl) (nomark _))
      (pe_and (pe_cmpR (op_eqD hr.units) (pe_fld (pv 0) rfl) (pe_fld (pv 1) rfl) (nomark _))
      (pe_one (pe_cmpR (op_eqD hr.units) (pe_fld (pv 0) rfl) (pe_fld (pv 1) rfl) (nomark _))))))))), ?_⟩
    rcases h with ⟨b, N, rfl, hN, oN, q⟩ | ⟨t, ty, kt, q⟩
    · obtain ⟨dx, ta, tf, tg, D, ps, h1, h2, h3, h4, h5, h6, h7⟩ := hM
      obtain ⟨dx', ta', tf', tg', D', ps', g1, g2, g3, g4, g5, g6, g7⟩ := hN
      refine ⟨_, rfl, .ref b, .ref C, .ref C, .ref C, true, rfl, .own C, .base (TyOf.ins g1 IC.cl IC.ha IC.hn IC.htk IC.hm), IC.me, true, rfl, iteT ?_⟩
      refine ⟨_, rfl, a, C, dx, _, _, rfl, h1, T.cl, T.n1, mfl_rooms, _, rfl, b, C, dx', _, _, rfl, g1, T.cl, T.n1, mfl_rooms, rfl, _, rfl, ?_⟩
      unfold eqM at q
      by_cases e1 : M.n = N.n
      · rw [decide_eq_true e1, Bool.true_and] at q
        refine itT (congrArg V.int e1) ⟨_, rfl, a, C, dx, _, _, rfl, h1, T.cl, T.n2, mfl_letters, _, rfl, b, C, dx', _, _, rfl, g1, T.cl, T.n2, mfl_letters, rfl, _, rfl, ?_⟩
        by_cases e2 : M.ls = N.ls
        · rw [decide_eq_true e2, Bool.true_and] at q
          refine itT (congrArg (fun l => V.str (Sx l)) e2) ⟨_, rfl, a, C, dx, _, _, rfl, h1, T.cl, T.n3, mfl_arrows, _, rfl, b, C, dx', _, _, rfl, g1, T.cl, T.n3, mfl_arrows, .tuple (M.as.map adat), .tuple (N.as.map adat), .tup (SqT.of h2) ?_, .tup (SqT.of g2) ?_, shTR oM, shTR oN, _, rfl, ?_⟩
          · rw [← h4]
            exact dpRow h3
          · rw [← g4]
            exact dpRow g3
          · have ee : PyData.eqv (.tuple (M.as.map adat)) (.tuple (N.as.map adat)) = decide (M.as = N.as) := by rw [PyData.eqv, eqvAll_A]
            rw [ee]
            by_cases e3 : M.as = N.as
            · rw [decide_eq_true e3, Bool.true_and] at q
              refine itT e3 ⟨_, rfl, a, C, dx, _, _, rfl, h1, T.cl, T.n4, mfl_firsts, _, rfl, b, C, dx', _, _, rfl, g1, T.cl, T.n4, mfl_firsts, .tuple (M.fs.map .int), .tuple (N.fs.map .int), .tup (SqT.of h5) (dpInts _), .tup (SqT.of g5) (dpInts _), shTI _, shTI _, _, rfl, ?_⟩
              have ef : PyData.eqv (.tuple (M.fs.map .int)) (.tuple (N.fs.map .int)) = decide (M.fs = N.fs) := by rw [PyData.eqv, eqvAll_I]
              rw [ef]
              by_cases e4 : M.fs = N.fs
              · rw [decide_eq_true e4, Bool.true_and] at q
                refine itT e4 ⟨_, rfl, a, C, dx, _, _, rfl, h1, T.cl, T.n5, mfl_lasts, _, rfl, b, C, dx', _, _, rfl, g1, T.cl, T.n5, mfl_lasts, .tuple (M.gs.map .int), .tuple (N.gs.map .int), .tup (SqT.of h6) (dpInts _), .tup (SqT.of g6) (dpInts _), shTI _, shTI _, ?_⟩
                have eg : PyData.eqv (.tuple (M.gs.map .int)) (.tuple (N.gs.map .int)) = decide (M.gs = N.gs) := by rw [PyData.eqv, eqvAll_I]
                rw [eg]
                exact q
              · rw [decide_eq_false e4, Bool.false_and] at q
                exact itF e4 q
            · rw [decide_eq_false e3, Bool.false_and] at q
              exact itF e3 q
        · rw [decide_eq_false e2, Bool.false_and] at q
          exact itF (fun e => e2 (sx_inj (V.str.inj e))) q
      · rw [decide_eq_false e1, Bool.false_and] at q
        exact itF (fun e => e1 (V.int.inj e)) q
    · refine ⟨_, rfl, y, .ref C, t, .ref C, false, rfl, .own C, ty, kt, false, rfl, iteF q⟩
/-! ### Machine.__len__, Machine.__repr__ -/
theorem scMLen : FnScope ["self"] ["self"] (defScope sMLen) := ⟨rfl, rfl, rfl, by decide +kernel, rfl, by decide +kernel, by decide +kernel⟩
def spMLen (K : PySem.W.Frag) (C : Addr) : Sp := fun vs H Q _ => ∃ (a : Addr) (M : AM), vs = [.ref a] ∧ MachAt K C H a M ∧ Q (.int M.as.length) H
theorem ok_mlen {f C : Addr} {fd : FuncData} {k : Nat} (F : Fun K "__len__" "Machine.__len__" sMLen f fd) (T : ClsM K C) (ml : mg "len" = none) : FnOk P w K mg base CX0 (k + 1) f fd ["self"] (spMLen K C) := by
  refine F.ok scMLen (fun vs H Q E h => ?_) (fun cdv A outer s H vs Q E hr h => ?_)
  · obtain ⟨a, M, rfl, _⟩ := h
    rfl
  · obtain ⟨a, M, rfl, hM, q⟩ := h
    refine ⟨_, pss_one (ps_ret (pe_callB call_len_seq (by rfl) ml PySem.boot_len (pa_cons (pe_fld (pv 0) rfl) pa_nil))), ?_⟩
    obtain ⟨dx, ta, tf, tg, D, ps, h1, h2, h3, h4, h5, h6, h7⟩ := hM
    refine ⟨_, rfl, a, C, dx, _, _, rfl, h1, T.cl, T.n3, mfl_arrows, ta, rfs ps, rfl, .inr (SqT.of h2), ?_⟩
    rw [← h4, List.length_map] at q
    unfold rfs
    rw [List.length_map]
    exact q
/-- what repr tells -/
def mtext (M : AM) : Str := ("Machine(" : Str) ++ (toString M.n : String) ++ (" rooms, " : Str) ++ Sx M.ls ++ (", " : Str) ++ (toString (M.as.length : Int) : String) ++ (" arrows)" : Str)
theorem digits_few : ∀ k : Fin 41, (Str.ofString (toString (k.val : Int))).length ≤ 2 := by decide +kernel
theorem digits_few' {i : Int} (h0 : 0 ≤ i) (h1 : i ≤ 40) : (Str.ofString (toString i)).length ≤ 2 := by
  obtain ⟨n, rfl⟩ : ∃ n : Nat, i = (n : Int) := ⟨i.toNat, by omega⟩
  exact digits_few ⟨n, by omega⟩
theorem log_few {i : Int} (h0 : 0 ≤ i) (h1 : i ≤ 40) : i.natAbs.log2 < 1920 := by
  have : i.natAbs ≤ 40 := by omega
  have h2 : i.natAbs.log2 ≤ i.natAbs := Nat.log2_le_self _
  omega
theorem scMRep : FnScope ["self"] ["self"] (defScope sMRep) := ⟨rfl, rfl, rfl, by decide +kernel, rfl, by decide +kernel, by decide +kernel⟩
def spMRep (K : PySem.W.Frag) (C : Addr) : Sp := fun vs H Q _ => ∃ (a : Addr) (M : AM), vs = [.ref a] ∧ MachAt K C H a M ∧ 0 ≤ M.n ∧ M.n ≤ 8 ∧ M.ls.length ≤ 3 ∧ M.as.length ≤ 40 ∧ Q (.str (mtext M)) H
theorem ok_mrep {f C : Addr} {fd : FuncData} {k : Nat} (F : Fun K "__repr__" "Machine.__repr__" sMRep f fd) (T : ClsM K C) (ml : mg "len" = none) : FnOk P w K mg base CX0 (k + 1) f fd ["self"] (spMRep K C) := by
  refine F.ok scMRep (fun vs H Q E h => ?_) (fun cdv A outer s H vs Q E hr h => ?_)
  · obtain ⟨a, M, rfl, _⟩ := h
    rfl
  · obtain ⟨a, M, rfl, hM, n0, n8, l3, a40, q⟩ := h
    refine ⟨_, pss_one (ps_ret (pe_joined (.cons pe_str (.cons (pe_fmt (pe_fld (pv 0) rfl)) (.cons pe_str (.cons (pe_fmt (pe_fld (pv 0) rfl)) (.cons pe_str (.cons (pe_fmt (pe_callB call_len_seq (by rfl) ml PySem.boot_len (pa_cons (pe_fld (pv 0) rfl) pa_nil))) (.cons pe_str .nil))))))))), ?_⟩
    obtain ⟨dx, ta, tf, tg, D, ps, h1, h2, h3, h4, h5, h6, h7⟩ := hM
    have hln : (rfs ps).length = M.as.length := by
      unfold rfs
      rw [List.length_map, ← h4, List.length_map]
    have hbig : 5000 ≤ sizeLine := by decide
    have d1 := digits_few' (i := M.n) (by omega) (by omega)
    have d2 := digits_few' (i := (M.as.length : Int)) (by omega) (by omega)
    have dl : (Sx M.ls).length ≤ 3 := by rw [sx_len]; exact l3
    refine ⟨_, rfl, ?_, _, rfl, a, C, dx, _, _, rfl, h1, T.cl, T.n1, mfl_rooms, .inr ⟨M.n, rfl, log_few (by omega) (by omega), _, rfl, ?_, _, rfl, ?_, _, rfl, a, C, dx, _, _, rfl, h1, T.cl, T.n2, mfl_letters, .inl ⟨_, rfl, ?_, _, rfl, ?_, _, rfl, ?_, ?_⟩⟩⟩
    · have : (Str.empty ++ ("Machine(" : Str)).length = 8 := by decide +kernel
      omega
    · have : (Str.empty ++ ("Machine(" : Str)).length = 8 := by decide +kernel
      rw [Str.length_append, this]
      omega
    · have : (Str.empty ++ ("Machine(" : Str)).length = 8 := by decide +kernel
      rw [Str.length_append, Str.length_append, this, show ((" rooms, " : Str)).length = 8 by decide +kernel]
      omega
    · omega
    · have : (Str.empty ++ ("Machine(" : Str)).length = 8 := by decide +kernel
      rw [Str.length_append, Str.length_append, Str.length_append, this, show ((" rooms, " : Str)).length = 8 by decide +kernel]
      omega
    · have : (Str.empty ++ ("Machine(" : Str)).length = 8 := by decide +kernel
      rw [Str.length_append, Str.length_append, Str.length_append, Str.length_append, this, show ((" rooms, " : Str)).length = 8 by decide +kernel, show ((", " : Str)).length = 2 by decide +kernel]
      omega
    · refine ⟨_, rfl, a, C, dx, _, _, rfl, h1, T.cl, T.n3, mfl_arrows, ta, rfs ps, rfl, .inr (SqT.of h2), .inr ⟨((rfs ps).length : Int), rfl, ?_, _, rfl, ?_, _, rfl, ?_, ?_⟩⟩
      · rw [hln]
        exact log_few (by omega) (by omega)
      · have : (Str.empty ++ ("Machine(" : Str)).length = 8 := by decide +kernel
        rw [hln, Str.length_append, Str.length_append, Str.length_append, Str.length_append, Str.length_append, this, show ((" rooms, " : Str)).length = 8 by decide +kernel, show ((", " : Str)).length = 2 by decide +kernel]
        omega
      · have : (Str.empty ++ ("Machine(" : Str)).length = 8 := by decide +kernel
        rw [hln, Str.length_append, Str.length_append, Str.length_append, Str.length_append, Str.length_append, Str.length_append, this, show ((" rooms, " : Str)).length = 8 by decide +kernel, show ((", " : Str)).length = 2 by decide +kernel, show ((" arrows)" : Str)).length = 8 by decide +kernel]
        omega
      · show Q (.str _) H
        rw [hln, show Str.empty ++ ("Machine(" : Str) = ("Machine(" : Str) by decide +kernel]
        exact q
end
end Onp
set_option maxHeartbeats 8000000
set_option autoImplicit false
namespace Onp
open PySem PySem.Spec PyProof.Rows L2
abbrev sMRooms : Stmt := inClass sMach 1
abbrev sMLets : Stmt := inClass sMach 2
abbrev sMArrs : Stmt := inClass sMach 3
abbrev sMFsts : Stmt := inClass sMach 4
abbrev sMLsts : Stmt := inClass sMach 5
section
variable {P : Program} {w : World} {K : PySem.W.Frag} {mg : Str → Option Value} {base : Heap}
/-! ### what a machine tells of itself -/
theorem scMRooms : FnScope ["self"] ["self"] (defScope sMRooms) := ⟨rfl, rfl, rfl, by decide +kernel, rfl, by decide +kernel, by decide +kernel⟩
theorem scMLets : FnScope ["self"] ["self"] (defScope sMLets) := ⟨rfl, rfl, rfl, by decide +kernel, rfl, by decide +kernel, by decide +kernel⟩
theorem scMArrs : FnScope ["self"] ["self"] (defScope sMArrs) := ⟨rfl, rfl, rfl, by decide +kernel, rfl, by decide +kernel, by decide +kernel⟩
theorem scMFsts : FnScope ["self"] ["self"] (defScope sMFsts) := ⟨rfl, rfl, rfl, by decide +kernel, rfl, by decide +kernel, by decide +kernel⟩
theorem scMLsts : FnScope ["self"] ["self"] (defScope sMLsts) := ⟨rfl, rfl, rfl, by decide +kernel, rfl, by decide +kernel, by decide +kernel⟩
def spMRooms (K : PySem.W.Frag) (C : Addr) : Sp := fun vs H Q _ => ∃ (a : Addr) (M : AM), vs = [.ref a] ∧ MachAt K C H a M ∧ Q (.int M.n) H
def spMLets (K : PySem.W.Frag) (C : Addr) : Sp := fun vs H Q _ => ∃ (a : Addr) (M : AM), vs = [.ref a] ∧ MachAt K C H a M ∧ Q (.str (Sx M.ls)) H
def spMArrs (K : PySem.W.Frag) (C : Addr) : Sp := fun vs H Q _ => ∃ (a : Addr) (M : AM), vs = [.ref a] ∧ MachAt K C H a M ∧ ∀ (l : Addr) (ps : List AR), H l = none → RowAt K H ps → ps.map (·.2) = M.as → Q (.ref l) (upd H l (.lst (rfs ps)))
def spMFsts (K : PySem.W.Frag) (C : Addr) : Sp := fun vs H Q _ => ∃ (a : Addr) (M : AM), vs = [.ref a] ∧ MachAt K C H a M ∧ ∀ l, H l = none → Q (.ref l) (upd H l (.lst (M.fs.map V.int)))
def spMLsts (K : PySem.W.Frag) (C : Addr) : Sp := fun vs H Q _ => ∃ (a : Addr) (M : AM), vs = [.ref a] ∧ MachAt K C H a M ∧ ∀ l, H l = none → Q (.ref l) (upd H l (.lst (M.gs.map V.int)))
theorem ok_mrooms {f C : Addr} {fd : FuncData} {k : Nat} (F : Fun K "rooms" "Machine.rooms" sMRooms f fd) (T : ClsM K C) : FnOk P w K mg base CX0 (k + 1) f fd ["self"] (spMRooms K C) := by
  refine F.ok scMRooms (fun vs H Q E h => ?_) (fun cdv A outer s H vs Q E hr h => ?_)
  · obtain ⟨a, M, rfl, _⟩ := h
    rfl
  · obtain ⟨a, M, rfl, ⟨dx, ta, tf, tg, D, ps, h1, _⟩, q⟩ := h
    exact ⟨_, pss_one (ps_ret (pe_fld (pv 0) rfl)), _, rfl, a, C, dx, _, _, rfl, h1, T.cl, T.n1, mfl_rooms, q⟩
theorem ok_mlets {f C : Addr} {fd : FuncData} {k : Nat} (F : Fun K "letters" "Machine.letters" sMLets f fd) (T : ClsM K C) : FnOk P w K mg base CX0 (k + 1) f fd ["self"] (spMLets K C) := by
  refine F.ok scMLets (fun vs H Q E h => ?_) (fun cdv A outer s H vs Q E hr h => ?_)
  · obtain ⟨a, M, rfl, _⟩ := h
    rfl
  · obtain ⟨a, M, rfl, ⟨dx, ta, tf, tg, D, ps, h1, _⟩, q⟩ := h
    exact ⟨_, pss_one (ps_ret (pe_fld (pv 0) rfl)), _, rfl, a, C, dx, _, _, rfl, h1, T.cl, T.n2, mfl_letters, q⟩
theorem ok_marrs {f C : Addr} {fd : FuncData} {k : Nat} (F : Fun K "arrows" "Machine.arrows" sMArrs f fd) (T : ClsM K C) (ml : mg "list" = none) : FnOk P w K mg base CX0 (k + 1) f fd ["self"] (spMArrs K C) := by
  refine F.ok scMArrs (fun vs H Q E h => ?_) (fun cdv A outer s H vs Q E hr h => ?_)
  · obtain ⟨a, M, rfl, _⟩ := h
    rfl
  · obtain ⟨a, M, rfl, ⟨dx, ta, tf, tg, D, ps, h1, h2, h3, h4, _⟩, q⟩ := h
    exact ⟨_, pss_one (ps_ret (pe_callTy call_list_of (by rfl) ml (by decide +kernel) (pa_cons (pe_fld (pv 0) rfl) pa_nil))), _, rfl, a, C, dx, _, _, rfl, h1, T.cl, T.n3, mfl_arrows, ta, rfs ps, rfl, .inr (SqT.of h2), fun l nl => q l ps nl h3 h4⟩
theorem ok_mfsts {f C : Addr} {fd : FuncData} {k : Nat} (F : Fun K "firsts" "Machine.firsts" sMFsts f fd) (T : ClsM K C) (ml : mg "list" = none) : FnOk P w K mg base CX0 (k + 1) f fd ["self"] (spMFsts K C) := by
  refine F.ok scMFsts (fun vs H Q E h => ?_) (fun cdv A outer s H vs Q E hr h => ?_)
  · obtain ⟨a, M, rfl, _⟩ := h
    rfl
  · obtain ⟨a, M, rfl, ⟨dx, ta, tf, tg, D, ps, h1, h2, h3, h4, h5, h6, _⟩, q⟩ := h
    exact ⟨_, pss_one (ps_ret (pe_callTy call_list_of (by rfl) ml (by decide +kernel) (pa_cons (pe_fld (pv 0) rfl) pa_nil))), _, rfl, a, C, dx, _, _, rfl, h1, T.cl, T.n4, mfl_firsts, tf, _, rfl, .inr (SqT.of h5), q⟩
theorem ok_mlsts {f C : Addr} {fd : FuncData} {k : Nat} (F : Fun K "lasts" "Machine.lasts" sMLsts f fd) (T : ClsM K C) (ml : mg "list" = none) : FnOk P w K mg base CX0 (k + 1) f fd ["self"] (spMLsts K C) := by
  refine F.ok scMLsts (fun vs H Q E h => ?_) (fun cdv A outer s H vs Q E hr h => ?_)
  · obtain ⟨a, M, rfl, _⟩ := h
    rfl
  · obtain ⟨a, M, rfl, ⟨dx, ta, tf, tg, D, ps, h1, h2, h3, h4, h5, h6, _⟩, q⟩ := h
    exact ⟨_, pss_one (ps_ret (pe_callTy call_list_of (by rfl) ml (by decide +kernel) (pa_cons (pe_fld (pv 0) rfl) pa_nil))), _, rfl, a, C, dx, _, _, rfl, h1, T.cl, T.n5, mfl_lasts, tg, _, rfl, .inr (SqT.of h6), q⟩
end
end Onp
set_option maxHeartbeats 8000000
set_option autoImplicit false
namespace Onp
open PySem PySem.Spec PyProof.Rows L2
abbrev sLTells : Stmt := topS 53
/-- a drawn machine as data -/
def ddat (M : AM) : PyData := .tuple [.int M.n, .str (Sx M.ls), .list (M.as.map adat), .list (M.fs.map .int), .list (M.gs.map .int)]
theorem dp_drawn {K : PySem.W.Frag} {H : Hp} {t : Addr} {M : AM} (h : DrawnAt K H t M) : Dp K H (.ref t) (ddat M) := by
  obtain ⟨la, lf, lg, ps, h1, h2, h3, h4, h5, h6⟩ := h
  refine .tup (SqT.of h1) (.cons (.int _) (.cons (.str _) (.cons (.lst (SqL.of h2) ?_) (.cons (.lst (SqL.of h5) (dpInts _)) (.cons (.lst (SqL.of h6) (dpInts _)) .nil)))))
  rw [← h4]
  exact dpRow h3
theorem eqv_ddat (M N : AM) : PyData.eqv (ddat M) (ddat N) = eqM M N := by
  unfold ddat eqM
  simp only [PyData.eqv, PyData.eqvAll, eqvAll_A, eqvAll_I, Bool.and_true]
  congr 1
  congr 1
  rw [Bool.eq_iff_iff, beq_iff_eq, decide_eq_true_eq]
  exact ⟨sx_inj, fun e => by rw [e]⟩
theorem small_lt : ∀ c ∈ smallL, c < 0x110000 := by decide
theorem sx_ok {ls : List Nat} (h : letB ls = true) : PyData.strOk (Sx ls) = true := by
  unfold PyData.strOk
  rw [← Array.all_toList, sx_cps, List.all_eq_true]
  exact fun c hc => decide_eq_true (small_lt c (letB_small h c hc))
theorem sh_ddat {M : AM} (h : M.okS) (hl : letB M.ls = true) : SeqAt.shaped (ddat M) = true := by
  unfold SeqAt.shaped
  have h1 : (ddat M).canLay0 = true := by
    unfold ddat
    simp only [PyData.canLay0, PyData.canLayAll0, lay_row h, lay_ints, sx_ok hl, Bool.and_true]
  have h2 : (ddat M).depth ≤ 64 := by
    unfold ddat
    simp only [PyData.depth, PyData.depthAll, PySem.W.depth_ints]
    have := dep_row M.as
    omega
  rw [h1, decide_eq_true h2]
  rfl
theorem mem_sortA {as : List Arw} {a : Arw} : a ∈ sortA as ↔ a ∈ as := by
  unfold sortA
  exact (List.mergeSort_perm as _).mem_iff
theorem ok_okS {M : AM} (h : M.ok) : M.okS := fun a ha => arrB_okS h.2.2.1 (h.2.2.2.1 a ha)
theorem ok_okS' {M : AM} (h : M.ok) : M.srt.okS := fun a ha => ok_okS h a (mem_sortA.mp ha)
theorem sortA_len (as : List Arw) : (sortA as).length = as.length := by
  unfold sortA
  exact List.length_mergeSort ..
theorem lvl_ddat {M : AM} (h1 : M.as.length ≤ 1000) (h2 : M.fs.length ≤ 1000) (h3 : M.gs.length ≤ 1000) : Lvl 3 (ddat M) := by
  refine ⟨by show 5 ≤ 1000; decide, fun d hd => ?_⟩
  simp only [List.mem_cons, List.not_mem_nil, or_false] at hd
  rcases hd with rfl | rfl | rfl | rfl | rfl
  · exact True.intro
  · exact True.intro
  · refine ⟨by rw [List.length_map]; exact h1, fun d hd => ?_⟩
    obtain ⟨a, _, rfl⟩ := List.mem_map.mp hd
    refine ⟨by show 4 ≤ 1000; decide, fun d hd => ?_⟩
    simp only [List.mem_cons, List.not_mem_nil, or_false] at hd
    rcases hd with rfl | rfl | rfl | rfl <;> exact True.intro
  · refine ⟨by rw [List.length_map]; exact h2, fun d hd => ?_⟩
    obtain ⟨a, _, rfl⟩ := List.mem_map.mp hd
    exact True.intro
  · refine ⟨by rw [List.length_map]; exact h3, fun d hd => ?_⟩
    obtain ⟨a, _, rfl⟩ := List.mem_map.mp hd
    exact True.intro
section
variable {P : Program} {w : World} {K : PySem.W.Frag} {mg : Str → Option Value} {base : Heap}
/-! ### _law_tells -/
theorem scLTells : FnScope ["_law_made"] ["_law_made"] (defScope sLTells) := ⟨rfl, rfl, rfl, by decide +kernel, rfl, by decide +kernel, by decide +kernel⟩
def spLTells (K : PySem.W.Frag) (C : Addr) : Sp := fun vs H Q _ => ∃ (a : Addr) (M : AM), vs = [.ref a] ∧ MachAt K C H a M ∧ ∀ (t : Addr) H', Same H H' → DrawnAt K H' t M → Q (.ref t) H'
theorem ok_ltells {f C fRm fLt fAr fFs fLs : Addr} {fd fdRm fdLt fdAr fdFs fdLs : FuncData} {k : Nat} (F : Fun K "_law_tells" "_law_tells" sLTells f fd) (T : ClsM K C)
    (FRm : Fun K "rooms" "Machine.rooms" sMRooms fRm fdRm) (bRm : Binds K fdRm ["self"] []) (mRm : Meth K C "rooms" fRm) (FLt : Fun K "letters" "Machine.letters" sMLets fLt fdLt) (bLt : Binds K fdLt ["self"] []) (mLt : Meth K C "letters" fLt) (FAr : Fun K "arrows" "Machine.arrows" sMArrs fAr fdAr) (bAr : Binds K fdAr ["self"] []) (mAr : Meth K C "arrows" fAr)
    (FFs : Fun K "firsts" "Machine.firsts" sMFsts fFs fdFs) (bFs : Binds K fdFs ["self"] []) (mFs : Meth K C "firsts" fFs) (FLs : Fun K "lasts" "Machine.lasts" sMLsts fLs fdLs) (bLs : Binds K fdLs ["self"] []) (mLs : Meth K C "lasts" fLs) (ml : mg "list" = none) : FnOk P w K mg base CX0 (k + 2) f fd ["_law_made"] (spLTells K C) := by
  have G1 : FnOk P w K mg base CX0 (k + 1) fRm fdRm ["self"] (spMRooms K C) := ok_mrooms FRm T
  have G2 : FnOk P w K mg base CX0 (k + 1) fLt fdLt ["self"] (spMLets K C) := ok_mlets FLt T
  have G3 : FnOk P w K mg base CX0 (k + 1) fAr fdAr ["self"] (spMArrs K C) := ok_marrs FAr T ml
  have G4 : FnOk P w K mg base CX0 (k + 1) fFs fdFs ["self"] (spMFsts K C) := ok_mfsts FFs T ml
  have G5 : FnOk P w K mg base CX0 (k + 1) fLs fdLs ["self"] (spMLsts K C) := ok_mlsts FLs T ml
  refine F.ok scLTells (fun vs H Q E h => ?_) (fun cdv A outer s H vs Q E hr h => ?_)
  · obtain ⟨a, M, rfl, _⟩ := h
    rfl
  · obtain ⟨a, M, rfl, mA, q⟩ := h
    obtain ⟨dx, ta, tf, tg, D0, ps0, h1, hrest⟩ := id mA
    refine ⟨_, pss_one (ps_ret (pe_tup (pa_cons (pe_meth0 (pv 0) T.cl mRm G1 hr bRm .nil pass0) (pa_cons (pe_meth0 (pv 0) T.cl mLt G2 hr bLt .nil pass0) (pa_cons (pe_meth0 (pv 0) T.cl mAr G3 hr bAr .nil pass0) (pa_cons (pe_meth0 (pv 0) T.cl mFs G4 hr bFs .nil pass0) (pa_cons (pe_meth0 (pv 0) T.cl mLs G5 hr bLs .nil pass0) pa_nil))))))), ?_⟩
    refine ⟨_, rfl, a, dx, _, rfl, h1, mfl_none (by decide +kernel), a, M, rfl, mA, ?_⟩
    refine ⟨_, rfl, a, dx, _, rfl, h1, mfl_none (by decide +kernel), a, M, rfl, mA, ?_⟩
    refine ⟨_, rfl, a, dx, _, rfl, h1, mfl_none (by decide +kernel), a, M, rfl, mA, fun l1 ps nl1 hR he => ?_⟩
    have s1 := same_upd (o := .lst (rfs ps)) nl1
    refine ⟨_, rfl, a, dx, _, rfl, s1 _ _ h1, mfl_none (by decide +kernel), a, M, rfl, mA.same s1, fun l2 nl2 => ?_⟩
    have s2 := same_upd (o := .lst (M.fs.map V.int)) nl2
    refine ⟨_, rfl, a, dx, _, rfl, s2 _ _ (s1 _ _ h1), mfl_none (by decide +kernel), a, M, rfl, (mA.same s1).same s2, fun l3 nl3 => ?_⟩
    have s3 := same_upd (o := .lst (M.gs.map V.int)) nl3
    refine ⟨(by decide : 5 ≤ sizeLine), fun t nt => ?_⟩
    have s4 := same_upd (o := .tup [.int M.n, .str (Sx M.ls), .ref l1, .ref l2, .ref l3]) nt
    have sS := s1.trans (s2.trans (s3.trans s4))
    exact q t _ sS ⟨l1, l2, l3, ps, upd_same, s4 _ _ (s3 _ _ (s2 _ _ upd_same)), hR.same sS, he, s4 _ _ (s3 _ _ upd_same), s4 _ _ upd_same⟩
end
end Onp
set_option maxHeartbeats 4000000
set_option autoImplicit false
/-! rows of arrows that lie in the heap -/
namespace Onp
open PySem PySem.Spec PyProof.Rows L2
def aks (xs : List AR) : List V := xs.map fun p => V.ref p.1
def AkAt (H : Hp) (xs : List AR) : Prop := ∀ p ∈ xs, H p.1 = some (.tup (aV p.2))
theorem AkAt.same {H H' : Hp} {xs : List AR} (x : AkAt H xs) (s : Same H H') : AkAt H' xs := fun p hp => s _ _ (x p hp)
theorem AkAt.row {K : PySem.W.Frag} {H : Hp} {xs : List AR} (x : AkAt H xs) : RowAt K H xs := fun p hp => SqT.of (x p hp)
theorem AkAt.put {H : Hp} {xs : List AR} {D : Addr} {ys zs : List V} (x : AkAt H xs) (h : H D = some (.lst ys)) : AkAt (upd H D (.lst zs)) xs := fun p hp => by
  rw [upd_ne (ne_of (x p hp) h (fun z => nomatch z))]
  exact x p hp
theorem aks_len (xs : List AR) : (aks xs).length = xs.length := by unfold aks; rw [List.length_map]
theorem aks_app (a b : List AR) : aks (a ++ b) = aks a ++ aks b := by unfold aks; rw [List.map_append]
theorem aks_ref {xs : List AR} : ∀ x ∈ aks xs, ∃ p, x = .ref p := fun x hx => by
  obtain ⟨b, _, rfl⟩ := List.mem_map.mp hx
  exact ⟨_, rfl⟩
theorem aks_at {xs : List AR} {i : Nat} {v : V} (h : (aks xs)[i]? = some v) : ∃ p : AR, xs[i]? = some p ∧ v = .ref p.1 := by
  unfold aks at h
  rw [List.getElem?_map] at h
  cases e : xs[i]? with
  | none => rw [e] at h; cases h
  | some p => rw [e] at h; exact ⟨p, rfl, (Option.some.inj h).symm⟩
/-- one more of them -/
theorem grow_ak {H2 H' : Hp} {D t : Addr} {ps : List AR} {x : Arw} (nD : H2 D = none) (sm : Same H2 H') (hD : H' D = some (.lst (aks ps))) (hR : AkAt H' ps) (hl : ps.length ≤ 5000) (nt : H' t = none) :
    ∃ acc, (upd H' t (.tup (aV x))) D = some (.lst acc) ∧ acc.length < sizeLine ∧ Same H2 (upd (upd H' t (.tup (aV x))) D (.lst (acc ++ [.ref t]))) ∧ (upd (upd H' t (.tup (aV x))) D (.lst (acc ++ [.ref t]))) D = some (.lst (aks (ps ++ [(t, x)]))) ∧ AkAt (upd (upd H' t (.tup (aV x))) D (.lst (acc ++ [.ref t]))) (ps ++ [(t, x)]) := by
  have st : Same H' (upd H' t (.tup (aV x))) := fun b o e => by rw [upd_ne (ne_of_none e nt)]; exact e
  have hD' := st _ _ hD
  refine ⟨_, hD', by rw [aks_len]; exact Nat.lt_of_le_of_lt hl (by decide), fun b o e => ?_, by rw [upd_same, aks_app]; rfl, fun p hp => ?_⟩
  · rw [upd_ne (ne_of_none e nD)]
    exact st _ _ (sm b o e)
  · have ht : (upd H' t (.tup (aV x))) p.1 = some (.tup (aV p.2)) := by
      rcases List.mem_append.mp hp with h | h
      · exact st _ _ (hR p h)
      · rw [List.mem_singleton.mp h]
        exact upd_same
    rw [upd_ne (ne_of ht hD' (fun z => nomatch z))]
    exact ht
/-- as keys -/
def akK (ps : List AR) : List AK := ps.map fun p => (p.1, akey p.2)
theorem akK_ref (ps : List AR) : (akK ps).map (fun p => V.ref p.1) = aks ps := by
  unfold akK aks
  rw [List.map_map]
  rfl
theorem akK_at {H : Hp} {ps : List AR} (x : AkAt H ps) : ∀ p ∈ akK ps, H p.1 = some (.tup (p.2.map kV)) := fun p hp => by
  obtain ⟨q, hq, rfl⟩ := List.mem_map.mp hp
  exact x q hq
theorem akK_keys (ps : List AR) : (akK ps).map (·.2) = (ps.map (·.2)).map akey := by
  unfold akK
  rw [List.map_map, List.map_map]
  rfl
/-- and back: keys that are arrows' -/
theorem ak_back {H : Hp} : ∀ {qs : List AK} {as : List Arw}, (∀ q ∈ qs, H q.1 = some (.tup (q.2.map kV))) → qs.map (·.2) = as.map akey → ∃ ps : List AR, qs.map (fun p => V.ref p.1) = aks ps ∧ AkAt H ps ∧ ps.map (·.2) = as
  | [], [], _, _ => ⟨[], rfl, (fun _ h => nomatch h), rfl⟩
  | [], _ :: _, _, h => nomatch h
  | _ :: _, [], _, h => nomatch h
  | q :: qs, a :: as, hq, h => by
    obtain ⟨h1, h2⟩ := List.cons.inj h
    obtain ⟨ps, e1, e2, e3⟩ := ak_back (fun x hx => hq x (List.mem_cons_of_mem _ hx)) h2
    refine ⟨(q.1, a) :: ps, by rw [List.map_cons, e1]; rfl, fun p hp => ?_, by rw [List.map_cons, e3]⟩
    rcases List.mem_cons.mp hp with rfl | hp
    · have := hq q List.mem_cons_self
      rw [show q.2 = akey a from h1] at this
      exact this
    · exact e2 p hp
end Onp
set_option maxHeartbeats 4000000
set_option autoImplicit false
/-! _law_drawn, its arrows tuples of the heap -/
namespace Onp
open PySem PySem.Spec PyProof.Rows L2
def DrawnHp (H : Hp) (t : Addr) (M : AM) : Prop := ∃ (la lf lg : Addr) (ps : List AR), H t = some (.tup [.int M.n, .str (Sx M.ls), .ref la, .ref lf, .ref lg]) ∧ H la = some (.lst (rfs ps)) ∧ AkAt H ps ∧ ps.map (·.2) = M.as ∧ H lf = some (.lst (M.fs.map V.int)) ∧ H lg = some (.lst (M.gs.map V.int))
theorem DrawnHp.at_ {K : PySem.W.Frag} {H : Hp} {t : Addr} {M : AM} (h : DrawnHp H t M) : DrawnAt K H t M := by
  obtain ⟨la, lf, lg, ps, h1, h2, h3, h4, h5, h6⟩ := h
  exact ⟨la, lf, lg, ps, h1, h2, h3.row, h4, h5, h6⟩
theorem Bg.keepAk {H H' : Hp} {g : Bid} (B : Bg H g) {ps : List AR} (k : Keep g.b H H') (h : AkAt H ps) : AkAt H' ps := fun p hp => k _ _ (B.neTup (h p hp)) (h p hp)
section
variable {P : Program} {w : World} {K : PySem.W.Frag} {mg : Str → Option Value} {base : Heap}
def spDrawnH : Sp := fun vs H Q _ => ∃ (g : Bid) (rm lm am : Int), vs = [.ref g.b, .int rm, .int lm, .int am] ∧ 1 ≤ rm ∧ rm ≤ 8 ∧ 1 ≤ lm ∧ lm ≤ 3 ∧ 0 ≤ am ∧ am ≤ 40 ∧ Bg H g ∧ ∀ (t : Addr) (M : AM) H', M.ok → M.n ≤ rm → (M.ls.length : Int) ≤ lm → (M.as.length : Int) ≤ am → (∀ c ∈ M.ls.take 2, c < 122) → DrawnHp H' t M → Keep g.b H H' → Bg H' g → Q (.ref t) H'
theorem ok_drawnH {f fP fO fD fL fR fA : Addr} {fd fdP fdO fdD fdL fdR fdA : FuncData} {k : Nat} (F : Fun K "_law_drawn" "_law_drawn" sDrawn f fd) (Pu : FnM K mg fP fdP "_law_pull" sPull ["_law_bag_here", "_law_many"]) (O : FnM K mg fO fdO "_law_of" sOf ["_law_bag_here", "_law_some"]) (De : FnM K mg fD fdD "_law_deed" sDeed ["_law_bag_here"])
    (Le : FnM K mg fL fdL "_law_letters" sLett ["_law_bag_here", "_law_most"]) (Ro : FnM K mg fR fdR "_law_rooms_some" sRooms ["_law_bag_here", "_law_rooms"]) (Ar : FnM K mg fA fdA "_law_arrow" sArrow ["_law_bag_here", "_law_rooms", "_law_letters_here"])
    (ml : mg "len" = none) (mr : mg "range" = none) (mi : mg "int" = none) : FnOk P w K mg base CX0 (k + 5) f fd psDr spDrawnH := by
  have GP : FnOk P w K mg base CX0 (k + 4) fP fdP ["_law_bag_here", "_law_many"] (spPull K) := ok_pull Pu.F ml
  have GL : FnOk P w K mg base CX0 (k + 4) fL fdL ["_law_bag_here", "_law_most"] spLett := ok_lett Le.F Pu ml mr
  have GR : FnOk P w K mg base CX0 (k + 4) fR fdR ["_law_bag_here", "_law_rooms"] spRooms := ok_rooms Ro.F Pu ml mr
  have GA : FnOk P w K mg base CX0 (k + 4) fA fdA ["_law_bag_here", "_law_rooms", "_law_letters_here"] spArrow := ok_arrow Ar.F Pu O De ml
  refine F.ok scDrawn (fun vs H Q E h => ?_) (fun cdv A outer s H vs Q E hr h => ?_)
  · obtain ⟨g, rm, lm, am, rfl, _⟩ := h
    rfl
  · obtain ⟨g, rm, lm, am, rfl, r1, r2, l1, l2, a1, a2, B, q⟩ := h
    refine ⟨_, pss_cons (ps_par (i := 4) (j := 5) rfl scDrawn.nd rfl rfl (by decide) rfl rfl (pa_cons (pe_op op_add pe_int (pe_call GP hr (by rfl) Pu.g Pu.F.kp Pu.b .nil pass0 (pa_cons (pv 0) (pa_cons (pv 1) pa_nil)))) (pa_cons (pe_call GL hr (by rfl) Le.g Le.F.kp Le.b .nil pass0 (pa_cons (pv 0) (pa_cons (pv 2) pa_nil))) pa_nil)) rfl)
      (pss_cons (ps_set (i := 6) scDrawn.nd rfl (.inl rfl) (pe_lst pa_nil))
      (pss_cons (ps_for PassesOwn.never rfl (pi_range1 (by rfl) mr (pa_cons (pe_call GP hr (by rfl) Pu.g Pu.F.kp Pu.b .nil pass0 (pa_cons (pv 0) (pa_cons (pe_op op_add (pv 3) pe_int) pa_nil))) pa_nil)) (pg_name (i := 7) scDrawn.nd rfl (.inl rfl))
        (pss_cons (ps_set (i := 8) scDrawn.nd rfl (.inl rfl) (pe_call GA hr (by rfl) Ar.g Ar.F.kp Ar.b .nil pass0 (pa_cons (pv 0) (pa_cons (pv 4) (pa_cons (pv 5) pa_nil)))))
        (pss_one (ps_set (i := 6) scDrawn.nd rfl (.inl rfl) (pe_op op_cat (pv 6) (pe_op op_rep (pe_lst (pa_cons (pv 8) pa_nil)) (pe_callTy call_int1 (by rfl) mi (by decide +kernel) (pa_cons (pe_cmpR (op_notInD (room65 hr)) (pv 8) (pv 6) (by rfl)) pa_nil))))))))
      (pss_one (ps_ret (pe_tup (pa_cons (pv 4) (pa_cons (pv 5) (pa_cons (pv 6) (pa_cons (pe_call GR hr (by rfl) Ro.g Ro.F.kp Ro.b .nil pass0 (pa_cons (pv 0) (pa_cons (pv 4) pa_nil))) (pa_cons (pe_call GR hr (by rfl) Ro.g Ro.F.kp Ro.b .nil pass0 (pa_cons (pv 0) (pa_cons (pv 4) pa_nil))) pa_nil)))))))))), ?_⟩
    have hbig : 5000 ≤ sizeLine := by decide
    refine ⟨_, rfl, _, rfl, g, rm, rfl, by omega, Nat.lt_trans (show rm.natAbs < 2 ^ 64 by omega) (by decide), B, fun x H1 x0 x1 k1 B1 => ?_⟩
    refine ⟨_, _, rfl, rfl, _, rfl, _, rfl, g, lm, rfl, l1, l2, B1, fun ls H2 hls hll hlow k2 B2 => ?_⟩
    have hl3 := letB_pos hls
    refine ⟨_, _, rfl, (by decide : 0 ≤ sizeLine), fun la nla => ?_⟩
    have B3 := B2.new (o := .lst []) nla
    have k3 : Keep g.b H _ := (k1.trans k2).trans (Keep.new (o := .lst []) nla)
    have h3 : upd H2 la (.lst []) la = some (.lst (rfs [])) := upd_same
    generalize upd H2 la (.lst []) = H3 at B3 k3 h3
    refine ⟨_, rfl, _, rfl, _, _, rfl, rfl, g, am + 1, rfl, by omega, Nat.lt_trans (show (am + 1).natAbs < 2 ^ 64 by omega) (by decide), B3, fun z H4 z0 z1 k4 B4 => ?_⟩
    obtain ⟨zn, rfl⟩ : ∃ zn : Nat, z = (zn : Int) := ⟨z.toNat, by omega⟩
    refine ⟨(zn : Int), rfl, by omega, by omega, for_range (lo := 0) (n := zn) (fun i σ H' => ∃ (la : Addr) (ps : List AR) (y7 y8 : Option V), σ = [some (.ref g.b), some (.int rm), some (.int lm), some (.int am), some (.int (1 + x)), some (.str (Sx ls)), some (.ref la), y7, y8] ∧ H' la = some (.lst (rfs ps)) ∧ AkAt H' ps ∧ (∀ p ∈ ps, arrB (1 + x) ls p.2 = true) ∧ (ps.map (·.2)).Nodup ∧ ps.length ≤ i ∧ Keep g.b H H' ∧ Bg H' g)
      ⟨la, [], _, _, rfl, k4 _ _ (B3.neRfs h3) h3, (fun _ h => nomatch h), (fun _ h => nomatch h), .nil, Nat.le_refl _, k3.trans k4, B4⟩ ?_ ?_⟩
    · rintro i σ H5 hi ⟨la, ps, y7, y8, rfl, hla, hR, hA, hnd, hln, k5, B5⟩
      refine ⟨_, rfl, _, rfl, _, rfl, g, 1 + x, ls, rfl, by omega, by omega, by omega, by omega, B5, fun a t H6 ha ht k6 B6 => ?_⟩
      have hla6 := k6 _ _ (B5.neRfs hla) hla
      have hR6 := B5.keepAk k6 hR
      refine ⟨.ref la, rfl, _, rfl, (by decide : 1 ≤ sizeLine), fun p np => ?_⟩
      have s7 := same_upd (o := .lst [.ref t]) np
      have B7 := B6.same s7
      have hp7 : upd H6 p (.lst [.ref t]) p = some (.lst [.ref t]) := upd_same
      have k7 : Keep g.b H _ := (k5.trans k6).trans (Keep.of s7)
      have hla7 := s7 _ _ hla6
      have hR7 := hR6.same s7
      have ht7 := s7 _ _ ht
      generalize upd H6 p (.lst [.ref t]) = H7 at B7 hp7 k7 hla7 hR7 ht7
      have hok : ∀ b ∈ ps.map (·.2), okS b := fun b hb => by
        obtain ⟨p', hp', rfl⟩ := List.mem_map.mp hb
        exact arrB_okS hls (hA p' hp')
      refine ⟨.ref t, rfl, .ref la, rfl, adat a, (ps.map fun p : AR => p.2).map adat, dp_arw (p := (t, a)) (SqT.of ht7), .lst (SqL.of hla7) (dpRow hR7.row), shA (arrB_okS hls ha), shR hok, .inr ⟨_, rfl, ?_⟩⟩
      rw [any_adat]
      by_cases hin : a ∈ ps.map (·.2)
      · rw [decide_eq_true hin]
        refine ⟨p, 0, [.ref t], rfl, rfl, hp7, by decide, by decide, (show 1 * 0 ≤ sizeLine by decide), fun p8 np8 => ?_⟩
        have s8 := same_upd (o := .lst (List.replicate (Int.toNat 0) [V.ref t]).flatten) np8
        refine ⟨la, p8, rfs ps, [], rfl, rfl, s8 _ _ hla7, upd_same, ?_, fun p9 np9 => ?_⟩
        · unfold rfs
          rw [List.length_map]
          show ps.length + 0 ≤ sizeLine
          omega
        · have s9 := s8.trans (same_upd (o := .lst (rfs ps ++ [])) np9)
          exact ⟨p9, ps, _, _, rfl, by rw [upd_same, List.append_nil], hR7.same s9, hA, hnd, by omega, k7.trans (Keep.of s9), B7.same s9⟩
      · rw [decide_eq_false hin]
        refine ⟨p, 1, [.ref t], rfl, rfl, hp7, by decide, by decide, (by decide : 1 ≤ sizeLine), fun p8 np8 => ?_⟩
        have s8 := same_upd (o := .lst (List.replicate (Int.toNat 1) [V.ref t]).flatten) np8
        refine ⟨la, p8, rfs ps, [.ref t], rfl, rfl, s8 _ _ hla7, upd_same, ?_, fun p9 np9 => ?_⟩
        · unfold rfs
          rw [List.length_map]
          show ps.length + 1 ≤ sizeLine
          omega
        · have s9 := s8.trans (same_upd (o := .lst (rfs ps ++ [.ref t])) np9)
          refine ⟨p9, ps ++ [(t, a)], _, _, rfl, ?_, ?_, ?_, ?_, ?_, k7.trans (Keep.of s9), B7.same s9⟩
          · rw [upd_same]
            unfold rfs
            rw [List.map_append]
            rfl
          · intro p' hp'
            rcases List.mem_append.mp hp' with h | h
            · exact hR7.same s9 p' h
            · rw [List.mem_singleton.mp h]
              exact s9 _ _ ht7
          · intro p' hp'
            rcases List.mem_append.mp hp' with h | h
            · exact hA p' h
            · rw [List.mem_singleton.mp h]
              exact ha
          · rw [List.map_append, List.nodup_append]
            refine ⟨hnd, by simp, fun b hb c hc e => ?_⟩
            have := List.mem_singleton.mp hc
            subst this e
            exact hin hb
          · rw [List.length_append]
            show ps.length + 1 ≤ i + 1
            omega
    · rintro σ H5 ⟨la, ps, y7, y8, rfl, hla, hR, hA, hnd, hln, k5, B5⟩
      refine ⟨_, rfl, _, rfl, _, rfl, _, rfl, _, rfl, g, 1 + x, rfl, by omega, by omega, B5, fun fs lf H6 hf1 hf2 hf3 hf4 k6 B6 => ?_⟩
      refine ⟨_, rfl, _, rfl, g, 1 + x, rfl, by omega, by omega, B6, fun gs lg H7 hg1 hg2 hg3 hg4 k7 B7 => ?_⟩
      refine ⟨(by decide : 5 ≤ sizeLine), fun t nt => ?_⟩
      have s8 := same_upd (o := .tup [.int (1 + x), .str (Sx ls), .ref la, .ref lf, .ref lg]) nt
      refine q t ⟨1 + x, ls, ps.map (·.2), fs, gs⟩ _ ⟨(show 1 ≤ 1 + x by omega), (show 1 + x ≤ 8 by omega), hls, fun a ha => ?_, hnd, ?_, hf1, hf2, hg1, hg2, hf3, hg3⟩ (show 1 + x ≤ rm by omega) hll ?_ hlow ⟨la, lf, lg, ps, upd_same, ?_, ?_, rfl, ?_, ?_⟩ (((k5.trans k6).trans k7).trans (Keep.of s8)) (B7.same s8)
      · obtain ⟨p', hp', rfl⟩ := List.mem_map.mp ha
        exact hA p' hp'
      · rw [List.length_map]
        omega
      · rw [List.length_map]
        omega
      · exact s8 _ _ (k7 _ _ (B6.neRfs (k6 _ _ (B5.neRfs hla) hla)) (k6 _ _ (B5.neRfs hla) hla))
      · exact (B6.keepAk k7 (B5.keepAk k6 hR)).same s8
      · exact s8 _ _ (k7 _ _ (B6.neInts hf4) hf4)
      · exact s8 _ _ hg4
end
end Onp
set_option autoImplicit false
namespace L2
open PySem PySem.Spec PyProof.Rows
section
variable {X : Cx}
/-- a statement, then the rest, with a word between them -/
def tCutM (t u : TS) : TS := fun D σ H => ∃ Mid : L2.St → Hp → Prop, t { D with nx := Mid } σ H ∧ ∀ σ' H', Mid σ' H' → u D σ' H'
theorem pss_cutM {st : Stmt} {rest : List Stmt} {t u : TS} (h1 : PS X st t) (h2 : PSs X rest u) : PSs X (st :: rest) (tCutM t u) := by
  refine ⟨fun pins s σ H D I h => ?_⟩
  obtain ⟨Mid, hm, hu⟩ := h
  refine wpAny_execs_cons (thn (h1.run pins s σ H { D with nx := Mid } I hm) fun f s1 q => ?_)
  cases f with
  | next =>
    obtain ⟨σ', H', I', q⟩ := q
    exact h2.run pins s1 σ' H' D I' (hu σ' H' q)
  | ret v => exact q
  | brk => exact q
  | cont => exact q
end
end L2
set_option maxHeartbeats 8000000
set_option autoImplicit false
namespace Onp
open PySem PySem.Spec PyProof.Rows L2 HotX L2H LamX
abbrev sDue : Stmt := topS 56
abbrev sRi : Stmt := topS 57
def RQ : Str := ("_law_right" : Str) ++ ".<locals>." ++ "<lambda>"
/-- the word that is due -/
def dueW (M : AM) : Str := match whyM M with
  | none => ""
  | some nm => wordOf nm
theorem why_in {M : AM} {nm : Str} (h : whyM M = some nm) : nm ∈ (["BadSize", "BadLetters", "BadArrow", "BadRoom", "Full"] : List Str) ∧ nm ≠ "TooWide" := by
  unfold whyM at h
  have hs : nm = "BadSize" ∨ nm = "BadLetters" ∨ nm = "BadArrow" ∨ nm = "Full" ∨ nm = "BadRoom" := by
    repeat' split at h
    all_goals first | (cases h; simp) | cases h
  rcases hs with rfl | rfl | rfl | rfl | rfl <;> exact ⟨by decide +kernel, by decide +kernel⟩
theorem sh_hand {M : AM} (h : M.okS) : SeqAt.shaped (.list [.list (M.as.map adat), .list (M.fs.map .int), .list (M.gs.map .int)]) = true := by
  unfold SeqAt.shaped
  have h1 : (PyData.list [.list (M.as.map adat), .list (M.fs.map .int), .list (M.gs.map .int)]).canLay0 = true := by
    simp only [PyData.canLay0, PyData.canLayAll0, lay_row h, lay_ints, Bool.and_true]
  have h2 : (PyData.list [.list (M.as.map adat), .list (M.fs.map .int), .list (M.gs.map .int)]).depth ≤ 64 := by
    simp only [PyData.depth, PyData.depthAll, PySem.W.depth_ints]
    have := dep_row M.as
    omega
  rw [h1, decide_eq_true h2]
  rfl
theorem word_ne {M : AM} {nm : Str} (h : whyM M = some nm) : wordOf nm ≠ "" ∧ SeqAt.shaped (.tuple [.str (wordOf nm), .none]) = true ∧ PyData.eqv (.tuple [.str (wordOf nm), .none]) (.tuple [.str (wordOf nm), .none]) = true := by
  have hs := (why_in h).1
  simp only [List.mem_cons, List.not_mem_nil, or_false] at hs
  rcases hs with rfl | rfl | rfl | rfl | rfl <;> exact ⟨by decide +kernel, by decide +kernel, by decide +kernel⟩
theorem iteNF5 {c A B : Prop} [Decidable c] (hc : ¬ c) (h : A) : if (!decide c) = true then A else B := by
  rw [decide_eq_false hc]
  exact iteT h
theorem eqv_hand (M : AM) : PyData.eqv (.list [.list (M.as.map adat), .list (M.fs.map .int), .list (M.gs.map .int)]) (.list [.list (M.as.map adat), .list (M.fs.map .int), .list (M.gs.map .int)]) = true := by
  simp only [PyData.eqv, PyData.eqvAll, eqvAll_A, eqvAll_I, decide_true, Bool.and_true]
theorem sqT_wipe {K : PySem.W.Frag} {H : Hp} {D a : Addr} {xs ys zs : List V} (h : H D = some (.lst xs)) (x : SqT K H a zs) : SqT K (upd H D (.lst ys)) a zs := by
  rcases x with (h' | ⟨o, h'⟩) | h'
  · exact .inl (.inl (by rw [upd_ne (ne_of h' h (fun z => by cases z))]; exact h'))
  · exact .inl (.inr ⟨o, by rw [upd_ne (ne_of h' h (fun z => by cases z))]; exact h'⟩)
  · exact .inr h'
theorem MachAt.wipe {K : PySem.W.Frag} {C : Addr} {H : Hp} {m h : Addr} {M : AM} {zs ys : List V} (mm : MachAt K C H m M) (hh : H h = some (.lst zs)) (hz : ∀ a, zs.head? = some (.ref a) → ∃ b : List V, H a = some (.tup b) ∧ b.length = 4) : MachAt K C (upd H h (.lst ys)) m M := by
  obtain ⟨dx, ta, tf, tg, D, ps, h1, h2, h3, h4, h5, h6, kvs, h7, h8, h9⟩ := mm
  have w : ∀ {a : Addr} {o : HO}, H a = some o → (∀ l, o ≠ .lst l) → (upd H h (.lst ys)) a = some o := fun e n => by
    rw [upd_ne (ne_of e hh (fun z => n _ z))]
    exact e
  refine ⟨dx, ta, tf, tg, D, ps, w h1 (fun l z => by cases z), w h2 (fun l z => by cases z), fun p hp => sqT_wipe hh (h3 p hp), h4, w h5 (fun l z => by cases z), w h6 (fun l z => by cases z), kvs, w h7 (fun l z => by cases z), h8, fun r l hne => ?_⟩
  obtain ⟨a, xs, ea, x1, x2, x3⟩ := h9 r l hne
  have na : a ≠ h := fun e => by
    rw [e, hh] at x1
    have ez : zs = xs.map fun x => V.ref x.1 := HO.lst.inj (Option.some.inj x1)
    cases xs with
    | nil => exact hne x3.symm
    | cons x xs =>
      obtain ⟨b, hb, hl⟩ := hz x.1 (by rw [ez]; rfl)
      have := x2 x List.mem_cons_self
      rw [hb] at this
      have eb : b = [.str x.2.1, .int x.2.2] := HO.tup.inj (Option.some.inj this)
      rw [eb] at hl
      exact absurd hl (fun z => by cases z)
  exact ⟨a, xs, ea, by rw [upd_ne na]; exact x1, fun x hx => w (x2 x hx) (fun l z => by cases z), x3⟩
/-- what parts may be handed in -/
structure Pw (M : AM) : Prop where
  ls : M.ls.length ≤ 16
  sg : ∀ c ∈ M.ls, c < 128
  as : M.as.length ≤ 52
  ok : M.okS
  lt : ∀ a ∈ M.as, a.2.1.length ≤ 16
  fs : M.fs.length ≤ 99
  gs : M.gs.length ≤ 99
section
variable {P : Program} {w : World} {K : PySem.W.Frag} {mg : Str → Option Value} {base : Heap}
def spDue (K : PySem.W.Frag) : Sp := fun vs H Q _ => ∃ (t : Addr) (M : AM), vs = [.ref t] ∧ DrawnAt K H t M ∧ Pw M ∧ ∀ H', Same H H' → Q (.str (dueW M)) H'
def NRi : List Str := ["_law_m", "_law_arrows", "_law_firsts_z", "_law_lasts_z", "_law_due_here", "_law_told_here", "_law_made", "_law_thing", "_law_again_z", "_law_handed", "_law_letters_here", "_law_rooms"]
theorem scRi : FnScope NRi ["_law_m"] (defScope sRi) := ⟨rfl, rfl, rfl, by decide +kernel, rfl, by decide +kernel, by decide +kernel⟩
def spRi (K : PySem.W.Frag) (TT : List (Addr × Str)) : Sp := fun vs H Q _ => ∃ (t : Addr) (M : AM), vs = [.ref t] ∧ DrawnHp H t M ∧ Pw M ∧ Tabs TT H ∧ ∀ H', ExtN H H' → Tabs TT H' → Q (.bl true) H'
theorem ok_ri {f C fI fLn fDu fSm fTe fSo fTo fKn fAw fFs fLs c tS cP cM : Addr} {fdI fdLn fdDu fdSm fdTe fdSo fdTo fdKn fdAw fdFs fdLs : FuncData} {ec : Str → Addr} {TT : List (Addr × Str)} {k : Nat} {dvs : List V} {kws : List (Str × V)} {oc : Value} {od : Option Addr} {kV doc pm ct : Value} {an : Option Addr} {osl : Array (Option Value)}
    (lk : K.lookup f = some ⟨oc, od, .func (PySem.W.fnOf "_law_right" "_law_right" (defArgs sRi) (defBody sRi) (defScope sRi) .none kV doc pm an (.ref c) ct), osl⟩) (hcd : PySem.W.codeIn K (.ref c) "_law_right" = true)
    (T : MkM K mg C fdI fI dvs kws) (GIX : FnOk P w K mg base (L2N.CX P w) (k + 4) fI fdI psMI (spMInitX K C ec)) (FLn : Fun K "__len__" "Machine.__len__" sMLen fLn fdLn) (bLn : Binds K fdLn ["self"] []) (hLn : PySem.W.findIn K (.ref C) "__len__" = some (some (.ref fLn))) (hfLn : PySem.W.isFn K (.ref fLn) = true)
    (FAw : Fun K "arrows" "Machine.arrows" sMArrs fAw fdAw) (bAw : Binds K fdAw ["self"] []) (mAw : Meth K C "arrows" fAw) (FFs : Fun K "firsts" "Machine.firsts" sMFsts fFs fdFs) (bFs : Binds K fdFs ["self"] []) (mFs : Meth K C "firsts" fFs) (FLs : Fun K "lasts" "Machine.lasts" sMLsts fLs fdLs) (bLs : Binds K fdLs ["self"] []) (mLs : Meth K C "lasts" fLs)
    (Du : FnM K mg fDu fdDu "_law_due" sDue ["_law_m"]) (GDu : FnOk P w K mg base CX0 (k + 7) fDu fdDu ["_law_m"] (spDue K)) (Sm : FnM K mg fSm fdSm "_law_same" sSame ["_law_found", "_law_due_here"]) (GSm : FnOk P w K mg base CX0 (k + 7) fSm fdSm ["_law_found", "_law_due_here"] (spSame K 3))
    (Te : FnM K mg fTe fdTe "_law_tells" sLTells ["_law_made"]) (GTe : FnOk P w K mg base CX0 (k + 7) fTe fdTe ["_law_made"] (spLTells K C)) (So : FnM K mg fSo fdSo "_law_sorted" sSortd ["_law_m"]) (GSo : FnOk P w K mg base CX0 (k + 7) fSo fdSo ["_law_m"] (spSortd K))
    (To : FnM K mg fTo fdTo "_law_told" sTold ["_law_ask"]) (Kn : FnM K mg fKn fdKn "_law_kind" sKind ["_law_e"]) (KD : Kd K mg ec ["BadSize", "BadLetters", "BadArrow", "BadRoom", "Full"] cP cM) (Bl : Blt mg) (mr : mg "range" = none) (TB : TabB base mg c tS) (hm : (tS, RQ) ∈ TT) (hu : ∀ p ∈ TT, p.1 = tS → p.2 = RQ) :
    FnOk P w K mg base CX0 (k + 8) f (PySem.W.fnOf "_law_right" "_law_right" (defArgs sRi) (defBody sRi) (defScope sRi) .none kV doc pm an (.ref c) ct) ["_law_m"] (spRi K TT) := by
  obtain ⟨gg, KB2⟩ := kb_made2 T.F T.nd T.one
  have GLn : FnOk P w K mg base CX0 (k + 6) fLn fdLn ["self"] (spMLen K C) := ok_mlen FLn T.cl Bl.len
  have GAw : FnOk P w K mg base CX0 (k + 7) fAw fdAw ["self"] (spMArrs K C) := ok_marrs FAw T.cl Bl.list
  have GFs : FnOk P w K mg base CX0 (k + 7) fFs fdFs ["self"] (spMFsts K C) := ok_mfsts FFs T.cl Bl.list
  have GLs : FnOk P w K mg base CX0 (k + 7) fLs fdLs ["self"] (spMLsts K C) := ok_mlsts FLs T.cl Bl.list
  obtain ⟨oc2, od2, kV2, doc2, pm2, an2, cdv2, ct2, osl2, rfl, lkT, hcdT⟩ := To.F.ex
  refine fn_of lk hcd scRi (fun vs H Q E h => ?_) (fun A outer s H vs Q E hr h => ?_)
  · obtain ⟨t, M, rfl, _⟩ := h
    rfl
  · obtain ⟨t, M, rfl, dH, pw, T0, q⟩ := h
    have dM : DrawnAt K H t M := dH.at_
    refine ⟨_, PSs.nox (pss_cons (ps_asg (pv 0) (pg_tup rfl (pgs_cons (pg_name (i := 11) scRi.nd rfl (.inr rfl)) (pgs_cons (pg_name (i := 10) scRi.nd rfl (.inr rfl)) (pgs_cons (pg_name (i := 1) scRi.nd rfl (.inl rfl)) (pgs_cons (pg_name (i := 2) scRi.nd rfl (.inl rfl)) (pgs_cons (pg_name (i := 3) scRi.nd rfl (.inl rfl)) pgs_nil)))))))
      (pss_cutM (ps_set (i := 4) scRi.nd rfl (.inl rfl) (pe_call GDu hr (by rfl) Du.g Du.F.kp Du.b .nil pass0 (pa_cons (pv 0) pa_nil)))
      (pss_cons (ps_set (i := 9) scRi.nd rfl (.inr rfl) (pe_lst (pa_cons (pe_callTy call_list_of (by rfl) Bl.list (by decide +kernel) (pa_cons (pv 1) pa_nil)) (pa_cons (pe_callTy call_list_of (by rfl) Bl.list (by decide +kernel) (pa_cons (pv 2) pa_nil)) (pa_cons (pe_callTy call_list_of (by rfl) Bl.list (by decide +kernel) (pa_cons (pv 3) pa_nil)) pa_nil)))))
      (pss_cutM (ps_set (i := 5) scRi.nd rfl (.inl rfl) (pe_lamN (k := k + 5) (T := TT) (TT := TTold ec ["BadSize", "BadLetters", "BadArrow", "BadRoom", "Full"]) (t := fun E => tMakeN C 3 2 (spMInitX K C ec) (fun vs zs => vs ++ zs.reverse) E (tCons (tVar 11) (tCons (tVar 10) (tCons (tOp (rIxL K) (tVar 9) (tC (.int 0))) tNil))) (tCons (tOp (rIxL K) (tVar 9) (tC (.int 2))) (tCons (tOp (rIxL K) (tVar 9) (tC (.int 1))) tNil))) (by rfl) To.g To.F.kp lkT hcdT To.b scTold rfl (.inl rfl)
              (told_gives KD ⟨by decide +kernel, by decide +kernel⟩ (fun z => absurd z (by decide +kernel)) Kn.F Kn.b Kn.g Bl.isi Bl.zip) TB rfl hm hu hr (show LamS (defScope sRi) _ from lamS_by (by decide +kernel)) rfl (fun _ _ _ _ _ => rfl)
              (fun A outer s H E f c' hr2 => (pe_makeN (E := E) (n := 3) (ks := ["lasts", "firsts"]) T.mak GIX hr2 (by rfl) T.g KB2 (L2N.passes_call (L2N.takes_of (E := E) rfl rfl rfl rfl) fun _ _ _ _ z => z) (pa_cons (pv 11) (pa_cons (pv 10) (pa_cons (pe_ix ix_list (pv 9) pe_int (fun _ _ => rfl)) pa_nil))) (pk_cons (pe_ix ix_list (pv 9) pe_int (fun _ _ => rfl)) (pk_cons (pe_ix ix_list (pv 9) pe_int (fun _ _ => rfl)) pk_nil))))))
      (pss_cutM (ps_if (pt_cmpR (op_neD hr.units) (pv 9) (pe_lst (pa_cons (pv 1) (pa_cons (pv 2) (pa_cons (pv 3) pa_nil)))) (nomark _)) pss_never pss_nil)
      (pss_cutM (ps_if (pt_cmpR op_ne (pv 4) pe_str (nomark _)) (pss_one (ps_ret (pe_cmpR (op_eqD hr.units) (pv 5) (pe_tup (pa_cons (pv 4) (pa_cons pe_non pa_nil))) (nomark _)))) pss_nil)
      (pss_cutM (ps_if (pt_cmpR op_ne (pe_ix ix_tup (pv 5) pe_int (fun _ _ => rfl)) pe_str (nomark _)) pss_never pss_nil)
      (pss_cons (ps_set (i := 6) scRi.nd rfl (.inl rfl) (pe_ix ix_tup (pv 5) pe_int (fun _ _ => rfl)))
      (pss_cutM (ps_for PassesOwn.never rfl (pi_list (pv 9)) (pg_name (i := 7) scRi.nd rfl (.inl rfl))
        (pss_one (ps_expr (pe_bm0 PySem.F.plainAttrs_list PySem.F.slot_list_clear PySem.F.type_list_clear mt_clear (pv 7)))))
      (pss_cutM (ps_for PassesOwn.never rfl (pi_range1 (by rfl) mr (pa_cons pe_int pa_nil)) (pg_name (i := 8) scRi.nd rfl (.inl rfl))
        (pss_cons (ps_if (pt_not (pt_val (pe_call GSm hr (by rfl) Sm.g Sm.F.kp Sm.b .nil pass0 (pa_cons (pe_call GTe hr (by rfl) Te.g Te.F.kp Te.b .nil pass0 (pa_cons (pv 6) pa_nil)) (pa_cons (pe_call GSo hr (by rfl) So.g So.F.kp So.b .nil pass0 (pa_cons (pv 0) pa_nil)) pa_nil))))) pss_never pss_nil)
      (pss_cons (ps_expr (pe_bm PySem.F.plainAttrs_list PySem.F.slot_list_append PySem.F.type_list_append mt_append (pe_meth0 (pv 6) T.cl.cl mAw GAw hr bAw .nil pass0) (pa_cons (pe_tup (pa_cons pe_int (pa_cons (pv 10) (pa_cons pe_str (pa_cons pe_int pa_nil))))) pa_nil)))
      (pss_cons (ps_expr (pe_bm0 PySem.F.plainAttrs_list PySem.F.slot_list_reverse PySem.F.type_list_reverse mt_reverse (pe_meth0 (pv 6) T.cl.cl mFs GFs hr bFs .nil pass0)))
      (pss_one (ps_expr (pe_bm PySem.F.plainAttrs_list PySem.F.slot_list_append PySem.F.type_list_append mt_append (pe_meth0 (pv 6) T.cl.cl mLs GLs hr bLs .nil pass0) (pa_cons pe_int pa_nil))))))))
      (pss_one (ps_ret (pe_cmpR op_eq (pe_callB (call_lenOwn GLn bLn pass0 hLn hfLn hr) (by rfl) Bl.len PySem.boot_len (pa_cons (pv 6) pa_nil)) (pe_callB call_len_seq (by rfl) Bl.len PySem.boot_len (pa_cons (pv 1) pa_nil)) (nomark _)))))))))))))), ?_⟩
    have hbig : 50000 ≤ sizeLine := by decide
    obtain ⟨la, lf, lg, ps, d1, d2, d3h, d4, d5, d6⟩ := id dH
    have d3 : RowAt K H ps := d3h.row
    refine ⟨_, rfl, t, _, rfl, SqT.of d1, rfl, _, _, rfl, _, _, rfl, _, _, rfl, _, _, rfl, _, _, rfl, rfl, ?_⟩
    refine ⟨fun σ' H' => σ' = [some (.ref t), some (.ref la), some (.ref lf), some (.ref lg), some (.str (dueW M)), none, none, none, none, none, some (.str (Sx M.ls)), some (.int M.n)] ∧ Same H H', ⟨_, rfl, t, M, rfl, dM, pw, fun H' s' => ⟨rfl, s'⟩⟩, ?_⟩
    rintro σ H1 ⟨rfl, s1⟩
    have hpl : ps.length = M.as.length := by
      have := congrArg List.length d4
      rw [List.length_map] at this
      exact this
    -- handed in
    refine ⟨_, rfl, la, rfs ps, rfl, .inl (SqL.of (s1 _ _ d2)), fun h1 n1 => ?_⟩
    have s2 := same_upd (o := .lst (rfs ps)) n1
    have e1 : (upd H1 h1 (.lst (rfs ps))) h1 = some (.lst (rfs ps)) := upd_same
    generalize upd H1 h1 (.lst (rfs ps)) = H2 at s2 e1
    refine ⟨_, rfl, lf, M.fs.map V.int, rfl, .inl (SqL.of ((s1.trans s2) _ _ d5)), fun h2 n2 => ?_⟩
    have s3 := same_upd (o := .lst (M.fs.map V.int)) n2
    have e2 : (upd H2 h2 (.lst (M.fs.map V.int))) h2 = some (.lst (M.fs.map V.int)) := upd_same
    generalize upd H2 h2 (.lst (M.fs.map V.int)) = H3 at s3 e2
    refine ⟨_, rfl, lg, M.gs.map V.int, rfl, .inl (SqL.of ((s1.trans (s2.trans s3)) _ _ d6)), fun h3 n3 => ?_⟩
    have s4 := same_upd (o := .lst (M.gs.map V.int)) n3
    have e3 : (upd H3 h3 (.lst (M.gs.map V.int))) h3 = some (.lst (M.gs.map V.int)) := upd_same
    generalize upd H3 h3 (.lst (M.gs.map V.int)) = H4 at s4 e3
    refine ⟨(by decide : 3 ≤ sizeLine), fun hd nhd => ?_⟩
    have s5 := same_upd (o := .lst [.ref h1, .ref h2, .ref h3]) nhd
    have e4 : (upd H4 hd (.lst [.ref h1, .ref h2, .ref h3])) hd = some (.lst [.ref h1, .ref h2, .ref h3]) := upd_same
    generalize upd H4 hd (.lst [.ref h1, .ref h2, .ref h3]) = H5 at s5 e4
    have s05 := s1.trans (s2.trans (s3.trans (s4.trans s5)))
    have g1 := (s3.trans (s4.trans s5)) _ _ e1
    have g2 := (s4.trans s5) _ _ e2
    have g3 := s5 _ _ e3
    have hR5 : RowAt K H5 ps := fun p hp => sameT s05 (d3 p hp)
    have z1 : H h1 = none := s1.free n1
    have z2 : H h2 = none := (s1.trans s2).free n2
    have z3 : H h3 = none := (s1.trans (s2.trans s3)).free n3
    have ndh : ∀ h ∈ [h1, h2, h3], hd ≠ h ∧ H h = none := fun h hh => by
      simp only [List.mem_cons, List.not_mem_nil, or_false] at hh
      rcases hh with rfl | rfl | rfl
      · exact ⟨fun z => (by rw [z, (s3.trans s4) _ _ e1] at nhd; cases nhd), z1⟩
      · exact ⟨fun z => (by rw [z, s4 _ _ e2] at nhd; cases nhd), z2⟩
      · exact ⟨fun z => (by rw [z, e3] at nhd; cases nhd), z3⟩
    clear s1 s2 s3 s4 s5 e1 e2 e3 n1 n2 n3 nhd
    -- told
    refine ⟨fun σ' H' => ∃ (r : Addr) (y : V), σ' = [some (.ref t), some (.ref la), some (.ref lf), some (.ref lg), some (.str (dueW M)), some (.ref r), none, none, none, some (.ref hd), some (.str (Sx M.ls)), some (.int M.n)] ∧ ExtN H5 H' ∧ Tabs TT H' ∧ ((whyM M = none ∧ H' r = some (.tup [.str "told", y]) ∧ ∃ m, y = .ref m ∧ MachAt K C H' m M.srt) ∨ (∃ nm, whyM M = some nm ∧ H' r = some (.tup [.str (wordOf nm), .non]))), ?_, ?_⟩
    · refine ⟨T0.ext s05, fun H6 x6 T6 => ?_⟩
      have q1 := x6 _ _ e4 (fun ps z => by cases z)
      have r1 := x6 _ _ g1 (fun ps z => by cases z)
      have r2 := x6 _ _ g2 (fun ps z => by cases z)
      have r3 := x6 _ _ g3 (fun ps z => by cases z)
      have hR6 : RowAt K H6 ps := fun p hp => sqT_extN x6 (hR5 p hp)
      refine ⟨_, rfl, _, rfl, _, rfl, hd, _, 0, _, rfl, rfl, SqL.of q1, rfl, ?_⟩
      refine ⟨_, rfl, hd, _, 2, _, rfl, rfl, SqL.of q1, rfl, _, rfl, hd, _, 1, _, rfl, rfl, SqL.of q1, rfl, ?_⟩
      refine ⟨rfl, rfl, fun x dx nx ndx ne => ?_⟩
      have sx : Same H6 (upd (upd H6 dx (.own x)) x (.ins C dx [])) := fun b o hb => by
        rw [upd_ne (ne_of_none hb nx), upd_ne (ne_of_none hb ndx)]
        exact hb
      refine ⟨x, dx, h1, h2, h3, ps, M, rfl, upd_same, .inl (SqL.of (sx _ _ r1)), (fun p hp => sameT sx (hR6 p hp)), d4, fun p hp => ?_, ?_, .inl (SqL.of (sx _ _ r2)), .inl (SqL.of (sx _ _ r3)), by have := pw.ls; omega, by have := pw.fs; omega, by have := pw.gs; omega, fun nm hw H' s' => ?_, fun hw H' k' mm => ⟨rfl, fun p np => ?_⟩⟩
      · have := pw.lt p.2 (by rw [← d4]; exact List.mem_map_of_mem hp)
        omega
      · have := pw.as
        omega
      · obtain ⟨w1, w2⟩ := why_in hw
        exact eh_w w1 rfl w2 fun H2 p s er => ⟨p, .non, rfl, x6.trans (same_extN ((sx.trans s').trans s)), T6.ext ((sx.trans s').trans s), .inr ⟨nm, hw, er⟩⟩
      · have sp := same_upd (o := .tup [.str "told", .ref x]) np
        have s6 : Same H6 H' := fun b o hb => k' _ _ (ne_of_none hb nx) (sx _ _ hb)
        exact ⟨p, .ref x, rfl, x6.trans (same_extN (s6.trans sp)), T6.ext (s6.trans sp), .inl ⟨hw, upd_same, x, rfl, mm.same sp⟩⟩
    rintro σ H6 ⟨r, y, rfl, x6, T6, hres⟩
    have q1 := x6 _ _ e4 (fun ps z => by cases z)
    have r1 := x6 _ _ g1 (fun ps z => by cases z)
    have r2 := x6 _ _ g2 (fun ps z => by cases z)
    have r3 := x6 _ _ g3 (fun ps z => by cases z)
    have hR6 : RowAt K H6 ps := fun p hp => sqT_extN x6 (hR5 p hp)
    have x06 : ExtN H H6 := (same_extN s05).trans x6
    have dM6 := dM.extN x06
    have f2 := x06 _ _ d2 (fun ps z => by cases z)
    have f5 := x06 _ _ d5 (fun ps z => by cases z)
    have f6 := x06 _ _ d6 (fun ps z => by cases z)
    clear g1 g2 g3 hR5 T0 s05 e4
    -- handed in as it was
    refine ⟨fun σ' H' => σ' = [some (.ref t), some (.ref la), some (.ref lf), some (.ref lg), some (.str (dueW M)), some (.ref r), none, none, none, some (.ref hd), some (.str (Sx M.ls)), some (.int M.n)] ∧ Same H6 H', ?_, ?_⟩
    · refine ⟨_, rfl, _, rfl, _, rfl, _, rfl, (by decide : 3 ≤ sizeLine), fun z nz => ?_⟩
      have sz := same_upd (o := .lst [.ref la, .ref lf, .ref lg]) nz
      have hsh := sh_hand pw.ok
      have hps : ∀ {Hx : Hp}, RowAt K Hx ps → DpAll K Hx (rfs ps) (M.as.map adat) := fun h => by rw [← d4]; exact dpRow h
      refine ⟨.list [.list (M.as.map adat), .list (M.fs.map .int), .list (M.gs.map .int)], .list [.list (M.as.map adat), .list (M.fs.map .int), .list (M.gs.map .int)],
        .lst (SqL.of (sz _ _ q1)) (.cons (.lst (SqL.of (sz _ _ r1)) (hps (hR6.same sz))) (.cons (.lst (SqL.of (sz _ _ r2)) (dpInts _)) (.cons (.lst (SqL.of (sz _ _ r3)) (dpInts _)) .nil))),
        .lst (SqL.of upd_same) (.cons (.lst (SqL.of (sz _ _ f2)) (hps (hR6.same sz))) (.cons (.lst (SqL.of (sz _ _ f5)) (dpInts _)) (.cons (.lst (SqL.of (sz _ _ f6)) (dpInts _)) .nil))), hsh, hsh, _, rfl, ?_⟩
      rw [eqv_hand]
      exact iteF ⟨rfl, sz⟩
    rintro σ H7 ⟨rfl, s7⟩
    have x07 : ExtN H H7 := x06.trans (same_extN s7)
    have T7 := T6.ext s7
    have hres7 : (whyM M = none ∧ H7 r = some (.tup [.str "told", y]) ∧ ∃ m, y = .ref m ∧ MachAt K C H7 m M.srt) ∨ (∃ nm, whyM M = some nm ∧ H7 r = some (.tup [.str (wordOf nm), .non])) := by
      rcases hres with ⟨hw, hr', m, e, mm⟩ | ⟨nm, hw, hr'⟩
      · exact .inl ⟨hw, s7 _ _ hr', m, e, mm.same s7⟩
      · exact .inr ⟨nm, hw, s7 _ _ hr'⟩
    -- refused
    refine ⟨fun σ' H' => σ' = [some (.ref t), some (.ref la), some (.ref lf), some (.ref lg), some (.str (dueW M)), some (.ref r), none, none, none, some (.ref hd), some (.str (Sx M.ls)), some (.int M.n)] ∧ H7 = H' ∧ whyM M = none, ?_, ?_⟩
    · refine ⟨_, rfl, rfl, _, rfl, ?_⟩
      rcases hres7 with ⟨hw, hr', _⟩ | ⟨nm, hw, hr'⟩
      · exact iteNS (by unfold dueW; rw [hw]) ⟨rfl, rfl, hw⟩
      · obtain ⟨w1, w2, w3⟩ := word_ne hw
        have ed : dueW M = wordOf nm := by unfold dueW; rw [hw]
        refine iteNF5 (fun z => w1 (by rw [← ed]; exact V.str.inj z)) ?_
        refine ⟨_, rfl, _, rfl, (by decide : 2 ≤ sizeLine), fun tq ntq => ?_⟩
        rw [ed]
        have sq := same_upd (o := .tup [.str (wordOf nm), .non]) ntq
        refine ⟨.tuple [.str (wordOf nm), .none], .tuple [.str (wordOf nm), .none], .tup (SqT.of (sq _ _ hr')) (.cons (.str _) (.cons .non .nil)), .tup (SqT.of upd_same) (.cons (.str _) (.cons .non .nil)), w2, w2, ?_⟩
        rw [w3]
        exact q _ (x07.trans (same_extN sq)) (T7.ext sq)
    rintro σ H' ⟨rfl, rfl, hw⟩
    obtain ⟨_, hr7, m, rfl, mm⟩ : whyM M = none ∧ H7 r = some (.tup [.str "told", y]) ∧ ∃ m, y = .ref m ∧ MachAt K C H7 m M.srt := by
      rcases hres7 with h | ⟨nm, h, _⟩
      · exact h
      · rw [hw] at h
        cases h
    -- told
    refine ⟨fun σ' H' => σ' = [some (.ref t), some (.ref la), some (.ref lf), some (.ref lg), some (.str (dueW M)), some (.ref r), none, none, none, some (.ref hd), some (.str (Sx M.ls)), some (.int M.n)] ∧ H7 = H', ⟨_, rfl, r, _, 0, _, rfl, rfl, SqT.of hr7, rfl, rfl, _, rfl, iteNS rfl ⟨rfl, rfl⟩⟩, ?_⟩
    rintro σ H' ⟨rfl, rfl⟩
    refine ⟨_, rfl, r, _, 1, _, rfl, rfl, SqT.of hr7, rfl, ?_⟩
    -- cleared
    have hs0 : ∀ h ∈ [h1, h2, h3], ∃ zs, H7 h = some (.lst zs) ∧ ∀ a, zs.head? = some (V.ref a) → ∃ b : List V, H7 a = some (.tup b) ∧ b.length = 4 := fun h hh => by
      simp only [List.mem_cons, List.not_mem_nil, or_false] at hh
      rcases hh with rfl | rfl | rfl
      · refine ⟨_, s7 _ _ r1, fun a e => ?_⟩
        cases ps with
        | nil => cases e
        | cons p ps =>
          obtain rfl := V.ref.inj (Option.some.inj e)
          exact ⟨_, x07 _ _ (d3h p List.mem_cons_self) (fun ps z => by cases z), rfl⟩
      · refine ⟨_, s7 _ _ r2, fun a e => ?_⟩
        cases hf : M.fs with
        | nil => rw [hf] at e; cases e
        | cons x l => rw [hf] at e; cases e
      · refine ⟨_, s7 _ _ r3, fun a e => ?_⟩
        cases hf : M.gs with
        | nil => rw [hf] at e; cases e
        | cons x l => rw [hf] at e; cases e
    have q7 := s7 _ _ q1
    refine ⟨fun σ' H' => ∃ y7 : Option V, σ' = [some (.ref t), some (.ref la), some (.ref lf), some (.ref lg), some (.str (dueW M)), some (.ref r), some (.ref m), y7, none, some (.ref hd), some (.str (Sx M.ls)), some (.int M.n)] ∧ ExtN H H' ∧ Tabs TT H' ∧ MachAt K C H' m M.srt, ?_, ?_⟩
    · refine ⟨_, rfl, hd, rfl, ⟨_, SqL.of q7⟩, for_list (K := K) (a := hd) (xs := [.ref h1, .ref h2, .ref h3]) (fun i σ H' => ∃ y7 : Option V, σ = [some (.ref t), some (.ref la), some (.ref lf), some (.ref lg), some (.str (dueW M)), some (.ref r), some (.ref m), y7, none, some (.ref hd), some (.str (Sx M.ls)), some (.int M.n)] ∧ ExtN H H' ∧ Tabs TT H' ∧ MachAt K C H' m M.srt ∧ H' hd = some (.lst [.ref h1, .ref h2, .ref h3]) ∧ ∀ h ∈ [h1, h2, h3], ∃ zs, H' h = some (.lst zs) ∧ ∀ a, zs.head? = some (V.ref a) → ∃ b : List V, H' a = some (.tup b) ∧ b.length = 4)
        ⟨_, rfl, x07, T7, mm, q7, hs0⟩ (fun i σ H' _ ⟨_, _, _, _, _, hh, _⟩ => SqL.of hh) (fun i x σ H' hx hI => ?_) (fun σ H' hI => ?_)⟩
      · obtain ⟨y7, rfl, xx, TT', mA, hhd, hs⟩ := hI
        obtain ⟨h, rfl, hh⟩ : ∃ h, x = .ref h ∧ h ∈ [h1, h2, h3] := by
          have := List.mem_of_getElem? hx
          simp only [List.mem_cons, List.not_mem_nil, or_false] at this
          rcases this with rfl | rfl | rfl
          · exact ⟨h1, rfl, by simp⟩
          · exact ⟨h2, rfl, by simp⟩
          · exact ⟨h3, rfl, by simp⟩
        obtain ⟨zs, ez, hz⟩ := hs h hh
        obtain ⟨n1, n0⟩ := ndh h hh
        refine ⟨_, rfl, .inl ⟨rfl, _, SqL.of ez⟩, h, zs, rfl, rfl, ez, _, rfl, extN_put xx (fun b o e _ => ne_of_none e n0), tabs_put TT' ez, mA.wipe ez hz, by rw [upd_ne n1]; exact hhd, fun h' hh' => ?_⟩
        by_cases e : h' = h
        · subst e
          exact ⟨[], upd_same, fun a e => by cases e⟩
        · obtain ⟨zs', ez', hz'⟩ := hs h' hh'
          refine ⟨zs', by rw [upd_ne e]; exact ez', fun a ea => ?_⟩
          obtain ⟨b, hb, hl⟩ := hz' a ea
          exact ⟨b, by rw [upd_ne (ne_of hb ez (fun z => by cases z))]; exact hb, hl⟩
      · obtain ⟨y7, rfl, xx, TT', mA, _⟩ := hI
        exact ⟨_, rfl, xx, TT', mA⟩
    clear hs0 q7 mm x07 T7
    rintro σ H8 ⟨y7, rfl, x8, T8, m8⟩
    -- told twice
    refine ⟨fun σ' H' => ∃ y8 : Option V, σ' = [some (.ref t), some (.ref la), some (.ref lf), some (.ref lg), some (.str (dueW M)), some (.ref r), some (.ref m), y7, y8, some (.ref hd), some (.str (Sx M.ls)), some (.int M.n)] ∧ ExtN H H' ∧ Tabs TT H' ∧ MachAt K C H' m M.srt, ?_, ?_⟩
    · refine ⟨2, rfl, by decide, by decide, for_range (lo := 0) (n := 2) (fun i σ H' => ∃ y8 : Option V, σ = [some (.ref t), some (.ref la), some (.ref lf), some (.ref lg), some (.str (dueW M)), some (.ref r), some (.ref m), y7, y8, some (.ref hd), some (.str (Sx M.ls)), some (.int M.n)] ∧ ExtN H H' ∧ Tabs TT H' ∧ MachAt K C H' m M.srt) ⟨_, rfl, x8, T8, m8⟩ ?_ ?_⟩
      rotate_left
      · rintro σ H9 ⟨y8, rfl, xx, TT', mA⟩
        exact ⟨_, rfl, xx, TT', mA⟩
      clear x8 T8 m8
      rintro i σ H9 hi ⟨y8, rfl, x9, T9, m9⟩
      refine ⟨_, rfl, m, _, rfl, m9, fun u1 H10 s10 du => ?_⟩
      refine ⟨_, rfl, t, _, rfl, (dM.extN x9).same s10, fun u2 H11 s11 du2 => ?_⟩
      refine ⟨_, _, ddat M.srt, rfl, dp_drawn (du.same s11), dp_drawn du2, lvl_ddat ?_ ?_ ?_, fun H12 s12 => ⟨_, rfl, iteF ?_⟩⟩
      · show (sortA M.as).length ≤ 1000
        rw [sortA_len]
        have := pw.as
        omega
      · show (sortI M.fs).length ≤ 1000
        rw [show (sortI M.fs).length = M.fs.length from List.length_mergeSort ..]
        have := pw.fs
        omega
      · show (sortI M.gs).length ≤ 1000
        rw [show (sortI M.gs).length = M.gs.length from List.length_mergeSort ..]
        have := pw.gs
        omega
      have s912 := s10.trans (s11.trans s12)
      have x12 := x9.trans (same_extN s912)
      have T12 := T9.ext s912
      have m12 := m9.same s912
      clear s10 s11 s12 s912 x9 T9 m9 du du2
      obtain ⟨dx, ta, tf, tg, D0, ps0, hm, _⟩ := id m12
      refine ⟨_, rfl, m, dx, _, rfl, hm, mfl_none (by decide +kernel), m, M.srt, rfl, m12, fun l ps2 nl hR he => ?_⟩
      have sl := same_upd (o := .lst (rfs ps2)) nl
      have el : (upd H12 l (.lst (rfs ps2))) l = some (.lst (rfs ps2)) := upd_same
      have hp2 : ps2.length ≤ 52 := by
        have h1 := congrArg List.length he
        rw [List.length_map] at h1
        have h2 : M.srt.as.length = M.as.length := sortA_len _
        have := pw.as
        omega
      refine ⟨.inl ⟨rfl, _, SqL.of el⟩, _, rfl, (by decide : 4 ≤ sizeLine), fun u nu => ?_⟩
      have su := same_upd (o := .tup [.int 0, .str (Sx M.ls), .str "keep", .int 0]) nu
      have el2 := su _ _ el
      refine ⟨l, _, _, rfl, rfl, el2, by unfold rfs; rw [List.length_map]; omega, ?_⟩
      have sA : Same H12 (upd (upd (upd H12 l (.lst (rfs ps2))) u (.tup [.int 0, .str (Sx M.ls), .str "keep", .int 0])) l (.lst (rfs ps2 ++ [.ref u]))) := fun b o e => by
        rw [upd_ne (ne_of_none e nl)]
        exact su _ _ (sl b o e)
      generalize upd (upd (upd H12 l (.lst (rfs ps2))) u (.tup [.int 0, .str (Sx M.ls), .str "keep", .int 0])) l (.lst (rfs ps2 ++ [.ref u])) = H13 at sA
      refine ⟨_, rfl, m, dx, _, rfl, sA _ _ hm, mfl_none (by decide +kernel), m, M.srt, rfl, m12.same sA, fun l2 nl2 => ⟨.inl ⟨rfl, _, SqL.of upd_same⟩, l2, _, rfl, rfl, upd_same, ?_⟩⟩
      have sB : Same H13 (upd (upd H13 l2 (.lst (M.srt.fs.map V.int))) l2 (.lst (M.srt.fs.map V.int).reverse)) := fun b o e => by
        rw [upd_ne (ne_of_none e nl2), upd_ne (ne_of_none e nl2)]
        exact e
      generalize upd (upd H13 l2 (.lst (M.srt.fs.map V.int))) l2 (.lst (M.srt.fs.map V.int).reverse) = H14 at sB
      refine ⟨_, rfl, m, dx, _, rfl, (sA.trans sB) _ _ hm, mfl_none (by decide +kernel), m, M.srt, rfl, m12.same (sA.trans sB), fun l3 nl3 => ⟨.inl ⟨rfl, _, SqL.of upd_same⟩, l3, _, _, rfl, rfl, upd_same, ?_, ?_⟩⟩
      · rw [List.length_map, show M.srt.gs.length = M.gs.length from List.length_mergeSort ..]
        have := pw.gs
        omega
      have sC : Same H14 (upd (upd H14 l3 (.lst (M.srt.gs.map V.int))) l3 (.lst (M.srt.gs.map V.int ++ [.int 9]))) := fun b o e => by
        rw [upd_ne (ne_of_none e nl3), upd_ne (ne_of_none e nl3)]
        exact e
      have sAC := sA.trans (sB.trans sC)
      exact ⟨_, rfl, x12.trans (same_extN sAC), T12.ext sAC, m12.same sAC⟩
    clear x8 T8 m8
    rintro σ H9 ⟨y8, rfl, x9, T9, m9⟩
    obtain ⟨dx, ta, tf, tg, D0, ps0, hm, _⟩ := id m9
    refine ⟨_, rfl, m, dx, _, rfl, hm, m, M.srt, rfl, m9, (M.srt.as.length : Nat), rfl, by omega, ?_, ?_⟩
    · have h2 : M.srt.as.length = M.as.length := sortA_len _
      have := pw.as
      omega
    refine ⟨_, rfl, la, rfs ps, rfl, .inl (SqL.of (x9 _ _ d2 (fun ps z => by cases z))), rfl, ?_⟩
    have e : V.int ((M.srt.as.length : Nat) : Int) = V.int (((rfs ps).length : Nat) : Int) := by
      have h2 : M.srt.as.length = M.as.length := sortA_len _
      have h3 : (rfs ps).length = ps.length := List.length_map ..
      rw [h2, h3, hpl]
    first
      | (rw [decide_eq_true e]; exact q _ x9 T9)
      | (refine ⟨_, rfl, ?_⟩; rw [decide_eq_true e]; exact q _ x9 T9)
      | (show Q (.bl (decide _)) _; rw [decide_eq_true e]; exact q _ x9 T9)
end
end Onp
set_option maxHeartbeats 4000000
set_option autoImplicit false
/-! set(text) and sorted(set(text)), texts of fewer than 1000 signs -/
namespace Onp
open PySem PySem.Spec PyProof.Rows L2 PySem.W PySem.Froz
theorem tail_ris {ep : Nat} {es1 : Array (Int × Value)} {t2 : SetTable} {wd : Bool} (r : Ris t2.place.toList) : Ris (tailTx ep es1 t2 wd).2.2.place.toList := by
  unfold tailTx
  by_cases c : (!wd && t2.tooFull) = true
  · rw [if_pos c]
    exact relayAll_ris _ _ _
  · rw [if_neg c]
    exact r
theorem tail_led {ep : Nat} {es1 : Array (Int × Value)} {t2 : SetTable} {wd : Bool} : (tailTx ep es1 t2 wd).2.2.led = t2.led := by
  unfold tailTx
  by_cases c : (!wd && t2.tooFull) = true
  · rw [if_pos c]
    exact relayAll_led _ _ _
  · rw [if_neg c]
theorem addTx_ris {D : SD} (h : Int) (v : Value) (r : Ris D.2.2.place.toList) : Ris (addTx h v D).2.2.place.toList := by
  have r1 := layNew_ris D.2.2 D.1 h v r
  refine tail_ris ?_
  by_cases c : (layNew D.2.2 D.1 h v).2.1.plain = true
  · rw [if_pos c]
    exact r1
  · rw [if_neg c]
    exact r1
theorem addTx_led {D : SD} (h : Int) (v : Value) : (addTx h v D).2.2.led = D.2.2.led := by
  have r1 := layNew_led D.2.2 D.1 h v
  refine tail_led.trans ?_
  by_cases c : (layNew D.2.2 D.1 h v).2.1.plain = true
  · rw [if_pos c]
    exact r1
  · rw [if_neg c]
    exact r1
/-- the set at a holds the texts l -/
def TxS (P : Program) (w : World) (h : Heap) (a : Addr) (l : List Str) : Prop :=
  ∃ D : SD, h.get? a = some (sObj "set" D) ∧ TxOk P w D l ∧ Ris D.2.2.place.toList ∧ (w.params.followText "set-order" = true ∨ D.2.2.led = true) ∧ l.Nodup
section
variable {P : Program} {w : World} {A : Around} {E : Value → Shared → Prop} {s : Shared}
theorem has_add {a : Addr} {T : String} {D : SD} {l : List Str} {k : Str} {u : Tok} {Q : Bool → Shared → Prop} (ho : s.heap.get? a = some (sObj T D)) (F : TxOk P w D l) (hk : k ∈ l) (hb : l.length < scanBound)
    (h : Q false s) : wpAny (model P w) A (setAddHashed a (.str k u) (hashStr w k)) Q E s := by
  obtain ⟨es, ep, t⟩ := D
  have hf : t.fits es.size = true := F.fit
  have hel : ElemsOf (strKind P w) es.toList := F.el
  have hz : es.size = l.length := F.sz
  obtain ⟨e, he, q⟩ := (F.mem k).mp hk
  unfold setAddHashed setAddHashedIn
  refine wpAny_holding (wpAny_bind (wpAny_setState_of ho rfl hf ?_))
  dsimp only
  rw [byScan_of (show (Value.str k u).scannable = true from rfl) (by omega) hel]
  simp only [↓reduceIte]
  unfold setAddByScan
  refine wpAny_bind (wpAny_bind (wpAny_rule (wpAny_bind (wpAny_setScan_of (knd := strKind P w) (is_str k u) ho rfl hf hel ?_))))
  cases hr : List.findIdx? (fun e => (strKind P w).is k e.2) es.toList with
  | none =>
    have z := List.findIdx?_eq_none_iff.mp hr e he
    rw [q] at z
    cases z
  | some j => exact wpAny_pure (wpAny_pure h)
theorem TxS.add {a : Addr} {l : List Str} (R : TxS P w s.heap a l) {k : Str} {u : Tok} {Q : Bool → Shared → Prop} (hb : l.length + 1 < scanBound)
    (h : ∀ b h' l', Heap.SameBut a s.heap h' → TxS P w h' a l' → (k ∈ l → l' = l) → (k ∉ l → l' = k :: l) → Q b { s with heap := h' }) : wpAny (model P w) A (setAddHashed a (.str k u) (hashStr w k)) Q E s := by
  obtain ⟨D, ho, F, ri, ld, nd⟩ := R
  by_cases hk : k ∈ l
  · exact has_add ho F hk (by omega) (h false s.heap l (Heap.SameBut.refl a s.heap) ⟨D, ho, F, ri, ld, nd⟩ (fun _ => rfl) fun z => absurd hk z)
  · refine add_x ho F hk hb (h true _ (k :: l) (Heap.SameBut.update ..) ⟨_, get_upd _ ho rfl, add_ok u F, addTx_ris _ _ ri, ?_, List.nodup_cons.mpr ⟨hk, nd⟩⟩ (fun z => absurd z hk) fun _ => rfl)
    rw [addTx_led]
    exact ld
def GT (P : Program) (w : World) (S : Addr) (x : Str) (i : Nat) (h : Heap) : Prop := ∃ l, TxS P w h S l ∧ l.length ≤ i ∧ ∀ k, k ∈ l ↔ k ∈ (x.cps.toList.take i).map sing
theorem keepsT {S : Addr} {h0 : Heap} {x : Str} : KeepsSet S h0 (GT P w S x) := fun i h h' ⟨l, ⟨D, ho, r⟩, g⟩ z1 _ => ⟨l, ⟨D, z1 _ ho, r⟩, g⟩
theorem addsT {S : Addr} {h0 : Heap} {x : Str} (few : x.cps.size < 1000) : AddsTo P w A S h0 (SignAt x) (GT P w S x) := by
  intro i v s E ⟨c, u, hc, ev⟩ ⟨l, R, hl, g⟩ z
  subst ev
  have hlt : i < x.cps.size := by
    rcases Nat.lt_or_ge i x.cps.size with q | q
    · exact q
    · rw [Array.getElem?_eq_none q] at hc
      cases hc
  have e : x.cps.toList.take (i + 1) = x.cps.toList.take i ++ [c] := by
    rw [List.take_add_one, Array.getElem?_toList, hc]
    rfl
  unfold setAdd
  refine wpAny_holding (wpAny_bind ((strKind P w).pyHash (k := sing c) (is_str _ _) ?_))
  refine TxS.add (s := { s with toks := s.toks + 1 }) (k := sing c) R (by unfold scanBound; omega) fun b h' l' sb R' c1 c2 => ?_
  refine ⟨h', s.toks + 1, rfl, Nat.le_succ _, sb, l', R', ?_, fun k => ?_⟩
  · by_cases hm : sing c ∈ l
    · rw [c1 hm]
      omega
    · rw [c2 hm]
      exact Nat.succ_le_succ hl
  · rw [e, List.map_append, List.mem_append, ← g k, List.map_singleton, List.mem_singleton]
    by_cases hm : sing c ∈ l
    · rw [c1 hm]
      exact ⟨.inl, fun z => z.elim id fun z => z ▸ hm⟩
    · rw [c2 hm, List.mem_cons]
      exact Or.comm
theorem freshT {h : Heap} {S : Addr} {x : Str} (e : h.get? S = some (set0 w)) : GT P w S x 0 h := by
  refine ⟨[], ⟨(#[], 0, .fresh 0 0 (!w.params.followText "set-order")), e, TxOk.nil rfl, List.Pairwise.nil, ?_, List.nodup_nil⟩, Nat.le_refl _, fun k => by simp⟩
  show _ ∨ (!w.params.followText "set-order") = true
  cases w.params.followText "set-order"
  · exact .inr rfl
  · exact .inl rfl
set_option maxHeartbeats 6400000 in
theorem callSet_str {x : Str} {u : Tok} {Q : Value → Shared → Prop} (hh : A.handled = none) (G : Nat → Heap → Prop)
    (ad : AddsTo P w A.in1.in1.in1 s.heap.objs.size s.heap (SignAt x) G) (kp : KeepsSet s.heap.objs.size s.heap G) (g0 : ∀ h, h.get? s.heap.objs.size = some (set0 w) → G 0 h)
    (q : ∀ (h' : Heap) (tk : Nat), G x.cps.size h' → (∀ b o, s.heap.get? b = some o → h'.get? b = some o) → Q (.ref s.heap.objs.size) { s with heap := h', toks := tk }) :
    wpAny (model P w) A (call (.type "set") [.str x u]) Q E s := by
  obtain ⟨cc, tl, c1⟩ := F.called_set.mro
  have c2 := F.called_set.made
  have c3 := F.called_set.sub
  refine wpAny_call (codeAny_of_tree ?_)
  show wpAny _ _ (callAny (.type "set") _) _ _ _
  refine wpAny_pure ⟨Code.quiet_builtin _ (by decide +kernel), codeAny_builtin F.entry_type_call ?_⟩
  rw [Around.under_plain (weight_type_call_type "set" [.str x u] []) rfl]
  have c4 := F.called_set.notType
  have c5 := F.called_set.canCreate
  have c6 := F.typeCall_set_1 (.str x u)
  repeat (any_goals (first | assumption | wp_step))
  refine codeAny_mono (code_set_led1 (.str x u) (E := E) (Q₁ := fun obj s₁ => obj = .ref s.heap.objs.size ∧ s₁ = { s with heap := s.heap.push (set0 w) }) ⟨rfl, rfl⟩) fun r s₁ hr => ?_
  cases r with
  | error e => exact hr
  | ok fl =>
    cases fl with
    | ret obj =>
      obtain ⟨rfl, rfl⟩ := hr
      have nS : (s.heap.push (set0 w)).get? s.heap.objs.size = some (set0 w) := Heap.get?_push_size _ rfl
      have tS : Shared.TypeIs { s with heap := s.heap.push (set0 w) } (.ref s.heap.objs.size) "set" := ⟨_, nS, rfl⟩
      have c7 := F.called_set.init.lookup
      have c8 := F.called_set.init.bind (.ref s.heap.objs.size)
      repeat (any_goals (first | assumption | wp_step))
      refine codeAny_mono (codeAny_call_builtin (R := wants (fun r s₂ => r = .none ∧ ∃ h' tk, s₂ = { s with heap := h', toks := tk } ∧ G x.cps.size h' ∧ (∀ b o, s.heap.get? b = some o → h'.get? b = some o)) E) F.called_set.init.plain F.entry_set_init (check_set_init_1 tS ?_)) fun r₂ s₂ hr₂ => ?_
      · have d1 := F.sub_str_set
        have d2 := F.sub_str_frozenset
        have d3 : (Value.type "str" == Value.type "dict") = false := by decide
        unfold Builtin.«set.__init__» noKeywords Builtin.Frozenset.updateFrom
        generalize ePI : pyIter = PI
        wp_walk
        subst ePI
        refine wpAny_pyIter_str fun o St W st0 => ?_
        refine wpAny_bind (wpAny_runValue ?_)
        have h3 : A.in1.in1.in1.handled = none := by simp [hh]
        have ne2 : s.heap.objs.size ∉ [(s.heap.push (set0 w)).objs.size] := by
          rw [Heap.size_push]
          exact fun z => absurd (List.mem_singleton.mp z) (Nat.ne_of_lt (Nat.lt_succ_self _))
        have none_of : ∀ b, s.heap.objs.size ≤ b → s.heap.get? b = none := fun b hb => by
          cases z : s.heap.get? b with
          | none => rfl
          | some o => exact absurd (Heap.lt_size z) (Nat.not_lt_of_le hb)
        refine setLoop (W _ h3).toS s.heap.objs.size ne2 s.heap G ad kp (none_of _ (Nat.le_refl _)) (fun b hb => none_of b (by
            rw [List.mem_singleton.mp hb, Heap.size_push]
            exact Nat.le_succ _)) (x.cps.size - 0) 0 _ (by omega) (Nat.zero_le _)
          st0 (fun b o e => Heap.get?_push_of_some _ (Heap.get?_push_of_some _ e)) (g0 _ (Heap.get?_push_of_some _ nS)) ?hR
        case hR =>
          intro s' m g' z'
          obtain ⟨h', g2, d', tk', os'⟩ := s'
          have eg : g2 = s.gens := m.gens
          have ed : d' = s.drawn := m.drawn
          have eo : os' = s.os := m.os
          subst eg; subst ed; subst eo
          show wpAny _ _ _ _ _ _
          refine wpAny_pure ?_
          show wpAny _ _ (ret Value.none) _ _ _
          exact wpAny_pure ⟨rfl, h', tk', rfl, g', z'⟩
      · cases r₂ with
        | error e => exact hr₂
        | ok fl₂ =>
          cases fl₂ with
          | ret r =>
            obtain ⟨rfl, h', tk, rfl, g', z'⟩ := hr₂
            repeat (any_goals (first | assumption | wp_step))
            exact q _ _ g' z'
          | _ => exact hr₂.elim
    | _ => exact hr.elim
end
/-! ### sorted -/
def codeV : Value → Nat
  | .str k _ => k.cps.toList.headD 0
  | _ => 0
theorem eachC {h : Heap} : ∀ l : List Value, (∀ v ∈ l, ∃ c u, v = Value.str (sing c) u) → EachIs (fun v (c : Nat) => ∃ u, v = Value.str (sing c) u) l (l.map codeV) ∧ EachIs (fun v (c : Nat) => ∃ as, Reads h v (PyData.str (sing c)) as) l (l.map codeV)
  | [], _ => ⟨.nil, .nil⟩
  | v :: l, hl => by
    obtain ⟨i1, i2⟩ := eachC l fun w hw => hl w (List.mem_cons_of_mem _ hw)
    obtain ⟨c, u, rfl⟩ := hl v List.mem_cons_self
    exact ⟨.cons ⟨u, rfl⟩ i1, .cons ⟨_, Reads.str _ _⟩ i2⟩
theorem sing_inj {c d : Nat} (h : sing c = sing d) : c = d := by
  have q : [c] = [d] := congrArg (fun y : Str => y.cps.toList) h
  exact (List.cons.inj q).1
theorem sing_le {c d : Nat} : ((sing c).cps.toList ≤ (sing d).cps.toList) ↔ c ≤ d := by
  show ([c] ≤ [d]) ↔ _
  rw [List.cons_le_cons_iff]
  constructor
  · rintro (h | ⟨h, _⟩) <;> omega
  · intro h
    rcases Nat.lt_or_ge c d with q | q
    · exact .inl q
    · exact .inr ⟨by omega, List.nil_le _⟩
def cLe : Nat → Nat → Bool := fun a b => decide ((sing a).cps.toList ≤ (sing b).cps.toList)
theorem sortC (bs : List Nat) (hn : bs.Nodup) : (bs.mergeSort cLe).Pairwise (· < ·) := by
  have e : cLe = fun a b : Nat => decide (a ≤ b) := by
    funext a b
    unfold cLe
    exact decide_eq_decide.mpr sing_le
  have h1 : (bs.mergeSort cLe).Pairwise (fun a b => cLe a b = true) := List.pairwise_mergeSort (by rw [e]; intro x y z h1 h2; simp only [decide_eq_true_eq] at *; omega) (by rw [e]; intro x y; simp only [Bool.or_eq_true, decide_eq_true_eq]; omega) bs
  have h2 : (bs.mergeSort cLe).Nodup := (List.mergeSort_perm bs cLe).nodup_iff.mpr hn
  refine (h1.and h2).imp fun {a b} h => ?_
  obtain ⟨x, y⟩ := h
  rw [e] at x
  have := of_decide_eq_true x
  have y : a ≠ b := y
  omega
section
variable {P : Program} {w : World} {A : Around} {E : Value → Shared → Prop} {s : Shared}
theorem sorted_setT {a : Addr} {l : List Str} {x : Str} {Q : Value → Shared → Prop} (R : TxS P w s.heap a l) (hl : ∀ k, k ∈ l ↔ k ∈ x.cps.toList.map sing) (few : l.length < 1000) (hh : A.handled = none) (hu : A.units + 8 < cLine)
    (h : ∀ (s' : Shared) (p : Addr) (out : List Value) (c : Nat) (ms : List Nat), (∀ b o, s.heap.get? b = some o → s'.heap.get? b = some o) → s'.gens = s.gens → s'.os = s.os → s.heap.objs.size ≤ p → ms.Pairwise (· < ·) → (∀ c, c ∈ ms ↔ c ∈ x.cps.toList) → ms.length < 1000 →
      EachIs (fun v (c : Nat) => ∃ u, v = Value.str (sing c) u) out ms → s'.heap.get? p = some (seqObj "list" out.toArray c) → Q (.ref p) s') :
    wpAny (model P w) A (call (.builtin "sorted") [.ref a]) Q E s := by
  obtain ⟨⟨es, ep, t⟩, ho, F, ri, ld, nd⟩ := R
  have hf : t.fits es.size = true := F.fit
  have hz : es.size = l.length := F.sz
  refine call_function_entry_kw kind_sorted plain_sorted entry_sorted (args_sorted1 _) ?_
  unfold Builtin.«sorted»
  refine wpAny_bind (m := checkCount "sorted" 1 1 _) (wpAny_pure ?_)
  refine wpAny_bind (collect_set (A := A.in1) hh ⟨_, ho, rfl, rfl⟩ hf (by show es.size < 4096; omega) ri ld fun s1 vs k1 hz1 g1 o1 pm => ?_)
  have key : ∀ v ∈ es.toList.map (·.2), ∃ k u, v = Value.str k u ∧ k ∈ l := fun v hv => by
    obtain ⟨e, he, rfl⟩ := List.mem_map.mp hv
    obtain ⟨⟨k, hk, _⟩, _⟩ := F.el e he
    obtain ⟨u, eu⟩ := Value.isStrOf_shape hk
    exact ⟨k, u, eu, (F.mem k).mpr ⟨e, he, hk⟩⟩
  have sg : ∀ v ∈ vs, ∃ c u, v = Value.str (sing c) u ∧ c ∈ x.cps.toList := fun v hv => by
    obtain ⟨k, u, e, hk⟩ := key v (pm.mem_iff.mp hv)
    obtain ⟨c, hc, rfl⟩ := List.mem_map.mp ((hl k).mp hk)
    exact ⟨c, u, e, hc⟩
  have sg' : ∀ v ∈ vs, ∃ c u, v = Value.str (sing c) u := fun v hv => by
    obtain ⟨c, u, e, _⟩ := sg v hv
    exact ⟨c, u, e⟩
  have lv : vs.length = l.length := by rw [pm.length_eq, List.length_map, Array.length_toList, hz]
  have mem1 : ∀ c ∈ vs.map codeV, c ∈ x.cps.toList := fun c hc => by
    obtain ⟨v, hv, ev⟩ := List.mem_map.mp hc
    obtain ⟨d, u, rfl, hd⟩ := sg v hv
    have ev : d = c := ev
    rw [← ev]
    exact hd
  have mem2 : ∀ c ∈ x.cps.toList, c ∈ vs.map codeV := fun c hc => by
    obtain ⟨e, he, q⟩ := (F.mem (sing c)).mp ((hl _).mpr (List.mem_map.mpr ⟨c, hc, rfl⟩))
    obtain ⟨u, eu⟩ := Value.isStrOf_shape q
    exact List.mem_map.mpr ⟨e.2, pm.mem_iff.mpr (List.mem_map.mpr ⟨e, he, rfl⟩), by rw [eu]; rfl⟩
  have ndv : (vs.map codeV).Nodup := by
    have nl : (l.map fun k : Str => k.cps.toList.headD 0).Nodup := by
      refine List.Pairwise.map _ (S := fun a b => a ≠ b) (R := fun a b => a ≠ b ∧ a ∈ l ∧ b ∈ l) (fun a b ⟨n, ha, hb⟩ e => n ?_) ?_
      · obtain ⟨c, _, rfl⟩ := List.mem_map.mp ((hl a).mp ha)
        obtain ⟨d, _, rfl⟩ := List.mem_map.mp ((hl b).mp hb)
        have e : c = d := e
        rw [e]
      · exact List.Pairwise.imp_of_mem (fun ha hb n => ⟨n, ha, hb⟩) nd
    have c1 := (count_nd (l := l.map fun k : Str => k.cps.toList.headD 0) (D := vs.map codeV) nl (fun c hc => by
      obtain ⟨k, hk, ek⟩ := List.mem_map.mp hc
      obtain ⟨d, hd, rfl⟩ := List.mem_map.mp ((hl k).mp hk)
      have ek : d = c := ek
      rw [← ek]
      exact mem2 d hd) (fun c hc => List.mem_map.mpr ⟨sing c, (hl _).mpr (List.mem_map.mpr ⟨c, mem1 c hc, rfl⟩), rfl⟩)).2
    refine Classical.byContradiction fun z => ?_
    have := c1.mpr z
    rw [List.length_map, List.length_map] at this
    omega
  have hv : vs.length ≤ sizeLine := by
    rw [lv, sizeLine_eq]
    omega
  refine wpAny_bind (wpAny_newList ?_ hv)
  have at_ : (s1.heap.push (seqObj "list" vs.toArray 0)).get? s1.heap.objs.size = some (seqObj "list" vs.toArray 0) := Heap.get?_push_size _ rfl
  generalize eh : sortingHeap (s1.heap.push (seqObj "list" vs.toArray 0)) s1.heap.objs.size vs = hS
  obtain ⟨e1, e2⟩ := eachC (h := hS) vs sg'
  have al : AllAlike ((vs.map codeV).map fun c : Nat => PyData.str (sing c)) := AllAlike.of fun a b => rfl
  have so : Sortable ((vs.map codeV).map fun c : Nat => PyData.str (sing c)) := .inr fun d hd => by
    obtain ⟨c, _, rfl⟩ := List.mem_map.mp hd
    exact ⟨(fun z => nomatch z), fun xs z => nomatch z⟩
  refine wpAny_bind (wpAny_holding (wpAny_call_entry_kw slot_list_sort ⟨_, at_, rfl⟩ entry_list_sort ?body (args_list_sort _)))
  case body =>
    show wpAny (model P w) A.in1.in1 (Builtin.«list.sort» ⟨[.ref s1.heap.objs.size], []⟩) _ _ _
    refine list_sort_vals (s := { s1 with heap := s1.heap.push (seqObj "list" vs.toArray 0) }) (κ := dataKind hS ((vs.map codeV).map fun c : Nat => PyData.str (sing c))) at_
      (by rw [eh]; exact SortsAt.data (s := { s1 with heap := hS }) (each_map (R := fun v d => ∃ as, Reads hS v d as) (fun c : Nat => PyData.str (sing c)) e2) al so (bound_map fun b hb => by show A.units + 1 + 1 + 0 < cLine; omega)) hv ?_
    have eo := sortVals_data (enc := fun c : Nat => PyData.str (sing c)) false e1 e2 al
    generalize eov : sortVals (dataKind hS ((vs.map codeV).map fun c : Nat => PyData.str (sing c))) false vs vs = out at eo
    rw [dataLe_str] at eo
    have pmS := List.mergeSort_perm (vs.map codeV) cLe
    obtain ⟨c, hc⟩ := sortedHeap_at (vs := vs) (out := out.toArray) at_
    refine ⟨_, rfl, wpAny_pure ⟨_, rfl, h _ s1.heap.objs.size out c ((vs.map codeV).mergeSort cLe) (fun b u e => ?_) g1 o1 hz1 (sortC _ ndv) (fun c => ⟨fun z => mem1 c (pmS.mem_iff.mp z), fun z => pmS.mem_iff.mpr (mem2 c z)⟩) (by rw [pmS.length_eq, List.length_map, lv]; exact few) eo hc⟩⟩
    have q := k1 b u e
    have hlt := Heap.lt_size q
    show (sortedHeap (s1.heap.push (seqObj "list" vs.toArray 0)) s1.heap.objs.size vs out.toArray).get? b = some u
    rw [sortedHeap_old (Nat.ne_of_lt hlt) (by rw [size_push']; exact Nat.lt_succ_of_lt hlt)]
    exact Heap.get?_push_of_some _ q
end
/-! ### over the layer -/
def tSortTx (ta : TE) : TE := fun σ H Q => ta σ H fun x H1 => ∃ z : Str, x = .str z ∧ z.cps.size < 1000 ∧
  ∀ (q : Addr) (ms : List Nat), H1 q = none → ms.Pairwise (· < ·) → (∀ c, c ∈ ms ↔ c ∈ z.cps.toList) → Q (.ref q) (upd H1 q (.lst (ms.map fun c => V.str (sing c))))
theorem vals_sg {vs : List Value} {ms : List Nat} (h : EachIs (fun v (c : Nat) => ∃ u, v = Value.str (sing c) u) vs ms) : Vals (ms.map fun c => V.str (sing c)) vs := by
  induction h with
  | nil => exact .nil
  | cons h1 _ ih =>
    obtain ⟨u, rfl⟩ := h1
    exact .cons ⟨u, rfl⟩ ih
section
variable {X : Cx}
theorem pe_sortSetS {a : Expr} {ta : TE} {p p2 q pos : Pos} (hc : X.calm = true) (hu : X.A.units + 64 < cLine) (hg : Gl X "sorted") (hm : X.mg "sorted" = none) (hg2 : Gl X "set") (hm2 : X.mg "set" = none) (ha : PE X a ta)
    (na : starEach [a] X.env = (false, eval a X.env) :: starEach [] X.env := by rfl) : PE X (.Call (.Name "sorted" p) [.Call (.Name "set" p2) [a] [] q] [] pos) (tSortTx ta) := by
  refine ⟨fun pins s σ H Q I h => ?_⟩
  refine Call_ (ld_blt I hg hm (show bootBuiltins "sorted" = some (.builtin "sorted") by decide +kernel) (PyProof.Rows.callWith_builtin1 (PyProof.Rows.args_cons ?_ rfl) rfl rfl))
  refine Call_ (ld_blt I hg2 hm2 PyProof.Rows.boot_set (PyProof.Rows.callWith_type1 (PyProof.Rows.args_cons (thn (ha.run pins s σ H _ I h) fun v s1 ⟨x, H1, I1, r1, q1⟩ => PyProof.Rows.args_nil ?_) na) na rfl))
  obtain ⟨z, rfl, few, q1⟩ := q1
  obtain ⟨u, rfl⟩ := r1
  refine callSet_str (I1.ok.hd hc) (GT X.prog X.w s1.heap.objs.size z) (addsT few) keepsT (fun h e => freshT e) fun h' tk g kp => ?_
  refine PyProof.Rows.args_nil ?_
  obtain ⟨l, R, hl, mm⟩ := g
  rw [← Array.length_toList, List.take_length] at mm
  have I2 : Inv X pins σ H1 { s1 with heap := h', toks := tk } := I1.kept fun b o e => kp b o e
  refine sorted_setT (s := { s1 with heap := h', toks := tk }) R mm (by omega) (I1.ok.hd hc) (by omega) fun s' b out c ms k gg oo hb pw cm few2 eo gb => ?_
  have hn : H1 b = none := I2.hok.fresh hb
  have hlen : (ms.map fun c => V.str (sing c)).length ≤ sizeLine := by
    rw [List.length_map, sizeLine_eq]
    omega
  have J : Inv X pins σ (upd H1 b (.lst (ms.map fun c => V.str (sing c)))) { ({ s1 with heap := h', toks := tk } : Shared) with heap := s'.heap, gens := s'.gens, drawn := s'.drawn, toks := s'.toks } :=
    Inv.call (s := { s1 with heap := h', toks := tk }) I2 (ch := []) (Un.laid k hb hn) (I2.hok.laid k hb ⟨hlen, out, c, vals_sg eo, gb⟩) (by rw [gg]; exact I2.bare) (fun _ z => nomatch z)
  have e : s' = { ({ s1 with heap := h', toks := tk } : Shared) with heap := s'.heap, gens := s'.gens, drawn := s'.drawn, toks := s'.toks } := by
    cases s'
    cases s1
    cases oo
    rfl
  rw [e]
  exact ⟨.ref b, _, J, rfl, q1 b ms hn pw cm⟩
end
end Onp
set_option maxHeartbeats 8000000
set_option autoImplicit false
namespace Onp
open PySem PySem.Spec PyProof.Rows L2
abbrev sBn : Stmt := topS 55
/-! ### bent parts -/
theorem few8b {n : Int} (hn : n ≤ 8) {l : List Int} (h : l.Nodup) (hb : ∀ r ∈ l, rooB n r = true) : l.length ≤ 8 :=
  nd_le l [0, 1, 2, 3, 4, 5, 6, 7] h fun x hx => by
    have h := hb x hx
    unfold rooB at h
    rw [Bool.and_eq_true, decide_eq_true_eq, decide_eq_true_eq] at h
    simp only [List.mem_cons, List.not_mem_nil, or_false]
    omega
structure Bt (j : Nat) (M : AM) : Prop where
  n : -1 ≤ M.n ∧ M.n ≤ 100000000000000000000 + (j : Int)
  ls : M.ls.length ≤ 4 * 2 ^ j ∧ ∀ c ∈ M.ls, c < 128
  al : M.as.length + 1 ≤ 13 * 2 ^ j
  ar : ∀ a ∈ M.as, (∃ zs : List Nat, a.2.1 = Sx zs ∧ zs.length ≤ 2 ^ j ∧ ∀ c ∈ zs, c < 128) ∧ (a.2.2.1 ∈ deedsL ∨ a.2.2.1 = "dear")
  fs : M.fs.length ≤ 8 + j
  gs : M.gs.length ≤ 8 + j
theorem Bt.more {j : Nat} {M : AM} (h : Bt j M) : Bt (j + 1) M := by
  have e : 2 ^ j ≤ 2 ^ (j + 1) := Nat.pow_le_pow_right (by decide) (Nat.le_succ j)
  obtain ⟨h1, h2, h3, h4, h5, h6⟩ := h
  refine ⟨⟨h1.1, by omega⟩, ⟨by have := h2.1; omega, h2.2⟩, by omega, fun a ha => ?_, by omega, by omega⟩
  obtain ⟨⟨zs, e1, e2, e3⟩, hd⟩ := h4 a ha
  exact ⟨⟨zs, e1, by omega, e3⟩, hd⟩
theorem Bt.of {M : AM} (ok : M.ok) (h : M.as.length ≤ 12) : Bt 0 M := by
  have hl := letB_pos ok.2.2.1
  refine ⟨⟨by have := ok.1; omega, by have := ok.2.1; omega⟩, ⟨by show M.ls.length ≤ 4 * 1; omega, fun c hc => (by decide : ∀ c ∈ smallL, c < 128) c (letB_small ok.2.2.1 c hc)⟩, by show M.as.length + 1 ≤ 13 * 1; omega, fun a ha => ?_, few8b ok.2.1 ok.2.2.2.2.2.2.2.1 ok.2.2.2.2.2.2.1, few8b ok.2.1 ok.2.2.2.2.2.2.2.2.2.1 ok.2.2.2.2.2.2.2.2.1⟩
  have g := ok.2.2.2.1 a ha
  unfold arrB at g
  simp only [Bool.and_eq_true, decide_eq_true_eq] at g
  obtain ⟨c, hc, e⟩ := List.any_eq_true.mp g.1.2
  have hs := letB_small ok.2.2.1 c hc
  refine ⟨⟨[c], of_decide_eq_true e, Nat.le_refl _, fun d hd => ?_⟩, .inl g.2⟩
  rw [List.mem_singleton.mp hd]
  have : ∀ c ∈ smallL, c < 128 := by decide
  exact this c hs
theorem Bt.le {i j : Nat} {M : AM} (h : Bt i M) (hij : i ≤ j) : Bt j M := by
  induction hij with
  | refl => exact h
  | step _ ih => exact ih.more
theorem rfs_cut (ps : List AR) (lo hi : Option Int) : ∃ qs : List AR, cutV (rfs ps) lo hi = rfs qs ∧ (∀ p ∈ qs, p ∈ ps) ∧ qs.length ≤ ps.length := by
  refine ⟨(ps.drop (HT.sIx (rfs ps).length 0 lo)).take (HT.sIx (rfs ps).length (rfs ps).length hi - HT.sIx (rfs ps).length 0 lo), ?_, fun p hp => List.mem_of_mem_drop (List.mem_of_mem_take hp), ?_⟩
  · unfold cutV rfs
    rw [List.map_take, List.map_drop]
  · rw [List.length_take, List.length_drop]
    omega
theorem rfs_app' (a b : List AR) : rfs a ++ rfs b = rfs (a ++ b) := (List.map_append ..).symm
theorem sx_128 {zs : List Nat} (h : ∀ c ∈ zs, c < 128) : PyData.strOk (Sx zs) = true := by
  unfold PyData.strOk Sx
  rw [← Array.all_toList]
  exact List.all_eq_true.mpr fun c hc => decide_eq_true (Nat.lt_trans (h c hc) (by decide))
theorem Bt.okS {j : Nat} {M : AM} (h : Bt j M) : ∀ a ∈ M.as, Onp.okS a := fun a ha => by
  obtain ⟨⟨zs, e1, _, e3⟩, hd⟩ := h.ar a ha
  refine ⟨by rw [e1]; exact sx_128 e3, ?_⟩
  rcases hd with hd | hd
  · exact deeds_strOk _ hd
  · rw [hd]
    decide +kernel
theorem eqv_anil (as : List Arw) : PyData.eqv (.list (as.map adat)) (.list []) = decide (as = []) := by
  cases as with
  | nil => rfl
  | cons x R =>
    rw [decide_eq_false (fun z => nomatch z)]
    simp [PyData.eqv, PyData.eqvAll]
/-- the parts, as the names hold them -/
structure Pt (K : PySem.W.Frag) (H : Hp) (la lf lg : Addr) (ps : List AR) (M : AM) : Prop where
  a : H la = some (.lst (rfs ps))
  r : AkAt H ps
  e : ps.map (·.2) = M.as
  f : H lf = some (.lst (M.fs.map V.int))
  g : H lg = some (.lst (M.gs.map V.int))
theorem Pt.same {K : PySem.W.Frag} {H H' : Hp} {la lf lg : Addr} {ps : List AR} {M : AM} (p : Pt K H la lf lg ps M) (s : Same H H') : Pt K H' la lf lg ps M := ⟨s _ _ p.a, p.r.same s, p.e, s _ _ p.f, s _ _ p.g⟩
theorem Pt.keep {K : PySem.W.Frag} {H H' : Hp} {la lf lg : Addr} {ps : List AR} {M : AM} {g : Bid} (p : Pt K H la lf lg ps M) (B : Bg H g) (k : Keep g.b H H') : Pt K H' la lf lg ps M := ⟨k _ _ (B.neRfs p.a) p.a, B.keepAk k p.r, p.e, k _ _ (B.neInts p.f) p.f, k _ _ (B.neInts p.g) p.g⟩
section
variable {P : Program} {w : World} {K : PySem.W.Frag} {mg : Str → Option Value} {base : Heap}
def NBn : List Str := ["_law_bag_here", "_law_m", "_law_rooms", "_law_letters_here", "_law_arrows", "_law_firsts_z", "_law_lasts_z", "_law_bend", "_law_way_z", "_law_at", "_law_room", "_law_letter", "_law_deed_here", "_law_to", "_law_odd"]
theorem scBn : FnScope NBn ["_law_bag_here", "_law_m"] (defScope sBn) := ⟨rfl, rfl, rfl, by decide +kernel, rfl, by decide +kernel, by decide +kernel⟩
def spBn (K : PySem.W.Frag) : Sp := fun vs H Q _ => ∃ (g : Bid) (t : Addr) (M : AM), vs = [.ref g.b, .ref t] ∧ DrawnHp H t M ∧ M.ok ∧ M.as.length ≤ 12 ∧ Bg H g ∧ ∀ (t' : Addr) (M' : AM) H', Bt 2 M' → DrawnHp H' t' M' → Keep g.b H H' → Bg H' g → Q (.ref t') H'
theorem ok_bn {f fO fPu : Addr} {fd fdO fdPu : FuncData} {k : Nat} (F : Fun K "_law_bent_parts" "_law_bent_parts" sBn f fd) (Pu : FnM K mg fPu fdPu "_law_pull" sPull ["_law_bag_here", "_law_many"]) (O : FnM K mg fO fdO "_law_of" sOf ["_law_bag_here", "_law_some"]) (mlen : mg "len" = none) (mr : mg "range" = none) : FnOk P w K mg base CX0 (k + 3) f fd ["_law_bag_here", "_law_m"] (spBn K) := by
  have GPu : FnOk P w K mg base CX0 (k + 2) fPu fdPu ["_law_bag_here", "_law_many"] (spPull K) := ok_pull Pu.F mlen
  have GO : FnOk P w K mg base CX0 (k + 2) fO fdO ["_law_bag_here", "_law_some"] (spOf K) := ok_of O.F Pu.F Pu.b Pu.g mlen
  refine F.ok scBn (fun vs H Q E h => ?_) (fun cdv A outer s H vs Q E hr h => ?_)
  · obtain ⟨g, t, M, rfl, _⟩ := h
    rfl
  · obtain ⟨g, t, M, rfl, dM, okM, h12, B0, q⟩ := h
    refine ⟨_, (pss_cons (ps_asg (pv 1) (pg_tup rfl (pgs_cons (pg_name (i := 2) scBn.nd rfl (.inl rfl)) (pgs_cons (pg_name (i := 3) scBn.nd rfl (.inl rfl)) (pgs_cons (pg_name (i := 4) scBn.nd rfl (.inl rfl)) (pgs_cons (pg_name (i := 5) scBn.nd rfl (.inl rfl)) (pgs_cons (pg_name (i := 6) scBn.nd rfl (.inl rfl)) pgs_nil)))))))
      (pss_cons (ps_for PassesOwn.never rfl (pi_range1 (by rfl) mr (pa_cons (pe_call GPu hr (by rfl) Pu.g Pu.F.kp Pu.b .nil pass0 (pa_cons (pv 0) (pa_cons pe_int pa_nil))) pa_nil)) (pg_name (i := 7) scBn.nd rfl (.inl rfl))
        (pss_cons (ps_set (i := 8) scBn.nd rfl (.inl rfl) (pe_call GPu hr (by rfl) Pu.g Pu.F.kp Pu.b .nil pass0 (pa_cons (pv 0) (pa_cons pe_int pa_nil))))
      (pss_cutM (ps_if (pt_cmpR op_eq (pv 8) pe_int (nomark _)) (pss_one (ps_set (i := 2) scBn.nd rfl (.inl rfl) (pe_call GO hr (by rfl) O.g O.F.kp O.b .nil pass0 (pa_cons (pv 0) (pa_cons (pe_lst (pa_cons pe_int (pa_cons pe_int (pa_cons (pe_un un_neg pe_int) (pa_cons (pe_op op_pow pe_int pe_int) (pa_cons pe_int (pa_cons (pe_op op_add (pv 2) pe_int) pa_nil))))))) pa_nil))))) pss_nil)
      (pss_cutM (ps_if (pt_cmpR op_eq (pv 8) pe_int (nomark _)) (pss_one (ps_set (i := 3) scBn.nd rfl (.inl rfl) (pe_call GO hr (by rfl) O.g O.F.kp O.b .nil pass0 (pa_cons (pv 0) (pa_cons (pe_lst (pa_cons pe_str (pa_cons pe_str (pa_cons pe_str (pa_cons pe_str (pa_cons pe_str (pa_cons pe_str (pa_cons pe_str (pa_cons (pe_op op_add_str (pv 3) (pv 3)) (pa_cons pe_str pa_nil)))))))))) pa_nil))))) pss_nil)
      (pss_cutM (ps_if (PW.pt (pw_and (pt_cmpR op_lt (pv 8) pe_int (nomark _)) (pw_and (pt_cmpR op_gt (pv 8) pe_int (nomark _)) (pw_and1 (pt_cmpR (op_neD hr.units) (pv 4) (pe_lst pa_nil) (nomark _)))))) (pss_cons (ps_set (i := 9) scBn.nd rfl (.inl rfl) (pe_call GPu hr (by rfl) Pu.g Pu.F.kp Pu.b .nil pass0 (pa_cons (pv 0) (pa_cons (pe_callB call_len_seq (by rfl) mlen PySem.boot_len (pa_cons (pv 4) pa_nil)) pa_nil))))
      (pss_cons (ps_asg (pe_ix ix_list (pv 4) (pv 9) (fun _ _ => rfl)) (pg_tup rfl (pgs_cons (pg_name (i := 10) scBn.nd rfl (.inl rfl)) (pgs_cons (pg_name (i := 11) scBn.nd rfl (.inl rfl)) (pgs_cons (pg_name (i := 12) scBn.nd rfl (.inl rfl)) (pgs_cons (pg_name (i := 13) scBn.nd rfl (.inl rfl)) pgs_nil))))))
      (pss_cons (ps_set (i := 14) scBn.nd rfl (.inl rfl) (pe_lst (pa_cons (pe_tup (pa_cons (pv 2) (pa_cons (pv 11) (pa_cons (pv 12) (pa_cons (pv 13) pa_nil))))) (pa_cons (pe_tup (pa_cons (pv 10) (pa_cons pe_str (pa_cons (pv 12) (pa_cons (pv 13) pa_nil))))) (pa_cons (pe_tup (pa_cons (pv 10) (pa_cons (pe_op op_mulS (pv 11) pe_int) (pa_cons (pv 12) (pa_cons (pv 13) pa_nil))))) (pa_cons (pe_tup (pa_cons (pv 10) (pa_cons pe_str (pa_cons (pv 12) (pa_cons (pv 13) pa_nil))))) pa_nil))))))
      (pss_cons (ps_set (i := 14) scBn.nd rfl (.inl rfl) (pe_op op_cat (pv 14) (pe_lst (pa_cons (pe_tup (pa_cons (pv 10) (pa_cons (pv 11) (pa_cons pe_str (pa_cons (pv 13) pa_nil))))) (pa_cons (pe_tup (pa_cons (pv 10) (pa_cons (pv 11) (pa_cons (pv 12) (pa_cons (pe_un un_neg pe_int) pa_nil))))) (pa_cons (pe_tup (pa_cons (pe_un un_neg pe_int) (pa_cons (pv 11) (pa_cons (pv 12) (pa_cons (pv 13) pa_nil))))) (pa_cons (pe_ix ix_list (pv 4) (pe_un un_neg pe_int) (fun _ _ => rfl)) pa_nil)))))))
      (pss_one (ps_set (i := 4) scBn.nd rfl (.inl rfl) (pe_op op_cat (pe_op op_cat (pe_slice sl_list (pv 4) po_none (po_some (pv 9))) (pe_lst (pa_cons (pe_call GO hr (by rfl) O.g O.F.kp O.b .nil pass0 (pa_cons (pv 0) (pa_cons (pv 14) pa_nil))) pa_nil))) (pe_slice sl_list (pv 4) (po_some (pe_op op_add (pv 9) (pe_call GPu hr (by rfl) Pu.g Pu.F.kp Pu.b .nil pass0 (pa_cons (pv 0) (pa_cons pe_int pa_nil))))) po_none)))))))) pss_nil)
      (pss_cutM (ps_if (pt_cmpR op_eq (pv 8) pe_int (nomark _)) (pss_one (ps_set (i := 5) scBn.nd rfl (.inl rfl) (pe_op op_cat (pv 5) (pe_lst (pa_cons (pe_call GO hr (by rfl) O.g O.F.kp O.b .nil pass0 (pa_cons (pv 0) (pa_cons (pe_op op_cat (pe_lst (pa_cons (pv 2) (pa_cons (pe_un un_neg pe_int) (pa_cons (pe_op op_pow pe_int pe_int) pa_nil)))) (pv 5)) pa_nil))) pa_nil))))) pss_nil)
      (pss_one (ps_if (pt_cmpR op_eq (pv 8) pe_int (nomark _)) (pss_one (ps_set (i := 6) scBn.nd rfl (.inl rfl) (pe_op op_cat (pe_lst (pa_cons (pe_call GO hr (by rfl) O.g O.F.kp O.b .nil pass0 (pa_cons (pv 0) (pa_cons (pe_op op_cat (pe_lst (pa_cons (pv 2) (pa_cons (pe_un un_neg pe_int) (pa_cons (pe_op op_pow pe_int pe_int) pa_nil)))) (pv 6)) pa_nil))) pa_nil)) (pv 6)))) pss_nil))))))))
      (pss_one (ps_ret (pe_tup (pa_cons (pv 2) (pa_cons (pv 3) (pa_cons (pv 4) (pa_cons (pv 5) (pa_cons (pv 6) pa_nil)))))))))), ?_⟩
    have hbig : 50000 ≤ sizeLine := by decide
    obtain ⟨la, lf, lg, ps, d1, d2, d3, d4, d5, d6⟩ := dM
    refine ⟨_, rfl, t, _, rfl, SqT.of d1, rfl, _, _, rfl, _, _, rfl, _, _, rfl, _, _, rfl, _, _, rfl, rfl, ?_⟩
    refine ⟨_, rfl, g, 3, rfl, by decide, by decide, B0, fun m H1 m0 m3 k1 B1 => ?_⟩
    have p0 : Pt K H la lf lg ps M := ⟨d2, d3, d4, d5, d6⟩
    have b0 := Bt.of okM h12
    obtain ⟨H0, eH0⟩ : ∃ H0, H0 = H := ⟨_, rfl⟩
    refine ⟨m, rfl, by omega, by omega, for_range (lo := 0) (n := m.toNat) (fun i σ H' => ∃ (la lf lg : Addr) (ps : List AR) (M : AM) (y7 y8 y9 y10 y11 y12 y13 y14 : Option V), σ = [some (.ref g.b), some (.ref t), some (.int M.n), some (.str (Sx M.ls)), some (.ref la), some (.ref lf), some (.ref lg), y7, y8, y9, y10, y11, y12, y13, y14] ∧ Bt i M ∧ Pt K H' la lf lg ps M ∧ Keep g.b H0 H' ∧ Bg H' g)
      ⟨la, lf, lg, ps, M, _, _, _, _, _, _, _, _, rfl, b0, p0.keep B0 k1, by rw [eH0]; exact k1, B1⟩ ?_ ?_⟩
    rotate_left
    · rintro σ H2 ⟨la, lf, lg, ps, M, y7, y8, y9, y10, y11, y12, y13, y14, rfl, b2, p2, k2, B2⟩
      rw [eH0] at k2
      refine ⟨_, rfl, _, rfl, _, rfl, _, rfl, _, rfl, (by decide : 5 ≤ sizeLine), fun tp ntp => ?_⟩
      have s3 := same_upd (o := .tup [.int M.n, .str (Sx M.ls), .ref la, .ref lf, .ref lg]) ntp
      have p3 := p2.same s3
      exact q tp M _ (b2.le (by omega)) ⟨la, lf, lg, ps, upd_same, p3.a, p3.r, p3.e, p3.f, p3.g⟩ (k2.trans (Keep.of s3)) (B2.same s3)
    clear p0 b0 d1 d2 d3 d4 d5 d6 la lf lg ps k1 B1 q okM h12 M
    rintro i σ H2 hi ⟨la, lf, lg, ps, M, y7, y8, y9, y10, y11, y12, y13, y14, rfl, b2, p2, k2, B2⟩
    refine ⟨_, rfl, g, 7, rfl, by decide, by decide, B2, fun w H3 w0 w7 k3 B3 => ?_⟩
    have p3 := p2.keep B2 k3
    have k03 := k2.trans k3
    clear p2 k2 B2 k3
    have p10 : ((10 : Int) ^ ((20 : Int).toNat)) = 100000000000000000000 := by decide +kernel
    -- rooms
    refine ⟨fun σ' H' => ∃ (la lf lg : Addr) (ps : List AR) (M : AM) (y9 y10 y11 y12 y13 y14 : Option V), σ' = [some (.ref g.b), some (.ref t), some (.int M.n), some (.str (Sx M.ls)), some (.ref la), some (.ref lf), some (.ref lg), some (.int (0 + (i : Int))), some (.int w), y9, y10, y11, y12, y13, y14] ∧ Bt (if w < 1 then i + 1 else i) M ∧ Pt K H' la lf lg ps M ∧ Keep g.b H0 H' ∧ Bg H' g, ?_, ?_⟩
    · refine ⟨_, rfl, rfl, _, rfl, ?_⟩
      refine ite2 (fun hw => ?_) (fun hw => ?_)
      · have hw : w = 0 := V.int.inj (of_decide_eq_true hw)
        refine ⟨_, rfl, 1, rfl, 10, 20, rfl, rfl, ⟨by decide, by decide, by decide⟩, _, rfl, _, _, rfl, rfl, (by decide : 6 ≤ sizeLine), fun l nl => ?_⟩
        refine ⟨g, l, _, rfl, B3.new nl, B3.ne nl, SqL.of upd_same, (by decide : 0 < 6), (by decide : 6 < 1000), fun v H4 hv k4 B4 => ?_⟩
        have hn := b2.n
        obtain ⟨n', rfl, n1, n2⟩ : ∃ n' : Int, v = .int n' ∧ -1 ≤ n' ∧ n' ≤ 100000000000000000000 + ((i + 1 : Nat) : Int) := by
          simp only [List.mem_cons, List.not_mem_nil, or_false] at hv
          rcases hv with rfl | rfl | rfl | rfl | rfl | rfl
          · exact ⟨_, rfl, by omega, by omega⟩
          · exact ⟨_, rfl, by omega, by omega⟩
          · exact ⟨_, rfl, by omega, by omega⟩
          · exact ⟨_, rfl, by rw [p10]; omega, by rw [p10]; omega⟩
          · exact ⟨_, rfl, by omega, by omega⟩
          · exact ⟨_, rfl, by omega, by omega⟩
        have B3' := B3.new (o := .lst [V.int 0, V.int 9, V.int (-1), V.int (10 ^ (20 : Int).toNat), V.int 8, V.int (M.n + 1)]) nl
        have k34 := (Keep.new (o := .lst [V.int 0, V.int 9, V.int (-1), V.int (10 ^ (20 : Int).toNat), V.int 8, V.int (M.n + 1)]) nl).trans k4
        have p4 := p3.keep B3 k34
        refine ⟨la, lf, lg, ps, ⟨n', M.ls, M.as, M.fs, M.gs⟩, _, _, _, _, _, _, rfl, ?_, ⟨p4.a, p4.r, p4.e, p4.f, p4.g⟩, k03.trans k34, B4⟩
        rw [if_pos (by omega)]
        have bm := b2.more
        exact ⟨⟨n1, n2⟩, bm.ls, bm.al, bm.ar, bm.fs, bm.gs⟩
      · have hw : w ≠ 0 := fun z => hw (decide_eq_true (by rw [z]))
        exact ⟨la, lf, lg, ps, M, _, _, _, _, _, _, rfl, by rw [if_neg (by omega)]; exact b2, p3, k03, B3⟩
    clear b2 p3 k03 B3
    rintro σ H4 ⟨la, lf, lg, ps, M, y9, y10, y11, y12, y13, y14, rfl, b4, p4, k04, B4⟩
    -- letters
    refine ⟨fun σ' H' => ∃ (la lf lg : Addr) (ps : List AR) (M : AM) (y9 y10 y11 y12 y13 y14 : Option V), σ' = [some (.ref g.b), some (.ref t), some (.int M.n), some (.str (Sx M.ls)), some (.ref la), some (.ref lf), some (.ref lg), some (.int (0 + (i : Int))), some (.int w), y9, y10, y11, y12, y13, y14] ∧ Bt (if w < 2 then i + 1 else i) M ∧ Pt K H' la lf lg ps M ∧ Keep g.b H0 H' ∧ Bg H' g, ?_, ?_⟩
    · refine ⟨_, rfl, rfl, _, rfl, ?_⟩
      refine ite2 (fun hw => ?_) (fun hw => ?_)
      · have hw : w = 1 := V.int.inj (of_decide_eq_true hw)
        rw [if_neg (by omega)] at b4
        obtain ⟨hls, hsg⟩ := b4.ls
        have hp1 : 2 ^ (i + 1) = 2 * 2 ^ i := by rw [Nat.pow_succ, Nat.mul_comm]
        have hp0 : 1 ≤ 2 ^ i := Nat.one_le_two_pow
        have hp2 : 2 ^ i ≤ 4 := by
          have : 2 ^ i ≤ 2 ^ 2 := Nat.pow_le_pow_right (by decide) (by omega)
          exact this
        refine ⟨_, rfl, _, rfl, _, rfl, _, _, rfl, rfl, by rw [sx_len]; omega, (by decide : 9 ≤ sizeLine), fun l nl => ?_⟩
        refine ⟨g, l, _, rfl, B4.new nl, B4.ne nl, SqL.of upd_same, (by decide : 0 < 9), (by decide : 9 < 1000), fun v H5 hv k5 B5 => ?_⟩
        obtain ⟨zs, rfl, hz⟩ : ∃ zs : List Nat, v = .str (Sx zs) ∧ zs.length ≤ 4 * 2 ^ (i + 1) ∧ ∀ c ∈ zs, c < 128 := by
          simp only [List.mem_cons, List.not_mem_nil, or_false] at hv
          rcases hv with rfl | rfl | rfl | rfl | rfl | rfl | rfl | rfl | rfl
          · exact ⟨[], by rw [← em_eq], Nat.zero_le _, by decide⟩
          · exact ⟨[97, 98, 99, 100], congrArg V.str (by decide +kernel), by show 4 ≤ _; omega, by decide⟩
          · exact ⟨[98, 97], congrArg V.str (by decide +kernel), by show 2 ≤ _; omega, by decide⟩
          · exact ⟨[97, 97], congrArg V.str (by decide +kernel), by show 2 ≤ _; omega, by decide⟩
          · exact ⟨[65], congrArg V.str (by decide +kernel), by show 1 ≤ _; omega, by decide⟩
          · exact ⟨[97, 49], congrArg V.str (by decide +kernel), by show 2 ≤ _; omega, by decide⟩
          · exact ⟨[97, 67], congrArg V.str (by decide +kernel), by show 2 ≤ _; omega, by decide⟩
          · exact ⟨M.ls ++ M.ls, by rw [sx_app], by rw [List.length_append]; omega, fun c hc => (List.mem_append.mp hc).elim (hsg c) (hsg c)⟩
          · exact ⟨[98, 100, 122], congrArg V.str (by decide +kernel), by show 3 ≤ _; omega, by decide⟩
        have k45 := (Keep.new nl).trans k5
        have p5 := p4.keep B4 k45
        refine ⟨la, lf, lg, ps, ⟨M.n, zs, M.as, M.fs, M.gs⟩, _, _, _, _, _, _, rfl, ?_, ⟨p5.a, p5.r, p5.e, p5.f, p5.g⟩, k04.trans k45, B5⟩
        rw [if_pos (by omega)]
        have bm := b4.more
        exact ⟨bm.n, hz, bm.al, bm.ar, bm.fs, bm.gs⟩
      · have hw : w ≠ 1 := fun z => hw (decide_eq_true (by rw [z]))
        refine ⟨la, lf, lg, ps, M, _, _, _, _, _, _, rfl, ?_, p4, k04, B4⟩
        by_cases h : w < 1
        · rw [if_pos h] at b4
          rw [if_pos (by omega)]
          exact b4
        · rw [if_neg h] at b4
          rw [if_neg (by omega)]
          exact b4
    clear b4 p4 k04 B4
    rintro σ H4 ⟨la, lf, lg, ps, M, y9, y10, y11, y12, y13, y14, rfl, b4, p4, k04, B4⟩
    -- arrows
    refine ⟨fun σ' H' => ∃ (la lf lg : Addr) (ps : List AR) (M : AM) (y9 y10 y11 y12 y13 y14 : Option V), σ' = [some (.ref g.b), some (.ref t), some (.int M.n), some (.str (Sx M.ls)), some (.ref la), some (.ref lf), some (.ref lg), some (.int (0 + (i : Int))), some (.int w), y9, y10, y11, y12, y13, y14] ∧ Bt (if w < 4 then i + 1 else i) M ∧ Pt K H' la lf lg ps M ∧ Keep g.b H0 H' ∧ Bg H' g, ?_, ?_⟩
    · have keepB : ∀ (h : ¬ (w = 2 ∨ w = 3) ∨ M.as = []), Bt (if w < 4 then i + 1 else i) M := fun h => by
        by_cases h2 : w < 2
        · rw [if_pos h2] at b4
          rw [if_pos (by omega)]
          exact b4
        · rw [if_neg h2] at b4
          by_cases h4 : w < 4
          · rw [if_pos h4]
            exact b4.more
          · rw [if_neg h4]
            exact b4
      refine ⟨_, rfl, _, _, rfl, rfl, _, rfl, ?_⟩
      by_cases h4 : w < 4
      rotate_left
      · rw [decide_eq_false h4]
        first | exact iteF ⟨la, lf, lg, ps, M, _, _, _, _, _, _, rfl, keepB (.inl (by omega)), p4, k04, B4⟩ | exact iteF (iteF ⟨la, lf, lg, ps, M, _, _, _, _, _, _, rfl, keepB (.inl (by omega)), p4, k04, B4⟩) | exact iteF (iteF (iteF ⟨la, lf, lg, ps, M, _, _, _, _, _, _, rfl, keepB (.inl (by omega)), p4, k04, B4⟩))
      rw [decide_eq_true h4]
      refine iteT ?_
      refine ⟨_, rfl, _, _, rfl, rfl, _, rfl, ?_⟩
      by_cases h1 : w > 1
      rotate_left
      · rw [decide_eq_false h1]
        first | exact iteF ⟨la, lf, lg, ps, M, _, _, _, _, _, _, rfl, keepB (.inl (by omega)), p4, k04, B4⟩ | exact iteF (iteF ⟨la, lf, lg, ps, M, _, _, _, _, _, _, rfl, keepB (.inl (by omega)), p4, k04, B4⟩) | exact iteF (iteF (iteF ⟨la, lf, lg, ps, M, _, _, _, _, _, _, rfl, keepB (.inl (by omega)), p4, k04, B4⟩))
      rw [decide_eq_true h1]
      refine iteT ?_
      rw [if_neg (by omega)] at b4
      refine ⟨_, rfl, (by decide : 0 ≤ sizeLine), fun z nz => ?_⟩
      have sz := same_upd (o := .lst []) nz
      have p5 := p4.same sz
      have B5 := B4.same sz
      refine ⟨.list (M.as.map adat), .list [], .lst (SqL.of p5.a) (by rw [← p5.e]; exact dpRow p5.r.row), .lst (SqL.of upd_same) .nil, shR b4.okS, by decide +kernel, _, rfl, ?_⟩
      rw [eqv_anil]
      have k45 := k04.trans (Keep.of sz)
      generalize upd H4 z (.lst []) = H5 at p5 B5 k45
      by_cases hne : M.as = []
      · rw [decide_eq_true hne]
        first | exact iteF ⟨la, lf, lg, ps, M, _, _, _, _, _, _, rfl, keepB (.inr hne), p5, k45, B5⟩ | exact iteF (iteF ⟨la, lf, lg, ps, M, _, _, _, _, _, _, rfl, keepB (.inr hne), p5, k45, B5⟩) | exact iteF (iteF (iteF ⟨la, lf, lg, ps, M, _, _, _, _, _, _, rfl, keepB (.inr hne), p5, k45, B5⟩))
      rw [decide_eq_false hne]
      refine iteT ?_
      have hpl : (rfs ps).length = M.as.length := by
        rw [← p5.e]
        unfold rfs
        rw [List.length_map, List.length_map]
      have hal := b4.al
      have hp0 : 1 ≤ 2 ^ i := Nat.one_le_two_pow
      have hp1 : 2 ^ (i + 1) = 2 * 2 ^ i := by rw [Nat.pow_succ, Nat.mul_comm]
      have hp2 : 2 ^ i ≤ 4 := (Nat.pow_le_pow_right (by decide) (by omega) : 2 ^ i ≤ 2 ^ 2)
      have hpos := List.length_pos_iff.mpr hne
      refine ⟨_, rfl, _, rfl, la, rfs ps, rfl, .inl (SqL.of p5.a), g, ((rfs ps).length : Nat), rfl, by omega, ?_, B5, fun at_ H6 t0 t1 k6 B6 => ?_⟩
      · have : (((rfs ps).length : Nat) : Int).natAbs < 2 ^ 64 := by omega
        exact Nat.lt_trans this (by decide)
      have p6 := p5.keep B5 k6
      have k46 := k45.trans k6
      obtain ⟨j, rfl⟩ : ∃ j : Nat, at_ = (j : Int) := ⟨at_.toNat, by omega⟩
      have hjl : j < ps.length := by
        have : (rfs ps).length = ps.length := List.length_map ..
        omega
      obtain ⟨p, hp⟩ : ∃ p, ps[j]? = some p := ⟨_, List.getElem?_eq_getElem hjl⟩
      have hpm := List.mem_of_getElem? hp
      obtain ⟨⟨zs, ez, hz1, hz2⟩, hdd⟩ := b4.ar p.2 (by rw [← p6.e]; exact List.mem_map_of_mem hpm)
      refine ⟨_, rfl, _, rfl, la, rfs ps, (j : Nat), .ref p.1, rfl, rfl, SqL.of p6.a, atI_nat (by unfold rfs; rw [List.getElem?_map, hp]; rfl), p.1, _, rfl, SqT.of (p6.r p hpm), rfl, _, _, rfl, _, _, rfl, _, _, rfl, _, _, rfl, rfl, ?_⟩
      refine ⟨_, rfl, _, rfl, _, rfl, _, rfl, (by decide : 4 ≤ sizeLine), fun t1 nt1 => ?_⟩
      have st1 := same_upd (o := .tup [.int M.n, .str p.2.2.1, .str p.2.2.2.1, .int p.2.2.2.2]) nt1
      have ht1 : (upd H6 t1 (.tup [.int M.n, .str p.2.2.1, .str p.2.2.2.1, .int p.2.2.2.2])) t1 = some (.tup [.int M.n, .str p.2.2.1, .str p.2.2.2.1, .int p.2.2.2.2]) := upd_same
      generalize upd H6 t1 (.tup [.int M.n, .str p.2.2.1, .str p.2.2.2.1, .int p.2.2.2.2]) = H7 at st1 ht1
      refine ⟨_, rfl, _, rfl, _, rfl, (by decide : 4 ≤ sizeLine), fun t2 nt2 => ?_⟩
      have st2 := same_upd (o := .tup [.int p.2.1, .str "", .str p.2.2.2.1, .int p.2.2.2.2]) nt2
      have ht2 : (upd H7 t2 (.tup [.int p.2.1, .str "", .str p.2.2.2.1, .int p.2.2.2.2])) t2 = some (.tup [.int p.2.1, .str "", .str p.2.2.2.1, .int p.2.2.2.2]) := upd_same
      generalize upd H7 t2 (.tup [.int p.2.1, .str "", .str p.2.2.2.1, .int p.2.2.2.2]) = H8 at st2 ht2
      refine ⟨_, rfl, _, rfl, zs, 2, by rw [ez], rfl, by decide, by omega, _, rfl, _, rfl, (by decide : 4 ≤ sizeLine), fun t3 nt3 => ?_⟩
      have st3 := same_upd (o := .tup [.int p.2.1, .str (Sx (rep 2 zs)), .str p.2.2.2.1, .int p.2.2.2.2]) nt3
      have ht3 : (upd H8 t3 (.tup [.int p.2.1, .str (Sx (rep 2 zs)), .str p.2.2.2.1, .int p.2.2.2.2])) t3 = some (.tup [.int p.2.1, .str (Sx (rep 2 zs)), .str p.2.2.2.1, .int p.2.2.2.2]) := upd_same
      generalize upd H8 t3 (.tup [.int p.2.1, .str (Sx (rep 2 zs)), .str p.2.2.2.1, .int p.2.2.2.2]) = H9 at st3 ht3
      refine ⟨_, rfl, _, rfl, _, rfl, (by decide : 4 ≤ sizeLine), fun t4 nt4 => ?_⟩
      have st4 := same_upd (o := .tup [.int p.2.1, .str "Q", .str p.2.2.2.1, .int p.2.2.2.2]) nt4
      have ht4 : (upd H9 t4 (.tup [.int p.2.1, .str "Q", .str p.2.2.2.1, .int p.2.2.2.2])) t4 = some (.tup [.int p.2.1, .str "Q", .str p.2.2.2.1, .int p.2.2.2.2]) := upd_same
      generalize upd H9 t4 (.tup [.int p.2.1, .str "Q", .str p.2.2.2.1, .int p.2.2.2.2]) = H10 at st4 ht4
      refine ⟨(by decide : 4 ≤ sizeLine), fun l1 n11 => ?_⟩
      have sl1 := same_upd (o := .lst [.ref t1, .ref t2, .ref t3, .ref t4]) n11
      have hl1 : (upd H10 l1 (.lst [.ref t1, .ref t2, .ref t3, .ref t4])) l1 = some (.lst [.ref t1, .ref t2, .ref t3, .ref t4]) := upd_same
      generalize upd H10 l1 (.lst [.ref t1, .ref t2, .ref t3, .ref t4]) = H11 at sl1 hl1
      refine ⟨_, rfl, _, rfl, _, rfl, _, rfl, (by decide : 4 ≤ sizeLine), fun t5 nt5 => ?_⟩
      have st5 := same_upd (o := .tup [.int p.2.1, .str p.2.2.1, .str "dear", .int p.2.2.2.2]) nt5
      have ht5 : (upd H11 t5 (.tup [.int p.2.1, .str p.2.2.1, .str "dear", .int p.2.2.2.2])) t5 = some (.tup [.int p.2.1, .str p.2.2.1, .str "dear", .int p.2.2.2.2]) := upd_same
      generalize upd H11 t5 (.tup [.int p.2.1, .str p.2.2.1, .str "dear", .int p.2.2.2.2]) = H12 at st5 ht5
      refine ⟨_, rfl, _, rfl, _, rfl, 1, rfl, (by decide : 4 ≤ sizeLine), fun t6 nt6 => ?_⟩
      have st6 := same_upd (o := .tup [.int p.2.1, .str p.2.2.1, .str p.2.2.2.1, .int (-1)]) nt6
      have ht6 : (upd H12 t6 (.tup [.int p.2.1, .str p.2.2.1, .str p.2.2.2.1, .int (-1)])) t6 = some (.tup [.int p.2.1, .str p.2.2.1, .str p.2.2.2.1, .int (-1)]) := upd_same
      generalize upd H12 t6 (.tup [.int p.2.1, .str p.2.2.1, .str p.2.2.2.1, .int (-1)]) = H13 at st6 ht6
      refine ⟨1, rfl, _, rfl, _, rfl, _, rfl, (by decide : 4 ≤ sizeLine), fun t7 nt7 => ?_⟩
      have st7 := same_upd (o := .tup [.int (-1), .str p.2.2.1, .str p.2.2.2.1, .int p.2.2.2.2]) nt7
      have ht7 : (upd H13 t7 (.tup [.int (-1), .str p.2.2.1, .str p.2.2.2.1, .int p.2.2.2.2])) t7 = some (.tup [.int (-1), .str p.2.2.1, .str p.2.2.2.1, .int p.2.2.2.2]) := upd_same
      generalize upd H13 t7 (.tup [.int (-1), .str p.2.2.1, .str p.2.2.2.1, .int p.2.2.2.2]) = H14 at st7 ht7
      obtain ⟨pi, pz, ePs⟩ : ∃ pi pz, ps = pi ++ [pz] := ⟨_, _, (List.dropLast_concat_getLast (fun z => by rw [z] at hjl; exact absurd hjl (Nat.not_lt_zero _))).symm⟩
      have hzm : pz ∈ ps := by rw [ePs]; exact List.mem_append_right _ List.mem_cons_self
      have sA := st1.trans (st2.trans (st3.trans (st4.trans (sl1.trans (st5.trans (st6.trans st7))))))
      have pA := p6.same sA
      have BA := B6.same sA
      refine ⟨_, rfl, 1, rfl, la, rfs ps, -1, .ref pz.1, rfl, rfl, SqL.of pA.a, ?_, (by decide : 4 ≤ sizeLine), fun l2 n12 => ?_⟩
      · rw [ePs, ← rfs_app']
        exact atI_last _ _
      have sl2 := same_upd (o := .lst [.ref t5, .ref t6, .ref t7, .ref pz.1]) n12
      have hl2 : (upd H14 l2 (.lst [.ref t5, .ref t6, .ref t7, .ref pz.1])) l2 = some (.lst [.ref t5, .ref t6, .ref t7, .ref pz.1]) := upd_same
      generalize upd H14 l2 (.lst [.ref t5, .ref t6, .ref t7, .ref pz.1]) = H15 at sl2 hl2
      refine ⟨l1, l2, _, _, rfl, rfl, (st5.trans (st6.trans (st7.trans sl2))) _ _ hl1, hl2, (by decide : 4 + 4 ≤ sizeLine), fun l3 n13 => ?_⟩
      have sl3 := same_upd (o := .lst ([V.ref t1, .ref t2, .ref t3, .ref t4] ++ [.ref t5, .ref t6, .ref t7, .ref pz.1])) n13
      have hl3 : (upd H15 l3 (.lst ([V.ref t1, .ref t2, .ref t3, .ref t4] ++ [.ref t5, .ref t6, .ref t7, .ref pz.1]))) l3 = some (.lst ([V.ref t1, .ref t2, .ref t3, .ref t4] ++ [.ref t5, .ref t6, .ref t7, .ref pz.1])) := upd_same
      generalize upd H15 l3 (.lst ([V.ref t1, .ref t2, .ref t3, .ref t4] ++ [.ref t5, .ref t6, .ref t7, .ref pz.1])) = H16 at sl3 hl3
      have nel3 := (BA.same sl2).ne n13
      have s716 := sl2.trans sl3
      have hrep : (rep 2 zs).length = 2 * zs.length := by
        unfold rep
        simp
        omega
      -- what may come
      let ok1 : Arw → Prop := fun a => (∃ ys : List Nat, a.2.1 = Sx ys ∧ ys.length ≤ 2 ^ (i + 1) ∧ ∀ c ∈ ys, c < 128) ∧ (a.2.2.1 ∈ deedsL ∨ a.2.2.1 = "dear")
      have okl : ∃ ys : List Nat, p.2.2.1 = Sx ys ∧ ys.length ≤ 2 ^ (i + 1) ∧ ∀ c ∈ ys, c < 128 := ⟨zs, ez, by omega, hz2⟩
      have hodd : ∀ v ∈ [V.ref t1, .ref t2, .ref t3, .ref t4] ++ [V.ref t5, .ref t6, .ref t7, .ref pz.1], ∃ x : AR, v = .ref x.1 ∧ H16 x.1 = some (.tup (aV x.2)) ∧ ok1 x.2 := fun v hv => by
        have hx : v = .ref t1 ∨ v = .ref t2 ∨ v = .ref t3 ∨ v = .ref t4 ∨ v = .ref t5 ∨ v = .ref t6 ∨ v = .ref t7 ∨ v = .ref pz.1 := by
          simpa using hv
        rcases hx with rfl | rfl | rfl | rfl | rfl | rfl | rfl | rfl
        · exact ⟨(t1, M.n, p.2.2.1, p.2.2.2.1, p.2.2.2.2), rfl, ((st2.trans (st3.trans (st4.trans (sl1.trans (st5.trans (st6.trans (st7.trans s716))))))) _ _ ht1), okl, hdd⟩
        · exact ⟨(t2, p.2.1, "", p.2.2.2.1, p.2.2.2.2), rfl, ((st3.trans (st4.trans (sl1.trans (st5.trans (st6.trans (st7.trans s716)))))) _ _ ht2), ⟨[], em_eq, Nat.zero_le _, fun _ h => nomatch h⟩, hdd⟩
        · exact ⟨(t3, p.2.1, Sx (rep 2 zs), p.2.2.2.1, p.2.2.2.2), rfl, ((st4.trans (sl1.trans (st5.trans (st6.trans (st7.trans s716))))) _ _ ht3), ⟨rep 2 zs, rfl, by omega, fun c hc => by
            unfold rep at hc
            obtain ⟨l, hl, hc⟩ := List.mem_flatten.mp hc
            rw [(List.mem_replicate.mp hl).2] at hc
            exact hz2 c hc⟩, hdd⟩
        · exact ⟨(t4, p.2.1, "Q", p.2.2.2.1, p.2.2.2.2), rfl, ((sl1.trans (st5.trans (st6.trans (st7.trans s716)))) _ _ ht4), ⟨[81], (by show ("Q" : Str) = Sx [81]; decide +kernel), by show 1 ≤ _; omega, fun c hc => by rw [List.mem_singleton.mp hc]; decide⟩, hdd⟩
        · exact ⟨(t5, p.2.1, p.2.2.1, "dear", p.2.2.2.2), rfl, ((st6.trans (st7.trans s716)) _ _ ht5), okl, .inr rfl⟩
        · exact ⟨(t6, p.2.1, p.2.2.1, p.2.2.2.1, -1), rfl, ((st7.trans s716) _ _ ht6), okl, hdd⟩
        · exact ⟨(t7, -1, p.2.2.1, p.2.2.2.1, p.2.2.2.2), rfl, (s716 _ _ ht7), okl, hdd⟩
        · exact ⟨pz, rfl, (pA.same s716).r pz hzm, b4.more.ar pz.2 (by rw [← p6.e]; exact List.mem_map_of_mem hzm)⟩
      have pB := pA.same s716
      have BB := BA.same s716
      have kB := k46.trans (Keep.of (sA.trans s716))
      clear st1 st2 st3 st4 st5 st6 st7 sl1 sl2 sl3 ht1 ht2 ht3 ht4 ht5 ht6 ht7 hl1 hl2 s716 sA pA BA p6 B6 k6 p5 B5 k45 k46 sz nz
      -- the new row
      refine ⟨_, rfl, _, rfl, (j : Int), rfl, la, rfs ps, rfl, SqL.of pB.a, fun q1 nq1 => ?_⟩
      obtain ⟨as1, ec1, hm1, hc1⟩ := rfs_cut ps none (some (j : Int))
      rw [ec1]
      have sq1 := same_upd (o := .lst (rfs as1)) nq1
      have hq1 : (upd H16 q1 (.lst (rfs as1))) q1 = some (.lst (rfs as1)) := upd_same
      have pC := pB.same sq1
      have BC := BB.same sq1
      have hl3C := sq1 _ _ hl3
      have hoddC : ∀ v ∈ [V.ref t1, .ref t2, .ref t3, .ref t4] ++ [V.ref t5, .ref t6, .ref t7, .ref pz.1], ∃ x : AR, v = .ref x.1 ∧ (upd H16 q1 (.lst (rfs as1))) x.1 = some (.tup (aV x.2)) ∧ ok1 x.2 := fun v hv => by
        obtain ⟨x, h1, h2, h3⟩ := hodd v hv
        exact ⟨x, h1, sq1 _ _ h2, h3⟩
      generalize upd H16 q1 (.lst (rfs as1)) = H17 at sq1 hq1 pC BC hl3C hoddC
      have kC := kB.trans (Keep.of sq1)
      refine ⟨_, rfl, _, rfl, g, l3, _, rfl, BC, nel3, SqL.of hl3C, (by decide : 0 < 8), (by decide : 8 < 1000), fun v H18 hv k18 B18 => ?_⟩
      obtain ⟨x, rfl, hx, hxo⟩ := hoddC v hv
      have hx18 : AkAt H18 [x] := BC.keepAk k18 (fun y hy => by rw [List.mem_singleton.mp hy]; exact hx)
      have hq18 := k18 _ _ (BC.neRfs hq1) hq1
      have pD := pC.keep BC k18
      have kD := kC.trans k18
      refine ⟨(by decide : 1 ≤ sizeLine), fun l4 n14 => ?_⟩
      have sl4 := same_upd (o := .lst [.ref x.1]) n14
      have hl4 : (upd H18 l4 (.lst [.ref x.1])) l4 = some (.lst (rfs [x])) := upd_same
      generalize upd H18 l4 (.lst [.ref x.1]) = H19 at sl4 hl4
      have hpl0 : (rfs ps).length = ps.length := List.length_map ..
      have e1l : (rfs as1).length = as1.length := List.length_map ..
      have h50 : ps.length ≤ 51 := by omega
      refine ⟨q1, l4, _, _, rfl, rfl, sl4 _ _ hq18, hl4, by rw [e1l]; show _ + 1 ≤ sizeLine; omega, fun l5 n15 => ?_⟩
      rw [rfs_app']
      have sl5 := same_upd (o := .lst (rfs (as1 ++ [x]))) n15
      have hl5 : (upd H19 l5 (.lst (rfs (as1 ++ [x])))) l5 = some (.lst (rfs (as1 ++ [x]))) := upd_same
      have pE := pD.same (sl4.trans sl5)
      have BE := B18.same (sl4.trans sl5)
      have hxE := (hx18.same sl4).same sl5
      have kE := kD.trans (Keep.of (sl4.trans sl5))
      generalize upd H19 l5 (.lst (rfs (as1 ++ [x]))) = H20 at hl5 pE BE hxE kE sl5
      refine ⟨_, rfl, _, rfl, _, rfl, g, 2, rfl, by decide, by decide, BE, fun z H21 z0 z2 k21 B21 => ?_⟩
      have pF := pE.keep BE k21
      have hxF := BE.keepAk k21 hxE
      have hl5F := k21 _ _ (BE.neRfs hl5) hl5
      have kF := kE.trans k21
      refine ⟨_, _, rfl, rfl, _, rfl, la, rfs ps, rfl, SqL.of pF.a, fun q2 nq2 => ?_⟩
      obtain ⟨as2, ec2, hm2, hc2⟩ := rfs_cut ps (some ((j : Int) + z)) none
      rw [ec2]
      have sq2 := same_upd (o := .lst (rfs as2)) nq2
      have hq2 : (upd H21 q2 (.lst (rfs as2))) q2 = some (.lst (rfs as2)) := upd_same
      generalize upd H21 q2 (.lst (rfs as2)) = H22 at sq2 hq2
      have e2l : (rfs as2).length = as2.length := List.length_map ..
      have e3l : (rfs (as1 ++ [x])).length = as1.length + 1 := by
        unfold rfs
        rw [List.length_map, List.length_append]
        rfl
      refine ⟨l5, q2, _, _, rfl, rfl, sq2 _ _ hl5F, hq2, by rw [e2l, e3l]; omega, fun l6 n16 => ?_⟩
      rw [rfs_app']
      have sl6 := same_upd (o := .lst (rfs (as1 ++ [x] ++ as2))) n16
      have pG := pF.same (sq2.trans sl6)
      have hxG := (hxF.same sq2).same sl6
      refine ⟨l6, lf, lg, as1 ++ [x] ++ as2, ⟨M.n, M.ls, (as1 ++ [x] ++ as2).map (·.2), M.fs, M.gs⟩, _, _, _, _, _, _, rfl, ?_, ⟨upd_same, fun y hy => ?_, rfl, pG.f, pG.g⟩, kF.trans (Keep.of (sq2.trans sl6)), B21.same (sq2.trans sl6)⟩
      · rw [if_pos (by omega)]
        have bm := b4.more
        refine ⟨bm.n, bm.ls, ?_, fun a ha => ?_, bm.fs, bm.gs⟩
        · show ((as1 ++ [x] ++ as2).map (·.2)).length + 1 ≤ _
          rw [List.length_map, List.length_append, List.length_append]
          show as1.length + 1 + as2.length + 1 ≤ _
          omega
        · obtain ⟨y, hy, rfl⟩ := List.mem_map.mp ha
          rcases List.mem_append.mp hy with h | h
          · rcases List.mem_append.mp h with h | h
            · exact bm.ar y.2 (by rw [← p4.e]; exact List.mem_map_of_mem (hm1 y h))
            · rw [List.mem_singleton.mp h]
              exact hxo
          · exact bm.ar y.2 (by rw [← p4.e]; exact List.mem_map_of_mem (hm2 y h))
      · rcases List.mem_append.mp hy with h | h
        · rcases List.mem_append.mp h with h | h
          · exact pG.r y (hm1 y h)
          · exact hxG y h
        · exact pG.r y (hm2 y h)
    clear b4 p4 k04 B4
    rintro σ H4 ⟨la, lf, lg, ps, M, y9, y10, y11, y12, y13, y14, rfl, b4, p4, k04, B4⟩
    -- firsts
    refine ⟨fun σ' H' => ∃ (la lf lg : Addr) (ps : List AR) (M : AM) (y9 y10 y11 y12 y13 y14 : Option V), σ' = [some (.ref g.b), some (.ref t), some (.int M.n), some (.str (Sx M.ls)), some (.ref la), some (.ref lf), some (.ref lg), some (.int (0 + (i : Int))), some (.int w), y9, y10, y11, y12, y13, y14] ∧ Bt (if w < 5 then i + 1 else i) M ∧ Pt K H' la lf lg ps M ∧ Keep g.b H0 H' ∧ Bg H' g, ?_, ?_⟩
    · refine ⟨_, rfl, rfl, _, rfl, ?_⟩
      refine ite2 (fun hw => ?_) (fun hw => ?_)
      · have hw : w = 4 := V.int.inj (of_decide_eq_true hw)
        rw [if_neg (by omega)] at b4
        have hfs := b4.fs
        refine ⟨_, rfl, _, rfl, _, rfl, 1, rfl, 10, 20, rfl, rfl, ⟨by decide, by decide, by decide⟩, (by decide : 3 ≤ sizeLine), fun l1 n1 => ?_⟩
        have s1 := same_upd (o := .lst [V.int M.n, V.int (-1), V.int (10 ^ (20 : Int).toNat)]) n1
        have e1 : (upd H4 l1 (.lst [V.int M.n, V.int (-1), V.int (10 ^ (20 : Int).toNat)])) l1 = some (.lst [V.int M.n, V.int (-1), V.int (10 ^ (20 : Int).toNat)]) := upd_same
        have p5 := p4.same s1
        have B5 := B4.same s1
        generalize upd H4 l1 (.lst [V.int M.n, V.int (-1), V.int (10 ^ (20 : Int).toNat)]) = H5 at s1 e1 p5 B5
        refine ⟨_, rfl, l1, lf, _, _, rfl, rfl, e1, p5.f, by rw [List.length_map]; show 3 + _ ≤ sizeLine; omega, fun l2 n2 => ?_⟩
        have s2 := same_upd (o := .lst ([V.int M.n, V.int (-1), V.int (10 ^ (20 : Int).toNat)] ++ M.fs.map V.int)) n2
        refine ⟨g, l2, _, rfl, B5.new n2, B5.ne n2, SqL.of upd_same, by simp, by rw [List.length_append, List.length_map]; show 3 + _ < 1000; omega, fun v H6 hv k6 B6 => ?_⟩
        obtain ⟨n', rfl⟩ : ∃ n' : Int, v = .int n' := by
          rcases List.mem_append.mp hv with h | h
          · simp only [List.mem_cons, List.not_mem_nil, or_false] at h
            rcases h with rfl | rfl | rfl <;> exact ⟨_, rfl⟩
          · obtain ⟨r, _, rfl⟩ := List.mem_map.mp h
            exact ⟨_, rfl⟩
        have k46 := (Keep.of s1).trans ((Keep.new n2).trans k6)
        have p6 := p4.keep B4 k46
        refine ⟨(by decide : 1 ≤ sizeLine), fun l3 n3 => ?_⟩
        have s3 := same_upd (o := .lst [V.int n']) n3
        have p7 := p6.same s3
        have B7 := B6.same s3
        refine ⟨lf, l3, _, _, rfl, rfl, p7.f, upd_same, by rw [List.length_map]; show _ + 1 ≤ sizeLine; omega, fun l4 n4 => ?_⟩
        have s4 := same_upd (o := .lst (M.fs.map V.int ++ [V.int n'])) n4
        have p8 := p7.same s4
        refine ⟨la, l4, lg, ps, ⟨M.n, M.ls, M.as, M.fs ++ [n'], M.gs⟩, _, _, _, _, _, _, rfl, ?_, ⟨p8.a, p8.r, p8.e, by rw [upd_same, List.map_append]; rfl, p8.g⟩, k04.trans (k46.trans (Keep.of (s3.trans s4))), B7.same s4⟩
        rw [if_pos (by omega)]
        have bm := b4.more
        exact ⟨bm.n, bm.ls, bm.al, bm.ar, by show (M.fs ++ [n']).length ≤ _; rw [List.length_append]; show _ + 1 ≤ _; omega, bm.gs⟩
      · have hw : w ≠ 4 := fun z => hw (decide_eq_true (by rw [z]))
        refine ⟨la, lf, lg, ps, M, _, _, _, _, _, _, rfl, ?_, p4, k04, B4⟩
        by_cases h : w < 4
        · rw [if_pos h] at b4
          rw [if_pos (by omega)]
          exact b4
        · rw [if_neg h] at b4
          rw [if_neg (by omega)]
          exact b4
    clear b4 p4 k04 B4
    rintro σ H4 ⟨la, lf, lg, ps, M, y9, y10, y11, y12, y13, y14, rfl, b4, p4, k04, B4⟩
    -- lasts
    refine ⟨_, rfl, rfl, _, rfl, ?_⟩
    refine ite2 (fun hw => ?_) (fun hw => ?_)
    · have hw : w = 5 := V.int.inj (of_decide_eq_true hw)
      rw [if_neg (by omega)] at b4
      have hfs := b4.gs
      refine ⟨_, rfl, _, rfl, 1, rfl, 10, 20, rfl, rfl, ⟨by decide, by decide, by decide⟩, (by decide : 3 ≤ sizeLine), fun l1 n1 => ?_⟩
      have s1 := same_upd (o := .lst [V.int M.n, V.int (-1), V.int (10 ^ (20 : Int).toNat)]) n1
      have e1 : (upd H4 l1 (.lst [V.int M.n, V.int (-1), V.int (10 ^ (20 : Int).toNat)])) l1 = some (.lst [V.int M.n, V.int (-1), V.int (10 ^ (20 : Int).toNat)]) := upd_same
      have p5 := p4.same s1
      have B5 := B4.same s1
      generalize upd H4 l1 (.lst [V.int M.n, V.int (-1), V.int (10 ^ (20 : Int).toNat)]) = H5 at s1 e1 p5 B5
      refine ⟨_, rfl, l1, lg, _, _, rfl, rfl, e1, p5.g, by rw [List.length_map]; show 3 + _ ≤ sizeLine; omega, fun l2 n2 => ?_⟩
      have s2 := same_upd (o := .lst ([V.int M.n, V.int (-1), V.int (10 ^ (20 : Int).toNat)] ++ M.gs.map V.int)) n2
      refine ⟨g, l2, _, rfl, B5.new n2, B5.ne n2, SqL.of upd_same, by simp, by rw [List.length_append, List.length_map]; show 3 + _ < 1000; omega, fun v H6 hv k6 B6 => ?_⟩
      obtain ⟨n', rfl⟩ : ∃ n' : Int, v = .int n' := by
        rcases List.mem_append.mp hv with h | h
        · simp only [List.mem_cons, List.not_mem_nil, or_false] at h
          rcases h with rfl | rfl | rfl <;> exact ⟨_, rfl⟩
        · obtain ⟨r, _, rfl⟩ := List.mem_map.mp h
          exact ⟨_, rfl⟩
      have k46 := (Keep.of s1).trans ((Keep.new n2).trans k6)
      have p6 := p4.keep B4 k46
      refine ⟨(by decide : 1 ≤ sizeLine), fun l3 n3 => ?_⟩
      have s3 := same_upd (o := .lst [V.int n']) n3
      have p7 := p6.same s3
      have B7 := B6.same s3
      refine ⟨_, rfl, l3, lg, _, _, rfl, rfl, upd_same, p7.g, by rw [List.length_map]; show 1 + _ ≤ sizeLine; omega, fun l4 n4 => ?_⟩
      have s4 := same_upd (o := .lst ([V.int n'] ++ M.gs.map V.int)) n4
      have p8 := p7.same s4
      refine ⟨la, lf, l4, ps, ⟨M.n, M.ls, M.as, M.fs, n' :: M.gs⟩, _, _, _, _, _, _, _, _, rfl, ?_, ⟨p8.a, p8.r, p8.e, p8.f, by rw [upd_same]; rfl⟩, k04.trans (k46.trans (Keep.of (s3.trans s4))), B7.same s4⟩
      have bm := b4.more
      exact ⟨bm.n, bm.ls, bm.al, bm.ar, bm.fs, by show M.gs.length + 1 ≤ _; omega⟩
    · have hw : w ≠ 5 := fun z => hw (decide_eq_true (by rw [z]))
      refine ⟨la, lf, lg, ps, M, _, _, _, _, _, _, _, _, rfl, ?_, p4, k04, B4⟩
      by_cases h : w < 5
      · rw [if_pos h] at b4
        exact b4
      · rw [if_neg h] at b4
        exact b4.more
end
end Onp
set_option maxHeartbeats 8000000
set_option autoImplicit false
namespace Onp
open PySem PySem.Spec PyProof.Rows L2 HotX L2H LamX
abbrev sAllD : Stmt := topS 47
theorem du_size {M : AM} (h : ¬ (1 ≤ M.n ∧ M.n ≤ 8)) : dueW M = "badsize" := by
  unfold dueW whyM
  rw [if_pos h]
  exact wo_size
theorem du_let {M : AM} (h : 1 ≤ M.n ∧ M.n ≤ 8) (h2 : letB M.ls = false) : dueW M = "badletters" := by
  unfold dueW whyM
  rw [if_neg (fun z => z h), if_pos h2]
  exact wo_letters
theorem du_arw {M : AM} (h : 1 ≤ M.n ∧ M.n ≤ 8) (h2 : letB M.ls = true) (h3 : ¬ arwG M.n M.ls M.as) : dueW M = "badarrow" := by
  unfold dueW whyM
  rw [if_neg (fun z => z h), if_neg (by rw [h2]; decide), if_pos h3]
  exact wo_arrow
theorem du_full {M : AM} (h : 1 ≤ M.n ∧ M.n ≤ 8) (h2 : letB M.ls = true) (h3 : arwG M.n M.ls M.as) (h4 : 40 < M.as.length) : dueW M = "full" := by
  unfold dueW whyM
  rw [if_neg (fun z => z h), if_neg (by rw [h2]; decide), if_neg (fun z => z h3), if_pos h4]
  exact wo_full
theorem du_room {M : AM} (h : 1 ≤ M.n ∧ M.n ≤ 8) (h2 : letB M.ls = true) (h3 : arwG M.n M.ls M.as) (h4 : ¬ 40 < M.as.length) (h5 : ¬ rooG M.n M.fs ∨ ¬ rooG M.n M.gs) : dueW M = "badroom" := by
  unfold dueW whyM
  rw [if_neg (fun z => z h), if_neg (by rw [h2]; decide), if_neg (fun z => z h3), if_neg h4]
  by_cases c : rooG M.n M.fs
  · rw [if_neg (fun z => z c), if_pos (h5.resolve_left fun z => z c)]
    exact wo_room
  · rw [if_pos c]
    exact wo_room
theorem du_none {M : AM} (h : 1 ≤ M.n ∧ M.n ≤ 8) (h2 : letB M.ls = true) (h3 : arwG M.n M.ls M.as) (h4 : ¬ 40 < M.as.length) (h5 : rooG M.n M.fs) (h6 : rooG M.n M.gs) : dueW M = "" := by
  unfold dueW whyM
  rw [if_neg (fun z => z h), if_neg (by rw [h2]; decide), if_neg (fun z => z h3), if_neg h4, if_neg (fun z => z h5), if_neg (fun z => z h6)]
/-- letters that rise are what is left when they are put in order -/
theorem ris_pw : ∀ xs : List Nat, risB xs = true ↔ xs.Pairwise (· < ·)
  | [] => by simp [risB]
  | [a] => by simp [risB]
  | a :: b :: r => by
    have ih := ris_pw (b :: r)
    have e : risB (a :: b :: r) = (decide (a < b) && risB (b :: r)) := by simp [risB]
    rw [e, Bool.and_eq_true, ih, decide_eq_true_eq]
    constructor
    · rintro ⟨h, p⟩
      refine List.pairwise_cons.mpr ⟨fun c hc => ?_, p⟩
      rcases List.mem_cons.mp hc with rfl | hc
      · exact h
      · exact Nat.lt_trans h ((List.pairwise_cons.mp p).1 c hc)
    · intro p
      exact ⟨(List.pairwise_cons.mp p).1 b List.mem_cons_self, (List.pairwise_cons.mp p).2⟩
theorem pw_uni : ∀ (xs ys : List Nat), xs.Pairwise (· < ·) → ys.Pairwise (· < ·) → (∀ c, c ∈ xs ↔ c ∈ ys) → xs = ys
  | [], [], _, _, _ => rfl
  | [], y :: ys, _, _, h => absurd ((h y).mpr List.mem_cons_self) (fun z => nomatch z)
  | x :: xs, [], _, _, h => absurd ((h x).mp List.mem_cons_self) (fun z => nomatch z)
  | x :: xs, y :: ys, hx, hy, h => by
    obtain ⟨x1, x2⟩ := List.pairwise_cons.mp hx
    obtain ⟨y1, y2⟩ := List.pairwise_cons.mp hy
    have e : x = y := by
      rcases List.mem_cons.mp ((h x).mp List.mem_cons_self) with e | hm
      · exact e
      · rcases List.mem_cons.mp ((h y).mpr List.mem_cons_self) with e | hm2
        · exact e.symm
        · have := y1 x hm
          have := x1 y hm2
          omega
    subst e
    rw [pw_uni xs ys x2 y2 fun c => ?_]
    constructor
    · intro hc
      rcases List.mem_cons.mp ((h c).mp (List.mem_cons_of_mem _ hc)) with rfl | hc'
      · exact absurd (x1 c hc) (Nat.lt_irrefl _)
      · exact hc'
    · intro hc
      rcases List.mem_cons.mp ((h c).mpr (List.mem_cons_of_mem _ hc)) with rfl | hc'
      · exact absurd (y1 c hc) (Nat.lt_irrefl _)
      · exact hc'
/-- the data of a list of signs -/
def sgD (xs : List Nat) : PyData := .list (xs.map fun c => .str (Sx [c]))
theorem eqv_sg (xs ys : List Nat) : PyData.eqv (sgD xs) (sgD ys) = decide (xs = ys) := by
  unfold sgD
  simp only [PyData.eqv]
  induction xs generalizing ys with
  | nil => cases ys <;> simp [PyData.eqvAll]
  | cons x xs ih =>
    cases ys with
    | nil => simp [PyData.eqvAll]
    | cons y ys =>
      simp only [List.map_cons, PyData.eqvAll, PyData.eqv]
      rw [ih ys]
      by_cases h : x = y
      · subst h
        simp
      · have h' : ¬ (Sx [x] = Sx [y]) := fun z => h (by
          have q : [x] = [y] := congrArg (fun s : Str => s.cps.toList) z
          exact (List.cons.inj q).1)
        simp [h, h']
theorem sh_sg {xs : List Nat} (h : ∀ c ∈ xs, c < 128) : SeqAt.shaped (sgD xs) = true := by
  have h1 : PyData.canLayAll0 (xs.map fun c => PyData.str (Sx [c])) = true := by
    induction xs with
    | nil => rfl
    | cons x xs ih =>
      have e : PyData.strOk (Sx [x]) = true := sx_128 fun c hc => by rw [List.mem_singleton.mp hc]; exact h x List.mem_cons_self
      simp only [List.map_cons, PyData.canLayAll0, PyData.canLay0, e, Bool.true_and]
      exact ih fun c hc => h c (List.mem_cons_of_mem _ hc)
  have h2 : PyData.depthAll (xs.map fun c => PyData.str (Sx [c])) ≤ 8 := by
    clear h h1
    induction xs with
    | nil => simp [PyData.depthAll]
    | cons x xs ih =>
      simp only [List.map_cons, PyData.depthAll, PyData.depth]
      omega
  unfold SeqAt.shaped sgD
  rw [PyData.canLay0, h1, decide_eq_true (by simp only [PyData.depth]; omega)]
  rfl
theorem dpSg {K : PySem.W.Frag} {H : Hp} : ∀ xs : List Nat, DpAll K H (xs.map fun c => V.str (Sx [c])) (xs.map fun c => PyData.str (Sx [c]))
  | [] => .nil
  | _ :: r => .cons (.str _) (dpSg r)
section
variable {P : Program} {w : World} {K : PySem.W.Frag} {mg : Str → Option Value} {base : Heap}
def NDu : List Str := ["_law_m", "_law_rooms", "_law_letters_here", "_law_arrows", "_law_firsts_z", "_law_lasts_z", "_law_alphabet", "_law_room", "_law_letter", "_law_deed_here", "_law_to", "_law_some", "_law_a"]
theorem scDue : FnScope NDu ["_law_m"] (defScope sDue) := ⟨rfl, rfl, rfl, by decide +kernel, rfl, by decide +kernel, by decide +kernel⟩
theorem scAllD : FnScope [] [] (defScope sAllD) := ⟨rfl, rfl, rfl, by decide +kernel, rfl, by decide +kernel, by decide +kernel⟩
def spAllD : Sp := fun vs H Q _ => vs = [] ∧ ∀ p, H p = none → Q (.ref p) (upd H p (.lst (deedsL.map V.str)))
theorem ok_allD {f : Addr} {fd : FuncData} {k : Nat} (F : Fun K "_law_deeds_all" "_law_deeds_all" sAllD f fd) : FnOk P w K mg base CX0 (k + 1) f fd [] spAllD := by
  refine F.ok scAllD (fun vs H Q E h => ?_) (fun cdv A outer s H vs Q E hr h => ?_)
  · obtain ⟨rfl, _⟩ := h
    rfl
  · obtain ⟨rfl, q⟩ := h
    exact ⟨_, pss_one (ps_ret (pe_lst (pa_cons pe_str (pa_cons pe_str (pa_cons pe_str (pa_cons pe_str (pa_cons pe_str pa_nil))))))), (by show 5 ≤ sizeLine; decide), fun p np => q p np⟩
theorem ok_due {f fDa : Addr} {fd fdDa : FuncData} {k : Nat} (F : Fun K "_law_due" "_law_due" sDue f fd) (Da : FnM K mg fDa fdDa "_law_deeds_all" sAllD []) (ml : mg "list" = none) (mlen : mg "len" = none) (ms : mg "sorted" = none) (mset : mg "set" = none) (ma : mg "any" = none) : FnOk P w K mg base CX0 (k + 2) f fd ["_law_m"] (spDue K) := by
  have GDa : FnOk P w K mg base CX0 (k + 1) fDa fdDa [] spAllD := ok_allD Da.F
  refine F.ok scDue (fun vs H Q E h => ?_) (fun cdv A outer s H vs Q E hr h => ?_)
  · obtain ⟨t, M, rfl, _⟩ := h
    rfl
  · obtain ⟨t, M, rfl, dM, pw, q⟩ := h
    refine ⟨_, (pss_cons (ps_asg (pv 0) (pg_tup rfl (pgs_cons (pg_name (i := 1) scDue.nd rfl (.inr rfl)) (pgs_cons (pg_name (i := 2) scDue.nd rfl (.inl rfl)) (pgs_cons (pg_name (i := 3) scDue.nd rfl (.inl rfl)) (pgs_cons (pg_name (i := 4) scDue.nd rfl (.inl rfl)) (pgs_cons (pg_name (i := 5) scDue.nd rfl (.inl rfl)) pgs_nil)))))))
      (pss_cons (ps_set (i := 6) scDue.nd rfl (.inr rfl) pe_str)
      (pss_cutM (ps_if (PW.pt (pw_or (pt_cmpR op_lt (pv 1) pe_int (nomark _)) (pw_or1 (pt_cmpR op_gt (pv 1) pe_int (nomark _))))) (pss_one (ps_ret pe_str)) pss_nil)
      (pss_cutM (ps_if (PW.pt (pw_or (pt_not (pt_chain op_le op_le pe_int (pe_callB call_len_str (by rfl) mlen PySem.boot_len (pa_cons (pv 2) pa_nil)) pe_int)) (pw_or (pt_cmpR (op_neD hr.units) (pe_callTy (call_list_s rfl) (by rfl) ml (by decide +kernel) (pa_cons (pv 2) pa_nil)) (pe_sortSetS rfl hr.units (by rfl) ms (by rfl) mset (pv 2)) (nomark _)) (pw_or1 (pt_val (pe_callB (cr_any rfl) (by rfl) ma (by decide +kernel) (pa_cons (pe_lc (own := [("_law_a", 12)]) (g := (gName 12)) (tt := tYes) (te := (tOp rNotInS (tVar 12) (tVar 6))) rfl scDue.nd
          (pi_str (pv 2)) (blkOk_by (own := [("_law_a", 12)]) (N := NDu) (sc := defScope sDue) (by decide +kernel)) (fun _ _ _ _ _ => (pg_name (i := 12) scDue.nd rfl (.inl rfl)))
          (fun _ _ _ _ _ => pts_nil) (fun _ _ _ _ _ => (pe_cmpR op_notInS (pv 12) (pv 6) (by rfl)))) pa_nil))))))) (pss_one (ps_ret pe_str)) pss_nil)
      (pss_cutM (ps_for PassesOwn.never rfl (pi_list (pv 3)) (pg_tup rfl (pgs_cons (pg_name (i := 7) scDue.nd rfl (.inl rfl)) (pgs_cons (pg_name (i := 8) scDue.nd rfl (.inl rfl)) (pgs_cons (pg_name (i := 9) scDue.nd rfl (.inl rfl)) (pgs_cons (pg_name (i := 10) scDue.nd rfl (.inl rfl)) pgs_nil)))))
        (pss_one (ps_if (PW.pt (pw_or (pt_not (pt_chain op_le op_lt pe_int (pv 7) (pv 1))) (pw_or (pt_not (pt_chain op_le op_lt pe_int (pv 10) (pv 1))) (pw_or (pt_cmpR op_notIn_seq (pv 8) (pe_callTy (call_list_s rfl) (by rfl) ml (by decide +kernel) (pa_cons (pv 2) pa_nil)) (by rfl)) (pw_or1 (pt_cmpR op_notIn_seq (pv 9) (pe_call0 GDa hr (by rfl) Da.g Da.F.kp Da.b .nil pass0) (by rfl))))))) (pss_one (ps_ret pe_str)) pss_nil)))
      (pss_cutM (ps_if (pt_cmpR op_lt (pe_lenSetM rfl hr.units (by rfl) mlen (by rfl) mset (pv 3)) (pe_callB call_len_seq (by rfl) mlen PySem.boot_len (pa_cons (pv 3) pa_nil)) (nomark _)) (pss_one (ps_ret pe_str)) pss_nil)
      (pss_cutM (ps_if (pt_cmpR op_gt (pe_callB call_len_seq (by rfl) mlen PySem.boot_len (pa_cons (pv 3) pa_nil)) pe_int (nomark _)) (pss_one (ps_ret pe_str)) pss_nil)
      (pss_cutM (ps_for PassesOwn.never rfl (pi_tup (pe_tup (pa_cons (pv 4) (pa_cons (pv 5) pa_nil)))) (pg_name (i := 11) scDue.nd rfl (.inl rfl))
        (pss_one (ps_if (PW.pt (pw_or (pt_cmpR op_lt (pe_lenSetK rfl (by rfl) mlen (by rfl) mset (pv 11)) (pe_callB call_len_seq (by rfl) mlen PySem.boot_len (pa_cons (pv 11) pa_nil)) (nomark _)) (pw_or1 (pt_val (pe_callB (cr_any rfl) (by rfl) ma (by decide +kernel) (pa_cons (pe_lc (own := [("_law_room", 7)]) (g := (gName 7)) (tt := tYes) (te := tOrV (tOp (rI0 fun i j => .bl (decide (i < j))) (tVar 7) (tC (.int 0))) (tOp (rI0 fun i j => .bl (decide (j ≤ i))) (tVar 7) (tVar 1))) rfl scDue.nd
          (pi_list (pv 11)) (blkOk_by (own := [("_law_room", 7)]) (N := NDu) (sc := defScope sDue) (by decide +kernel)) (fun _ _ _ _ _ => (pg_name (i := 7) scDue.nd rfl (.inl rfl)))
          (fun _ _ _ _ _ => pts_nil) (fun _ _ _ _ _ => (pe_or (pe_cmpR op_lt (pv 7) pe_int (nomark _)) (pe_one (pe_cmpR op_ge (pv 7) (pv 1) (nomark _)))))) pa_nil)))))) (pss_one (ps_ret pe_str)) pss_nil)))
      (pss_one (ps_ret pe_str)))))))))), ?_⟩
    obtain ⟨la, lf, lg, ps, d1, d2, d3, d4, d5, d6⟩ := id dM
    refine ⟨_, rfl, t, _, rfl, SqT.of d1, rfl, _, _, rfl, _, _, rfl, _, _, rfl, _, _, rfl, _, _, rfl, rfl, ?_⟩
    refine ⟨fun σ' H' => σ' = [some (.ref t), some (.int M.n), some (.str (Sx M.ls)), some (.ref la), some (.ref lf), some (.ref lg), some (.str "abcdefghijklmnopqrstuvwxyz"), none, none, none, none, none, none] ∧ Same H H' ∧ (1 ≤ M.n ∧ M.n ≤ 8), ?_, ?_⟩
    · have bad : ¬ (1 ≤ M.n ∧ M.n ≤ 8) → Q (.str "badsize") H := fun h => by
        rw [← du_size h]
        exact q H (Same.refl _)
      refine ⟨_, rfl, _, _, rfl, rfl, _, rfl, ?_⟩
      by_cases h1 : M.n < 1
      · exact itT h1 (iteT (bad (by omega)))
      · refine itF h1 ⟨_, rfl, _, _, rfl, rfl, _, rfl, ?_⟩
        by_cases h8 : M.n > 8
        · exact itT h8 (bad (by omega))
        · exact itF h8 ⟨rfl, Same.refl _, by omega, by omega⟩
    rintro σ H1 ⟨rfl, s1, hn⟩
    refine ⟨fun σ' H' => σ' = [some (.ref t), some (.int M.n), some (.str (Sx M.ls)), some (.ref la), some (.ref lf), some (.ref lg), some (.str "abcdefghijklmnopqrstuvwxyz"), none, none, none, none, none, none] ∧ Same H H' ∧ letB M.ls = true, ?_, ?_⟩
    · have bad : letB M.ls = false → ∀ H2, Same H H2 → Q (.str "badletters") H2 := fun h H2 s2 => by
        rw [← du_let hn h]
        exact q H2 s2
      have hlb := pw.ls
      have hbig : 50000 ≤ sizeLine := by decide
      have nol : ¬ (1 ≤ M.ls.length ∧ M.ls.length ≤ 3) → letB M.ls = false := fun h => by
        unfold letB
        by_cases c : 1 ≤ M.ls.length
        · rw [decide_eq_false (fun z : M.ls.length ≤ 3 => h ⟨c, z⟩), Bool.and_false, Bool.and_false, Bool.and_false]
        · rw [decide_eq_false c, Bool.false_and, Bool.and_false, Bool.and_false]
      refine ⟨_, rfl, _, rfl, by rw [sx_len]; omega, _, _, rfl, rfl, _, rfl, ?_⟩
      rw [sx_len]
      by_cases h1 : 1 ≤ (M.ls.length : Int)
      rotate_left
      · exact itF h1 ⟨_, rfl, iteT (bad (nol (by omega)) H1 s1)⟩
      refine itT h1 ⟨_, _, rfl, rfl, _, rfl, ?_⟩
      by_cases h3 : (M.ls.length : Int) ≤ 3
      rotate_left
      · rw [decide_eq_false h3]
        exact iteT (bad (nol (by omega)) H1 s1)
      rw [decide_eq_true h3]
      refine iteF ?_
      refine ⟨_, rfl, M.ls, rfl, by omega, fun l nl => ?_⟩
      have s2 := same_upd (o := .lst (signsV M.ls)) nl
      have e2 : (upd H1 l (.lst (signsV M.ls))) l = some (.lst (signsV M.ls)) := upd_same
      generalize upd H1 l (.lst (signsV M.ls)) = H2 at s2 e2
      refine ⟨_, rfl, Sx M.ls, rfl, by show (Sx M.ls).cps.size < 1000; have : (Sx M.ls).cps.size = M.ls.length := sx_len M.ls; omega, fun z ms nz pw_ms mm => ?_⟩
      have s3 := same_upd (o := .lst (ms.map fun c => V.str (PySem.Froz.sing c))) nz
      have e3 : (upd H2 z (.lst (ms.map fun c => V.str (PySem.Froz.sing c)))) z = some (.lst (ms.map fun c => V.str (Sx [c]))) := upd_same
      generalize upd H2 z (.lst (ms.map fun c => V.str (PySem.Froz.sing c))) = H3 at s3 e3
      have s13 := s1.trans (s2.trans s3)
      have mm : ∀ c, c ∈ ms ↔ c ∈ M.ls := fun c => by rw [mm c, sx_cps]
      refine ⟨sgD M.ls, sgD ms, .lst (SqL.of (s3 _ _ e2)) (dpSg _), .lst (SqL.of e3) (dpSg _), sh_sg pw.sg, sh_sg (fun c hc => pw.sg c ((mm c).mp hc)), _, rfl, ?_⟩
      rw [eqv_sg]
      by_cases hr : M.ls = ms
      rotate_left
      · have h : letB M.ls = false := by
          cases h : risB M.ls with
          | true => exact absurd (pw_uni _ _ ((ris_pw _).mp h) pw_ms fun c => (mm c).symm) hr
          | false => unfold letB; rw [h, Bool.false_and]
        rw [decide_eq_false hr]
        exact iteT (bad h H3 s13)
      rw [decide_eq_true hr]
      refine iteF ?_
      have hris : risB M.ls = true := (ris_pw _).mpr (hr ▸ pw_ms)
      refine ⟨_, rfl, Sx M.ls, rfl, fun D nD => ?_⟩
      refine lc_it walk_str (fun i H' => Same H3 H' ∧ H' D = some (.lst (((M.ls.take i).map fun c => !decide (c ∈ smallL)).map V.bl))) ⟨same_upd nD, upd_same⟩ (fun _ _ _ _ => True.intro) ?_ ?_
      · rintro i v H4 H5 hi ⟨sm, hD⟩ ⟨rfl, c, hc, rfl⟩
        have hc : M.ls[i]? = some c := by
          have : M.ls.toArray[i]? = some c := hc
          simpa using this
        have et : M.ls.take (i + 1) = M.ls.take i ++ [c] := by rw [List.take_add_one, hc]; rfl
        refine ⟨rfl, yes2 ⟨_, rfl, _, rfl, c, "abcdefghijklmnopqrstuvwxyz", rfl, rfl, _, hD, ?_, fun b o e => ?_, ?_⟩⟩
        · rw [List.length_map, List.length_map, List.length_take]
          omega
        · rw [upd_ne (ne_of_none e nD)]
          exact sm _ _ e
        · rw [upd_same, et, List.map_append, List.map_append, small_eq, sx_cps]
          rfl
      · rintro H4 ⟨s4, hD⟩
        have hsz : (Sx M.ls).cps.size = M.ls.length := sx_len M.ls
        rw [hsz, List.take_length] at hD
        refine ⟨D, _, rfl, SqL.of hD, _, rfl, ?_⟩
        have es : (M.ls.map fun c => !decide (c ∈ smallL)).any id = !smaB M.ls := by
          unfold smaB
          induction M.ls with
          | nil => rfl
          | cons x xs ih => simp only [List.map_cons, List.any_cons, List.all_cons, id, ih, Bool.not_and]
        rw [es]
        have el : letB M.ls = smaB M.ls := by
          unfold letB
          rw [hris, decide_eq_true (show 1 ≤ M.ls.length by omega), decide_eq_true (show M.ls.length ≤ 3 by omega), Bool.true_and, Bool.and_true, Bool.and_true]
        cases hs : smaB M.ls with
        | true => exact iteF ⟨rfl, s13.trans s4, by rw [el, hs]⟩
        | false => exact iteT (bad (by rw [el, hs]) H4 (s13.trans s4))
    rintro σ H2 ⟨rfl, s2, hlb⟩
    -- arrows
    have bada : ¬ arwG M.n M.ls M.as → ∀ H', Same H H' → Q (.str "badarrow") H' := fun h H' s' => by
      rw [← du_arw hn hlb h]
      exact q H' s'
    have hpl : ps.length = M.as.length := by rw [← d4, List.length_map]
    have hbig : 50000 ≤ sizeLine := by decide
    refine ⟨fun σ' H' => ∃ y7 y8 y9 y10 : Option V, σ' = [some (.ref t), some (.int M.n), some (.str (Sx M.ls)), some (.ref la), some (.ref lf), some (.ref lg), some (.str "abcdefghijklmnopqrstuvwxyz"), y7, y8, y9, y10, none, none] ∧ Same H H' ∧ ∀ a ∈ M.as, arrB M.n M.ls a = true, ?_, ?_⟩
    · refine ⟨_, rfl, la, rfl, ⟨_, SqL.of (s2 _ _ d2)⟩, for_list (K := K) (a := la) (xs := rfs ps) (fun i σ H' => ∃ y7 y8 y9 y10 : Option V, σ = [some (.ref t), some (.int M.n), some (.str (Sx M.ls)), some (.ref la), some (.ref lf), some (.ref lg), some (.str "abcdefghijklmnopqrstuvwxyz"), y7, y8, y9, y10, none, none] ∧ Same H H' ∧ ∀ a ∈ M.as.take i, arrB M.n M.ls a = true) ⟨_, _, _, _, rfl, s2, fun a ha => nomatch ha⟩ ?_ ?_ ?_⟩
      · rintro i σ H' _ ⟨y7, y8, y9, y10, rfl, sm, _⟩
        exact SqL.of (sm _ _ d2)
      · rintro i x σ H3 hx ⟨y7, y8, y9, y10, rfl, s3, hall⟩
        have hi : i < ps.length := by
          have := (List.getElem?_eq_some_iff.mp hx).1
          unfold rfs at this
          rw [List.length_map] at this
          exact this
        have hp : ps[i]? = some ps[i] := List.getElem?_eq_getElem hi
        have ev : x = .ref ps[i].1 := by
          unfold rfs at hx
          rw [List.getElem?_map, hp] at hx
          exact (Option.some.inj hx).symm
        subst ev
        have ha : M.as[i]? = some ps[i].2 := by rw [← d4, List.getElem?_map, hp]; rfl
        have hT := sameT s3 (d3 _ (List.getElem_mem hi))
        generalize ps[i] = p at ha hT
        obtain ⟨ap, a1, a2, a3, a4⟩ := p
        have bad1 : arrB M.n M.ls (a1, a2, a3, a4) = false → ∀ H', Same H H' → Q (.str "badarrow") H' := fun h => bada fun g => by
          have := g.1 _ (List.mem_of_getElem? ha)
          rw [h] at this
          cases this
        refine ⟨ap, _, rfl, hT, rfl, _, _, rfl, _, _, rfl, _, _, rfl, _, _, rfl, rfl, ?_⟩
        -- where from
        refine ⟨_, rfl, _, _, rfl, rfl, _, rfl, ?_⟩
        by_cases h1 : 0 ≤ a1
        rotate_left
        · exact itF h1 ⟨_, rfl, iteT (bad1 (by unfold arrB; rw [decide_eq_false h1, Bool.false_and, Bool.false_and, Bool.false_and, Bool.false_and]) H3 s3)⟩
        refine itT h1 ⟨_, rfl, _, _, rfl, rfl, _, rfl, ?_⟩
        by_cases h2 : a1 < M.n
        rotate_left
        · rw [decide_eq_false h2]
          exact iteT (bad1 (by unfold arrB; rw [decide_eq_false h2, Bool.and_false, Bool.false_and, Bool.false_and, Bool.false_and]) H3 s3)
        rw [decide_eq_true h2]
        -- where to
        refine iteF ⟨_, rfl, _, _, rfl, rfl, _, rfl, ?_⟩
        by_cases h3 : 0 ≤ a4
        rotate_left
        · exact itF h3 ⟨_, rfl, iteT (bad1 (by unfold arrB; rw [decide_eq_false h3, Bool.false_and, Bool.and_false, Bool.false_and, Bool.false_and]) H3 s3)⟩
        refine itT h3 ⟨_, rfl, _, _, rfl, rfl, _, rfl, ?_⟩
        by_cases h4 : a4 < M.n
        rotate_left
        · rw [decide_eq_false h4]
          exact iteT (bad1 (by unfold arrB; rw [decide_eq_false h4, Bool.and_false, Bool.and_false, Bool.false_and, Bool.false_and]) H3 s3)
        rw [decide_eq_true h4]
        -- by which letter
        refine iteF ⟨_, rfl, _, rfl, M.ls, rfl, by have := pw.ls; omega, fun l nl => ?_⟩
        have s34 := same_upd (o := .lst (signsV M.ls)) nl
        have e4 : (upd H3 l (.lst (signsV M.ls))) l = some (.lst (signsV M.ls)) := upd_same
        generalize upd H3 l (.lst (signsV M.ls)) = H4 at s34 e4
        have esg : signsV M.ls = (M.ls.map fun c => Sx [c]).map V.str := by
          unfold signsV
          rw [List.map_map]
          rfl
        refine ⟨l, _, rfl, .inl (SqL.of e4), rfl, by rw [esg]; exact flatStrs _, _, rfl, ?_⟩
        rw [if_pos rfl, esg, inV_strs]
        have el : (M.ls.any fun c => decide (a2 = Sx [c])) = decide (a2 ∈ M.ls.map fun c => Sx [c]) := by
          rw [Bool.eq_iff_iff, List.any_eq_true, decide_eq_true_eq, List.mem_map]
          constructor
          · rintro ⟨c, hc, e⟩
            exact ⟨c, hc, (of_decide_eq_true e).symm⟩
          · rintro ⟨c, hc, e⟩
            exact ⟨c, hc, decide_eq_true e.symm⟩
        by_cases h5 : a2 ∈ M.ls.map fun c => Sx [c]
        rotate_left
        · rw [decide_eq_false h5]
          exact iteT (bad1 (by unfold arrB; dsimp only; rw [el, decide_eq_false h5, Bool.and_false, Bool.false_and]) H4 (s3.trans s34))
        rw [decide_eq_true h5]
        -- which deed
        refine iteF ⟨_, rfl, rfl, fun r nr => ?_⟩
        have s45 := same_upd (o := .lst (deedsL.map V.str)) nr
        have e5 : (upd H4 r (.lst (deedsL.map V.str))) r = some (.lst (deedsL.map V.str)) := upd_same
        generalize upd H4 r (.lst (deedsL.map V.str)) = H5 at s45 e5
        have s05 := s3.trans (s34.trans s45)
        refine ⟨r, _, rfl, .inl (SqL.of e5), rfl, flatStrs _, _, rfl, ?_⟩
        rw [if_pos rfl, inV_strs]
        by_cases h6 : a3 ∈ deedsL
        rotate_left
        · rw [decide_eq_false h6]
          exact iteT (bad1 (by unfold arrB; dsimp only; rw [decide_eq_false h6, Bool.and_false]) H5 s05)
        rw [decide_eq_true h6]
        refine iteF ⟨_, _, _, _, rfl, s05, fun a hm => ?_⟩
        rw [List.take_add_one, ha] at hm
        rcases List.mem_append.mp hm with hm | hm
        · exact hall a hm
        · have e : a = (a1, a2, a3, a4) := List.mem_singleton.mp hm
          rw [e]
          unfold arrB
          dsimp only
          rw [el, decide_eq_true h1, decide_eq_true h2, decide_eq_true h3, decide_eq_true h4, decide_eq_true h5, decide_eq_true h6]
          rfl
      · rintro σ H' ⟨y7, y8, y9, y10, rfl, sm, hall⟩
        refine ⟨y7, y8, y9, y10, rfl, sm, ?_⟩
        have e : (rfs ps).length = M.as.length := by unfold rfs; rw [List.length_map, hpl]
        rw [e, List.take_length] at hall
        exact hall
    rintro σ H3 ⟨y7, y8, y9, y10, rfl, s3, hall⟩
    -- none twice
    have hrow : (rfs ps).length = M.as.length := by unfold rfs; rw [List.length_map, hpl]
    refine ⟨fun σ' H' => σ' = [some (.ref t), some (.int M.n), some (.str (Sx M.ls)), some (.ref la), some (.ref lf), some (.ref lg), some (.str "abcdefghijklmnopqrstuvwxyz"), y7, y8, y9, y10, none, none] ∧ Same H H' ∧ M.as.Nodup, ?_, ?_⟩
    · refine ⟨_, rfl, la, ps.map fun p => (p.1, akey p.2), rfl, ?_, ?_, by rw [List.length_map, hpl]; have := pw.as; omega, fun m m1 m2 => ?_⟩
      · have e : ((ps.map fun p => (p.1, akey p.2)).map fun p => V.ref p.1) = rfs ps := by
          unfold rfs
          rw [List.map_map]
          rfl
        rw [e]
        exact .inl (SqL.of (s3 _ _ d2))
      · intro p hp
        obtain ⟨a, ha, rfl⟩ := List.mem_map.mp hp
        exact sameT s3 (d3 a ha)
      · rw [List.length_map] at m1 m2
        have enk : (ps.map fun p => (p.1, akey p.2)).map (·.2) = M.as.map akey := by
          rw [← d4, List.map_map, List.map_map]
          rfl
        rw [enk] at m2
        refine ⟨_, rfl, la, rfs ps, rfl, .inl (SqL.of (s3 _ _ d2)), _, _, rfl, rfl, _, rfl, ?_⟩
        by_cases hnd : M.as.Nodup
        · have em : ¬ m < ps.length := fun h => m2.mp h (nodup_map_inj (fun _ _ => akey_inj) hnd)
          exact itF (by rw [hrow, ← hpl]; omega) ⟨rfl, s3, hnd⟩
        · have hk : ¬ (M.as.map akey).Nodup := fun z => hnd (List.Pairwise.of_map akey (fun a b h e => h (by rw [e])) z)
          have hm := m2.mpr hk
          exact itT (by rw [hrow, ← hpl]; omega) (bada (fun g => hnd g.2) H3 s3)
    rintro σ H4 ⟨rfl, s4, hnd⟩
    -- no more than forty
    refine ⟨fun σ' H' => σ' = [some (.ref t), some (.int M.n), some (.str (Sx M.ls)), some (.ref la), some (.ref lf), some (.ref lg), some (.str "abcdefghijklmnopqrstuvwxyz"), y7, y8, y9, y10, none, none] ∧ Same H H' ∧ ¬ 40 < M.as.length, ?_, ?_⟩
    · refine ⟨_, rfl, la, rfs ps, rfl, .inl (SqL.of (s4 _ _ d2)), _, _, rfl, rfl, _, rfl, ?_⟩
      by_cases h40 : 40 < M.as.length
      · refine itT (show ((rfs ps).length : Int) > 40 by rw [hrow]; omega) ?_
        show Q (.str "full") H4
        rw [← du_full hn hlb ⟨hall, hnd⟩ h40]
        exact q H4 s4
      · exact itF (show ¬ ((rfs ps).length : Int) > 40 by rw [hrow]; omega) ⟨rfl, s4, h40⟩
    rintro σ H5 ⟨rfl, s5, h40⟩
    -- rooms
    refine ⟨fun σ' H' => Same H H' ∧ rooG M.n M.fs ∧ rooG M.n M.gs, ?_, ?_⟩
    · refine ⟨_, rfl, _, rfl, (by decide : 2 ≤ sizeLine), fun tp ntp => ?_⟩
      have s56 := same_upd (o := .tup [.ref lf, .ref lg]) ntp
      have e6 : (upd H5 tp (.tup [.ref lf, .ref lg])) tp = some (.tup [.ref lf, .ref lg]) := upd_same
      generalize upd H5 tp (.tup [.ref lf, .ref lg]) = H6 at s56 e6
      refine ⟨tp, rfl, ⟨_, SqT.of e6⟩, for_tup (K := K) (a := tp) (xs := [.ref lf, .ref lg]) (fun i σ H' => ∃ y7 y8 y9 y10 y11 : Option V, σ = [some (.ref t), some (.int M.n), some (.str (Sx M.ls)), some (.ref la), some (.ref lf), some (.ref lg), some (.str "abcdefghijklmnopqrstuvwxyz"), y7, y8, y9, y10, y11, none] ∧ Same H6 H' ∧ (0 < i → rooG M.n M.fs) ∧ (1 < i → rooG M.n M.gs)) ⟨_, _, _, _, _, rfl, Same.refl _, fun z => absurd z (Nat.lt_irrefl _), fun z => absurd z (by omega)⟩ ?_ ?_ ?_⟩
      · rintro i σ H' _ ⟨y7, y8, y9, y10, y11, rfl, sm, _⟩
        exact SqT.of (sm _ _ e6)
      · rintro i x σ H7 hx ⟨y7, y8, y9, y10, y11, rfl, s67, g1, g2⟩
        have s07 := (s5.trans s56).trans s67
        obtain ⟨l, ns, rfl, hq, hlen, hcase⟩ : ∃ (l : Addr) (ns : List Int), x = .ref l ∧ H l = some (.lst (ns.map V.int)) ∧ ns.length ≤ 99 ∧ ((i = 0 ∧ ns = M.fs) ∨ (i = 1 ∧ ns = M.gs)) := by
          match i, hx with
          | 0, hx => exact ⟨lf, M.fs, (Option.some.inj hx).symm, d5, pw.fs, .inl ⟨rfl, rfl⟩⟩
          | 1, hx => exact ⟨lg, M.gs, (Option.some.inj hx).symm, d6, pw.gs, .inr ⟨rfl, rfl⟩⟩
        have badr : ¬ rooG M.n ns → ∀ H', Same H H' → Q (.str "badroom") H' := fun h H' s' => by
          rw [← du_room hn hlb ⟨hall, hnd⟩ h40 (by
            rcases hcase with ⟨_, rfl⟩ | ⟨_, rfl⟩
            · exact .inl h
            · exact .inr h)]
          exact q H' s'
        have hl : (ns.map V.int).length = ns.length := List.length_map ..
        refine ⟨_, rfl, l, ns.map fun r => (Sum.inl r : L2.Key), rfl, ?_, by rw [List.length_map]; omega, fun m m1 m2 => ?_⟩
        · rw [List.map_map]
          exact .inl (SqL.of (s07 _ _ hq))
        rw [List.length_map] at m1 m2
        refine ⟨_, rfl, l, ns.map V.int, rfl, .inl (SqL.of (s07 _ _ hq)), _, _, rfl, rfl, _, rfl, ?_⟩
        by_cases hnd2 : ns.Nodup
        rotate_left
        · have hk : ¬ (ns.map fun r => (Sum.inl r : L2.Key)).Nodup := fun z => hnd2 (List.Pairwise.of_map _ (fun a b h e => h (by rw [e])) z)
          have hm := m2.mpr hk
          exact itT (by rw [hl]; omega) (iteT (badr (fun g => hnd2 g.2) H7 s07))
        have em : ¬ m < ns.length := fun h => m2.mp h (nodup_map_inj (fun _ _ e => Sum.inl.inj e) hnd2)
        refine itF (by rw [hl]; omega) ?_
        refine ⟨_, rfl, l, rfl, ⟨_, SqL.of (s07 _ _ hq)⟩, fun D nD => ?_⟩
        refine lc_list (K := K) (a := l) (xs := ns.map V.int) (fun i H' => Same H7 H' ∧ H' D = some (.lst (((ns.take i).map fun r => !rooB M.n r).map V.bl))) ⟨same_upd nD, upd_same⟩ (fun i H' _ ⟨sm, _⟩ => SqL.of ((s07.trans sm) _ _ hq)) (fun j x H8 hx ⟨sm, hD⟩ => ?_) (fun H8 ⟨s8, hD⟩ => ?_)
        · obtain ⟨r, hr, rfl⟩ : ∃ r, ns[j]? = some r ∧ x = .int r := by
            rw [List.getElem?_map] at hx
            cases h : ns[j]? with
            | none => rw [h] at hx; cases hx
            | some r => rw [h] at hx; exact ⟨r, rfl, (Option.some.inj hx).symm⟩
          have fin : ∃ acc, H8 D = some (HO.lst acc) ∧ acc.length < sizeLine ∧ Same H7 (upd H8 D (.lst (acc ++ [V.bl (!rooB M.n r)]))) ∧ (upd H8 D (.lst (acc ++ [V.bl (!rooB M.n r)]))) D = some (.lst (((ns.take (j + 1)).map fun r => !rooB M.n r).map V.bl)) := by
            refine ⟨_, hD, ?_, fun b o e => ?_, ?_⟩
            · rw [List.length_map, List.length_map, List.length_take]
              omega
            · rw [upd_ne (ne_of_none e nD)]
              exact sm _ _ e
            · rw [upd_same, take_next hr, List.map_append, List.map_append]
              rfl
          refine ⟨rfl, yes2 ⟨_, rfl, _, _, rfl, rfl, _, rfl, ?_⟩⟩
          by_cases h0 : r < 0
          · have eb : rooB M.n r = false := by
              unfold rooB
              rw [decide_eq_false (show ¬ 0 ≤ r by omega), Bool.false_and]
            rw [eb] at fin
            exact itT h0 fin
          · refine itF h0 ⟨_, rfl, _, rfl, _, _, rfl, rfl, ?_⟩
            have eb : (!rooB M.n r) = decide (M.n ≤ r) := by
              unfold rooB
              rw [decide_eq_true (show 0 ≤ r by omega), Bool.true_and]
              by_cases h : r < M.n
              · rw [decide_eq_true h, decide_eq_false (show ¬ M.n ≤ r by omega)]
                rfl
              · rw [decide_eq_false h, decide_eq_true (show M.n ≤ r by omega)]
                rfl
            rw [eb] at fin
            exact fin
        · rw [hl, List.take_length] at hD
          refine ⟨D, _, rfl, SqL.of hD, _, rfl, ?_⟩
          have ea : (ns.map fun r => !rooB M.n r).any id = !decide (∀ r ∈ ns, rooB M.n r = true) := by
            rw [Bool.eq_iff_iff, List.any_eq_true, Bool.not_eq_true', decide_eq_false_iff_not]
            constructor
            · rintro ⟨b, hb, e⟩ h
              obtain ⟨r, hr, rfl⟩ := List.mem_map.mp hb
              rw [h r hr] at e
              cases e
            · intro h
              refine Classical.byContradiction fun z => h fun r hr => ?_
              cases h1 : rooB M.n r with
              | true => rfl
              | false => exact absurd ⟨_, List.mem_map.mpr ⟨r, hr, rfl⟩, by rw [h1]; rfl⟩ z
          rw [ea]
          by_cases hall2 : ∀ r ∈ ns, rooB M.n r = true
          · rw [decide_eq_true hall2]
            have g : rooG M.n ns := ⟨hall2, hnd2⟩
            refine iteF ⟨_, _, _, _, _, rfl, s67.trans s8, fun _ => ?_, fun hi => ?_⟩
            · rcases hcase with ⟨e, rfl⟩ | ⟨e, _⟩
              · exact g
              · exact g1 (by omega)
            · rcases hcase with ⟨e, _⟩ | ⟨_, rfl⟩
              · omega
              · exact g
          · rw [decide_eq_false hall2]
            exact iteT (badr (fun g => hall2 g.1) H8 (s07.trans s8))
      · rintro σ H' ⟨y7, y8, y9, y10, y11, rfl, sm, g1, g2⟩
        exact ⟨(s5.trans s56).trans sm, g1 (by show 0 < 2; omega), g2 (by show 1 < 2; omega)⟩
    · rintro σ H6 ⟨s6, hf, hg⟩
      show Q (.str "") H6
      rw [← du_none hn hlb ⟨hall, hnd⟩ h40 hf hg]
      exact q H6 s6
end
end Onp
set_option maxHeartbeats 8000000
set_option autoImplicit false
namespace Onp
open PySem PySem.Spec PyProof.Rows L2 HotX L2H LamX
section
variable {P : Program} {w : World} {K : PySem.W.Frag} {mg : Str → Option Value} {base : Heap}
/-! ### Machine(a, b, c, firsts=..) and Machine(a, b): the rest by default -/
theorem kb_first {f D D1 D2 : Addr} {fd : FuncData} (F : FunD K "__init__" "Machine.__init__" (defArgs sMInit) (defBody sMInit) (defScope sMInit) [.ref D] [("firsts", .ref D1), ("lasts", .ref D2)] f fd) :
    ∃ g : List Value → List Value → List Value, KBn K fd psMI 4 ["firsts"] g (fun vs zs => vs ++ (zs ++ [V.ref D2])) := by
  obtain ⟨its, mv, h⟩ := F.kbinds (ps := psMI) 4 ["firsts"] [("lasts", .ref D2)] (fun us _ mv ws => us ++ (ws ++ mv)) (fun z => nomatch z) (fun z => nomatch z) (fun q hq => by rw [List.mem_singleton.mp hq]; exact List.mem_cons_of_mem _ List.mem_cons_self) (fun r1 _ r3 r4 => r1.append (r4.append r3)) (fun T Dd doc pm an cdv ct us its mv ws l1 l2 l3 l4 => by
    match us, l1, its, l2, mv, l3, ws, l4 with
    | [a, b, c, d], _, [z], _, [m], _, [w], _ => exact ⟨_, rfl, ⟨_, _, _, _, _, _, rfl, rfl, rfl⟩⟩)
  exact ⟨_, h⟩
theorem kb_none {f D D1 D2 : Addr} {fd : FuncData} (F : FunD K "__init__" "Machine.__init__" (defArgs sMInit) (defBody sMInit) (defScope sMInit) [.ref D] [("firsts", .ref D1), ("lasts", .ref D2)] f fd) :
    ∃ ds, Vals [V.ref D, V.ref D1, V.ref D2] ds ∧ Binds K fd psMI ds :=
  F.binds (ps := psMI) 3 0 (fun z => nomatch z) rfl (fun T Dd doc pm an cdv ct us its ks l1 l2 l3 => by
    match us, l1, its, l2, ks, l3 with
    | [a, b, c], _, [z], _, [m, n], _ => exact ⟨_, rfl, ⟨_, _, _, _, _, _, rfl, rfl, ⟨_, _, _, _, _, _, rfl, rfl, rfl⟩⟩⟩) (fun z => nomatch z)
end
end Onp
set_option maxHeartbeats 16000000
set_option autoImplicit false
namespace Onp
open PySem PySem.Spec PyProof.Rows L2 HotX L2H LamX
abbrev sLaw : Stmt := topS 58
def NL : List Str := ["_law_script", "_law_bag_here", "_law_turn", "_law_rooms", "_law_many", "_law_arrows", "_law_k", "_law_made"]
theorem scLaw : FnScope NL ["_law_script"] (defScope sLaw) := ⟨rfl, rfl, rfl, by decide +kernel, rfl, by decide +kernel, by decide +kernel⟩
def spLaw (K : PySem.W.Frag) (tR : Addr) : Sp := fun vs H Q _ => ∃ (a : Addr) (ns : List Int), vs = [.ref a] ∧ SqL K H a (ns.map V.int) ∧ H tR = some (.tbl #[]) ∧ ∀ H', Q (.bl true) H'
theorem Bt.pw {M : AM} (h : Bt 2 M) : Pw M := by
  refine ⟨by have := h.ls.1; omega, h.ls.2, by have := h.al; omega, h.okS, fun a ha => ?_, by have := h.fs; omega, by have := h.gs; omega⟩
  obtain ⟨⟨zs, e1, e2, _⟩, _⟩ := h.ar a ha
  rw [e1]
  have : (Sx zs).length = zs.length := sx_len zs
  omega
theorem rep_flat : ∀ k : Nat, (List.replicate k [V.int 0]).flatten = (List.replicate k (0 : Int)).map V.int
  | 0 => rfl
  | k + 1 => by
    rw [List.replicate_succ, List.replicate_succ, List.flatten_cons, List.map_cons, rep_flat k]
    rfl
def mQ (as : List Arw) (fs gs : List Int) : AM := ⟨3, [113], as, fs, gs⟩
theorem sortI_one (x : Int) : sortI [x] = [x] := List.mergeSort_singleton _
theorem sortI_nil : sortI [] = [] := List.mergeSort_nil
theorem sortA_nil : sortA [] = [] := List.mergeSort_nil
theorem sortA_one (x : Arw) : sortA [x] = [x] := List.mergeSort_singleton _
theorem sortI_20 : sortI [2, 0] = [0, 2] := by
  unfold sortI
  simp [List.mergeSort, List.merge, List.MergeSort.Internal.splitInTwo]
theorem q_eq : ("q" : Str) = Sx [113] := by decide +kernel
theorem ab_eq : ("ab" : Str) = Sx [97, 98] := by decide +kernel
theorem q_ok1 : (mQ [] [0] [0]).ok := by
  refine ⟨by decide, by decide, by decide, fun _ h => (nomatch h), .nil, by decide, by decide, by decide, by decide, by decide, by decide, by decide⟩
theorem q_ok2 : (mQ [(1, "q", "brim", 2)] [] [2, 0]).ok := by
  refine ⟨by decide, by decide, by decide, by decide +kernel, by decide +kernel, by decide, by decide, by decide, by decide, by decide, by decide, by decide⟩
theorem q_srt1 : (mQ [] [0] [0]).srt = mQ [] [0] [0] := by
  unfold AM.srt mQ
  rw [sortA_nil, sortI_one]
theorem q_srt2 : (mQ [(1, "q", "brim", 2)] [] [2, 0]).srt = mQ [(1, "q", "brim", 2)] [] [0, 2] := by
  unfold AM.srt mQ
  rw [sortA_one, sortI_nil, sortI_20]
theorem q_pw : Pw (mQ [] [] [2, 0]) := ⟨by decide, by decide, by decide, (fun _ h => (nomatch h)), (fun _ h => (nomatch h)), by decide, by decide⟩
section
variable {P : Program} {w : World} {K : PySem.W.Frag} {mg : Str → Option Value} {base : Heap}
theorem ok_law {f fRi C fI D D1 D2 iS iL iA iR iF tD cL cR tR cP cM fB fPu fO fSm fKn fTo fDe fLe fRo fAr fDr fTe fSo fDa fBn fDu fAl fIl fIa fNa fNr fSb fRm fLt fAw fFs fLs fLn : Addr} {fdI fdiS fdiL fdiA fdiR fdiF fdB fdPu fdO fdSm fdKn fdTo fdDe fdLe fdRo fdAr fdDr fdTe fdSo fdDa fdBn fdDu fdAl fdIl fdIa fdNa fdNr fdSb fdRm fdLt fdAw fdFs fdLs fdLn : FuncData} {ec : Str → Addr} {oc ocR : Value} {od odR : Option Addr} {kV doc pm ct kVR docR pmR ctR : Value} {an anR : Option Addr} {osl oslR : Array (Option Value)}
    (lk : K.lookup f = some ⟨oc, od, .func (PySem.W.fnOf "law" "law" (defArgs sLaw) (defBody sLaw) (defScope sLaw) .none kV doc pm an (.ref cL) ct), osl⟩) (hcd : PySem.W.codeIn K (.ref cL) "law" = true)
    (lkR : K.lookup fRi = some ⟨ocR, odR, .func (PySem.W.fnOf "_law_right" "_law_right" (defArgs sRi) (defBody sRi) (defScope sRi) .none kVR docR pmR anR (.ref cR) ctR), oslR⟩) (hcdR : PySem.W.codeIn K (.ref cR) "_law_right" = true)
    (bRi : Binds K (PySem.W.fnOf "_law_right" "_law_right" (defArgs sRi) (defBody sRi) (defScope sRi) .none kVR docR pmR anR (.ref cR) ctR) ["_law_m"] []) (gRi : mg "_law_right" = some (.ref fRi)) (kRi : PySem.W.keepIn K (.ref fRi) = true)
    (B : FnM K mg fB fdB "_law_bag" sBag ["_law_script"])
    (Pu : FnM K mg fPu fdPu "_law_pull" sPull ["_law_bag_here", "_law_many"])
    (O : FnM K mg fO fdO "_law_of" sOf ["_law_bag_here", "_law_some"])
    (Sm : FnM K mg fSm fdSm "_law_same" sSame ["_law_found", "_law_due_here"])
    (Kn : FnM K mg fKn fdKn "_law_kind" sKind ["_law_e"])
    (To : FnM K mg fTo fdTo "_law_told" sTold ["_law_ask"])
    (De : FnM K mg fDe fdDe "_law_deed" sDeed ["_law_bag_here"])
    (Le : FnM K mg fLe fdLe "_law_letters" sLett ["_law_bag_here", "_law_most"])
    (Ro : FnM K mg fRo fdRo "_law_rooms_some" sRooms ["_law_bag_here", "_law_rooms"])
    (Ar : FnM K mg fAr fdAr "_law_arrow" sArrow ["_law_bag_here", "_law_rooms", "_law_letters_here"])
    (Dr : FnM K mg fDr fdDr "_law_drawn" sDrawn psDr)
    (Te : FnM K mg fTe fdTe "_law_tells" sLTells ["_law_made"])
    (So : FnM K mg fSo fdSo "_law_sorted" sSortd ["_law_m"])
    (Da : FnM K mg fDa fdDa "_law_deeds_all" sAllD [])
    (Bn : FnM K mg fBn fdBn "_law_bent_parts" sBn ["_law_bag_here", "_law_m"])
    (Du : FnM K mg fDu fdDu "_law_due" sDue ["_law_m"])
    (Al : FnM K mg fAl fdAl "are_letters" sAreL ["text"])
    (Il : FnM K mg fIl fdIl "is_letter" sIsL ["text", "letters"])
    (Ia : FnM K mg fIa fdIa "is_arrow" sIsA ["arrow", "rooms", "letters"])
    (Na : FnM K mg fNa fdNa "need_arrows" sNeedA ["arrows", "rooms", "letters"])
    (Nr : FnM K mg fNr fdNr "need_rooms" sNeedR ["some", "rooms"])
    (Sb : FnM K mg fSb fdSb "steps_by_start" sStepsB ["arrows"])
    (T : MkM K mg C fdI fI [.ref D] [("firsts", .ref D1), ("lasts", .ref D2)]) (hD : ∀ H, SqT K H D []) (hD1 : ∀ H, SqT K H D1 [.int 0]) (hD2 : ∀ H, SqT K H D2 [.int 0])
    (FRm : Fun K "rooms" "Machine.rooms" sMRooms fRm fdRm) (bRm : Binds K fdRm ["self"] []) (mRm : Meth K C "rooms" fRm)
    (FLt : Fun K "letters" "Machine.letters" sMLets fLt fdLt) (bLt : Binds K fdLt ["self"] []) (mLt : Meth K C "letters" fLt)
    (FAw : Fun K "arrows" "Machine.arrows" sMArrs fAw fdAw) (bAw : Binds K fdAw ["self"] []) (mAw : Meth K C "arrows" fAw)
    (FFs : Fun K "firsts" "Machine.firsts" sMFsts fFs fdFs) (bFs : Binds K fdFs ["self"] []) (mFs : Meth K C "firsts" fFs)
    (FLs : Fun K "lasts" "Machine.lasts" sMLsts fLs fdLs) (bLs : Binds K fdLs ["self"] []) (mLs : Meth K C "lasts" fLs)
    (FLn : Fun K "__len__" "Machine.__len__" sMLen fLn fdLn) (bLn : Binds K fdLn ["self"] []) (mLn : Meth K C "__len__" fLn)
    (SS : MkBadSize K mg (ec "BadSize") iS fdiS) (SL : MkBadLetters K mg (ec "BadLetters") iL fdiL) (SA : MkBadArrow K mg (ec "BadArrow") iA fdiA) (SR : MkBadRoom K mg (ec "BadRoom") iR fdiR) (SF : MkFull K mg (ec "Full") iF fdiF) (KD : Kd K mg ec ["BadSize", "BadLetters", "BadArrow", "BadRoom", "Full"] cP cM)
    (Cs : CsM K mg tD) (Bl : Blt mg) (B1 : Bl1 mg) (B2 : Bl2 mg) (mr : mg "range" = none) (ma : mg "any" = none) (TBR : TabB base mg cR tR) :
    FnOk P w K mg base CX0 12 f (PySem.W.fnOf "law" "law" (defArgs sLaw) (defBody sLaw) (defScope sLaw) .none kV doc pm an (.ref cL) ct) ["_law_script"] (spLaw K tR) := by
  have GB : FnOk P w K mg base CX0 11 fB fdB ["_law_script"] (spBag K) := ok_bag B.F Bl.list
  have GPu : FnOk P w K mg base CX0 11 fPu fdPu ["_law_bag_here", "_law_many"] (spPull K) := ok_pull Pu.F Bl.len
  have GDr : FnOk P w K mg base CX0 11 fDr fdDr psDr spDrawnH := ok_drawnH Dr.F Pu O De Le Ro Ar Bl.len mr Bl.int
  have GBn : FnOk P w K mg base CX0 11 fBn fdBn ["_law_bag_here", "_law_m"] (spBn K) := ok_bn Bn.F Pu O Bl.len mr
  have GDa : FnOk P w K mg base CX0 11 fDa fdDa [] spAllD := ok_allD Da.F
  have GSm : FnOk P w K mg base CX0 11 fSm fdSm ["_law_found", "_law_due_here"] (spSame K 3) := ok_same Sm.F Sm.b Sm.g Bl 3 7
  have GSm9 : FnOk P w K mg base CX0 10 fSm fdSm ["_law_found", "_law_due_here"] (spSame K 3) := ok_same Sm.F Sm.b Sm.g Bl 3 6
  have GI : FnOk P w K mg base CX0 10 fI fdI psMI (spMInit K C) := ok_minit T.F Al Il Ia Na Nr Sb B1 B2 Cs T.cl
  have GIX : FnOk P w K mg base (L2N.CX P w) 7 fI fdI psMI (spMInitX K C ec) := ok_minitX (k := 3) T.F Al Il Ia Na Nr Sb SS SL SA SF SR B1 B2 Cs T.cl
  have GTe : FnOk P w K mg base CX0 11 fTe fdTe ["_law_made"] (spLTells K C) := ok_ltells Te.F T.cl FRm bRm mRm FLt bLt mLt FAw bAw mAw FFs bFs mFs FLs bLs mLs Bl.list
  have GTe9 : FnOk P w K mg base CX0 10 fTe fdTe ["_law_made"] (spLTells K C) := ok_ltells Te.F T.cl FRm bRm mRm FLt bLt mLt FAw bAw mAw FFs bFs mFs FLs bLs mLs Bl.list
  have GSo : FnOk P w K mg base CX0 10 fSo fdSo ["_law_m"] (spSortd K) := ok_sortd So.F B2.sorted
  have GDu : FnOk P w K mg base CX0 10 fDu fdDu ["_law_m"] (spDue K) := ok_due (k := 8) Du.F Da Bl.list Bl.len B2.sorted B1.set ma
  have GRi : FnOk P w K mg base CX0 11 fRi _ ["_law_m"] (spRi K [(tR, RQ)]) := ok_ri (k := 3) lkR hcdR T GIX FLn bLn mLn.at_ mLn.fn FAw bAw mAw FFs bFs mFs FLs bLs mLs Du GDu Sm GSm9 Te GTe9 So GSo To Kn KD Bl mr TBR List.mem_cons_self (fun p hp _ => by rw [List.mem_singleton.mp hp])
  obtain ⟨ds, vD, bD⟩ := kb_none T.F
  obtain ⟨gg, KB⟩ := kb_made T.F T.nd T.one
  refine fn_of lk hcd scLaw (fun vs H Q E h => ?_) (fun A outer s H vs Q E hr h => ?_)
  · obtain ⟨a, ns, rfl, _⟩ := h
    rfl
  · obtain ⟨a, ns, rfl, hS, htR, q⟩ := h
    refine ⟨_, PSs.nox (pss_cons (ps_set (i := 1) scLaw.nd rfl (.inl rfl) (pe_call GB hr (by rfl) B.g B.F.kp B.b .nil pass0 (pa_cons (pv 0) pa_nil)))
      (pss_cutM (ps_for PassesOwn.never rfl (pi_range1 (by rfl) mr (pa_cons pe_int pa_nil)) (pg_name (i := 2) scLaw.nd rfl (.inl rfl))
        (pss_one (ps_if (pt_not (pt_val (pe_call GRi hr (by rfl) gRi kRi bRi .nil pass0 (pa_cons (pe_call GBn hr (by rfl) Bn.g Bn.F.kp Bn.b .nil pass0 (pa_cons (pv 1) (pa_cons (pe_call GDr hr (by rfl) Dr.g Dr.F.kp Dr.b .nil pass0 (pa_cons (pv 1) (pa_cons pe_int (pa_cons pe_int (pa_cons pe_int pa_nil))))) pa_nil))) pa_nil)))) pss_never pss_nil)))
      (pss_cutM (ps_par (i := 3) (j := 4) rfl scLaw.nd rfl rfl (by decide) rfl rfl (pa_cons (pe_op op_add pe_int (pe_call GPu hr (by rfl) Pu.g Pu.F.kp Pu.b .nil pass0 (pa_cons (pv 1) (pa_cons pe_int pa_nil)))) (pa_cons (pe_op op_add pe_int (pe_call GPu hr (by rfl) Pu.g Pu.F.kp Pu.b .nil pass0 (pa_cons (pv 1) (pa_cons pe_int pa_nil)))) pa_nil)) rfl)
      (pss_cons (ps_set (i := 5) scLaw.nd rfl (.inl rfl) (pe_lst pa_nil))
      (pss_cutM (ps_for PassesOwn.never rfl (pi_range1 (by rfl) mr (pa_cons (pv 4) pa_nil)) (pg_name (i := 6) scLaw.nd rfl (.inl rfl))
        (pss_one (ps_expr (pe_bm PySem.F.plainAttrs_list PySem.F.slot_list_append PySem.F.type_list_append mt_append (pv 5) (pa_cons (pe_tup (pa_cons (pe_op op_mod (pv 6) (pv 3)) (pa_cons (pe_ix ix_str pe_str (pe_op op_mod (pe_op op_fdiv (pv 6) (pv 3)) pe_int) (fun _ _ => rfl)) (pa_cons (pe_ix ix_list (pe_call0 GDa hr (by rfl) Da.g Da.F.kp Da.b .nil pass0) (pe_op op_mod (pe_op op_fdiv (pv 6) (pe_op op_mul pe_int (pv 3))) pe_int) (fun _ _ => rfl)) (pa_cons (pe_op op_fdiv (pv 6) (pe_op op_mul pe_int (pv 3))) pa_nil))))) pa_nil)))))
      (pss_cutM (ps_if (pt_not (pt_val (pe_call GRi hr (by rfl) gRi kRi bRi .nil pass0 (pa_cons (pe_tup (pa_cons (pv 3) (pa_cons pe_str (pa_cons (pv 5) (pa_cons (pe_lst (pa_cons pe_int pa_nil)) (pa_cons (pe_op op_cat (pe_op op_rep (pe_lst (pa_cons pe_int pa_nil)) (pe_callTy call_int1 (by rfl) Bl.int (by decide +kernel) (pa_cons (pe_cmpR op_eq (pv 4) pe_int (nomark _)) pa_nil))) (pe_lst (pa_cons pe_int pa_nil))) pa_nil)))))) pa_nil)))) pss_never pss_nil)
      (pss_cutM (ps_set (i := 7) scLaw.nd rfl (.inl rfl) (pe_make T.mak GI hr (by rfl) T.g bD vD pass0 (pa_cons pe_int (pa_cons pe_str pa_nil))))
      (pss_cutM (ps_if (PW.pt (pw_or (pt_not (pt_val (pe_call GSm hr (by rfl) Sm.g Sm.F.kp Sm.b .nil pass0 (pa_cons (pe_call GTe hr (by rfl) Te.g Te.F.kp Te.b .nil pass0 (pa_cons (pv 7) pa_nil)) (pa_cons (pe_tup (pa_cons pe_int (pa_cons pe_str (pa_cons (pe_lst pa_nil) (pa_cons (pe_lst (pa_cons pe_int pa_nil)) (pa_cons (pe_lst (pa_cons pe_int pa_nil)) pa_nil)))))) pa_nil))))) (pw_or1 (pt_not (pt_val (pe_call GRi hr (by rfl) gRi kRi bRi .nil pass0 (pa_cons (pe_tup (pa_cons pe_int (pa_cons pe_str (pa_cons (pe_lst pa_nil) (pa_cons (pe_lst pa_nil) (pa_cons (pe_lst (pa_cons pe_int (pa_cons pe_int pa_nil))) pa_nil)))))) pa_nil))))))) pss_never pss_nil)
      (pss_cons (ps_set (i := 7) scLaw.nd rfl (.inl rfl) (pe_makeN (n := 3) (ks := ["firsts", "lasts"]) T.mak GI hr (by rfl) T.g KB pass0 (pa_cons pe_int (pa_cons pe_str (pa_cons (pe_tup (pa_cons (pe_tup (pa_cons pe_int (pa_cons pe_str (pa_cons pe_str (pa_cons pe_int pa_nil))))) pa_nil)) pa_nil))) (pk_cons (pe_tup pa_nil) (pk_cons (pe_tup (pa_cons pe_int (pa_cons pe_int pa_nil))) pk_nil))))
      (pss_one (ps_ret (pe_call GSm hr (by rfl) Sm.g Sm.F.kp Sm.b .nil pass0 (pa_cons (pe_call GTe hr (by rfl) Te.g Te.F.kp Te.b .nil pass0 (pa_cons (pv 7) pa_nil)) (pa_cons (pe_tup (pa_cons pe_int (pa_cons pe_str (pa_cons (pe_lst (pa_cons (pe_tup (pa_cons pe_int (pa_cons pe_str (pa_cons pe_str (pa_cons pe_int pa_nil))))) pa_nil)) (pa_cons (pe_lst pa_nil) (pa_cons (pe_lst (pa_cons pe_int (pa_cons pe_int pa_nil))) pa_nil)))))) pa_nil)))))))))))))), ?_⟩
    have hbig : 10000 ≤ sizeLine := by decide
    refine ⟨_, rfl, a, ns, rfl, hS, fun g H1 nb sm1 Bg1 => ?_⟩
    have T1 : Tabs [(tR, RQ)] H1 := fun p hp => by
      rw [List.mem_singleton.mp hp]
      exact TabS.nil (sm1 _ _ htR)
    refine ⟨fun σ' H' => ∃ y2 : Option V, σ' = [some (.ref a), some (.ref g.b), y2, none, none, none, none, none] ∧ Bg H' g ∧ Tabs [(tR, RQ)] H', ?_, ?_⟩
    · refine ⟨6, rfl, by decide, by decide, for_range (lo := 0) (n := 6) (fun i σ H' => ∃ y2 : Option V, σ = [some (.ref a), some (.ref g.b), y2, none, none, none, none, none] ∧ Bg H' g ∧ Tabs [(tR, RQ)] H') ⟨_, rfl, Bg1, T1⟩ ?_ ?_⟩
      · rintro i σ H2 hi ⟨y2, rfl, Bg2, T2⟩
        refine ⟨_, rfl, _, rfl, g, 4, 3, 12, rfl, by decide, by decide, by decide, by decide, by decide, by decide, Bg2, fun t M H3 okM hn hl ha hlow dM k3 Bg3 => ?_⟩
        refine ⟨g, t, M, rfl, dM, okM, by omega, Bg3, fun t' M' H4 bt dM' k4 Bg4 => ?_⟩
        refine ⟨t', M', rfl, dM', bt.pw, tabs_keep (tabs_keep T2 Bg2 k3) Bg3 k4, fun H5 x5 T5 => ⟨_, rfl, iteF ?_⟩⟩
        exact ⟨_, rfl, bg_ext Bg4 x5, T5⟩
      · rintro σ H2 ⟨y2, rfl, Bg2, T2⟩
        exact ⟨_, rfl, Bg2, T2⟩
    rintro σ H2 ⟨y2, rfl, Bg2, T2⟩
    refine ⟨fun σ' H' => ∃ n m : Int, σ' = [some (.ref a), some (.ref g.b), y2, some (.int n), some (.int m), none, none, none] ∧ 2 ≤ n ∧ n ≤ 8 ∧ 39 ≤ m ∧ m ≤ 41 ∧ Tabs [(tR, RQ)] H', ?_, ?_⟩
    · refine ⟨_, rfl, g, 7, rfl, by decide, by decide, Bg2, fun x H3 x0 x1 k3 Bg3 => ?_⟩
      refine ⟨_, _, rfl, rfl, _, rfl, g, 3, rfl, by decide, by decide, Bg3, fun y H4 y0 y1 k4 Bg4 => ?_⟩
      exact ⟨_, _, rfl, rfl, _, _, rfl, 2 + x, 39 + y, rfl, by omega, by omega, by omega, by omega, tabs_keep (tabs_keep T2 Bg2 k3) Bg3 k4⟩
    clear Bg2 T2
    rintro σ H3 ⟨n, m, rfl, n2, n8, m39, m41, T3⟩
    refine ⟨(by decide : 0 ≤ sizeLine), fun la nla => ?_⟩
    have s4 := same_upd (o := .lst []) nla
    have h4 : (upd H3 la (.lst [])) la = some (.lst (rfs [])) := upd_same
    have T4 := T3.ext s4
    generalize upd H3 la (.lst []) = H4 at h4 T4
    clear s4 nla T3
    refine ⟨fun σ' H' => ∃ (ps : List AR) (y6 : Option V), σ' = [some (.ref a), some (.ref g.b), y2, some (.int n), some (.int m), some (.ref la), y6, none] ∧ H' la = some (.lst (rfs ps)) ∧ AkAt H' ps ∧ ps.length ≤ 41 ∧ (∀ p ∈ ps, (∃ c, p.2.2.1 = Sx [c] ∧ c < 128) ∧ p.2.2.2.1 ∈ deedsL) ∧ Tabs [(tR, RQ)] H', ?_, ?_⟩
    · refine ⟨_, rfl, m, rfl, by omega, by omega, for_range (lo := 0) (n := m.toNat) (fun i σ H' => ∃ (ps : List AR) (y6 : Option V), σ = [some (.ref a), some (.ref g.b), y2, some (.int n), some (.int m), some (.ref la), y6, none] ∧ H' la = some (.lst (rfs ps)) ∧ AkAt H' ps ∧ ps.length = i ∧ (∀ p ∈ ps, (∃ c, p.2.2.1 = Sx [c] ∧ c < 128) ∧ p.2.2.2.1 ∈ deedsL) ∧ Tabs [(tR, RQ)] H') ⟨[], _, rfl, h4, (fun _ h => nomatch h), rfl, (fun _ h => nomatch h), T4⟩ ?_ ?_⟩
      · rintro i σ H5 hi ⟨ps, y6, rfl, hla, hR, hpl, hA, T5⟩
        have i41 : (i : Int) ≤ 41 := by omega
        have hl2 : ("ab" : Str).length ≤ sizeLine := by decide
        obtain ⟨c, hc, hcm⟩ : ∃ c, atI ("ab" : Str).cps.toList ((0 + (i : Int)) / n % 2) = some c ∧ c ∈ [97, 98] := by
          have e1 := Int.emod_nonneg ((0 + (i : Int)) / n) (show (2 : Int) ≠ 0 by decide)
          have e2 := Int.emod_lt_of_pos ((0 + (i : Int)) / n) (show (0 : Int) < 2 by decide)
          obtain ⟨j, hj⟩ : ∃ j : Nat, (0 + (i : Int)) / n % 2 = (j : Int) := ⟨((0 + (i : Int)) / n % 2).toNat, by omega⟩
          rw [hj] at e2 ⊢
          have hjl : j < ([97, 98] : List Nat).length := by show j < 2; omega
          exact ⟨[97, 98][j], (by rw [show ("ab" : Str).cps.toList = [97, 98] by decide +kernel]; exact atI_nat (List.getElem?_eq_getElem hjl)), List.getElem_mem hjl⟩
        obtain ⟨d, hd, hdm⟩ : ∃ d, atI (deedsL.map V.str) ((0 + (i : Int)) / (2 * n) % 5) = some (.str d) ∧ d ∈ deedsL := by
          have e1 := Int.emod_nonneg ((0 + (i : Int)) / (2 * n)) (show (5 : Int) ≠ 0 by decide)
          have e2 := Int.emod_lt_of_pos ((0 + (i : Int)) / (2 * n)) (show (0 : Int) < 5 by decide)
          obtain ⟨j, hj⟩ : ∃ j : Nat, (0 + (i : Int)) / (2 * n) % 5 = (j : Int) := ⟨((0 + (i : Int)) / (2 * n) % 5).toNat, by omega⟩
          rw [hj] at e2 ⊢
          have hjl : j < deedsL.length := by show j < 5; omega
          exact ⟨deedsL[j], atI_nat (by rw [List.getElem?_map, List.getElem?_eq_getElem hjl]; rfl), List.getElem_mem hjl⟩
        refine ⟨_, rfl, .inl ⟨rfl, _, SqL.of hla⟩, _, rfl, _, rfl, _, _, rfl, rfl, (show 0 < n by omega), ?_⟩
        refine ⟨_, rfl, _, rfl, _, _, rfl, rfl, ⟨(show 0 < n by omega), (show n < 1073741824 by omega)⟩, _, _, rfl, rfl, (by decide : (0 : Int) < 2), ("ab" : Str), _, c, rfl, rfl, hl2, hc, ?_⟩
        refine ⟨rfl, fun pd npd => ?_⟩
        have sd := same_upd (o := .lst (deedsL.map V.str)) npd
        have ed : (upd H5 pd (.lst (deedsL.map V.str))) pd = some (.lst (deedsL.map V.str)) := upd_same
        generalize upd H5 pd (.lst (deedsL.map V.str)) = H6 at sd ed
        refine ⟨_, rfl, _, rfl, _, _, rfl, rfl, .inl ⟨by decide, by decide⟩, _, _, rfl, rfl, ⟨(show 0 < 2 * n by omega), (show 2 * n < 1073741824 by omega)⟩, _, _, rfl, rfl, (by decide : (0 : Int) < 5), pd, _, _, _, rfl, rfl, SqL.of ed, hd, ?_⟩
        refine ⟨_, rfl, _, rfl, _, _, rfl, rfl, .inl ⟨by decide, by decide⟩, _, _, rfl, rfl, ⟨(show 0 < 10 * n by omega), (show 10 * n < 1073741824 by omega)⟩, ?_⟩
        refine ⟨(by decide : 4 ≤ sizeLine), fun t nt => ?_⟩
        have st := same_upd (o := .tup (aV ((0 + (i : Int)) % n, Sx [c], d, (0 + (i : Int)) / (10 * n)))) nt
        have et : (upd H6 t (.tup (aV ((0 + (i : Int)) % n, Sx [c], d, (0 + (i : Int)) / (10 * n))))) t = some (.tup (aV ((0 + (i : Int)) % n, Sx [c], d, (0 + (i : Int)) / (10 * n)))) := upd_same
        have sdt := sd.trans st
        refine ⟨la, _, _, rfl, rfl, sdt _ _ hla, by unfold rfs; rw [List.length_map]; omega, ?_⟩
        refine ⟨ps ++ [(t, ((0 + (i : Int)) % n, Sx [c], d, (0 + (i : Int)) / (10 * n)))], _, rfl, ?_, fun p hp => ?_, by rw [List.length_append, hpl]; rfl, fun p hp => ?_, ?_⟩
        · rw [upd_same]
          unfold rfs
          rw [List.map_append]
          rfl
        · rcases List.mem_append.mp hp with hp | hp
          · exact (upd_ne (ne_of (sdt _ _ (hR p hp)) (sdt _ _ hla) (fun z => by cases z))).trans (sdt _ _ (hR p hp))
          · rw [List.mem_singleton.mp hp]
            exact (upd_ne (ne_of et (sdt _ _ hla) (fun z => by cases z))).trans et
        · rcases List.mem_append.mp hp with hp | hp
          · exact hA p hp
          · rw [List.mem_singleton.mp hp]
            exact ⟨⟨c, rfl, (by decide : ∀ c ∈ [97, 98], c < 128) c hcm⟩, hdm⟩
        · exact tabs_put (T5.ext sdt) (sdt _ _ hla)
      · rintro σ H5 ⟨ps, y6, rfl, hla, hR, hpl, hA, T5⟩
        exact ⟨ps, y6, rfl, hla, hR, by omega, hA, T5⟩
    clear h4 T4
    rintro σ H4 ⟨ps, y6, rfl, hla, hR, hpl, hA, T4⟩
    -- forty and forty-one
    refine ⟨fun σ' H' => σ' = [some (.ref a), some (.ref g.b), y2, some (.int n), some (.int m), some (.ref la), y6, none] ∧ Tabs [(tR, RQ)] H', ?_, ?_⟩
    · refine ⟨_, rfl, _, rfl, (by decide : 1 ≤ sizeLine), fun lf nlf => ?_⟩
      have s5 := same_upd (o := .lst [V.int 0]) nlf
      have e5 : (upd H4 lf (.lst [V.int 0])) lf = some (.lst [V.int 0]) := upd_same
      generalize upd H4 lf (.lst [V.int 0]) = H5 at s5 e5
      refine ⟨(by decide : 1 ≤ sizeLine), fun p1 np1 => ?_⟩
      have s6 := same_upd (o := .lst [V.int 0]) np1
      have e6 : (upd H5 p1 (.lst [V.int 0])) p1 = some (.lst [V.int 0]) := upd_same
      generalize upd H5 p1 (.lst [V.int 0]) = H6 at s6 e6
      refine ⟨_, rfl, rfl, .inr ⟨_, rfl, ?_⟩⟩
      obtain ⟨j, ej, j0, j1⟩ : ∃ j : Int, (if decide (V.int m = V.int 41) = true then (1 : Int) else 0) = j ∧ 0 ≤ j ∧ j ≤ 1 := by
        by_cases c : V.int m = V.int 41
        · exact ⟨1, by rw [decide_eq_true c]; rfl, by decide, by decide⟩
        · exact ⟨0, by rw [decide_eq_false c]; rfl, by decide, by decide⟩
      rw [ej]
      have hj : 1 * j.toNat ≤ 50000 := by omega
      have hbig2 : 50000 ≤ sizeLine := by decide
      refine ⟨p1, j, [V.int 0], rfl, rfl, e6, Int.le_trans (by decide) j0, Int.lt_of_le_of_lt j1 (by decide), by show 1 * j.toNat ≤ sizeLine; omega, fun p2 np2 => ?_⟩
      rw [rep_flat]
      have s7 := same_upd (o := .lst ((List.replicate j.toNat (0 : Int)).map V.int)) np2
      have e7 : (upd H6 p2 (.lst ((List.replicate j.toNat (0 : Int)).map V.int))) p2 = some (.lst ((List.replicate j.toNat (0 : Int)).map V.int)) := upd_same
      generalize upd H6 p2 (.lst ((List.replicate j.toNat (0 : Int)).map V.int)) = H7 at s7 e7
      refine ⟨(by decide : 1 ≤ sizeLine), fun p3 np3 => ?_⟩
      have s8 := same_upd (o := .lst [V.int 0]) np3
      have e8 : (upd H7 p3 (.lst [V.int 0])) p3 = some (.lst [V.int 0]) := upd_same
      generalize upd H7 p3 (.lst [V.int 0]) = H8 at s8 e8
      refine ⟨p2, p3, _, _, rfl, rfl, s8 _ _ e7, e8, by rw [List.length_map, List.length_replicate]; show j.toNat + 1 ≤ sizeLine; omega, fun lg nlg => ?_⟩
      have eg : (List.replicate j.toNat (0 : Int)).map V.int ++ [V.int 0] = (List.replicate j.toNat (0 : Int) ++ [0]).map V.int := by rw [List.map_append]; rfl
      rw [eg]
      have s9 := same_upd (o := .lst ((List.replicate j.toNat (0 : Int) ++ [0]).map V.int)) nlg
      have e9 : (upd H8 lg (.lst ((List.replicate j.toNat (0 : Int) ++ [0]).map V.int))) lg = some (.lst ((List.replicate j.toNat (0 : Int) ++ [0]).map V.int)) := upd_same
      generalize upd H8 lg (.lst ((List.replicate j.toNat (0 : Int) ++ [0]).map V.int)) = H9 at s9 e9
      refine ⟨(by decide : 5 ≤ sizeLine), fun tp ntp => ?_⟩
      have s10 := same_upd (o := .tup [.int n, .str "ab", .ref la, .ref lf, .ref lg]) ntp
      have e10 : (upd H9 tp (.tup [.int n, .str "ab", .ref la, .ref lf, .ref lg])) tp = some (.tup [.int n, .str "ab", .ref la, .ref lf, .ref lg]) := upd_same
      generalize upd H9 tp (.tup [.int n, .str "ab", .ref la, .ref lf, .ref lg]) = H10 at s10 e10
      have s49 := s5.trans (s6.trans (s7.trans (s8.trans (s9.trans s10))))
      refine ⟨tp, ⟨n, [97, 98], ps.map (·.2), [0], List.replicate j.toNat 0 ++ [0]⟩, rfl, ⟨la, lf, lg, ps, by rw [← ab_eq]; exact e10, s49 _ _ hla, hR.same s49, rfl, (s6.trans (s7.trans (s8.trans (s9.trans s10)))) _ _ e5, s10 _ _ e9⟩, ?_, T4.ext s49, fun H' x' T' => ⟨_, rfl, iteF ⟨rfl, T'⟩⟩⟩
      refine ⟨(by decide : 2 ≤ 16), (by decide : ∀ c ∈ [97, 98], c < 128), by show (ps.map (·.2)).length ≤ 52; rw [List.length_map]; omega, fun x hx => ?_, fun x hx => ?_, (by decide : 1 ≤ 99), by show (List.replicate j.toNat (0 : Int) ++ [0]).length ≤ 99; rw [List.length_append, List.length_replicate]; show j.toNat + 1 ≤ 99; omega⟩
      · obtain ⟨p, hp, rfl⟩ := List.mem_map.mp hx
        obtain ⟨⟨c, ec, hc⟩, hd⟩ := hA p hp
        exact ⟨by rw [ec]; exact sx_128 fun d hd => by rw [List.mem_singleton.mp hd]; exact hc, deeds_strOk _ hd⟩
      · obtain ⟨p, hp, rfl⟩ := List.mem_map.mp hx
        obtain ⟨⟨c, ec, _⟩, _⟩ := hA p hp
        rw [ec]
        exact (by decide : 1 ≤ 16)
    clear hla hR hpl hA T4
    rintro σ H5 ⟨rfl, T5⟩
    -- made of two parts
    refine ⟨fun σ' H' => ∃ mm : Addr, σ' = [some (.ref a), some (.ref g.b), y2, some (.int n), some (.int m), some (.ref la), y6, some (.ref mm)] ∧ Tabs [(tR, RQ)] H' ∧ MachAt K C H' mm (mQ [] [0] [0]), ?_, ?_⟩
    · refine fun x dx nx ndx ne => ?_
      have sx : Same H5 (upd (upd H5 dx (.own x)) x (.ins C dx [])) := fun b o hb => by
        rw [upd_ne (ne_of_none hb nx), upd_ne (ne_of_none hb ndx)]
        exact hb
      refine ⟨x, dx, D, D1, D2, [], mQ [] [0] [0], by rw [show (mQ [] [0] [0]).ls = [113] from rfl, ← q_eq]; rfl, upd_same, .inr (hD _), (fun _ h => nomatch h), rfl, .inr (hD1 _), .inr (hD2 _), q_ok1, fun H' k' mm => ⟨rfl, ?_⟩⟩
      have s6 : Same H5 H' := fun b o hb => k' _ _ (ne_of_none hb nx) (sx _ _ hb)
      exact ⟨x, rfl, T5.ext s6, by rw [← q_srt1]; exact mm⟩
    rintro σ H6 ⟨mm, rfl, T6, m6⟩
    refine ⟨fun σ' H' => σ' = [some (.ref a), some (.ref g.b), y2, some (.int n), some (.int m), some (.ref la), y6, some (.ref mm)] ∧ Tabs [(tR, RQ)] H', ?_, ?_⟩
    · refine ⟨_, rfl, mm, _, rfl, m6, fun u1 H7 s7 du => ?_⟩
      have x67 := s7
      refine ⟨(by decide : 0 ≤ sizeLine), fun l1 nl1 => ?_⟩
      have sl1 := same_upd (o := .lst []) nl1
      have el1 : (upd H7 l1 (.lst [])) l1 = some (.lst []) := upd_same
      generalize upd H7 l1 (.lst []) = H8 at sl1 el1
      refine ⟨(by decide : 1 ≤ sizeLine), fun l2 nl2 => ?_⟩
      have sl2 := same_upd (o := .lst [V.int 0]) nl2
      have el2 : (upd H8 l2 (.lst [V.int 0])) l2 = some (.lst [V.int 0]) := upd_same
      generalize upd H8 l2 (.lst [V.int 0]) = H9 at sl2 el2
      refine ⟨(by decide : 1 ≤ sizeLine), fun l3 nl3 => ?_⟩
      have sl3 := same_upd (o := .lst [V.int 0]) nl3
      have el3 : (upd H9 l3 (.lst [V.int 0])) l3 = some (.lst [V.int 0]) := upd_same
      generalize upd H9 l3 (.lst [V.int 0]) = H10 at sl3 el3
      refine ⟨(by decide : 5 ≤ sizeLine), fun u2 nu2 => ?_⟩
      have su2 := same_upd (o := .tup [.int 3, .str "q", .ref l1, .ref l2, .ref l3]) nu2
      have eu2 : (upd H10 u2 (.tup [.int 3, .str "q", .ref l1, .ref l2, .ref l3])) u2 = some (.tup [.int 3, .str "q", .ref l1, .ref l2, .ref l3]) := upd_same
      generalize upd H10 u2 (.tup [.int 3, .str "q", .ref l1, .ref l2, .ref l3]) = H11 at su2 eu2
      have s711 := sl1.trans (sl2.trans (sl3.trans su2))
      have dL : DrawnAt K H11 u2 (mQ [] [0] [0]) := ⟨l1, l2, l3, [], by rw [show (mQ [] [0] [0]).ls = [113] from rfl, ← q_eq]; exact eu2, (sl2.trans (sl3.trans su2)) _ _ el1, (fun _ h => nomatch h), rfl, (sl3.trans su2) _ _ el2, su2 _ _ el3⟩
      refine ⟨_, _, ddat (mQ [] [0] [0]), rfl, dp_drawn (du.same s711), dp_drawn dL, lvl_ddat (by decide) (by decide) (by decide), fun H12 s12 => ⟨_, rfl, iteF ?_⟩⟩
      have T12 := T6.ext (s7.trans (s711.trans s12))
      clear s12 dL s711 sl1 el1 sl2 el2 sl3 el3 su2 eu2 nl1 nl2 nl3 nu2 x67 s7 du
      refine ⟨(by decide : 0 ≤ sizeLine), fun l4 nl4 => ?_⟩
      have sl4 := same_upd (o := .lst []) nl4
      have el4 : (upd H12 l4 (.lst [])) l4 = some (.lst []) := upd_same
      generalize upd H12 l4 (.lst []) = H13 at sl4 el4
      refine ⟨(by decide : 0 ≤ sizeLine), fun l5 nl5 => ?_⟩
      have sl5 := same_upd (o := .lst []) nl5
      have el5 : (upd H13 l5 (.lst [])) l5 = some (.lst []) := upd_same
      generalize upd H13 l5 (.lst []) = H14 at sl5 el5
      refine ⟨(by decide : 2 ≤ sizeLine), fun l6 nl6 => ?_⟩
      have sl6 := same_upd (o := .lst [V.int 2, V.int 0]) nl6
      have el6 : (upd H14 l6 (.lst [V.int 2, V.int 0])) l6 = some (.lst [V.int 2, V.int 0]) := upd_same
      generalize upd H14 l6 (.lst [V.int 2, V.int 0]) = H15 at sl6 el6
      refine ⟨(by decide : 5 ≤ sizeLine), fun u3 nu3 => ?_⟩
      have su3 := same_upd (o := .tup [.int 3, .str "q", .ref l4, .ref l5, .ref l6]) nu3
      have eu3 : (upd H15 u3 (.tup [.int 3, .str "q", .ref l4, .ref l5, .ref l6])) u3 = some (.tup [.int 3, .str "q", .ref l4, .ref l5, .ref l6]) := upd_same
      generalize upd H15 u3 (.tup [.int 3, .str "q", .ref l4, .ref l5, .ref l6]) = H16 at su3 eu3
      have s1216 := sl4.trans (sl5.trans (sl6.trans su3))
      exact ⟨u3, mQ [] [] [2, 0], rfl, ⟨l4, l5, l6, [], by rw [show (mQ [] [] [2, 0]).ls = [113] from rfl, ← q_eq]; exact eu3, (sl5.trans (sl6.trans su3)) _ _ el4, (fun _ h => nomatch h), rfl, (sl6.trans su3) _ _ el5, su3 _ _ el6⟩, q_pw, T12.ext s1216, fun H' x' T' => ⟨_, rfl, iteF ⟨rfl, T'⟩⟩⟩
    rintro σ H7 ⟨rfl, T7⟩
    -- made with an arrow
    refine ⟨(by decide : 4 ≤ sizeLine), fun t1 nt1 => ?_⟩
    have st1 := same_upd (o := .tup [.int 1, .str "q", .str "brim", .int 2]) nt1
    have et1 : (upd H7 t1 (.tup [.int 1, .str "q", .str "brim", .int 2])) t1 = some (.tup [.int 1, .str "q", .str "brim", .int 2]) := upd_same
    generalize upd H7 t1 (.tup [.int 1, .str "q", .str "brim", .int 2]) = H8 at st1 et1
    refine ⟨(by decide : 1 ≤ sizeLine), fun t2 nt2 => ?_⟩
    have st2 := same_upd (o := .tup [.ref t1]) nt2
    have et2 : (upd H8 t2 (.tup [.ref t1])) t2 = some (.tup [.ref t1]) := upd_same
    generalize upd H8 t2 (.tup [.ref t1]) = H9 at st2 et2
    refine ⟨(by decide : 0 ≤ sizeLine), fun t3 nt3 => ?_⟩
    have st3 := same_upd (o := .tup []) nt3
    have et3 : (upd H9 t3 (.tup [])) t3 = some (.tup []) := upd_same
    generalize upd H9 t3 (.tup []) = H10 at st3 et3
    refine ⟨(by decide : 2 ≤ sizeLine), fun t4 nt4 => ?_⟩
    have st4 := same_upd (o := .tup [V.int 2, V.int 0]) nt4
    have et4 : (upd H10 t4 (.tup [V.int 2, V.int 0])) t4 = some (.tup [V.int 2, V.int 0]) := upd_same
    generalize upd H10 t4 (.tup [V.int 2, V.int 0]) = H11 at st4 et4
    refine ⟨rfl, rfl, fun x dx nx ndx ne => ?_⟩
    have sx : Same H11 (upd (upd H11 dx (.own x)) x (.ins C dx [])) := fun b o hb => by
      rw [upd_ne (ne_of_none hb nx), upd_ne (ne_of_none hb ndx)]
      exact hb
    have f1 := sx _ _ ((st2.trans (st3.trans st4)) _ _ et1)
    have f2 := sx _ _ ((st3.trans st4) _ _ et2)
    have f3 := sx _ _ (st4 _ _ et3)
    have f4 := sx _ _ et4
    refine ⟨x, dx, t2, t3, t4, [(t1, (1, "q", "brim", 2))], mQ [(1, "q", "brim", 2)] [] [2, 0], by rw [show (mQ [(1, "q", "brim", 2)] [] [2, 0]).ls = [113] from rfl, ← q_eq]; rfl, upd_same, .inr (SqT.of f2), (fun p hp => by rw [List.mem_singleton.mp hp]; exact SqT.of f1), rfl, .inr (SqT.of f3), .inr (SqT.of f4), q_ok2, fun H' k' mk => ⟨rfl, ?_⟩⟩
    rw [q_srt2] at mk
    refine ⟨_, rfl, x, _, rfl, mk, fun u1 H12 s12 du => ?_⟩
    refine ⟨(by decide : 4 ≤ sizeLine), fun r1 nr1 => ?_⟩
    have sr1 := same_upd (o := .tup [.int 1, .str "q", .str "brim", .int 2]) nr1
    have er1 : (upd H12 r1 (.tup [.int 1, .str "q", .str "brim", .int 2])) r1 = some (.tup [.int 1, .str "q", .str "brim", .int 2]) := upd_same
    generalize upd H12 r1 (.tup [.int 1, .str "q", .str "brim", .int 2]) = H13 at sr1 er1
    refine ⟨(by decide : 1 ≤ sizeLine), fun r2 nr2 => ?_⟩
    have sr2 := same_upd (o := .lst [.ref r1]) nr2
    have er2 : (upd H13 r2 (.lst [.ref r1])) r2 = some (.lst [.ref r1]) := upd_same
    generalize upd H13 r2 (.lst [.ref r1]) = H14 at sr2 er2
    refine ⟨(by decide : 0 ≤ sizeLine), fun r3 nr3 => ?_⟩
    have sr3 := same_upd (o := .lst []) nr3
    have er3 : (upd H14 r3 (.lst [])) r3 = some (.lst []) := upd_same
    generalize upd H14 r3 (.lst []) = H15 at sr3 er3
    refine ⟨(by decide : 2 ≤ sizeLine), fun r4 nr4 => ?_⟩
    have sr4 := same_upd (o := .lst [V.int 0, V.int 2]) nr4
    have er4 : (upd H15 r4 (.lst [V.int 0, V.int 2])) r4 = some (.lst [V.int 0, V.int 2]) := upd_same
    generalize upd H15 r4 (.lst [V.int 0, V.int 2]) = H16 at sr4 er4
    refine ⟨(by decide : 5 ≤ sizeLine), fun u2 nu2 => ?_⟩
    have su2 := same_upd (o := .tup [.int 3, .str "q", .ref r2, .ref r3, .ref r4]) nu2
    have eu2 : (upd H16 u2 (.tup [.int 3, .str "q", .ref r2, .ref r3, .ref r4])) u2 = some (.tup [.int 3, .str "q", .ref r2, .ref r3, .ref r4]) := upd_same
    generalize upd H16 u2 (.tup [.int 3, .str "q", .ref r2, .ref r3, .ref r4]) = H17 at su2 eu2
    have sr := sr1.trans (sr2.trans (sr3.trans (sr4.trans su2)))
    have dL : DrawnAt K H17 u2 (mQ [(1, "q", "brim", 2)] [] [0, 2]) := ⟨r2, r3, r4, [(r1, (1, "q", "brim", 2))], by rw [show (mQ [(1, "q", "brim", 2)] [] [0, 2]).ls = [113] from rfl, ← q_eq]; exact eu2, (sr3.trans (sr4.trans su2)) _ _ er2, (fun p hp => by rw [List.mem_singleton.mp hp]; exact SqT.of ((sr2.trans (sr3.trans (sr4.trans su2))) _ _ er1)), rfl, (sr4.trans su2) _ _ er3, su2 _ _ er4⟩
    exact ⟨_, _, ddat (mQ [(1, "q", "brim", 2)] [] [0, 2]), rfl, dp_drawn (du.same sr), dp_drawn dL, lvl_ddat (by decide) (by decide) (by decide), fun H18 s18 => q H18⟩
end
end Onp
set_option maxHeartbeats 4000000
set_option autoImplicit false
/-! facts by names, for an end by one run of the top -/
namespace Onp
open PySem PySem.Spec PyProof.Rows L2 HotX L2H LamX
open He (ga ma eqO eqO_ok ba)
section
variable {K : PySem.W.Frag}
theorem slB_ok : ∀ {l : List (Option Value)}, slB l = true → ∃ k0 k1 k2 k3 k5, l = [k0, k1, k2, k3, some (.builtin "ValueError.__new__"), k5]
  | [k0, k1, k2, k3, some (.builtin n), k5], h => ⟨k0, k1, k2, k3, k5, by rw [show n = "ValueError.__new__" from beq_iff_eq.mp h]⟩
theorem oexB_ok {C : Addr} (h : oexB K C = true) : ∃ nm q N bs bm sn sub ab col dd k0 k1 k2 k3 k5, K.lookup C = some (excClassObj nm q C N bs bm true sn sub ab col dd k0 k1 k2 k3 k5 "ValueError.__new__") ∧ PySem.HandSPX.refsVE bm = true := by
  unfold oexB at h
  cases e : K.lookup C with
  | none => rw [e] at h; cases h
  | some o =>
    obtain ⟨oc, od, dt, sl⟩ := o
    rw [e] at h
    cases oc <;> try (cases dt <;> cases h)
    rename_i t
    cases dt <;> try cases h
    rename_i cd
    obtain ⟨h1, h2⟩ := ba h
    obtain ⟨ht, h3⟩ := ba h1
    have et : t = "type" := beq_iff_eq.mp ht
    obtain ⟨a1, a2, a3, a4, a5, a6, a7, a8, a9, a10, a11⟩ := cd
    cases a3 with
    | nil => cases h3
    | cons v bm =>
      cases v <;> try cases h3
      rename_i D
      obtain ⟨g1, g2⟩ := ba h3
      obtain ⟨g3, g4⟩ := ba g2
      obtain ⟨g5, g6⟩ := ba g4
      have eD : D = C := beq_iff_eq.mp g1
      have e11 : a11 = false := beq_iff_eq.mp g3
      have e6 : a6 = true := g5
      obtain ⟨l⟩ := sl
      obtain ⟨k0, k1, k2, k3, k5, el⟩ := slB_ok (show slB l = true from h2)
      rw [et, eD, e11, e6, el]
      exact ⟨_, _, _, _, bm, _, _, _, _, _, _, _, _, _, _, rfl, g6⟩
structure ErrF (K : PySem.W.Frag) (x : Str) : Prop where
  oex : OexC K (ga K x)
  iC : PySem.W.findIn K (.ref (ga K x)) "__init__" = some (some (.ref (ma K (ga K x) "__init__")))
  tI : PySem.W.typeIn K (.ref (ma K (ga K x) "__init__")) = some (.type "function")
  wd : PySem.W.findIn K (.ref (ga K x)) "word" = some none
  er : ErrC K (ga K x)
  sub : ∀ y ∈ errNs, PySem.W.subIn K (.ref (ga K x)) (.ref (ga K y)) = some (y == x)
  any : PySem.W.exmAny K (.ref (ga K x)) [.ref (ga K "PurseError"), .ref (ga K "Missing"), .ref (ga K "NothingLeft")] = some true
theorem errB_ok {x : Str} (hA : allB K = true) (h : errB K x = true) : ErrF K x := by
  obtain ⟨A1, A⟩ := ba hA
  obtain ⟨A2, _⟩ := ba A
  obtain ⟨h1, h⟩ := ba h
  obtain ⟨h2, h⟩ := ba h
  obtain ⟨h3, h4⟩ := ba h
  obtain ⟨a1, h1⟩ := ba h1
  obtain ⟨a2, h1⟩ := ba h1
  obtain ⟨a3, h1⟩ := ba h1
  obtain ⟨a4, a5⟩ := ba h1
  obtain ⟨b1, h2⟩ := ba h2
  obtain ⟨b2, b3⟩ := ba h2
  obtain ⟨c1, h3⟩ := ba h3
  obtain ⟨c2, h3⟩ := ba h3
  obtain ⟨c3, h3⟩ := ba h3
  obtain ⟨c4, h3⟩ := ba h3
  obtain ⟨c5, c6⟩ := ba h3
  obtain ⟨d1, d2⟩ := ba h4
  exact ⟨⟨oexB_ok a1, eqO_ok a2, of_decide_eq_true a3, of_decide_eq_true a4, a5⟩, eqO_ok b1, of_decide_eq_true b2, eqO_ok b3,
    ⟨c1, eqO_ok c2, eqO_ok c3, of_decide_eq_true a3, eqO_ok c4, of_decide_eq_true A1, of_decide_eq_true A2, of_decide_eq_true c5, c6⟩,
    fun y hy => of_decide_eq_true (List.all_eq_true.mp d1 y hy), of_decide_eq_true d2⟩
theorem slLB_ok {newId : String} : ∀ {l : List (Option Value)}, slLB newId l = true → ∃ k0 k1 k2 k3 k5, l = [k0, k1, k2, k3, some (.builtin newId), k5]
  | [k0, k1, k2, k3, some (.builtin n), k5], h => ⟨k0, k1, k2, k3, k5, by rw [show n = newId from beq_iff_eq.mp h]⟩
theorem oexLB_ok {newId : String} {tl : List Value} {C : Addr} (h : oexLB newId tl K C = true) : ∃ nm q N bs bm sn sub ab col dd k0 k1 k2 k3 k5, K.lookup C = some (excClassObj nm q C N bs bm true sn sub ab col dd k0 k1 k2 k3 k5 newId) ∧ bm.dropWhile isR = tl := by
  unfold oexLB at h
  cases e : K.lookup C with
  | none => rw [e] at h; cases h
  | some o =>
    obtain ⟨oc, od, dt, sl⟩ := o
    rw [e] at h
    cases oc <;> try (cases dt <;> cases h)
    rename_i t
    cases dt <;> try cases h
    rename_i cd
    obtain ⟨h1, h2⟩ := ba h
    obtain ⟨ht, h3⟩ := ba h1
    have et : t = "type" := beq_iff_eq.mp ht
    obtain ⟨a1, a2, a3, a4, a5, a6, a7, a8, a9, a10, a11⟩ := cd
    cases a3 with
    | nil => cases h3
    | cons v bm =>
      cases v <;> try cases h3
      rename_i D
      obtain ⟨g1, g2⟩ := ba h3
      obtain ⟨g3, g4⟩ := ba g2
      obtain ⟨g5, g6⟩ := ba g4
      have eD : D = C := beq_iff_eq.mp g1
      have e11 : a11 = false := beq_iff_eq.mp g3
      have e6 : a6 = true := g5
      obtain ⟨l⟩ := sl
      obtain ⟨k0, k1, k2, k3, k5, el⟩ := slLB_ok (show slLB newId l = true from h2)
      rw [et, eD, e11, e6, el]
      exact ⟨_, _, _, _, bm, _, _, _, _, _, _, _, _, _, _, rfl, beq_iff_eq.mp g6⟩
structure ErrFL (newId : String) (tl : List Value) (K : PySem.W.Frag) (x : Str) : Prop where
  oex : OexB K (ga K x) newId tl
  iC : PySem.W.findIn K (.ref (ga K x)) "__init__" = some (some (.ref (ma K (ga K x) "__init__")))
  tI : PySem.W.typeIn K (.ref (ma K (ga K x) "__init__")) = some (.type "function")
  wd : PySem.W.findIn K (.ref (ga K x)) "word" = some none
  er : ErrC K (ga K x)
  sub : ∀ y ∈ errNs, PySem.W.subIn K (.ref (ga K x)) (.ref (ga K y)) = some (y == x)
  any : PySem.W.exmAny K (.ref (ga K x)) [.ref (ga K "PurseError"), .ref (ga K "Missing"), .ref (ga K "NothingLeft")] = some true
theorem errLB_ok {newId : String} {tl : List Value} {x : Str} (hA : allB K = true) (h : errLB newId tl K x = true) : ErrFL newId tl K x := by
  obtain ⟨A1, A⟩ := ba hA
  obtain ⟨A2, _⟩ := ba A
  obtain ⟨h1, h⟩ := ba h
  obtain ⟨h2, h⟩ := ba h
  obtain ⟨h3, h4⟩ := ba h
  obtain ⟨a1, h1⟩ := ba h1
  obtain ⟨a2, h1⟩ := ba h1
  obtain ⟨a3, h1⟩ := ba h1
  obtain ⟨a4, a5⟩ := ba h1
  obtain ⟨b1, h2⟩ := ba h2
  obtain ⟨b2, b3⟩ := ba h2
  obtain ⟨c1, h3⟩ := ba h3
  obtain ⟨c2, h3⟩ := ba h3
  obtain ⟨c3, h3⟩ := ba h3
  obtain ⟨c4, h3⟩ := ba h3
  obtain ⟨c5, c6⟩ := ba h3
  obtain ⟨d1, d2⟩ := ba h4
  exact ⟨⟨oexLB_ok a1, eqO_ok a2, of_decide_eq_true a3, of_decide_eq_true a4, a5⟩, eqO_ok b1, of_decide_eq_true b2, eqO_ok b3,
    ⟨c1, eqO_ok c2, eqO_ok c3, of_decide_eq_true a3, eqO_ok c4, of_decide_eq_true A1, of_decide_eq_true A2, of_decide_eq_true c5, c6⟩,
    fun y hy => of_decide_eq_true (List.all_eq_true.mp d1 y hy), of_decide_eq_true d2⟩
theorem allB_cl (hA : allB K = true) : ∀ y ∈ errNs, PySem.W.typeIn K (.ref (ga K y)) = some (.type "type") ∧ PySem.W.isClsIn K (ga K y) = true := fun y hy => by
  obtain ⟨_, A⟩ := ba hA
  obtain ⟨_, A⟩ := ba A
  obtain ⟨A3, _⟩ := ba A
  obtain ⟨p, q⟩ := ba (List.all_eq_true.mp A3 y hy)
  exact ⟨of_decide_eq_true p, q⟩
theorem allB_bx (hA : allB K = true) : ∀ y ∈ (["BadText", "BadPage", "TooWide"] : List Str), PySem.W.subIn K (.ref (ga K y)) (.type "BaseException") = some true := fun y hy => by
  obtain ⟨_, A⟩ := ba hA
  obtain ⟨_, A⟩ := ba A
  obtain ⟨_, A4⟩ := ba A
  exact of_decide_eq_true (List.all_eq_true.mp A4 y hy)
/-- a def without defaults -/
theorem fun_of {x q : Str} {st : Stmt} {f : Addr} {fd : FuncData} {kws : List (Str × V)} (F : FunD K x q (defArgs st) (defBody st) (defScope st) [] kws f fd) : Fun K x q st f fd := by
  obtain ⟨oc, od, dV, kV, doc, pm, an, cdv, ct, osl, rfl, lk, hcd, hD, _⟩ := F.ex
  rcases hD with ⟨_, rfl⟩ | ⟨e, _⟩
  · exact ⟨⟨oc, od, kV, doc, pm, an, cdv, ct, osl, rfl, lk, hcd⟩, F.kp⟩
  · exact absurd rfl e
/-- a def that makes lambdas: its code object is told by name -/
theorem lam_of {x q : Str} {st : Stmt} {p : He.Defn} {fd : FuncData} (F : Fun K x q st (He.fAd K p) fd) : ∃ oc od kV doc pm an ct osl, fd = PySem.W.fnOf x q (defArgs st) (defBody st) (defScope st) .none kV doc pm an (.ref (He.codeOf K p)) ct ∧ K.lookup (He.fAd K p) = some ⟨oc, od, .func (PySem.W.fnOf x q (defArgs st) (defBody st) (defScope st) .none kV doc pm an (.ref (He.codeOf K p)) ct), osl⟩ ∧ PySem.W.codeIn K (.ref (He.codeOf K p)) q = true := by
  obtain ⟨oc, od, kV, doc, pm, an, cdv, ct, osl, rfl, lk, hcd⟩ := F.ex
  obtain ⟨c, rfl⟩ := He.codeIn_ref hcd
  have e := He.codeOf_eq (p := p) (c := c) lk rfl
  rw [e]
  exact ⟨oc, od, kV, doc, pm, an, ct, osl, rfl, lk, hcd⟩
end
end Onp
set_option maxHeartbeats 8000000
namespace Onp
open PySem PySem.Spec PyProof.Rows L2 HotX L2H LamX
theorem all_mk {l : PySem.W.OpenLaw} {w : World} {K : PySem.W.Frag} {h : Heap} {mg : Str → Option Value} {fa : Addr} (X : K.In h) (G : h.Ns mainGlobals mg) (hfa : mg "law" = some (.ref fa)) (c : He.SaysX fas fns [] tfs exK w h K) :
    LamX.LawAtS l w K CX0 12 63 "_law_script" mg fa h := by
  have cd := c.t.d
  obtain ⟨fdB, DB⟩ := cd.def_ 0 (d := d_B) rfl
  have FB : Fun K "_law_bag" "_law_bag" sBag (He.ga K "_law_bag") fdB := fun_of (kws := []) DB
  have bB := FB.binds (ps := ["_law_script"]) fun _ _ _ _ _ _ us hl => match us, hl with | [_], _ => rfl
  have NB := He.glo_ok X G (cd.fact 23 (f := .glo "_law_bag") rfl)
  obtain ⟨fdPu, DPu⟩ := cd.def_ 1 (d := d_Pu) rfl
  have FPu : Fun K "_law_pull" "_law_pull" sPull (He.ga K "_law_pull") fdPu := fun_of (kws := []) DPu
  have bPu := FPu.binds (ps := ["_law_bag_here", "_law_many"]) fun _ _ _ _ _ _ us hl => match us, hl with | [_, _], _ => rfl
  have NPu := He.glo_ok X G (cd.fact 24 (f := .glo "_law_pull") rfl)
  obtain ⟨fdO, DO⟩ := cd.def_ 2 (d := d_O) rfl
  have FO : Fun K "_law_of" "_law_of" sOf (He.ga K "_law_of") fdO := fun_of (kws := []) DO
  have bO := FO.binds (ps := ["_law_bag_here", "_law_some"]) fun _ _ _ _ _ _ us hl => match us, hl with | [_, _], _ => rfl
  have NO := He.glo_ok X G (cd.fact 25 (f := .glo "_law_of") rfl)
  obtain ⟨fdSm, DSm⟩ := cd.def_ 3 (d := d_Sm) rfl
  have FSm : Fun K "_law_same" "_law_same" sSame (He.ga K "_law_same") fdSm := fun_of (kws := []) DSm
  have bSm := FSm.binds (ps := ["_law_found", "_law_due_here"]) fun _ _ _ _ _ _ us hl => match us, hl with | [_, _], _ => rfl
  have NSm := He.glo_ok X G (cd.fact 26 (f := .glo "_law_same") rfl)
  obtain ⟨fdKn, DKn⟩ := cd.def_ 4 (d := d_Kn) rfl
  have FKn : Fun K "_law_kind" "_law_kind" sKind (He.ga K "_law_kind") fdKn := fun_of (kws := []) DKn
  have bKn := FKn.binds (ps := ["_law_e"]) fun _ _ _ _ _ _ us hl => match us, hl with | [_], _ => rfl
  have NKn := He.glo_ok X G (cd.fact 27 (f := .glo "_law_kind") rfl)
  obtain ⟨fdTo, DTo⟩ := cd.def_ 5 (d := d_To) rfl
  have FTo : Fun K "_law_told" "_law_told" sTold (He.ga K "_law_told") fdTo := fun_of (kws := []) DTo
  have bTo := FTo.binds (ps := ["_law_ask"]) fun _ _ _ _ _ _ us hl => match us, hl with | [_], _ => rfl
  have NTo := He.glo_ok X G (cd.fact 28 (f := .glo "_law_told") rfl)
  obtain ⟨fdDe, DDe⟩ := cd.def_ 6 (d := d_De) rfl
  have FDe : Fun K "_law_deed" "_law_deed" sDeed (He.ga K "_law_deed") fdDe := fun_of (kws := []) DDe
  have bDe := FDe.binds (ps := ["_law_bag_here"]) fun _ _ _ _ _ _ us hl => match us, hl with | [_], _ => rfl
  have NDe := He.glo_ok X G (cd.fact 29 (f := .glo "_law_deed") rfl)
  obtain ⟨fdLe, DLe⟩ := cd.def_ 7 (d := d_Le) rfl
  have FLe : Fun K "_law_letters" "_law_letters" sLett (He.ga K "_law_letters") fdLe := fun_of (kws := []) DLe
  have bLe := FLe.binds (ps := ["_law_bag_here", "_law_most"]) fun _ _ _ _ _ _ us hl => match us, hl with | [_, _], _ => rfl
  have NLe := He.glo_ok X G (cd.fact 30 (f := .glo "_law_letters") rfl)
  obtain ⟨fdRo, DRo⟩ := cd.def_ 8 (d := d_Ro) rfl
  have FRo : Fun K "_law_rooms_some" "_law_rooms_some" sRooms (He.ga K "_law_rooms_some") fdRo := fun_of (kws := []) DRo
  have bRo := FRo.binds (ps := ["_law_bag_here", "_law_rooms"]) fun _ _ _ _ _ _ us hl => match us, hl with | [_, _], _ => rfl
  have NRo := He.glo_ok X G (cd.fact 31 (f := .glo "_law_rooms_some") rfl)
  obtain ⟨fdAr, DAr⟩ := cd.def_ 9 (d := d_Ar) rfl
  have FAr : Fun K "_law_arrow" "_law_arrow" sArrow (He.ga K "_law_arrow") fdAr := fun_of (kws := []) DAr
  have bAr := FAr.binds (ps := ["_law_bag_here", "_law_rooms", "_law_letters_here"]) fun _ _ _ _ _ _ us hl => match us, hl with | [_, _, _], _ => rfl
  have NAr := He.glo_ok X G (cd.fact 32 (f := .glo "_law_arrow") rfl)
  obtain ⟨fdDr, DDr⟩ := cd.def_ 10 (d := d_Dr) rfl
  have FDr : Fun K "_law_drawn" "_law_drawn" sDrawn (He.ga K "_law_drawn") fdDr := fun_of (kws := []) DDr
  have bDr := FDr.binds (ps := ["_law_bag_here", "_law_rooms_most", "_law_letters_most", "_law_arrows_most"]) fun _ _ _ _ _ _ us hl => match us, hl with | [_, _, _, _], _ => rfl
  have NDr := He.glo_ok X G (cd.fact 33 (f := .glo "_law_drawn") rfl)
  obtain ⟨fdTe, DTe⟩ := cd.def_ 11 (d := d_Te) rfl
  have FTe : Fun K "_law_tells" "_law_tells" sLTells (He.ga K "_law_tells") fdTe := fun_of (kws := []) DTe
  have bTe := FTe.binds (ps := ["_law_made"]) fun _ _ _ _ _ _ us hl => match us, hl with | [_], _ => rfl
  have NTe := He.glo_ok X G (cd.fact 34 (f := .glo "_law_tells") rfl)
  obtain ⟨fdSo, DSo⟩ := cd.def_ 12 (d := d_So) rfl
  have FSo : Fun K "_law_sorted" "_law_sorted" sSortd (He.ga K "_law_sorted") fdSo := fun_of (kws := []) DSo
  have bSo := FSo.binds (ps := ["_law_m"]) fun _ _ _ _ _ _ us hl => match us, hl with | [_], _ => rfl
  have NSo := He.glo_ok X G (cd.fact 35 (f := .glo "_law_sorted") rfl)
  obtain ⟨fdDa, DDa⟩ := cd.def_ 13 (d := d_Da) rfl
  have FDa : Fun K "_law_deeds_all" "_law_deeds_all" sAllD (He.ga K "_law_deeds_all") fdDa := fun_of (kws := []) DDa
  have bDa := FDa.binds (ps := []) fun _ _ _ _ _ _ us hl => match us, hl with | [], _ => rfl
  have NDa := He.glo_ok X G (cd.fact 36 (f := .glo "_law_deeds_all") rfl)
  obtain ⟨fdBn, DBn⟩ := cd.def_ 14 (d := d_Bn) rfl
  have FBn : Fun K "_law_bent_parts" "_law_bent_parts" sBn (He.ga K "_law_bent_parts") fdBn := fun_of (kws := []) DBn
  have bBn := FBn.binds (ps := ["_law_bag_here", "_law_m"]) fun _ _ _ _ _ _ us hl => match us, hl with | [_, _], _ => rfl
  have NBn := He.glo_ok X G (cd.fact 37 (f := .glo "_law_bent_parts") rfl)
  obtain ⟨fdDu, DDu⟩ := cd.def_ 15 (d := d_Du) rfl
  have FDu : Fun K "_law_due" "_law_due" sDue (He.ga K "_law_due") fdDu := fun_of (kws := []) DDu
  have bDu := FDu.binds (ps := ["_law_m"]) fun _ _ _ _ _ _ us hl => match us, hl with | [_], _ => rfl
  have NDu := He.glo_ok X G (cd.fact 38 (f := .glo "_law_due") rfl)
  obtain ⟨fdAl, DAl⟩ := cd.def_ 16 (d := d_Al) rfl
  have FAl : Fun K "are_letters" "are_letters" sAreL (He.ga K "are_letters") fdAl := fun_of (kws := []) DAl
  have bAl := FAl.binds (ps := ["text"]) fun _ _ _ _ _ _ us hl => match us, hl with | [_], _ => rfl
  have NAl := He.glo_ok X G (cd.fact 39 (f := .glo "are_letters") rfl)
  obtain ⟨fdIl, DIl⟩ := cd.def_ 17 (d := d_Il) rfl
  have FIl : Fun K "is_letter" "is_letter" sIsL (He.ga K "is_letter") fdIl := fun_of (kws := []) DIl
  have bIl := FIl.binds (ps := ["text", "letters"]) fun _ _ _ _ _ _ us hl => match us, hl with | [_, _], _ => rfl
  have NIl := He.glo_ok X G (cd.fact 40 (f := .glo "is_letter") rfl)
  obtain ⟨fdIa, DIa⟩ := cd.def_ 18 (d := d_Ia) rfl
  have FIa : Fun K "is_arrow" "is_arrow" sIsA (He.ga K "is_arrow") fdIa := fun_of (kws := []) DIa
  have bIa := FIa.binds (ps := ["arrow", "rooms", "letters"]) fun _ _ _ _ _ _ us hl => match us, hl with | [_, _, _], _ => rfl
  have NIa := He.glo_ok X G (cd.fact 41 (f := .glo "is_arrow") rfl)
  obtain ⟨fdNa, DNa⟩ := cd.def_ 19 (d := d_Na) rfl
  have FNa : Fun K "need_arrows" "need_arrows" sNeedA (He.ga K "need_arrows") fdNa := fun_of (kws := []) DNa
  have bNa := FNa.binds (ps := ["arrows", "rooms", "letters"]) fun _ _ _ _ _ _ us hl => match us, hl with | [_, _, _], _ => rfl
  have NNa := He.glo_ok X G (cd.fact 42 (f := .glo "need_arrows") rfl)
  obtain ⟨fdNr, DNr⟩ := cd.def_ 20 (d := d_Nr) rfl
  have FNr : Fun K "need_rooms" "need_rooms" sNeedR (He.ga K "need_rooms") fdNr := fun_of (kws := []) DNr
  have bNr := FNr.binds (ps := ["some", "rooms"]) fun _ _ _ _ _ _ us hl => match us, hl with | [_, _], _ => rfl
  have NNr := He.glo_ok X G (cd.fact 43 (f := .glo "need_rooms") rfl)
  obtain ⟨fdSb, DSb⟩ := cd.def_ 21 (d := d_Sb) rfl
  have FSb : Fun K "steps_by_start" "steps_by_start" sStepsB (He.ga K "steps_by_start") fdSb := fun_of (kws := []) DSb
  have bSb := FSb.binds (ps := ["arrows"]) fun _ _ _ _ _ _ us hl => match us, hl with | [_], _ => rfl
  have NSb := He.glo_ok X G (cd.fact 44 (f := .glo "steps_by_start") rfl)
  obtain ⟨fdL, DL⟩ := cd.def_ 22 (d := d_L) rfl
  have FL : Fun K "law" "law" sLaw (He.fAd K ("law", none)) fdL := fun_of (kws := []) DL
  have bL := FL.binds (ps := ["_law_script"]) fun _ _ _ _ _ _ us hl => match us, hl with | [_], _ => rfl
  have NL : mg "law" = some (.ref (He.fAd K ("law", none))) := He.glo_ok X G (cd.fact 45 (f := .glo "law") rfl)
  have kpL := FL.kp
  have e := hfa.symm.trans NL
  cases e
  obtain ⟨ocL, odL, kVL, dcL, pmL, anL, ctL, slL, rfl, lL, c2L⟩ := lam_of (p := ("law", none)) FL
  obtain ⟨fdRi, DRi⟩ := cd.def_ 23 (d := d_Ri) rfl
  have FRi : Fun K "_law_right" "_law_right" sRi (He.fAd K ("_law_right", none)) fdRi := fun_of (kws := []) DRi
  have bRi := FRi.binds (ps := ["_law_m"]) fun _ _ _ _ _ _ us hl => match us, hl with | [_], _ => rfl
  have NRi : mg "_law_right" = some (.ref (He.fAd K ("_law_right", none))) := He.glo_ok X G (cd.fact 46 (f := .glo "_law_right") rfl)
  have kpRi := FRi.kp
  obtain ⟨ocRi, odRi, kVRi, dcRi, pmRi, anRi, ctRi, slRi, rfl, lRi, c2Ri⟩ := lam_of (p := ("_law_right", none)) FRi
  have y_isinstance := He.free_ok X G (cd.fact 47 (f := .free "isinstance") rfl)
  have y_list := He.free_ok X G (cd.fact 48 (f := .free "list") rfl)
  have y_tuple := He.free_ok X G (cd.fact 49 (f := .free "tuple") rfl)
  have y_bool := He.free_ok X G (cd.fact 50 (f := .free "bool") rfl)
  have y_int := He.free_ok X G (cd.fact 51 (f := .free "int") rfl)
  have y_str := He.free_ok X G (cd.fact 52 (f := .free "str") rfl)
  have y_len := He.free_ok X G (cd.fact 53 (f := .free "len") rfl)
  have y_all := He.free_ok X G (cd.fact 54 (f := .free "all") rfl)
  have y_zip := He.free_ok X G (cd.fact 55 (f := .free "zip") rfl)
  have y_set := He.free_ok X G (cd.fact 56 (f := .free "set") rfl)
  have y_sorted := He.free_ok X G (cd.fact 57 (f := .free "sorted") rfl)
  have y_range := He.free_ok X G (cd.fact 58 (f := .free "range") rfl)
  have y_any := He.free_ok X G (cd.fact 59 (f := .free "any") rfl)
  obtain ⟨tk0, gk0⟩ := He.str_ok X G (cd.fact 60 (f := .str "SMALL_LETTERS" "abcdefghijklmnopqrstuvwxyz") rfl)
  obtain ⟨tk1, gk1⟩ := He.int_ok X G (cd.fact 61 (f := .int "MOST_LETTERS" 3) rfl)
  obtain ⟨tk2, gk2⟩ := He.int_ok X G (cd.fact 62 (f := .int "MOST_ROOMS" 8) rfl)
  obtain ⟨tk3, gk3⟩ := He.int_ok X G (cd.fact 63 (f := .int "MOST_ARROWS" 40) rfl)
  have gC := He.glo_ok X G (cd.fact 64 (f := .glo "Machine") rfl)
  have clC := He.cls_ok (cd.fact 65 (f := .cls "Machine") rfl)
  have n1C := He.noat_ok (cd.fact 66 (f := .noat "Machine" "room_count") rfl)
  have n2C := He.noat_ok (cd.fact 67 (f := .noat "Machine" "letter_text") rfl)
  have n3C := He.noat_ok (cd.fact 68 (f := .noat "Machine" "arrow_row") rfl)
  have n4C := He.noat_ok (cd.fact 69 (f := .noat "Machine" "first_row") rfl)
  have n5C := He.noat_ok (cd.fact 70 (f := .noat "Machine" "last_row") rfl)
  have n6C := He.noat_ok (cd.fact 71 (f := .noat "Machine" "step_rows") rfl)
  have mkC := He.mkr_ok (cd.fact 72 (f := .mkr "Machine") rfl)
  obtain ⟨fdI, FI⟩ := cd.def_ 24 (d := d_I) rfl
  have CM : ClsM K (He.ga K "Machine") := ⟨clC, n1C, n2C, n3C, n4C, n5C, n6C⟩
  have TC : MkM K mg (He.ga K "Machine") fdI (He.ma K (He.ga K "Machine") "__init__") [.ref (He.dflAt ("Machine", some "__init__") 0 K)] [("firsts", .ref (kwdAt "firsts" K)), ("lasts", .ref (kwdAt "lasts" K))] := ⟨FI, mkC, gC, CM, (fun z => nomatch z), rfl⟩
  have mRm := He.meth_ok (cd.fact 73 (f := .meth "Machine" "rooms") rfl)
  obtain ⟨fdRm, DRm⟩ := cd.def_ 25 (d := d_Rm) rfl
  have FRm : Fun K "rooms" "Machine.rooms" sMRooms (He.ma K (He.ga K "Machine") "rooms") fdRm := fun_of (kws := []) DRm
  have bRm := FRm.binds (ps := ["self"]) fun _ _ _ _ _ _ us hl => match us, hl with | [_], _ => rfl
  have mLt := He.meth_ok (cd.fact 74 (f := .meth "Machine" "letters") rfl)
  obtain ⟨fdLt, DLt⟩ := cd.def_ 26 (d := d_Lt) rfl
  have FLt : Fun K "letters" "Machine.letters" sMLets (He.ma K (He.ga K "Machine") "letters") fdLt := fun_of (kws := []) DLt
  have bLt := FLt.binds (ps := ["self"]) fun _ _ _ _ _ _ us hl => match us, hl with | [_], _ => rfl
  have mAw := He.meth_ok (cd.fact 75 (f := .meth "Machine" "arrows") rfl)
  obtain ⟨fdAw, DAw⟩ := cd.def_ 27 (d := d_Aw) rfl
  have FAw : Fun K "arrows" "Machine.arrows" sMArrs (He.ma K (He.ga K "Machine") "arrows") fdAw := fun_of (kws := []) DAw
  have bAw := FAw.binds (ps := ["self"]) fun _ _ _ _ _ _ us hl => match us, hl with | [_], _ => rfl
  have mFs := He.meth_ok (cd.fact 76 (f := .meth "Machine" "firsts") rfl)
  obtain ⟨fdFs, DFs⟩ := cd.def_ 28 (d := d_Fs) rfl
  have FFs : Fun K "firsts" "Machine.firsts" sMFsts (He.ma K (He.ga K "Machine") "firsts") fdFs := fun_of (kws := []) DFs
  have bFs := FFs.binds (ps := ["self"]) fun _ _ _ _ _ _ us hl => match us, hl with | [_], _ => rfl
  have mLs := He.meth_ok (cd.fact 77 (f := .meth "Machine" "lasts") rfl)
  obtain ⟨fdLs, DLs⟩ := cd.def_ 29 (d := d_Ls) rfl
  have FLs : Fun K "lasts" "Machine.lasts" sMLsts (He.ma K (He.ga K "Machine") "lasts") fdLs := fun_of (kws := []) DLs
  have bLs := FLs.binds (ps := ["self"]) fun _ _ _ _ _ _ us hl => match us, hl with | [_], _ => rfl
  have mLn := He.meth_ok (cd.fact 78 (f := .meth "Machine" "__len__") rfl)
  obtain ⟨fdLn, DLn⟩ := cd.def_ 30 (d := d_Ln) rfl
  have FLn : Fun K "__len__" "Machine.__len__" sMLen (He.ma K (He.ga K "Machine") "__len__") fdLn := fun_of (kws := []) DLn
  have bLn := FLn.binds (ps := ["self"]) fun _ _ _ _ _ _ us hl => match us, hl with | [_], _ => rfl
  have NDEEDS := He.glo_ok X G (cd.fact 79 (f := .glo "DEEDS") rfl)
  have gPurseError := He.glo_ok X G (cd.fact 80 (f := .glo "PurseError") rfl)
  have gMissing := He.glo_ok X G (cd.fact 81 (f := .glo "Missing") rfl)
  have hx := c.more
  obtain ⟨x0, hx⟩ := He.ba hx
  obtain ⟨x1, hx⟩ := He.ba hx
  obtain ⟨x2, hx⟩ := He.ba hx
  obtain ⟨x3, hx⟩ := He.ba hx
  obtain ⟨x4, hx⟩ := He.ba hx
  obtain ⟨x5, hx⟩ := He.ba hx
  obtain ⟨x6, hx⟩ := He.ba hx
  obtain ⟨x7, hx⟩ := He.ba hx
  obtain ⟨x8, hx⟩ := He.ba hx
  have x9 := hx
  have SDEEDS : ∀ H, SqT K H (He.ga K "DEEDS") ((["keep", "cent", "fill", "coin", "brim"] : List Str).map V.str) := fun H => He.tupB_ok x1 H
  have gE : ∀ x ∈ errNames, mg x = some (.ref (He.ga K x)) := fun x hx => He.glo_ok X G (cd.facts (f := .glo x) (by first | exact List.mem_append_left _ (List.mem_append_left _ (List.mem_map_of_mem (show x ∈ errNs from hx))) | exact List.mem_append_left _ (List.mem_map_of_mem (show x ∈ errNs from hx))))
  have ES_ := errB_ok x0 x2
  obtain ⟨fdIS_, DIS_⟩ := cd.def_ 31 (d := d_IS_) rfl
  have FIS_ : Fun K "__init__" "BadSize.__init__" sInitBadSize (He.ma K (He.ga K "BadSize") "__init__") fdIS_ := fun_of (kws := []) DIS_
  have bIS_ := FIS_.binds (ps := ["self"]) fun _ _ _ _ _ _ us hl => match us, hl with | [_], _ => rfl
  have MS_ : MkBadSize K mg (He.ga K "BadSize") (He.ma K (He.ga K "BadSize") "__init__") fdIS_ := ⟨ES_.oex, ES_.iC, ES_.tI, FIS_, bIS_, gE "BadSize" (by decide +kernel), ES_.wd⟩
  have EL_ := errB_ok x0 x3
  obtain ⟨fdIL_, DIL_⟩ := cd.def_ 32 (d := d_IL_) rfl
  have FIL_ : Fun K "__init__" "BadLetters.__init__" sInitBadLetters (He.ma K (He.ga K "BadLetters") "__init__") fdIL_ := fun_of (kws := []) DIL_
  have bIL_ := FIL_.binds (ps := ["self"]) fun _ _ _ _ _ _ us hl => match us, hl with | [_], _ => rfl
  have ML_ : MkBadLetters K mg (He.ga K "BadLetters") (He.ma K (He.ga K "BadLetters") "__init__") fdIL_ := ⟨EL_.oex, EL_.iC, EL_.tI, FIL_, bIL_, gE "BadLetters" (by decide +kernel), EL_.wd⟩
  have EA_ := errB_ok x0 x4
  obtain ⟨fdIA_, DIA_⟩ := cd.def_ 33 (d := d_IA_) rfl
  have FIA_ : Fun K "__init__" "BadArrow.__init__" sInitBadArrow (He.ma K (He.ga K "BadArrow") "__init__") fdIA_ := fun_of (kws := []) DIA_
  have bIA_ := FIA_.binds (ps := ["self"]) fun _ _ _ _ _ _ us hl => match us, hl with | [_], _ => rfl
  have MA_ : MkBadArrow K mg (He.ga K "BadArrow") (He.ma K (He.ga K "BadArrow") "__init__") fdIA_ := ⟨EA_.oex, EA_.iC, EA_.tI, FIA_, bIA_, gE "BadArrow" (by decide +kernel), EA_.wd⟩
  have ER_ := errB_ok x0 x5
  obtain ⟨fdIR_, DIR_⟩ := cd.def_ 34 (d := d_IR_) rfl
  have FIR_ : Fun K "__init__" "BadRoom.__init__" sInitBadRoom (He.ma K (He.ga K "BadRoom") "__init__") fdIR_ := fun_of (kws := []) DIR_
  have bIR_ := FIR_.binds (ps := ["self"]) fun _ _ _ _ _ _ us hl => match us, hl with | [_], _ => rfl
  have MR_ : MkBadRoom K mg (He.ga K "BadRoom") (He.ma K (He.ga K "BadRoom") "__init__") fdIR_ := ⟨ER_.oex, ER_.iC, ER_.tI, FIR_, bIR_, gE "BadRoom" (by decide +kernel), ER_.wd⟩
  have EF_ := errB_ok x0 x6
  obtain ⟨fdIF_, DIF_⟩ := cd.def_ 35 (d := d_IF_) rfl
  have FIF_ : Fun K "__init__" "Full.__init__" sInitFull (He.ma K (He.ga K "Full") "__init__") fdIF_ := fun_of (kws := []) DIF_
  have bIF_ := FIF_.binds (ps := ["self"]) fun _ _ _ _ _ _ us hl => match us, hl with | [_], _ => rfl
  have MF_ : MkFull K mg (He.ga K "Full") (He.ma K (He.ga K "Full") "__init__") fdIF_ := ⟨EF_.oex, EF_.iC, EF_.tI, FIF_, bIF_, gE "Full" (by decide +kernel), EF_.wd⟩
  have KD : Kd K mg (He.ga K) ["BadSize", "BadLetters", "BadArrow", "BadRoom", "Full"] (He.ga K "PurseError") (He.ga K "Missing") := ⟨gE, allB_cl x0, by decide +kernel, List.forall_mem_cons.mpr ⟨ES_.er, List.forall_mem_cons.mpr ⟨EL_.er, List.forall_mem_cons.mpr ⟨EA_.er, List.forall_mem_cons.mpr ⟨ER_.er, List.forall_mem_cons.mpr ⟨EF_.er, fun _ z => nomatch z⟩⟩⟩⟩⟩, List.forall_mem_cons.mpr ⟨ES_.wd, List.forall_mem_cons.mpr ⟨EL_.wd, List.forall_mem_cons.mpr ⟨EA_.wd, List.forall_mem_cons.mpr ⟨ER_.wd, List.forall_mem_cons.mpr ⟨EF_.wd, fun _ z => nomatch z⟩⟩⟩⟩⟩, List.forall_mem_cons.mpr ⟨ES_.sub, List.forall_mem_cons.mpr ⟨EL_.sub, List.forall_mem_cons.mpr ⟨EA_.sub, List.forall_mem_cons.mpr ⟨ER_.sub, List.forall_mem_cons.mpr ⟨EF_.sub, fun _ z => nomatch z⟩⟩⟩⟩⟩, allB_bx x0, gPurseError, gMissing, List.forall_mem_cons.mpr ⟨ES_.any, List.forall_mem_cons.mpr ⟨EL_.any, List.forall_mem_cons.mpr ⟨EA_.any, List.forall_mem_cons.mpr ⟨ER_.any, List.forall_mem_cons.mpr ⟨EF_.any, fun _ z => nomatch z⟩⟩⟩⟩⟩⟩
  have hT : ∀ p ∈ tfs.map (He.cT K), h.get? p.2 = some { cls := .none, data := .fields #[] } := fun p hp => by
    obtain ⟨z, hz, rfl⟩ := List.mem_map.mp hp
    exact c.empty z hz
  have hO : ∀ p ∈ tfs.map (He.cT K), K.lookup p.2 = none := fun p hp => by
    obtain ⟨z, hz, rfl⟩ := List.mem_map.mp hp
    exact c.out z hz
  have hC : ∀ p ∈ tfs.map (He.cT K), PySem.W.CodeHd h p.1 p.2 := fun p hp => by
    obtain ⟨z, hz, rfl⟩ := List.mem_map.mp hp
    exact PySem.W.codeHd_of_K X (c.hd z hz)
  have Cs : CsM K mg (He.ga K "DEEDS") := ⟨⟨_, gk0⟩, ⟨_, gk1⟩, ⟨_, gk2⟩, ⟨_, gk3⟩, NDEEDS, SDEEDS⟩
  refine ⟨_, tfs.map (He.cT K), spLaw K (He.cT K ("_law_right", none)).2, hT, hO, hC, fun s v => .of_eq rfl, fun H a ns hl hb hH hS => ⟨a, ns, rfl, hS, hH _ (List.mem_cons_of_mem _ List.mem_cons_self), fun _ => rfl⟩, fun base KB GB TB =>
    ok_law lL c2L lRi c2Ri bRi NRi kpRi ⟨FB, bB, NB⟩ ⟨FPu, bPu, NPu⟩ ⟨FO, bO, NO⟩ ⟨FSm, bSm, NSm⟩ ⟨FKn, bKn, NKn⟩ ⟨FTo, bTo, NTo⟩ ⟨FDe, bDe, NDe⟩ ⟨FLe, bLe, NLe⟩ ⟨FRo, bRo, NRo⟩ ⟨FAr, bAr, NAr⟩ ⟨FDr, bDr, NDr⟩ ⟨FTe, bTe, NTe⟩ ⟨FSo, bSo, NSo⟩ ⟨FDa, bDa, NDa⟩ ⟨FBn, bBn, NBn⟩ ⟨FDu, bDu, NDu⟩ ⟨FAl, bAl, NAl⟩ ⟨FIl, bIl, NIl⟩ ⟨FIa, bIa, NIa⟩ ⟨FNa, bNa, NNa⟩ ⟨FNr, bNr, NNr⟩ ⟨FSb, bSb, NSb⟩
      TC (dflE_ok x7) (oneE_ok x8) (oneE_ok x9) FRm bRm mRm FLt bLt mLt FAw bAw mAw FFs bFs mFs FLs bLs mLs FLn bLn mLn
      MS_ ML_ MA_ MR_ MF_ KD Cs ⟨y_isinstance, y_list, y_tuple, y_bool, y_int, y_str, y_len, y_all, y_zip⟩ ⟨y_all, y_zip, y_len, y_set⟩ ⟨y_tuple, y_sorted⟩ y_range y_any (TB _ (List.mem_cons_of_mem _ List.mem_cons_self))⟩
end Onp
open PySem PySem.W PySem.Calls PyProof.Rows
set_option maxRecDepth 100000 in
set_option maxHeartbeats 0 in
theorem PySem.Challenge.cw_onepurse_k05_machines_made_or_refused_holds : PySem.Challenge.rw_onepurse_k05_machines_made_or_refused.Holds := by
  w_on; o_law
  refine HandSHeadRun.head_any (r := OpenLaw.row PySem.Challenge.rw_onepurse_k05_machines_made_or_refused) (q := view (OpenLaw.row PySem.Challenge.rw_onepurse_k05_machines_made_or_refused).prog [58]) (H := Onp.hk) (ob := Onp.ob) (M := 9500) (loose := Onp.loose) (d := HandSHeadRun.topDef (OpenLaw.row PySem.Challenge.rw_onepurse_k05_machines_made_or_refused).prog 58) (kwd := []) Onp.ob_eq
    (by kernel_rfl) (fun s => by kernel_rfl) Onp.run (by kernel_rfl) (by kernel_rfl) (by kernel_rfl) (by rfl) (by first | assumption | decide +kernel) (by decide +kernel) ⟨rfl, rfl, rfl, rfl, rfl, by decide +kernel⟩ ?hw ?hc
  case hw => w_witness2
  case hc =>
    refine LamX.walk_ofTsE (l := PySem.Challenge.rw_onepurse_k05_machines_made_or_refused) (n := 63) (k := 12) (x := "_law_script") (CX := fun _ => L2.CX0) rfl (by decide) (by kernel_rfl) ⟨rfl, by decide, by decide⟩ ?F (fun _ _ _ _ _ h => h)
    intro w mg fa h Y G hmg0
    obtain ⟨K, KX, c⟩ := Y
    have en : (HandSHeadRun.topDef (OpenLaw.row PySem.Challenge.rw_onepurse_k05_machines_made_or_refused).prog 58).name = ("law" : PySem.Str) := by kernel_rfl
    rw [en] at hmg0
    exact ⟨K, KX, Onp.all_mk KX G hmg0 c⟩
