import PyProof.Rows.All
import Wide.All
import OpenK.AllK
import Wide.FinOn
import HandS.HeadHook2
import HandS.List
import PyProof.MaxThree
import HandS.Base
import HandS.Call
import HandS.Comp
import HandS.Ends
import HandS.Iter
import HandS.Text
import HandS.Words
import HandS.Wide
import HandS.Codes
import HandS.Strs
import PyProof.ZipIter
import HandS.Exc
import HandS.Hot
import HandS.HotCalls
import KE.KTurns
import HandS.ExcOwn
import HandS.ExcCtx
import HandS.ExcInit
import HandS.ExcIs
import HandS.ExcField
import KE.KExcIs
import HandS.Lambda
import HandS.CallSlots
import HandS.ForMost
import KE.KExcInit
import PyProof.ExcBaseAll.LookupError
import PyProof.ExcBaseAll.IndexError
import HandS.Head0
import HandS.Head1
import HandS.Head2
import HandS.HeadHook1
import HandS.HeadHook3
import HandS.HeadHook4
import KE.KStateDown
import HandS.Defaults
import HandS.HeadEnd
import HandS.HeadWalk
import KE.KNestM
import PyProof.StrOps2
import PyProof.ListStr
import KE.GoesEnum
import HandS.Walk
import HandS.TupSets
import HandS.Dict
import HandS.SetKeys
import KE.SortData
import PyProof.ListCopy
import HandS.SortInts
import HandS.Zip
import PyProof.DictMoreH
import HandS.MakeKw
import HandS.Deep
import HandS.Style
import HandS.Conv
import HandS.DictComp
import KE.KDictCopyH
import PyProof.DictUpdate
import HandS.OwnEq
import HandS.IsInst
import OpenK.KOps
import KE.KFmtOwn
import HandS.DictSub
import HandS.FStr
import KE.OsSortAny
import KE.SortLaws
import PySem.Challenge.RW_onepurse_k35_bare_and_trimmed
set_option Elab.async false
set_option linter.all false
set_option maxRecDepth 100000
set_option autoImplicit false
/-! the default that a machine's arrows have: a tuple of nothing -/
namespace Onp
open PySem PySem.Spec PyProof.Rows L2
def dflE (K : PySem.W.Frag) : Bool := match K.lookup (He.dflAt ("Machine", some "__init__") 0 K) with
  | some ⟨.type c, _, .seq its _, _⟩ => decide (c = "tuple") && its.toList.isEmpty
  | _ => false
theorem dflE_ok {K : PySem.W.Frag} (h : dflE K = true) (H : Hp) : SqT K H (He.dflAt ("Machine", some "__init__") 0 K) [] := by
  unfold dflE at h
  cases q : K.lookup (He.dflAt ("Machine", some "__init__") 0 K) with
  | none => rw [q] at h; cases h
  | some o =>
    obtain ⟨oc, od, dt, osl⟩ := o
    rw [q] at h
    cases oc <;> try (cases dt <;> cases h)
    rename_i c
    cases dt <;> try cases h
    rename_i its n
    rw [Bool.and_eq_true, decide_eq_true_eq, List.isEmpty_iff] at h
    obtain ⟨rfl, h2⟩ := h
    refine .inr ⟨_, its, n, q, rfl, rfl, ?_, ?_⟩
    · rw [← Array.length_toList, h2]
      exact Nat.zero_le _
    · rw [h2]
      exact .nil
end Onp
/-! rules of my own: o[i] read by values (for o[i] += e), max of three ints, max of a tuple of ints -/
namespace Onp
open PySem PySem.Spec PyProof.Rows L2
section
variable {X : Cx}
def rGetL (K : PySem.W.Frag) : V → V → Hp → VK → Prop := fun x y H Q => ∃ p xs, ∃ (j : Nat), ∃ v, x = .ref p ∧ y = .int (j : Int) ∧ SqL K H p xs ∧ xs[j]? = some v ∧ Q v H
theorem get_list : PGet X (rGetL X.K) := by
  intro pins s σ H o i ov iv Q I ro ri h
  obtain ⟨p, xs, j, v, rfl, rfl, hq, hx, q⟩ := h
  cases ro
  obtain ⟨t, rfl⟩ := ri
  obtain ⟨its, r, pl, hz⟩ := I.list hq
  obtain ⟨w, ew, rw'⟩ := r.get hx
  have hl := r.length
  have hn := line63
  have hj : j < xs.length := (List.getElem?_eq_some_iff.mp hx).1
  exact wpAny_getItem_list pl.isList (by omega) (by omega) (by simpa using ew) ⟨v, H, I, rw', q⟩
theorem vals3 {x y z : V} {us : List Value} (r : Vals [x, y, z] us) : ∃ u w' v', us = [u, w', v'] ∧ RelV x u ∧ RelV y w' ∧ RelV z v' := by
  cases r with
  | cons r1 r2 =>
    cases r2 with
    | cons r3 r4 =>
      cases r4 with
      | cons r5 r6 =>
        cases r6
        exact ⟨_, _, _, rfl, r1, r3, r5⟩
theorem call_max3 (hc : X.calm = true) : CallR X (.builtin "max") (fun xs H Q => ∃ i j k : Int, xs = [.int i, .int j, .int k] ∧ Q (.int (max (max i j) k)) H) := by
  intro pins s σ H xs us Q I r h
  obtain ⟨i, j, k, rfl, q⟩ := h
  obtain ⟨u, w', v', rfl, ⟨t, rfl⟩, ⟨t', rfl⟩, ⟨t'', rfl⟩⟩ := vals3 r
  refine max_three_ints (I.ok.hd hc) fun h' tk k' => ⟨_, H, I.kept k', ?_, q⟩
  by_cases h1 : j > i
  · rw [if_pos h1]
    by_cases h2 : k > j
    · rw [if_pos h2]
      exact ⟨_, by rw [show max (max i j) k = k by omega]⟩
    · rw [if_neg h2]
      exact ⟨_, by rw [show max (max i j) k = j by omega]⟩
  · rw [if_neg h1]
    by_cases h2 : k > i
    · rw [if_pos h2]
      exact ⟨_, by rw [show max (max i j) k = k by omega]⟩
    · rw [if_neg h2]
      exact ⟨_, by rw [show max (max i j) k = i by omega]⟩
/-- max(t) of a tuple of ints -/
theorem max_tupRaw {prog : Program} {w : World} {A : Around} {E : Value → Shared → Prop} {s : Shared} {l : Addr} {xs : Array (Int × Tok)} {Q : Value → Shared → Prop} (hh : A.handled = none) (hl : s.heap.IsTuple l (intItems xs)) (hne : 0 < xs.size)
    (h : ∀ v h' tk, (intItems xs)[argBest (fun i j => decide (numAt xs i > numAt xs j)) (xs.size - 1)]? = some v → (∀ b o, s.heap.get? b = some o → h'.get? b = some o) → Q v { s with heap := h', toks := tk }) :
    wpAny (model prog w) A (call (.builtin "max") [.ref l]) Q E s := by
  have hlt : l < s.heap.objs.size := by obtain ⟨_, e, _⟩ := hl; exact Heap.lt_size e
  refine call_max_walk (wpAny_pyIter_tuple hl ?_)
  refine ⟨_, [s.heap.objs.size, l], [s.heap.objs.size], _, _, _, _, rfl, Walks.tuple (A := A.in1) hh _ l (Nat.ne_of_lt hlt) (intItems xs), ⟨⟨_, Heap.get?_push_size _ rfl, rfl, rfl⟩, hl.push _⟩, fun b hb => ?_, by simpa [intItems] using hne, CmpOf.ints_gt (numAt xs) (fun _ _ => intItems_at), fun v h' tk hP hk => ?_⟩
  · show b < (s.heap.push _).objs.size
    rw [Heap.size_push]
    rcases List.mem_cons.mp hb with rfl | hb
    · exact Nat.lt_succ_self _
    · rcases List.mem_cons.mp hb with rfl | hb
      · exact Nat.lt_succ_of_lt hlt
      · cases hb
  · refine h v h' tk (by simpa [intItems] using hP) fun b o e => ?_
    refine hk b o (fun hm => ?_) (Heap.get?_push_of_some _ e)
    rcases List.mem_cons.mp hm with e1 | hm
    · exact absurd (e1 ▸ Heap.lt_size e) (Nat.lt_irrefl _)
    · cases hm
def rMaxT (K : PySem.W.Frag) : List V → Hp → VK → Prop := fun vs H Q => ∃ (a : Addr) (ns : List Int), vs = [V.ref a] ∧ SqT K H a (ns.map V.int) ∧ 0 < ns.length ∧ ∀ m, m ∈ ns → (∀ y, y ∈ ns → y ≤ m) → Q (.int m) H
theorem cr_maxT (hc : X.calm = true) : CallR X (.builtin "max") (rMaxT X.K) := by
  intro pins s σ H vs us Q I r h
  obtain ⟨a, ns, rfl, hs, hne, q⟩ := h
  obtain ⟨its, rv, ht, _⟩ := I.tuple hs
  rw [Vals.ref1 r]
  have hi := rv.ints
  obtain ⟨xs, e⟩ := hi.allInts.items
  have hn : numsOf (intItems xs).toList = ns := by rw [← e]; exact hi.numsOf
  rw [nums_intItems] at hn
  subst hn
  have hl : s.heap.IsTuple a its.toArray := ht
  rw [e] at hl
  have hsz : 0 < xs.size := by simpa using hne
  refine max_tupRaw (I.ok.hd hc) hl hsz fun v h' tk hv hk => ?_
  obtain ⟨t, rfl⟩ := intItems_at hv
  obtain ⟨h1, h2⟩ := argBest_gt (numAt xs) (xs.size - 1)
  refine ⟨.int _, H, I.kept hk, ⟨_, rfl⟩, q _ ?_ fun a ha => ?_⟩
  · rw [numAt_eq]; exact PySem.getD_mem (by rw [List.length_map, Array.length_toList]; omega)
  · obtain ⟨j, hj, rfl⟩ := mem_getD ha
    rw [List.length_map, Array.length_toList] at hj
    rw [← numAt_eq]; exact h2 j (by omega)
end
end Onp
set_option maxHeartbeats 4000000
namespace Onp
open PySem PySem.Spec PyProof.Rows L2
def topS (i : Nat) : Stmt := PySem.Challenge.pw_onepurse_k35_bare_and_trimmed.main.body.getD i (.Pass ⟨0, 0, 0, 0⟩)
abbrev sBag : Stmt := topS 31
abbrev sPull : Stmt := topS 32
abbrev sOf : Stmt := topS 33
/-! ### heaps: all but b stays -/
def Keep (b : Addr) (H H' : Hp) : Prop := ∀ a o, a ≠ b → H a = some o → H' a = some o
theorem Keep.refl {b : Addr} (H : Hp) : Keep b H H := fun _ _ _ h => h
theorem Keep.trans {b : Addr} {H H1 H2 : Hp} (x : Keep b H H1) (y : Keep b H1 H2) : Keep b H H2 := fun a o n h => y a o n (x a o n h)
theorem Keep.of {b : Addr} {H H' : Hp} (s : Same H H') : Keep b H H' := fun a o _ h => s a o h
theorem Keep.upd {b : Addr} {H : Hp} {o : HO} : Keep b H (upd H b o) := fun a x n h => by rw [upd_ne n]; exact h
theorem same_upd {H : Hp} {p : Addr} {o : HO} (h : H p = none) : Same H (upd H p o) := fun b x e => by
  rw [upd_ne (ne_of_none e h)]
  exact e
theorem Keep.new {b p : Addr} {H : Hp} {o : HO} (h : H p = none) : Keep b H (L2.upd H p o) := .of (same_upd h)
theorem Keep.seqL {K : PySem.W.Frag} {b a : Addr} {H H' : Hp} {xs : List V} (k : Keep b H H') (n : a ≠ b) (h : SqL K H a xs) : SqL K H' a xs := by
  rcases h with (h | ⟨o, h⟩) | h
  · exact .inl (.inl (k _ _ n h))
  · exact .inl (.inr ⟨o, k _ _ n h⟩)
  · exact .inr h
theorem Keep.seqT {K : PySem.W.Frag} {b a : Addr} {H H' : Hp} {xs : List V} (k : Keep b H H') (n : a ≠ b) (h : SqT K H a xs) : SqT K H' a xs := by
  rcases h with (h | ⟨o, h⟩) | h
  · exact .inl (.inl (k _ _ n h))
  · exact .inl (.inr ⟨o, k _ _ n h⟩)
  · exact .inr h
theorem same_seqT {K : PySem.W.Frag} {H H' : Hp} {a : Addr} {xs : List V} (e : Same H H') (h : SqT K H a xs) : SqT K H' a xs := by
  rcases h with (h | ⟨o, h⟩) | h
  · exact .inl (.inl (e _ _ h))
  · exact .inl (.inr ⟨o, e _ _ h⟩)
  · exact .inr h
theorem itT {c A B : Prop} [Decidable c] (hc : c) (h : A) : if decide c = true then A else B := by
  rw [if_pos (decide_eq_true hc)]; exact h
theorem itF {c A B : Prop} [Decidable c] (hc : ¬ c) (h : B) : if decide c = true then A else B := by
  rw [if_neg (by rw [decide_eq_false hc]; decide)]; exact h
/-! ### the bag: where it stands, where its list stands, the list -/
structure Bid where
  b : Addr
  l : Addr
  ns : List Int
def bagV (l : Addr) (i : Nat) (r s c : Int) : HO := .lst [.ref l, .int i, .int r, .int s, .int c]
def Bg (H : Hp) (g : Bid) : Prop := ∃ (i : Nat) (r s c : Int), H g.b = some (bagV g.l i r s c) ∧ H g.l = some (.lst (g.ns.map V.int)) ∧ g.l ≠ g.b
theorem Bg.same {H H' : Hp} {g : Bid} (x : Bg H g) (s : Same H H') : Bg H' g := by
  obtain ⟨i, r, z, c, h1, h2, h3⟩ := x
  exact ⟨i, r, z, c, s _ _ h1, s _ _ h2, h3⟩
theorem Bg.new {H : Hp} {g : Bid} {p : Addr} {o : HO} (x : Bg H g) (h : H p = none) : Bg (upd H p o) g := x.same (same_upd h)
theorem Bg.ne {H : Hp} {g : Bid} {p : Addr} (x : Bg H g) (h : H p = none) : p ≠ g.b := by
  obtain ⟨i, r, z, c, h1, h2, h3⟩ := x
  exact (ne_of_none h1 h).symm
theorem Bg.neL {H : Hp} {g : Bid} {p : Addr} (x : Bg H g) (h : H p = none) : p ≠ g.l := by
  obtain ⟨i, r, z, c, h1, h2, h3⟩ := x
  exact (ne_of_none h2 h).symm
theorem Bg.put {H : Hp} {g : Bid} {p : Addr} {o : HO} (x : Bg H g) (h1 : p ≠ g.b) (h2 : p ≠ g.l) : Bg (upd H p o) g := by
  obtain ⟨i, r, z, c, e1, e2, e3⟩ := x
  exact ⟨i, r, z, c, by rw [upd_ne h1.symm]; exact e1, by rw [upd_ne h2.symm]; exact e2, e3⟩
theorem cut63 (xs : List V) : cutV xs none (some 63) = xs.take 63 := by
  unfold cutV
  rw [HT.sIx_none, show HT.sIx xs.length xs.length (some 63) = min 63 xs.length from HT.sIx_nat xs.length xs.length 63]
  rw [List.drop_zero, Nat.sub_zero]
  by_cases h : xs.length ≤ 63
  · rw [List.take_of_length_le h, List.take_of_length_le (by omega)]
  · rw [show min 63 xs.length = 63 by omega]
section
variable {P : Program} {w : World} {K : PySem.W.Frag} {mg : Str → Option Value} {base : Heap}
def spBag (K : PySem.W.Frag) : Sp := fun vs H Q _ => ∃ (a : Addr) (ns : List Int), vs = [.ref a] ∧ SqL K H a (ns.map V.int) ∧
  ∀ (g : Bid) H', H g.b = none → Same H H' → Bg H' g → Q (.ref g.b) H'
theorem scBag : FnScope ["_law_script", "_law_seed", "_law_cell"] ["_law_script"] (defScope sBag) := ⟨rfl, rfl, rfl, by decide +kernel, rfl, by decide +kernel, by decide +kernel⟩
theorem ok_bag {f : Addr} {fd : FuncData} {k : Nat} (F : Fun K "_law_bag" "_law_bag" sBag f fd) (ml : mg "list" = none) : FnOk P w K mg base CX0 (k + 1) f fd ["_law_script"] (spBag K) := by
  refine F.ok scBag (fun vs H Q E h => ?_) (fun cdv A outer s H vs Q E hr h => ?_)
  · obtain ⟨a, ns, rfl, _⟩ := h
    rfl
  · obtain ⟨a, ns, rfl, hS, q⟩ := h
    refine ⟨_, pss_cons (ps_set (i := 1) scBag.nd rfl (.inl rfl) pe_int)
      (pss_cons (ps_for PassesOwn.never rfl (pi_list (pe_slice sl_list (pv 0) po_none (po_some pe_int))) (pg_name (i := 2) scBag.nd rfl (.inl rfl))
        (pss_one (ps_set (i := 1) scBag.nd rfl (.inl rfl) (pe_op op_mod (pe_op op_add (pe_op op_add (pe_op op_mul (pv 1) pe_int) (pv 2)) pe_int) pe_int))))
      (pss_one (ps_ret (pe_lst (pa_cons (pe_callTy call_list_of (by rfl) ml (by decide +kernel) (pa_cons (pe_slice sl_list (pv 0) po_none (po_some pe_int)) pa_nil))
        (pa_cons pe_int (pa_cons pe_int (pa_cons (pv 1) (pa_cons pe_int pa_nil))))))))), ?_⟩
    refine ⟨.ref a, rfl, 63, rfl, a, ns.map V.int, rfl, hS, fun p np => ?_⟩
    have s1 : Same H (upd H p (.lst (cutV (ns.map V.int) none (some 63)))) := same_upd np
    refine ⟨p, rfl, ⟨_, SqL.of upd_same⟩, for_list (K := K) (a := p) (xs := cutV (ns.map V.int) none (some 63))
      (fun i σ H' => ∃ (z : Int) (y : Option V), σ = [some (.ref a), some (.int z), y] ∧ H' = upd H p (.lst (cutV (ns.map V.int) none (some 63))))
      ⟨37, none, rfl, rfl⟩ (fun i σ H' _ ⟨z, y, _, e⟩ => by rw [e]; exact SqL.of upd_same) ?_ ?_⟩
    · rintro i x σ H' hi ⟨z, y, rfl, rfl⟩
      obtain ⟨n, rfl⟩ : ∃ n, x = V.int n := by
        rw [cut63, ← List.map_take, List.getElem?_map] at hi
        cases e : (ns.take 63)[i]? with
        | none => rw [e] at hi; cases hi
        | some u => rw [e] at hi; exact ⟨u, (Option.some.inj hi).symm⟩
      exact ⟨_, rfl, _, _, rfl, rfl, .inr ⟨by decide, by decide⟩, _, rfl, _, _, rfl, rfl, _, _, rfl, rfl, _, _, rfl, rfl, (by show (0 : Int) < 2147483629; decide), _, _, rfl, rfl⟩
    · rintro σ H' ⟨z, y, rfl, rfl⟩
      refine ⟨.ref a, rfl, 63, rfl, a, ns.map V.int, rfl, s1.seq hS, fun p2 np2 => ?_⟩
      refine ⟨p2, _, rfl, .inl (SqL.of upd_same), fun l nl => ?_⟩
      refine ⟨_, rfl, (by show 5 ≤ sizeLine; decide), fun b nb => ?_⟩
      have s2 := s1.trans (same_upd (o := .lst (cutV (ns.map V.int) none (some 63))) np2)
      have s3 := s2.trans (same_upd (o := .lst (cutV (ns.map V.int) none (some 63))) nl)
      have s4 := s3.trans (same_upd (o := .lst [.ref l, .int 0, .int 0, .int z, .int 0]) nb)
      refine q ⟨b, l, ns.take 63⟩ _ (s3.free nb) s4 ⟨0, 0, z, 0, upd_same, ?_, ?_⟩
      · show upd _ b _ l = _
        rw [upd_ne (ne_of_none upd_same nb), upd_same, cut63, List.map_take]
      · exact ne_of_none upd_same nb
/-! ### pull -/
def spPull (K : PySem.W.Frag) : Sp := fun vs H Q _ => ∃ (g : Bid) (m : Int), vs = [.ref g.b, .int m] ∧ 0 < m ∧ m.natAbs < 2 ^ 200 ∧ Bg H g ∧
  ∀ (z : Int) H', 0 ≤ z → z < m → Keep g.b H H' → Bg H' g → Q (.int z) H'
theorem scPull : FnScope ["_law_bag_here", "_law_many", "_law_rest", "_law_cell", "_law_one", "_law_two"] ["_law_bag_here", "_law_many"] (defScope sPull) := ⟨rfl, rfl, rfl, by decide +kernel, rfl, by decide +kernel, by decide +kernel⟩
theorem upd_bag {H : Hp} {b : Addr} {o o' : HO} : Keep b H (upd (upd H b o) b o') := by
  rw [upd_upd]
  exact Keep.upd
theorem mod_lo {a m : Int} (h : 0 < m) : 0 ≤ a % m := Int.emod_nonneg _ (by omega)
theorem mod_hi {a m : Int} (h : 0 < m) : a % m < m := Int.emod_lt_of_pos _ h
theorem ok_pull {f : Addr} {fd : FuncData} {k : Nat} (F : Fun K "_law_pull" "_law_pull" sPull f fd) (ml : mg "len" = none) : FnOk P w K mg base CX0 (k + 1) f fd ["_law_bag_here", "_law_many"] (spPull K) := by
  refine F.ok scPull (fun vs H Q E h => ?_) (fun cdv A outer s H vs Q E hr h => ?_)
  · obtain ⟨a, ns, rfl, _⟩ := h
    rfl
  · obtain ⟨⟨b, l, ns⟩, m, rfl, m0, m1, ⟨i, r, sd, c, hb, hl0, nlb⟩, q⟩ := h
    have hl : SqL K H l (ns.map V.int) := SqL.of hl0
    refine ⟨_, pss_cons (ps_augS (pv 0) pe_int get_list pe_int ip_add set_list)
      (pss_cons (ps_if (pt_cmpR op_gt (pe_ix ix_list (pv 0) pe_int (fun _ _ => rfl)) pe_int (nomark _))
        (pss_cons (ps_set (i := 2) scPull.nd rfl (.inl rfl) (pe_ix ix_list (pv 0) pe_int (fun _ _ => rfl)))
        (pss_cons (ps_asg (pe_op op_fdivW (pv 2) (pv 1)) (pg_sub (pv 0) pe_int set_list))
        (pss_one (ps_ret (pe_op op_mod (pv 2) (pv 1)))))) pss_nil)
      (pss_cons (ps_set (i := 3) scPull.nd rfl (.inl rfl) (pe_ix ix_list (pv 0) pe_int (fun _ _ => rfl)))
      (C8.pss_cut (ps_if (pt_cmpR op_lt (pe_ix ix_list (pv 0) pe_int (fun _ _ => rfl)) (pe_callB call_len_seq (by rfl) ml PySem.boot_len (pa_cons (pe_ix ix_list (pv 0) pe_int (fun _ _ => rfl)) pa_nil)) (nomark _))
        (pss_cons (ps_set (i := 3) scPull.nd rfl (.inl rfl) (pe_ix ix_list (pe_ix ix_list (pv 0) pe_int (fun _ _ => rfl)) (pe_ix ix_list (pv 0) pe_int (fun _ _ => rfl)) (fun _ _ => rfl)))
        (pss_one (ps_augS (pv 0) pe_int get_list pe_int ip_add set_list))) pss_nil)
      (pss_cons (ps_if (pt_cmpR op_ge (pv 3) (pe_op op_pow pe_int pe_int) (nomark _))
        (pss_cons (ps_asg (pe_op op_fdivW (pv 3) (pv 1)) (pg_sub (pv 0) pe_int set_list))
        (pss_one (ps_ret (pe_op op_mod (pv 3) (pv 1))))) pss_nil)
      (pss_cons (ps_set (i := 4) scPull.nd rfl (.inl rfl) (pe_op op_mod (pe_op op_add (pe_op op_add (pe_op op_add (pe_op op_mul (pv 3) pe_int) (pe_op op_mul (pe_ix ix_list (pv 0) pe_int (fun _ _ => rfl)) pe_int)) (pe_op op_mul (pe_ix ix_list (pv 0) pe_int (fun _ _ => rfl)) pe_int)) pe_int) pe_int))
      (pss_cons (ps_set (i := 5) scPull.nd rfl (.inl rfl) (pe_op op_mod (pe_op op_add (pe_op op_add (pe_op op_mul (pv 4) (pe_op op_add (pe_op op_mod (pv 4) pe_int) pe_int)) (pe_op op_mul (pe_ix ix_list (pv 0) pe_int (fun _ _ => rfl)) pe_int)) (pe_op op_mod (pe_ix ix_list (pv 0) pe_int (fun _ _ => rfl)) pe_int)) pe_int))
      (pss_cons (ps_asg (pe_op op_mod (pe_op op_add (pe_op op_mul (pe_ix ix_list (pv 0) pe_int (fun _ _ => rfl)) pe_int) (pv 5)) pe_int) (pg_sub (pv 0) pe_int set_list))
      (pss_one (ps_ret (pe_op op_mod (pe_op op_fdiv (pv 5) pe_int) (pv 1))))))))))), ?_⟩
    -- bag[4] += 1
    refine ⟨.ref b, rfl, b, _, 4, .int c, rfl, rfl, SqL.of hb, rfl, c, 1, rfl, rfl, b, _, 4, 4, rfl, rfl, hb, rfl, ?_⟩
    -- if bag[2] > 0
    refine ⟨.ref b, rfl, b, _, 2, .int r, rfl, rfl, SqL.of upd_same, rfl, r, 0, rfl, rfl, _, rfl, ite2 (fun _ => ?_) (fun _ => ?_)⟩
    · refine ⟨.ref b, rfl, b, _, 2, .int r, rfl, rfl, SqL.of upd_same, rfl, ?_⟩
      refine ⟨_, rfl, _, rfl, r, m, rfl, rfl, wide_div m0 m1 (by decide) (by decide), .ref b, rfl, b, _, 2, 2, rfl, rfl, upd_same, rfl, ?_⟩
      refine ⟨_, rfl, _, rfl, r, m, rfl, rfl, m0, q _ _ (mod_lo m0) (mod_hi m0) upd_bag ⟨i, r / m, sd, c + 1, upd_same, ?_, nlb⟩⟩
      exact upd_bag _ _ nlb hl0
    · -- cell = bag[3]
      refine ⟨.ref b, rfl, b, _, 3, .int sd, rfl, rfl, SqL.of upd_same, rfl, ?_⟩
      refine ⟨fun σ H1 => ∃ (i' : Nat) (z : Int), σ = [some (.ref b), some (.int m), none, some (.int z), none, none] ∧ H1 = upd H b (bagV l i' r sd (c + 1)), ?_, ?_⟩
      · refine ⟨.ref b, rfl, b, _, 1, .int i, rfl, rfl, SqL.of upd_same, rfl, .ref b, rfl, b, _, 0, .ref l, rfl, rfl, SqL.of upd_same, rfl, l, ns.map V.int, rfl, .inl (Keep.upd.seqL nlb hl), i, ((ns.map V.int).length : Int), rfl, rfl, _, rfl, ite2 (fun hi => ?_) (fun _ => ?_)⟩
        · have hi' : i < ns.length := by
            have := of_decide_eq_true hi
            rw [List.length_map] at this
            omega
          have gi : (ns.map V.int)[i]? = some (.int ns[i]) := by
            rw [List.getElem?_map, List.getElem?_eq_getElem hi']
            rfl
          refine ⟨.ref b, rfl, b, _, 0, .ref l, rfl, rfl, SqL.of upd_same, rfl, .ref b, rfl, b, _, 1, .int i, rfl, rfl, SqL.of upd_same, rfl, l, ns.map V.int, i, .int ns[i], rfl, rfl, Keep.upd.seqL nlb hl, atI_nat gi, ?_⟩
          refine ⟨.ref b, rfl, b, _, 1, .int i, rfl, rfl, SqL.of upd_same, rfl, i, 1, rfl, rfl, b, _, 1, 1, rfl, rfl, upd_same, rfl, i + 1, ns[i], rfl, ?_⟩
          rw [upd_upd]
          rfl
        · exact ⟨i, sd, rfl, rfl⟩
      · rintro σ H1 ⟨i', z, rfl, rfl⟩
        have hb1 : (upd H b (bagV l i' r sd (c + 1))) b = some (bagV l i' r sd (c + 1)) := upd_same
        refine ⟨.int z, rfl, 10, 18, rfl, rfl, ⟨by decide, by decide, by decide⟩, z, _, rfl, rfl, _, rfl, ite2 (fun _ => ?_) (fun _ => ?_)⟩
        · refine ⟨_, rfl, _, rfl, z, m, rfl, rfl, wide_div m0 m1 (by decide) (by decide), .ref b, rfl, b, _, 2, 2, rfl, rfl, upd_same, rfl, ?_⟩
          refine ⟨_, rfl, _, rfl, z, m, rfl, rfl, m0, q _ _ (mod_lo m0) (mod_hi m0) upd_bag ⟨i', z / m, sd, c + 1, upd_same, ?_, nlb⟩⟩
          exact upd_bag _ _ nlb hl0
        · -- one
          refine ⟨_, rfl, _, _, rfl, rfl, .inr ⟨by decide, by decide⟩, .ref b, rfl, b, _, 3, .int sd, rfl, rfl, SqL.of upd_same, rfl, _, _, rfl, rfl, .inr ⟨by decide, by decide⟩, _, _, rfl, rfl, .ref b, rfl, b, _, 4, .int (c + 1), rfl, rfl, SqL.of upd_same, rfl, _, _, rfl, rfl, .inr ⟨by decide, by decide⟩, _, _, rfl, rfl, _, _, rfl, rfl, _, _, rfl, rfl, (by show (0 : Int) < 2147483629; decide), ?_⟩
          have o0 := mod_lo (a := z * 48271 + sd * 40503 + (c + 1) * 69621 + 9176) (m := 2147483629) (by decide)
          have o1 := mod_hi (a := z * 48271 + sd * 40503 + (c + 1) * 69621 + 9176) (m := 2147483629) (by decide)
          generalize hone : (z * 48271 + sd * 40503 + (c + 1) * 69621 + 9176) % 2147483629 = one at o0 o1
          -- two
          refine ⟨_, rfl, _, rfl, _, _, rfl, rfl, (by show (0 : Int) < 65521; decide), _, _, rfl, rfl, _, _, rfl, rfl, .inl ⟨?_, ?_⟩, .ref b, rfl, b, _, 4, .int (c + 1), rfl, rfl, SqL.of upd_same, rfl, _, _, rfl, rfl, .inr ⟨by decide, by decide⟩, _, _, rfl, rfl, .ref b, rfl, b, _, 3, .int sd, rfl, rfl, SqL.of upd_same, rfl, _, _, rfl, rfl, (by show (0 : Int) < 104729; decide), _, _, rfl, rfl, _, _, rfl, rfl, (by show (0 : Int) < 998244353; decide), ?_⟩
          · rw [hone]; omega
          · rw [hone]; omega
          refine ⟨.ref b, rfl, b, _, 3, .int sd, rfl, rfl, SqL.of upd_same, rfl, _, _, rfl, rfl, .inr ⟨by decide, by decide⟩, _, rfl, _, _, rfl, rfl, _, _, rfl, rfl, (by show (0 : Int) < 2147483563; decide), .ref b, rfl, b, _, 3, 3, rfl, rfl, upd_same, rfl, ?_⟩
          refine ⟨_, rfl, _, _, rfl, rfl, ⟨by decide, by decide⟩, _, rfl, _, _, rfl, rfl, m0, q _ _ (mod_lo m0) (mod_hi m0) upd_bag ⟨i', r, _, c + 1, upd_same, ?_, nlb⟩⟩
          exact upd_bag _ _ nlb hl0
/-! ### one of a list -/
def spOf (K : PySem.W.Frag) : Sp := fun vs H Q _ => ∃ (g : Bid) (p : Addr) (xs : List V), vs = [.ref g.b, .ref p] ∧ Bg H g ∧ p ≠ g.b ∧ SqL K H p xs ∧ 0 < xs.length ∧ xs.length < 1000 ∧
  ∀ v H', v ∈ xs → Keep g.b H H' → Bg H' g → Q v H'
theorem scOf : FnScope ["_law_bag_here", "_law_some"] ["_law_bag_here", "_law_some"] (defScope sOf) := ⟨rfl, rfl, rfl, by decide +kernel, rfl, by decide +kernel, by decide +kernel⟩
theorem ok_of {f fP : Addr} {fd fdP : FuncData} {k : Nat} (F : Fun K "_law_of" "_law_of" sOf f fd) (FP : Fun K "_law_pull" "_law_pull" sPull fP fdP) (bP : Binds K fdP ["_law_bag_here", "_law_many"] []) (gP : mg "_law_pull" = some (.ref fP)) (ml : mg "len" = none) : FnOk P w K mg base CX0 (k + 2) f fd ["_law_bag_here", "_law_some"] (spOf K) := by
  have GP : FnOk P w K mg base CX0 (k + 1) fP fdP ["_law_bag_here", "_law_many"] (spPull K) := ok_pull FP ml
  refine F.ok scOf (fun vs H Q E h => ?_) (fun cdv A outer s H vs Q E hr h => ?_)
  · obtain ⟨b, p, xs, rfl, _⟩ := h
    rfl
  · obtain ⟨b, p, xs, rfl, B, npb, hx, h0, hlen, q⟩ := h
    refine ⟨_, pss_one (ps_ret (pe_ix ix_list (pv 1) (pe_call GP hr (by rfl) gP FP.kp bP .nil pass0 (pa_cons (pv 0) (pa_cons (pe_callB call_len_seq (by rfl) ml PySem.boot_len (pa_cons (pv 1) pa_nil)) pa_nil))) (fun _ _ => rfl))), ?_⟩
    refine ⟨.ref p, rfl, .ref b.b, rfl, .ref p, rfl, p, xs, rfl, .inl hx, b, (xs.length : Int), rfl, by omega, ?_, B, fun z H' z0 z1 kp B' => ?_⟩
    · exact Nat.lt_trans (show ((xs.length : Int)).natAbs < 2 ^ 64 by omega) (by decide)
    · have e : z = ((z.toNat : Nat) : Int) := by omega
      have hz1 : z.toNat < xs.length := by omega
      rw [e]
      exact ⟨p, xs, z.toNat, xs[z.toNat], rfl, rfl, kp.seqL npb hx, atI_nat (List.getElem?_eq_getElem hz1), q _ _ (List.getElem_mem hz1) kp B'⟩
end
end Onp
set_option maxHeartbeats 2000000
/-! while an exception is handled: the ends of walks -/
namespace Onp
open PySem PySem.Spec PyProof.Rows L2 HotX L2H
section
variable {prog : Program} {w : World} {A : Around} {E : Value → Shared → Prop} {s : Shared}
/-- a StopIteration raised while x1 is handled -/
theorem stopHot {α : Type} {x1 : Addr} {Q : α → Shared → Prop} (hot : HotAt A x1 s.heap)
    (hE : ∀ h' e, (∀ b o, s.heap.get? b = some o → h'.get? b = some o) → (∃ o, h'.get? e = some o ∧ o.cls = .type "StopIteration") → E (.ref e) { s with heap := h' }) :
    wpAny (model prog w) A ((newExc (.type "StopIteration") [] >>= fun v => raiseNew v) : Sem α) Q E s := by
  obtain ⟨hh, o1, vs1, g1, g2, g3⟩ := hot
  refine wpAny_bind ?_
  simp only [newExc, newTuple]
  refine wpAny_bind (wpAny_newObj_type (wpAny_bind (m := firstArgMember _ _) (wpAny_of_eq (a := Value.none) (by first | rfl | (simp only [firstArgMember]; rfl)) (wpAny_newObj_type ?_ (by size_fits)))) (by size_fits))
  have k1 : (s.heap.push { cls := .type "tuple", data := .seq #[] }).get? x1 = some o1 := Heap.get?_push_of_some _ g1
  refine raiseNew_hot (x1 := x1) ⟨hh, o1, vs1, Heap.get?_push_of_some _ k1, g2, g3⟩ (Nat.ne_of_lt (Heap.lt_size k1)) (Heap.get?_push_size _ rfl) rfl (by first | (simp; done) | (simp; omega)) ?_
  refine hE _ _ (fun b o e => ?_) ⟨_, Heap.get?_update_self _ (Heap.get?_push_size _ rfl) rfl, rfl⟩
  have k2 : (s.heap.push { cls := .type "tuple", data := .seq #[] }).get? b = some o := Heap.get?_push_of_some _ e
  rw [Heap.get?_update_other _ _ (Nat.ne_of_gt (Heap.lt_size k2))]
  exact Heap.get?_push_of_some _ k2
theorem hot_but {x1 a : Addr} {h h' : Heap} (t : HotAt A x1 h) (n : x1 ≠ a) (k : ∀ b o, b ≠ a → h.get? b = some o → h'.get? b = some o) : HotAt A x1 h' := by
  obtain ⟨hh, o1, vs1, g1, g2, g3⟩ := t
  exact ⟨hh, o1, vs1, k _ _ n g1, g2, g3⟩
/-- the end of a list, asked by nextOf -/
theorem listEndHot {x1 it l : Addr} {i : Nat} {items : Array Value} {Q : Value → Shared → Prop} (hot : HotAt A x1 s.heap) (nx : x1 ≠ it) (hit : s.heap.IsListIter it l i) (hl : s.heap.IsList l items) (hx : items[i]? = none)
    (hE : ∀ h' e, Heap.ExtBut it s.heap h' → (∃ o, h'.get? e = some o ∧ o.cls = .type "StopIteration") → E (.ref e) { s with heap := h' }) : wpAny (model prog w) A (Builtin.SmallTypes.nextOf (.ref it)) Q E s := by
  obtain ⟨ob, g1, g2, g3⟩ := id hit
  obtain ⟨lb, k1, _, kn, k3⟩ := hl
  unfold Builtin.SmallTypes.nextOf
  refine wpAny_bind (wpAny_callSpecial?_slot (name := Str.ofString "__next__") hit.typeIs slot_listiter_next (wpAny_call_entry slot_listiter_next hit.typeIs entry_listiter_next ?_ (args_listiter_next _)))
  show wpAny _ _ (field (.ref it) 0 >>= _) _ _ s
  refine wpAny_bind (wpAny_field g1 g3 (x := .ref l) rfl ?_)
  show wpAny _ _ (if (Value.ref l == Value.none) = true then _ else _) _ _ s
  rw [if_neg (by exact Bool.false_ne_true : ¬ ((Value.ref l == Value.none) = true))]
  show wpAny _ _ (field (.ref it) 1 >>= _) _ _ s
  refine wpAny_bind (wpAny_field g1 g3 (x := .int i 0) rfl ?_)
  show wpAny _ _ (seqItems? (.ref l) >>= _) _ _ s
  refine wpAny_bind (wpAny_seqItems k1 k3 ?_)
  simp only [hx, Int.toNat_natCast]
  refine wpAny_bind (wpAny_rule (wpAny_bind (wpAny_setField g1 g3 (by simp) ?_)))
  have sb : Heap.SameBut it s.heap (s.heap.update it (Obj.mapFields (·.setIfInBounds 0 Value.none))) := Heap.SameBut.update ..
  refine stopHot (x1 := x1) (hot_but (A := A.in1) hot nx fun b o n e => sb.extBut b o n e) fun h' e k he => hE h' e (fun b o n q => k b o (sb.extBut b o n q)) he
/-- the end of a tuple -/
theorem tupEndHot {x1 it t : Addr} {i : Nat} {items : Array Value} {Q : Option Value → Shared → Prop} (hot : HotAt A x1 s.heap) (nx : x1 ≠ it) (hit : IsTupIter s.heap it t i) (ht : IsTup s.heap t items) (hx : items[i]? = none)
    (hQ : ∀ h', Heap.ExtBut it s.heap h' → Q none { s with heap := h' }) : wpAny (model prog w) A (pyNext (.ref it)) Q E s := by
  obtain ⟨ob, g1, g2, g3⟩ := id hit
  obtain ⟨lb, k1, _, kn, k3⟩ := ht
  unfold pyNext
  refine wpAny_bind (wpAny_attempt (wpAny_callSpecial?_slot (name := Str.ofString "__next__") hit.typeIs slot_tupleiter_next (wpAny_call_entry slot_tupleiter_next hit.typeIs entry_tupleiter_next ?_ (args_tupleiter_next _))))
  show wpAny _ _ (field (.ref it) 0 >>= _) _ _ s
  refine wpAny_bind (wpAny_field g1 g3 (x := .ref t) rfl ?_)
  show wpAny _ _ (if (Value.ref t == Value.none) = true then _ else _) _ _ s
  rw [if_neg (by exact Bool.false_ne_true : ¬ ((Value.ref t == Value.none) = true))]
  show wpAny _ _ (field (.ref it) 1 >>= _) _ _ s
  refine wpAny_bind (wpAny_field g1 g3 (x := .int i 0) rfl ?_)
  show wpAny _ _ (seqItems? (.ref t) >>= _) _ _ s
  refine wpAny_bind (wpAny_seqItems k1 k3 ?_)
  simp only [hx, Int.toNat_natCast]
  refine wpAny_bind (wpAny_rule (wpAny_bind (wpAny_setField g1 g3 (by simp) ?_)))
  have sb : Heap.SameBut it s.heap (s.heap.update it (Obj.mapFields (·.setIfInBounds 0 Value.none))) := Heap.SameBut.update ..
  refine stopHot (x1 := x1) (hot_but (A := A.in1) hot nx fun b o n e => sb.extBut b o n e) fun h' e k he => ?_
  obtain ⟨oe, q1, q2⟩ := he
  exact wpAny_bind (wpAny_isInstance (T := "StopIteration") (b := true) ⟨oe, q1, q2⟩ isSubtype_stop (wpAny_pure (hQ h' fun b o n q => k b o (sb.extBut b o n q))))
/-- a tuple unpacked -/
theorem unpackHot {x1 t : Addr} {items : Array Value} {Q : List Value → Shared → Prop} (hot : HotAt A x1 s.heap) (ht : IsTup s.heap t items)
    (hQ : ∀ h', Heap.ExtBut s.heap.objs.size s.heap h' → Q items.toList { s with heap := h' }) : wpAny (model prog w) A (unpackItems (.ref t) items.size none) Q E s := by
  have n1 : t ≠ s.heap.objs.size := by
    obtain ⟨o, ho, _⟩ := ht
    exact Nat.ne_of_lt (Heap.lt_size ho)
  have n2 : x1 ≠ s.heap.objs.size := by
    obtain ⟨_, o, _, ho, _⟩ := hot
    exact Nat.ne_of_lt (Heap.lt_size ho)
  unfold unpackItems
  refine wpAny_bind ?_
  unfold notIterableAtAll
  refine wpAny_bind (wpAny_specialOf ht.typeIs slot_tuple_iter.lookup (wpAny_pure ?_))
  simp only [if_false, Bool.false_eq_true]
  refine wpAny_bind (wpAny_holding (iter_tuple ht (wpAny_bind (wpAny_holding (draw_tuple n1 items.size 0 _ _ ⟨_, Heap.get?_push_size _ rfl, rfl, rfl⟩ (ht.push _) (by omega) fun j1 c1 c2 => ?_)))))
  have whole : List.take items.size (List.drop 0 items.toList) = items.toList := by rw [List.drop_zero, List.take_of_length_le (by simp)]
  rw [whole, if_neg (by simp)]
  have tj : IsTup j1 t items := (ht.push _).extBut c2.extBut n1
  have hj : HotAt A x1 j1 := hot_but hot n2 fun b o n e => c2.extBut b o n (Heap.get?_push_of_some _ e)
  refine wpAny_bind (wpAny_holding (tupEndHot hj n2 c1 tj (by simp) fun j2 c3 => ?_))
  simp only [if_false, Option.isSome_none, Bool.false_eq_true]
  exact wpAny_pure (hQ j2 fun b o n e => c3 b o n (c2.extBut b o n (Heap.get?_push_of_some _ e)))
theorem assignTupHot {x1 : Addr} {env : Env} {elts : List Expr} {k} {pos : Pos} {t : Addr} {items : Array Value} {Q : Unit → Shared → Prop} (hot : HotAt A x1 s.heap) (ht : IsTup s.heap t items)
    (hn : (assignEach elts env).length = items.size) (hstar : (assignEach elts env).findIdx? (·.1) = none)
    (h : ∀ h', Heap.ExtBut s.heap.objs.size s.heap h' → wpAny (model prog w) A (assignInOrder ((assignEach elts env).map (·.2)) items.toList) Q E { s with heap := h' }) :
    wpAny (model prog w) A (assign (.Tuple elts k pos) env (.ref t)) Q E s := by
  rw [assign_Tuple]
  refine wpAny_bind (wpAny_standAt ?_)
  unfold unpack
  rw [hn, hstar]
  exact wpAny_bind (wpAny_holding (unpackHot hot ht h))
/-- zip's end: the first list is through -/
theorem zipEndHot {x1 z TI TO i1 i2 l1 l2 : Addr} {k1 : Nat} {xs : Array Value} {a b : Value} {Q : Option Value → Shared → Prop} (hot : HotAt A x1 s.heap) (nx : x1 ≠ z ∧ x1 ≠ i1) (D : ZipApart z TI TO i1 i2 l1 l2)
    (hz : IsZip s.heap z TI TO .none) (hTI : IsPair s.heap TI (.ref i1) (.ref i2)) (hTO : IsPair s.heap TO a b) (h1 : s.heap.IsListIter i1 l1 k1) (hl1 : s.heap.IsList l1 xs) (hx : xs[k1]? = none)
    (hQ : ∀ h', (∀ c o, c ≠ z → c ≠ i1 → s.heap.get? c = some o → h'.get? c = some o) → Q none { s with heap := h' }) : wpAny (model prog w) A (pyNext (.ref z)) Q E s := by
  have hT : s.TypeIs (.ref z) "zip" := ⟨_, hz, rfl⟩
  unfold pyNext
  refine wpAny_bind (wpAny_attempt (wpAny_callSpecial?_slot (name := Str.ofString "__next__") hT F.slot_zip_next (wpAny_call_entry F.slot_zip_next hT F.entry_zip_next ?_ (F.args_zip_next_1 _))))
  show wpAny _ _ (field (.ref z) 2 >>= _) _ _ _
  refine wpAny_bind (wpAny_field hz rfl (x := .bool false) rfl ?_)
  show wpAny _ _ (field (.ref z) 3 >>= _) _ _ _
  refine wpAny_bind (wpAny_field hz rfl (x := .ref TI) rfl (wpAny_bind (wpAny_seqItems hTI rfl ?_)))
  show wpAny _ _ (Builtin.SmallTypes.ownedTupleIsFree (.ref z) >>= _) _ _ _
  refine wpAny_bind ?_
  unfold Builtin.SmallTypes.ownedTupleIsFree
  refine wpAny_bind (wpAny_field hz rfl (x := .none) rfl (wpAny_pure ?_))
  simp only [if_true]
  refine wpAny_bind (wpAny_rule (wpAny_bind (wpAny_field hz rfl (x := .ref TO) rfl (wpAny_bind (wpAny_setField_rec hz (by simp) fun j1 zj sj => ?_)))))
  replace zj : IsZip j1 z TI TO .ellipsis := zj
  refine wpAny_bind ?_
  simp only [List.zipIdx_cons, List.zipIdx_nil, List.forIn_cons, List.forIn_nil]
  refine wpAny_bind (wpAny_bind (wpAny_onRaise ?_))
  show wpAny _ _ (Builtin.SmallTypes.nextOf (.ref i1) >>= _) _ _ _
  refine wpAny_bind (listEndHot (x1 := x1) (hot_but (A := A.in1) hot nx.1 fun b o n e => sj.extBut b o n e) nx.2 (h1.extBut sj.extBut D.i1z) (hl1.extBut sj.extBut D.l1z) hx fun j2 e c2 he => ?_)
  obtain ⟨oe, q1, q2⟩ := he
  have z2 : IsZip j2 z TI TO .ellipsis := c2 _ _ D.i1z.symm zj
  have ez : e ≠ z := fun x => by subst x; rw [z2] at q1; cases q1; simp at q2
  refine wpAny_setField_rec z2 (by simp) fun j3 _ c3 => ?_
  exact wpAny_bind (wpAny_isInstance (T := "StopIteration") (b := true) ⟨oe, c3.extBut _ _ ez q1, q2⟩ isSubtype_stop (wpAny_pure (hQ j3 fun c o n1 n2 q => c3.extBut _ _ n1 (c2 _ _ n2 (sj.extBut _ _ n1 q)))))
end
end Onp
set_option maxHeartbeats 4000000
namespace Onp
open PySem PySem.Spec PyProof.Rows L2 HotX L2H
/-! ### (a, b) = a tuple, while an exception is handled -/
theorem pg_tupH {X : Cx} {es : List Expr} {k : Nat} {t : TGs} {n : Nat} {pos : Pos} (hc : HotC X) (h : PGs X es t) (hn : (assignEach es X.env).length = n := by rfl) (hst : (assignEach es X.env).findIdx? (·.1) = none := by rfl) :
    PG X (.Tuple es k pos) (gTup X.K n t) := by
  refine ⟨fun pins s σ H v u Q I r hw => ?_⟩
  obtain ⟨p, xs, rfl, hq, hl, hw⟩ := hw
  obtain rfl : u = Value.ref p := r
  obtain ⟨its, rv, ht, hz⟩ := I.tuple hq
  obtain ⟨x1, hot⟩ := hc.at I
  refine assignTupHot hot ht (by simp [hn, ← hl, rv.length]) hst fun h' hx => ?_
  exact h.run pins _ σ H xs _ Q (I.kept (t' := s.toks) fun b o e => hx b o (Nat.ne_of_lt (Heap.lt_size e)) e) (by simpa using rv) hw
/-! ### zip of two lists, the first no longer than the second -/
def Itz1 (K : PySem.W.Frag) (a b : Addr) : It := ⟨(Itz K a b).go, (Itz K a b).yld, fun i H => ∃ xs ys : List V, SqL K H a xs ∧ SqL K H b ys ∧ xs.length ≤ i⟩
def zipSt (a b z TI TO i1 i2 : Addr) (i : Nat) (h : Heap) : Prop := IsZip h z TI TO .none ∧ IsPair h TI (.ref i1) (.ref i2) ∧ (∃ x y, IsPair h TO x y) ∧ h.IsListIter i1 a i ∧ h.IsListIter i2 b i
theorem turnZipH {P : Program} {w : World} {K : PySem.W.Frag} {elts : List Expr} {kk : Nat} {tpos : Pos} {a b z TI TO i1 i2 : Addr} (D : ZipApart z TI TO i1 i2 a b) :
    TurnH P w K (.Tuple elts kk tpos) (Itz1 K a b) [z, TI, TO, i1, i2] z (zipSt a b z TI TO i1 i2) where
  mem := List.mem_cons_self
  obj := (turn_zip (P := P) (w := w) (K := K) (elts := elts) (kk := kk) (tpos := tpos) D).obj
  keep := (turn_zip (P := P) (w := w) (K := K) (elts := elts) (kk := kk) (tpos := tpos) D).keep
  self := (turn_zip (P := P) (w := w) (K := K) (elts := elts) (kk := kk) (tpos := tpos) D).self
  item := by
    intro X eP ew eK hc i pins s σ H E I hf st hg
    subst eP ew eK
    obtain ⟨z1, z2, ⟨v1, v2, z3⟩, z4, z5⟩ := st
    obtain ⟨xs, ys, x, y, qx, qy, ex, ey⟩ := hg
    obtain ⟨us, ru, pu, _⟩ := I.list qx
    obtain ⟨ws, rw', pw, _⟩ := I.list qy
    obtain ⟨u1, e1, r1⟩ := ru.get ex
    obtain ⟨u2, e2, r2⟩ := rw'.get ey
    have lz : z < s.heap.objs.size := Heap.lt_size z1
    refine wpAny_pyNext_zip_item D z1 z2 z3 z4 z5 pu.isList pw.isList (x := u1) (y := u2) (by simpa using e1) (by simpa using e2) fun j n1 n2 n3 n4 n5 n6 n7 => ⟨_, rfl, ?_⟩
    refine wpAny_letOwnedTupleGo_zip (s := { s with heap := j }) n1 fun j2 m1 sb => ?_
    have old : ∀ c, c ∈ [z, TI, TO, i1, i2] → c < s.heap.objs.size := fun c hm => by
      have e' : c = z ∨ c = TI ∨ c = TO ∨ c = i1 ∨ c = i2 := by simpa using hm
      obtain ⟨_, q4, _⟩ := z4
      obtain ⟨_, q5, _⟩ := z5
      rcases e' with rfl | rfl | rfl | rfl | rfl
      · exact lz
      · exact Heap.lt_size z2
      · exact Heap.lt_size z3
      · exact Heap.lt_size q4
      · exact Heap.lt_size q5
    have tj : j2.get? s.heap.objs.size = some { cls := .type "tuple", data := .seq #[u1, u2] } := (sb.2 _ (Nat.ne_of_gt lz)).trans n5
    have kp : ∀ c o, c ∉ [z, TI, TO, i1, i2] → s.heap.get? c = some o → j2.get? c = some o := fun c o nm q => by
      have nn : c ≠ z ∧ c ≠ TI ∧ c ≠ TO ∧ c ≠ i1 ∧ c ≠ i2 := by simpa using nm
      exact (sb.2 c nn.1).trans (n7 c o nn.1 nn.2.2.1 nn.2.2.2.1 nn.2.2.2.2 q)
    have J := I.turnedNew (t' := s.toks) (ch := [z, TI, TO, i1, i2]) (ob := .tup [x, y]) kp hf (Nat.le_refl _) ⟨(by decide : 2 ≤ sizeLine), [u1, u2], .cons r1 (.cons r2 .nil), ⟨_, tj, rfl, _, rfl⟩⟩
    refine ⟨.ref s.heap.objs.size, _, J, rfl, ⟨_, x, y, rfl, I.hok.fresh (Nat.le_refl _), rfl, fun l hl => by rw [I.list_inj hl qx]; exact ex, fun l hl => by rw [I.list_inj hl qy]; exact ey⟩, ⟨m1, ?_, ⟨u1, u2, ?_⟩, ?_, ?_⟩, fun c hm => ?_⟩
    · exact (sb.2 _ D.TIz).trans (n7 _ _ D.TIz D.TITO D.TIi1 D.TIi2 z2)
    · exact (sb.2 _ D.TOz).trans n2
    · exact n3.at fun o q => (sb.2 _ D.i1z).trans q
    · exact n4.at fun o q => (sb.2 _ D.i2z).trans q
    · rw [upd_ne (Nat.ne_of_lt (old c hm))]
      exact (hf c hm).1
  done := by
    intro X eP ew eK hc i pins s σ H E I hf st hg
    subst eP ew eK
    obtain ⟨z1, z2, ⟨v1, v2, z3⟩, z4, z5⟩ := st
    obtain ⟨xs, ys, qx, qy, he⟩ := hg
    obtain ⟨us, ru, pu, _⟩ := I.list qx
    have l1 := ru.length
    obtain ⟨p, ⟨hh, v, e1, c1⟩, hp⟩ := hc
    have P1 := (I.pin p (List.mem_append_left _ hp)).1
    have np : ∀ c, c ∈ [z, TI, TO, i1, i2] → p.1 ≠ c := fun c hm => (hf c hm).2.2.2.2.2 p (List.mem_append_left _ hp)
    refine zipEndHot (x1 := p.1) ⟨hh, p.2, v, P1, e1, c1⟩ ⟨np z (by simp), np i1 (by simp)⟩ D z1 z2 z3 z4 pu.isList (by simp; omega) fun j kj => ⟨rfl, I.turnedL (t' := s.toks) (ch := [z, TI, TO, i1, i2]) (fun c o nm q => ?_) hf⟩
    have nn : c ≠ z ∧ c ≠ TI ∧ c ≠ TO ∧ c ≠ i1 ∧ c ≠ i2 := by simpa using nm
    exact kj c o nn.1 nn.2.2.2.1 q
def iZip1 (K : PySem.W.Frag) (ta : TA) : TI := fun σ H R => ta σ H fun vs H1 => ∃ a b xs ys, vs = [.ref a, .ref b] ∧ SqL K H1 a xs ∧ SqL K H1 b ys ∧ R (Itz1 K a b) H1
theorem pi_zipH {X : Cx} {e e2 : Expr} {ta : TA} {p pos tpos : Pos} {elts : List Expr} {kk : Nat} (hg : Gl X "zip") (hm : X.mg "zip" = none) (ha : PA X [e, e2] ta)
    (hs : starEach [e, e2] X.env = (false, eval e X.env) :: starEach [e2] X.env := by rfl) (hpl : (backTo pos (starEach [e2] X.env)).any (·.1) = false := by rfl) : PIH X (.Tuple elts kk tpos) (.Call (.Name "zip" p) [e, e2] [] pos) (iZip1 X.K ta) := by
  refine ⟨fun pins s σ H R I h => Call_ (ld_blt I hg hm PyProof.Rows.boot_zip (PyProof.Rows.callWith_type1 (thn (ha.run pos pins s σ H _ I h) fun us s1 ⟨vs, H1, I1, r1, q1⟩ => ?_) hs hpl))⟩
  obtain ⟨a, b, xs, ys, rfl, qx, qy, q⟩ := q1
  obtain ⟨w1, w2, rfl, ra, rb⟩ := vals2 r1
  cases ra
  cases rb
  obtain ⟨us, ru, pu, _⟩ := I1.list qx
  obtain ⟨ws, rw', pw, _⟩ := I1.list qy
  refine call_zip_2 pu.isList pw.isList fun j y1 y2 y3 y4 y5 y6 y7 => wpAny_pyIter_zip y1 ⟨s1.heap.objs.size + 4, [s1.heap.objs.size + 4, s1.heap.objs.size + 2, s1.heap.objs.size + 3, s1.heap.objs.size, s1.heap.objs.size + 1], _, _, H1, rfl, I1.kept (t' := s1.toks) y7, turnZipH (PySem.W.ktu_apart s1.heap.objs.size a b pu.lt pw.lt), ⟨y1, y2, ⟨_, _, y3⟩, y4, y5⟩, fun c hm => ?_, q⟩
  have hle : s1.heap.objs.size ≤ c := by
    have e' : c = s1.heap.objs.size + 4 ∨ c = s1.heap.objs.size + 2 ∨ c = s1.heap.objs.size + 3 ∨ c = s1.heap.objs.size ∨ c = s1.heap.objs.size + 1 := by simpa using hm
    rcases e' with z | z | z | z | z <;> rw [z] <;> first | exact Nat.le_refl _ | exact Nat.le_add_right _ _
  exact I1.fpOk hle (I1.hok.fresh hle)
/-! ### the block of a comprehension that keeps a pin -/
abbrev blkH (X : Cx) (p : Addr × Obj) (s : Shared) (H : Hp) (scope : Scope) (cenv : Env) (fp : List Addr) : Cx := { X.blk s H scope cenv fp with pn := [p] }
theorem addPn {X : Cx} {p : Addr × Obj} {pins : List (Addr × Obj)} {σ : L2.St} {H : Hp} {s : Shared} (hX : X.pn = []) (I : Inv X pins σ H s) (hp : s.heap.get? p.1 = some p.2 ∧ H p.1 = none ∧ p.1 ≠ X.env.locals ∧ p.1 ∉ X.fs ∧ ∀ v, p.2.data ≠ .cell v) : Inv { X with pn := [p] } pins σ H s := by
  have ok := I.ok
  refine ⟨⟨ok.mod, ok.kind, ok.glob, ok.blt, ok.above, ok.inj, ok.has, ok.cab, ok.hd, ok.frames, ok.stk, ok.exf, ok.bs, ok.bsz, ok.noex, ok.exfs, ok.funs, ok.frf⟩, I.os, I.bare, I.base, I.loc, I.cell, I.free, I.freeC, fun q hq => ?_, I.hok, I.len⟩
  have hq' : q ∈ [p] ++ pins := hq
  rcases List.mem_append.mp hq' with z | z
  · have e : q = p := by simpa using z
    rw [e]
    exact hp
  · exact I.pin q (by rw [hX]; exact z)
theorem hotBlk {X : Cx} {p : Addr × Obj} {s : Shared} {H : Hp} {scope : Scope} {cenv : Env} {fp : List Addr} (h : Hot1 X.A p) : HotC (blkH X p s H scope cenv fp) := ⟨p, h, List.mem_cons_self⟩
theorem lcHot {X : Cx} {p : Addr × Obj} {pins : List (Addr × Obj)} {s : Shared} {σ : L2.St} {H : Hp} {Q : VK} {elt tg iter : Expr} {ifs : List Expr} {scope : Scope} {own : List (Str × Nat)} {pos : Pos} {wi : TI} {g : TG} {tt : TT} {te : TE}
    (hot : Hot1 X.A p) (hp : p ∈ X.pn) (hN : X.N.Nodup) (I : Inv X pins σ H s) (hi : PIH X tg iter wi) (ok : BlkOk X.N X.env.scope scope own)
    (hg : ∀ s H C cl fp, PG (blkH X p s H scope (compEnvC scope cl C X.env) fp) tg g) (ht : ∀ s H C cl fp, PTs (blkH X p s H scope (compEnvC scope cl C X.env) fp) ifs tt) (he : ∀ s H C cl fp, PE (blkH X p s H scope (compEnvC scope cl C X.env) fp) elt te)
    (hs : ∀ x, foldedSetIterable iter X.env x = pure x) (h : tLc wi g tt te (own.map (·.2)) σ H Q) : wpAny (model X.prog X.w) X.A (eval (.ListComp elt [⟨tg, iter, ifs, 0⟩] scope pos) X.env) (EP X pins σ Q) X.xe s := by
  rw [eval_ListComp]
  have caps : ∀ y ∈ scope.names, y.2 = .free → ∃ c, X.env.cells.lookup y.1 = some c := fun y hy e => (ok.free y hy e).elim (fun k => I.ok.has _ (.inl k)) (fun k => I.ok.has _ (.inr k))
  refine wpAny_comprehension_free (use := none) rfl hs (closure_ok caps) ok.kind (fun y hy e => by rw [ok.uniq y hy, e]) (thn (hi.run pins s σ H _ I h) fun xv s1 hx => thn hx fun itv s2 hx2 => ?_)
  obtain ⟨it, fp, tn, J, H2, rfl, I2, T, t2, f2, q⟩ := hx2
  refine wpAny_newObj_type (newEnv_comp ?_) (Nat.zero_le _)
  generalize eD : s2.heap.objs.size = D
  have freeD : H2 D = none := I2.hok.fresh (Nat.le_of_eq eD)
  obtain ⟨W, ⟨m0, w0⟩, turn⟩ := q D freeD
  generalize e3 : ({ s2 with heap := s2.heap.push { cls := .type "list", data := .seq ([] : List Value).toArray } } : Shared) = u3
  have hu3 : u3.heap = s2.heap.push { cls := .type "list", data := .seq ([] : List Value).toArray } := by rw [← e3]
  have I3 : Inv X pins σ (upd H2 D (.lst [])) u3 := by
    rw [← e3]
    exact I2.laid (t' := s2.toks) (fun b o e => Heap.get?_push_of_some _ e) (Nat.le_of_eq eD) ⟨Nat.zero_le _, [], 0, .nil, by rw [← eD]; exact Heap.get?_push_size _ rfl⟩
  have f3 : ∀ b ∈ fp, FpOk X pins (upd H2 D (.lst [])) b ∧ b < u3.heap.objs.size := fun b hb => by
    obtain ⟨o, e, _⟩ := T.obj _ _ t2 b hb
    have lt := Heap.lt_size e
    exact ⟨⟨by rw [upd_ne (by rw [← eD]; exact Nat.ne_of_lt lt)]; exact (f2 b hb).1, (f2 b hb).2⟩, by rw [hu3, Heap.size_push]; exact Nat.lt_succ_of_lt lt⟩
  have I4' := block_start I3 ok hN f3
  generalize eH : upd H2 D (.lst []) = H3 at I3 I4' w0 f3
  generalize ece : compEnvC scope (cellsFrom (u3.heap.objs.size + 1) scope.names (cloFrom X.env.cells scope.names [])) u3.heap.objs.size X.env = ce at I4'
  have cl0 : ce.locals = u3.heap.objs.size := by subst ece; rfl
  generalize e4 : ({ u3 with heap := pushCells (u3.heap.push { cls := .type "dict", data := .dict #[] }) scope.names } : Shared) = u4 at I4'
  have kept4 : ∀ b o, u3.heap.get? b = some o → u4.heap.get? b = some o := fun b o e => by rw [← e4]; exact pushCells_keeps _ _ _ _ (Heap.get?_push_of_some _ e)
  have p3 := I3.pin p (List.mem_append_left _ hp)
  have I4 : Inv (blkH X p u3 H3 scope ce fp) [] (wipe σ (own.map (·.2))) H3 u4 := by
    refine addPn rfl I4' ⟨kept4 _ _ p3.1, p3.2.1, ?_, fun z => ?_, p3.2.2.2.2⟩
    · show p.1 ≠ ce.locals
      rw [cl0]
      exact Nat.ne_of_lt (Heap.lt_size p3.1)
    · rcases List.mem_cons.mp (I3.stkSub p.1 z) with y | y
      · exact p3.2.2.1 y
      · exact p3.2.2.2.1 y
  have pg := hg u3 H3 u3.heap.objs.size (cellsFrom (u3.heap.objs.size + 1) scope.names (cloFrom X.env.cells scope.names [])) fp
  have pt := ht u3 H3 u3.heap.objs.size (cellsFrom (u3.heap.objs.size + 1) scope.names (cloFrom X.env.cells scope.names [])) fp
  have pe := he u3 H3 u3.heap.objs.size (cellsFrom (u3.heap.objs.size + 1) scope.names (cloFrom X.env.cells scope.names [])) fp
  rw [ece] at pg pt pe
  have t4 : tn 0 u4.heap := T.keep _ _ _ t2 fun b _ o e => kept4 b o (by rw [hu3]; exact Heap.get?_push_of_some _ e)
  have hb := hotBlk (X := X) (s := u3) (H := H3) (scope := scope) (cenv := ce) (fp := fp) hot
  have stat : ∀ {σ' : L2.St} {H' : Hp} {s' : Shared}, Inv (blkH X p u3 H3 scope ce fp) [] σ' H' s' → (∀ b ∈ fp, H' b = none) → ∀ b ∈ fp, FpOk (blkH X p u3 H3 scope ce fp) [] H' b := fun {σ' H' s'} I' hn b hb' => by
    refine ⟨hn b hb', (I'.ok.exf b hb').1, I'.ok.exfs b hb', .inl hb', fun x c e => (I'.ok.exf b hb').2 x c e, fun q hq => ?_⟩
    have eq : q = p := by simpa using (show q ∈ [p] ++ ([] : List (Addr × Obj)) from hq)
    rw [eq]
    exact (f3 b hb').1.2.2.2.2.2 p (List.mem_append_left _ hp)
  show codeAny _ _ (.compStart (.ListComp elt [⟨tg, iter, ifs, 0⟩] scope pos) 0 (.ref it) (.ref D) (compEnvC scope (cellsFrom (u3.heap.objs.size + 1) scope.names (cloFrom X.env.cells scope.names [])) u3.heap.objs.size X.env)) (compPost (model X.prog X.w) X.A X.xe none (EP X pins σ Q) (.ref D) u3.heap.objs.size) u4
  rw [ece]
  have loop : codeAny (model X.prog X.w) X.A (.compLoop (.ListComp elt [⟨tg, iter, ifs, 0⟩] scope pos) 0 (.ref it) (.ref D) ce) (compPost (model X.prog X.w) X.A X.xe none (EP X pins σ Q) (.ref D) u3.heap.objs.size) u4 := by
    refine compLoop_any (fun n s' => ∃ i H', Inv (blkH X p u3 H3 scope ce fp) [] (wipe σ (own.map (·.2))) H' s' ∧ tn i s'.heap ∧ (∀ b ∈ fp, H' b = none) ∧ W i n H') (fun n u5 ⟨i, H5, I5, t5, n5, w5⟩ => ?_) m0 ⟨0, H3, I4, t4, fun b hb' => (f3 b hb').1.1, w0⟩
    rcases turn i n H5 w5 with ⟨stop, qq⟩ | ⟨go, Nx, hNx, step⟩
    · refine thnF (T.done (blkH X p u3 H3 scope ce fp) rfl rfl rfl hb i [] u5 _ H5 (fun _ _ => False) I5 (stat I5 n5) t5 stop) fun r u6 ⟨hr, I6⟩ => ?_
      subst hr
      have I7 : Inv X pins σ H5 u6 := I3.call' (ch := fp) I6.os I6.base I6.hok I6.bare fun b hb' => ⟨(f3 b hb').1.2.2.2.1, (f3 b hb').1.2.1, (f3 b hb').1.2.2.2.2.1, (f3 b hb').1.2.2.2.2.2⟩
      obtain ⟨m, hn, _⟩ := I6.loc
      have fr : H5 ce.locals = none := I6.free
      replace hn : u6.heap.Ns ce.locals m := hn
      rw [cl0] at hn fr
      obtain ⟨y0, y1, y2, y3, y4, y5⟩ := I3.fpOk (H' := H5) (Nat.le_refl _) fr
      exact ⟨m, hn, fun h'' sb => ⟨.ref D, H5, I7.turned (t' := u6.toks) (fun b o hb' e => (sb.2 b hb').trans e) y0 y1 y3 y4 y5, rfl, qq⟩⟩
    · refine thnF (T.item (blkH X p u3 H3 scope ce fp) rfl rfl rfl hb i [] u5 _ H5 (fun _ _ => False) I5 (stat I5 n5) t5 go) fun r u6 ⟨v, hr, h6⟩ => ?_
      subst hr
      refine thnF h6 fun _ u7 ⟨x, H7, I7, r7, y7, t7, n7⟩ => ?_
      have J7 := I7.pinned (stat I7 n7) (T.obj _ _ t7)
      refine thnF (pg.run _ u7 _ H7 x v _ J7 r7 (step x H7 y7)) fun _ u8 ⟨σ8, H8, I8, hw8, q8⟩ => ?_
      refine thnF (pt.run _ u8 σ8 H8 _ I8 q8) fun b u9 ⟨H9, I9, q9⟩ => ?_
      have back : ∀ {s' : Shared} {H' : Hp}, Inv (blkH X p u3 H3 scope ce fp) ([] ++ pinsAt fp u7.heap) σ8 H' s' → Nx H' → ∃ m, m < n ∧ ∃ i H', Inv (blkH X p u3 H3 scope ce fp) [] (wipe σ (own.map (·.2))) H' s' ∧ tn i s'.heap ∧ (∀ b ∈ fp, H' b = none) ∧ W i m H' := fun {s' H'} K' nx => by
        obtain ⟨m', hm, w'⟩ := hNx H' nx
        have pin' : ∀ b ∈ fp, ∀ o, u7.heap.get? b = some o → s'.heap.get? b = some o ∧ H' b = none := fun b hb' o e => by
          have z := K'.pin (b, o) (List.mem_append_right _ (List.mem_append_right _ (mem_pinsAt hb' e)))
          exact ⟨z.1, z.2.1⟩
        refine ⟨m', hm, i + 1, H', (K'.unpinned (pins := [])).weak (by rw [← hw8, wipe_length]) (fun j v e => ?_), T.keep _ _ _ t7 fun b hb' o e => (pin' b hb' o e).1, fun b hb' => ?_, w'⟩
        · rw [← hw8] at e
          exact (wipe_some e).1
        · obtain ⟨o, e, _⟩ := T.obj _ _ t7 b hb'
          exact (pin' b hb' o e).2
      cases b with
      | false =>
        simp only [if_false, Bool.false_eq_true] at q9 ⊢
        exact back I9 q9
      | true =>
        simp only [if_true] at q9 ⊢
        refine thnF (pe.run _ u9 σ8 H9 _ I9 q9) fun z u10 ⟨yv, H10, I10, r10, acc, d10, z10, nx⟩ => ?_
        exact app_ok (X := blkH X p u3 H3 scope ce fp) I10 d10 z10 r10 fun u11 I11 => back I11 nx
  exact codeAny_compStart_list loop (T.self X.A 0 _ _ _ t4 loop)
theorem pe_lcH {X : Cx} {p : Addr × Obj} {elt tg iter : Expr} {ifs : List Expr} {scope : Scope} {own : List (Str × Nat)} {pos : Pos} {wi : TI} {g : TG} {tt : TT} {te : TE} (hot : Hot1 X.A p) (hp : p ∈ X.pn) (hN : X.N.Nodup) (hi : PIH X tg iter wi) (ok : BlkOk X.N X.env.scope scope own)
    (hg : ∀ s H C cl fp, PG (blkH X p s H scope (compEnvC scope cl C X.env) fp) tg g) (ht : ∀ s H C cl fp, PTs (blkH X p s H scope (compEnvC scope cl C X.env) fp) ifs tt) (he : ∀ s H C cl fp, PE (blkH X p s H scope (compEnvC scope cl C X.env) fp) elt te)
    (hs : ∀ x, foldedSetIterable iter X.env x = pure x := by intro _; rfl) : PE X (.ListComp elt [⟨tg, iter, ifs, 0⟩] scope pos) (tLc wi g tt te (own.map (·.2))) :=
  ⟨fun pins s σ H Q I h => lcHot hot hp hN I hi ok hg ht he hs h⟩
end Onp
set_option maxHeartbeats 4000000
set_option autoImplicit false
namespace Onp
open PySem PySem.Spec PyProof.Rows L2 HotX L2H
/-! ### try: body, except t1 as n: .. except t2 as n: .. -/
theorem fly_more {B h h' : Heap} {l : List Env} {e : Addr} {Z : Obj → Prop} (x : HandSPX.FlyingZ B l e Z h) (k : ∀ b o, h.get? b = some o → h'.get? b = some o) : HandSPX.FlyingZ B l e Z h' := by
  obtain ⟨x1, x2, x3, oe, vs, T, oT, ts, y1, y2, y3, y4, y5, y6, y7, y8, y9⟩ := x
  exact ⟨fun b o q => k _ _ (x1 b o q), x2, x3.of_keeps fun b o q _ => ⟨o, k b o q, rfl⟩, oe, vs, T, oT, ts, k _ _ y1, y2, y3, y4, y5, y6, k _ _ y7, y8, y9⟩
def TestOk (X : Cx) (t : Expr) (m : Value → Option Bool) : Prop :=
  ∀ (a : Addr) (pn : List (Addr × Obj)) (s : Shared) (σ : L2.St) (H : Hp) (cls : Value) (b : Bool) (Q : Bool → Shared → Prop) (E : Value → Shared → Prop), Inv (X.suite a pn) [] σ H s → PySem.W.Looks (model X.prog X.w) s.heap (typeOf (.ref a)) cls → m cls = some b →
    (∀ h', (∀ c o, s.heap.get? c = some o → h'.get? c = some o) → Q b { s with heap := h' }) →
    wpAny (model X.prog X.w) (X.A.mark (some (.ref a))) (eval t X.env) (fun c s1 => wpAny (model X.prog X.w) (X.A.mark (some (.ref a))) (excMatches (.ref a) c) Q E s1) E s
theorem test_name {X : Cx} {x : Str} {c : Value} {np : Pos} (hg : Gl X x) (hd : (x == ("__debug__" : Str)) = false) (hm : X.mg x = some c) : TestOk X (.Name x np) (fun cls => PySem.W.exmOne X.K cls c) := by
  intro a pn s σ H cls b Q E I LT hb q
  have LM := PySem.W.exm_one (M := model X.prog X.w) I.kIn LT hb
  exact ld_glob (X := X.suite a pn) I hg hm (LM.here (q _ fun _ _ z => z)) hd
theorem test_three {X : Cx} {x y z : Str} {c1 c2 c3 : Addr} {p1 p2 p3 tp : Pos} {k : Nat} (g1 : Gl X x) (g2 : Gl X y) (g3 : Gl X z) (d1 : (x == ("__debug__" : Str)) = false) (d2 : (y == ("__debug__" : Str)) = false) (d3 : (z == ("__debug__" : Str)) = false)
    (m1 : X.mg x = some (.ref c1)) (m2 : X.mg y = some (.ref c2)) (m3 : X.mg z = some (.ref c3)) (hst : starEach [.Name x p1, .Name y p2, .Name z p3] X.env = [(false, eval (.Name x p1) X.env), (false, eval (.Name y p2) X.env), (false, eval (.Name z p3) X.env)] := by rfl) :
    TestOk X (.Tuple [.Name x p1, .Name y p2, .Name z p3] k tp) (fun cls => PySem.W.exmAny X.K cls [.ref c1, .ref c2, .ref c3]) := by
  intro a pn s σ H cls b Q E I LT hb q
  have kp : ∀ c o, s.heap.get? c = some o → (s.heap.push { cls := .type "tuple", data := .seq [Value.ref c1, .ref c2, .ref c3].toArray }).get? c = some o := fun c o e => Heap.get?_push_of_some _ e
  refine wpAny_Tuple_spliced ?_
  rw [hst]
  show wpAny _ _ (spliced ((false, eval (.Name x p1) X.env) :: (false, eval (.Name y p2) X.env) :: (false, eval (.Name z p3) X.env) :: [])) _ _ s
  refine Calls.spliced_cons (ld_glob (X := X.suite a pn) I g1 m1 ?_ d1)
  refine Calls.spliced_cons (ld_glob (X := X.suite a pn) I g2 m2 ?_ d2)
  refine Calls.spliced_cons (ld_glob (X := X.suite a pn) I g3 m3 ?_ d3)
  refine Calls.spliced_nil ⟨(by decide : 3 ≤ sizeLine), ?_⟩
  exact (PySem.W.exm_tup3 (M := model X.prog X.w) (I.kIn.keeps kp) (LT.keeps kp) (Heap.get?_push_size _ rfl) hb).here (q _ kp)
abbrev Clause := (Value → Option Bool) × (Addr → Value → Option Addr → TS)
def clr (i : Nat) (D : Ends) : Ends := { nx := fun σ' H' => D.nx (σ'.set i none) H', rt := D.rt, bk := fun σ' H' => D.bk (σ'.set i none) H', ct := fun σ' H' => D.ct (σ'.set i none) H' }
def wClauses (i : Nat) (Wout : WX) (D : Ends) : List Clause → WX
  | [] => Wout
  | (m, ts) :: r => fun cls d σ H => ∃ b, m cls = some b ∧ (b = true → ∀ a, H a = none → ts a cls d (clr i D) (σ.set i (some (.ref a))) H) ∧ (b = false → wClauses i Wout D r cls d σ H)
inductive Clauses (X : Cx) (n : Str) : List ExceptHandler → List Clause → Prop
  | nil : Clauses X n [] []
  | cons {t : Expr} {m : Value → Option Bool} {ts : Addr → Value → Option Addr → TS} {b₀ : Stmt} {suite : List Stmt} {pos' : Pos} {hds : List ExceptHandler} {l : List Clause} (ht : TestOk X t m)
      (hsu : ∀ (a : Addr) (oe : Obj) (cls : Value) (d : Option Addr) (pn : List (Addr × Obj)), L2N.Zn cls d oe → (∃ vs, oe.data = .fields vs) → PSs (X.suite a ((a, oe) :: pn)) (b₀ :: suite) (ts a cls d)) (r : Clauses X n hds l) :
      Clauses X n (.ExceptHandler (some t) (some n) (b₀ :: suite) pos' :: hds) ((m, ts) :: l)
theorem ps_try_clauses {X : Cx} {n : Str} {i : Nat} {body : List Stmt} {h₀ : ExceptHandler} {hds : List ExceptHandler} {l : List Clause} {pos : Pos} {tb : WX → TS} {Wout : WX} (hs : X.stack = X.env :: X.outer) (hf : X.env.frame = some X.env.locals) (hN : X.N.Nodup) (hi : X.N[i]? = some n)
    (hln : X.env.kindOf n = some .local) (tk : L2N.Takes X Wout)
    (hb : ∀ (W : WX) (pn : List (Addr × Obj)) (xe : Value → Shared → Prop), L2N.Takes (X.tr pn xe) W → PassesOwn (model X.prog X.w) X.A X.env xe → PSs (X.tr pn xe) body (tb W)) (hh : Clauses X n (h₀ :: hds) l) :
    PS X (.Try body (h₀ :: hds) [] [] pos) (fun D σ H => tb (fun cls d σ H => σ.length = X.N.length → wClauses i Wout D l cls d σ H) D σ H) := by
  refine ⟨fun pins s σ H D I h => wpAny_Try_except ?_⟩
  have ok := I.ok
  have efr : X.A.frames = some (X.env :: X.outer) := by rw [ok.frames, hs]
  refine wpAny_mono ((hb (fun cls d σ H => σ.length = X.N.length → wClauses i Wout D l cls d σ H) (X.pn ++ pins) _ (fun u s' xx => ?_) PassesOwn.looking).run [] s σ H D (I.toTry _) h) (fun f s1 hsp => ?_) (fun e s1 he => he)
  · obtain ⟨a, B, sI, pins', σ', H', cls, d, rfl, J', nb, up, sky, na, os, ag, w⟩ := xx
    have J : Inv X pins σ' H' sI := J'.ofTry ok
    rw [hs] at sky
    show wpAny (model X.prog X.w) X.A (noteFrame (.ref a) X.env) _ _ _
    refine L2N.Sky.land L2N.Zn.steady efr hf sky fun h3 fl3 up3 => ?_
    have go : ∀ {hds' : List ExceptHandler} {l' : List Clause}, Clauses X n hds' l' → wClauses i Wout D l' cls d σ' H' → ∀ h4, HandSPX.FlyingZ B (X.env :: X.outer) a (L2N.Zn cls d) h4 → sI.heap.UpToSlots h4 →
        wpAny (model X.prog X.w) X.A (handleBy (.ref a) X.env hds') (SP X pins D) X.xe { s' with heap := h4 } := by
      intro hds' l' hk
      induction hk with
      | nil =>
        intro w h4 fl up4
        refine wpAny_handleBy_nil ?_
        obtain ⟨_, _, _, oe, vs, T, oT, ts', y1, y2, y3, y4, _⟩ := id fl
        unfold PySem.passOn
        refine wpAny_bind (wpAny_field y1 y3 y4 ?_)
        rw [if_neg (by simp : ¬ ((Value.ref T == Value.none) = true))]
        have fin : wpAny (model X.prog X.w) X.A (setFlight (.ref a) X.env.frame) (fun _ s4 => wpAny (model X.prog X.w) X.A (throw (.ref a) : Sem Flow) (SP X pins D) X.xe s4) X.xe { s' with heap := h4 } := by
          rw [hf]
          exact HandSPX.setFlight_upZ fl fun h5 hh5 up5 => wpAny_throw (tk _ _ ⟨a, B, sI, pins, σ', H', cls, d, rfl, J, nb, up4.trans up5, .inr (.inr (by rw [hs]; exact hh5)), na, os, ag, w⟩)
        first
          | exact wpAny_bind (wpAny_pure (wpAny_bind fin))
          | exact wpAny_bind fin
      | @cons t m ts b₀ suite pos' hds2 l2 ht hsu r ih =>
        intro w h4 fl up4
        obtain ⟨b, hb1, hyes, hno⟩ := w
        obtain ⟨oe, vs, ge, gz, gd⟩ := fl.there
        have J4 : Inv X pins σ' H' { s' with heap := h4 } := J.landed nb fl.1 up4 os ag
        have nfr : a ∉ frs (X.env :: X.outer) := fun hm => by
          obtain ⟨_, o', e', hnf⟩ := fl.2.2.1.mem hm
          rw [ge] at e'
          cases e'
          exact hnf _ gd
        have nL : a ≠ X.env.locals := fun z => nfr (List.mem_filterMap.mpr ⟨X.env, List.mem_cons_self, by rw [hf, z]⟩)
        have nF : a ∉ X.fs := fun hm => by
          obtain ⟨e, he, q⟩ := List.mem_filterMap.mp hm
          exact nfr (List.mem_filterMap.mpr ⟨e, List.mem_cons_of_mem _ he, q⟩)
        refine wpAny_handleBy_cons (codeAny_handlers_test ?_) (by intro q; cases q)
        refine ht a _ _ σ' H' cls b _ _ (J4.suite ge gd na nL nF) (fun A Q E s k q => wpAny_typeOf_ref (k _ _ ge) (by rw [gz.1]; exact q)) hb1 fun h5 k5 => ?_
        have fl5 := fly_more fl k5
        have up5 : sI.heap.UpToSlots h5 := up4.trans fun b o e _ => ⟨o.slots, k5 b o e⟩
        cases b with
        | true =>
          refine codeAny_handlers_suite_as (HandSPX.lands_againZ fl5 fun h6 fl6 up6 => ?_)
          have J6 : Inv X pins σ' H' { s' with heap := h6 } := J.landed nb fl6.1 (up5.trans up6) os ag
          obtain ⟨oe6, vs6, ge6, gz6, gd6⟩ := fl6.there
          refine store_ok (X := X.suite a ((a, oe6) :: (X.pn ++ pins))) (v := .ref a) (J6.suite ge6 gd6 na nL nF) hN hi (.inl hln) rfl (fun s7 S7 => ?_) (.inr hln)
          refine wpAny_mono ((hsu a oe6 cls d (X.pn ++ pins) gz6 ⟨_, gd6⟩).run [] s7 _ H' _ S7 (hyes rfl a na)) (fun f s8 hsp => ?_) (fun _ _ z => False.elim z)
          have away : ∀ {σ8 : L2.St} {H8 : Hp} {Q : Shared → Prop}, Inv (X.suite a ((a, oe6) :: (X.pn ++ pins))) [] σ8 H8 s8 → (∀ s9, Inv X pins (σ8.set i none) H8 s9 → Q s9) →
              wpAny (model X.prog X.w) X.A (do bindName X.env n .none; unbindBehindTheSuite X.env n pos') (fun _ s9 => Q s9) X.xe s8 := fun {σ8 H8 Q} S8 hq => gone_ok (S8.unsuite ok) hN hi hln hq
          cases f with
          | next => obtain ⟨σ8, H8, S8, q8⟩ := hsp; exact away S8 fun s9 J9 => ⟨_, _, J9, q8⟩
          | brk => obtain ⟨σ8, H8, S8, q8⟩ := hsp; exact away S8 fun s9 J9 => ⟨_, _, J9, q8⟩
          | cont => obtain ⟨σ8, H8, S8, q8⟩ := hsp; exact away S8 fun s9 J9 => ⟨_, _, J9, q8⟩
          | ret u => obtain ⟨v8, σ8, H8, S8, r8, q8⟩ := hsp; exact away S8 fun s9 J9 => ⟨_, _, _, J9, r8, q8⟩
        | false =>
          show wpAny _ X.A (handleBy (.ref a) X.env hds2) _ _ _
          exact ih (hno rfl) h5 fl5 up5
    exact go hh (w J.len) h3 fl3 (up.trans up3)
  · cases f with
    | next => obtain ⟨σ', H', J', q⟩ := hsp; exact wpAny_execs_nil ⟨σ', H', J'.ofTry ok, q⟩
    | brk => obtain ⟨σ', H', J', q⟩ := hsp; exact ⟨σ', H', J'.ofTry ok, q⟩
    | cont => obtain ⟨σ', H', J', q⟩ := hsp; exact ⟨σ', H', J'.ofTry ok, q⟩
    | ret u => obtain ⟨v, σ', H', J', r, q⟩ := hsp; exact ⟨v, σ', H', J'.ofTry ok, r, q⟩
/-! ### a raise of an own error, made by its __init__ -/
theorem mkRunN {X : Cx} {pins : List (Addr × Obj)} {σ : L2.St} {H1 : Hp} {s1 : Shared} {C fI : Addr} {k : Nat} {fd : FuncData} {ps : List Str} {sp : Sp} {us : List Value} {vs : List V} {Q : XK} (T : OexC X.K C) (iC : PySem.W.findIn X.K (.ref C) "__init__" = some (some (.ref fI)))
    (tI : PySem.W.typeIn X.K (.ref fI) = some (.type "function")) (F1 : FnOk X.prog X.w X.K X.mg X.base CX0 k fI fd ps sp) (hr : Room (k + 1) X.A) (hb : Binds X.K fd ps []) (I1 : Inv X pins σ H1 s1) (r1 : Vals vs us) (hz : vs.length ≤ 1000)
    (q1 : ∀ a, H1 a = none → sp (.ref a :: vs) (upd H1 a (exo a C none)) (fun v H2 => v = .non ∧ ∃ (d : Addr) (fs : List (Str × V)), H2 a = some (exo a C (some d)) ∧ H2 d = some (exd d fs) ∧ H1 d = none ∧ Q (.ref C) (some d) (upd (del H2 a) d (.xd fs))) (fun _ _ _ => False)) :
    wpAny (model X.prog X.w) X.A (call (.ref C) us) (L2N.MkP X pins σ Q) X.xe s1 := by
  obtain ⟨nm, q, N, bs, bm, sn, sub, ab, col, dd, k0, k1, k2, k3, k5, hC, hbm⟩ := T.cls
  obtain ⟨hp, g, dr, tk, os⟩ := s1
  have le1 : hp.objs.size ≤ hp.objs.size + 1 := Nat.le_succ _
  have hq := q1 (hp.objs.size + 1) (I1.hok.fresh le1)
  have kk : ∀ b o, hp.get? b = some o → ((hp.push (PySem.W.kdv_tup us)).push (PySem.HandSPX.excO C hp.objs.size)).get? b = some o := fun b o e => Heap.get?_push_of_some _ (Heap.get?_push_of_some _ e)
  have hget : ((hp.push (PySem.W.kdv_tup us)).push (PySem.HandSPX.excO C hp.objs.size)).get? (hp.objs.size + 1) = some (PySem.HandSPX.excO C hp.objs.size) := by heap_get
  have I2 := I1.laid (t' := tk) (a := hp.objs.size + 1) (o := exo (hp.objs.size + 1) C none) (h' := (hp.push (PySem.W.kdv_tup us)).push (PySem.HandSPX.excO C hp.objs.size)) kk le1 (exo_ok hget)
  have r2 : Vals (V.ref (hp.objs.size + 1) :: vs) (Value.ref (hp.objs.size + 1) :: us) := .cons rfl r1
  have hl : (Value.ref (hp.objs.size + 1) :: us).length = ps.length := by rw [← r2.length]; exact F1.len _ _ _ _ hq
  have hbd := hb ⟨(hp.push (PySem.W.kdv_tup us)).push (PySem.HandSPX.excO C hp.objs.size), g, dr, tk, os⟩ (Value.ref (hp.objs.size + 1) :: us) I2.kIn (by rw [List.append_nil]; exact hl)
  rw [List.append_nil] at hbd
  have hus : us.length ≤ sizeLine := by
    rw [← Paired.length r1, sizeLine_eq]
    omega
  refine wpAny_call (PySem.HandSPX.call_own F.excBase_ValueError (fun Y => PySem.HandSPX.refsVE_contains Y bm hbm) (I1.kIn _ _ hC) (PySem.W.looks_findIn I1.kIn iC) (fun self => PySem.W.bind_fn I1.kIn self tI) hus
    (codeAny_mono (F1.run _ X.stack _ _ ⟨Value.ref (hp.objs.size + 1) :: us, []⟩ (Value.ref (hp.objs.size + 1) :: us) _ _ (fun _ _ _ => False) (hr.make C us []) (I2.env0.make C us []) hbd r2 hq) fun r s' hq' => ?_))
  cases r with
  | error er => exact (show False from hq').elim
  | ok fl =>
    cases fl with
    | ret u =>
      obtain ⟨v, H2, os2, bare2, un2, hok2, rv, ev, d, fs, ea, ed, hd1, q2⟩ := hq'
      subst ev
      obtain ⟨h2, g2, d2, t2, os'⟩ := s'
      obtain ⟨t0, G, J, kG, ge, hoe, na⟩ := mk_end0 (d2 := d2) (t2 := t2) I1 le1 kk un2 hok2 os2 bare2 ea ed hd1
      exact ⟨rv, _, _, _, ⟨G, g2, d2, t2, os'⟩, _, .ref C, some d, rfl, J, kG, ge, hoe, ⟨rfl, rfl, fun vs e => by cases e; rfl⟩, rfl, rfl, na, rfl, bare2, raises_own T.exC T.tyC, q2⟩
    | next => exact False.elim hq'
    | brk => exact False.elim hq'
    | cont => exact False.elim hq'
/-- the heap behind the making: the error's own dict, and nothing else, is new -/
theorem made_heap {H : Hp} {a d : Addr} {o1 : HO} {fs : List (Str × V)} (ha : H a = none) (hd : H d = none) (n : d ≠ a) {o2 : HO} : upd (del (upd (upd (upd H a o1) d (exd d fs)) a o2) a) d (.xd fs) = upd H d (.xd fs) := by
  funext b
  by_cases e1 : b = d
  · rw [e1, upd_same, upd_same]
  · rw [upd_ne e1, upd_ne e1]
    by_cases e2 : b = a
    · rw [e2, del_same, ha]
    · rw [del_ne e2, upd_ne e2, upd_ne e1, upd_ne e2]
/-- the promise of an __init__ that sets word alone -/
def spWord (C : Addr) (wd : Str) : Sp := fun vs H Q _ => ∃ a, vs = [.ref a] ∧ H a = some (exo a C none) ∧ ∀ dx, H dx = none → dx ≠ a → Q .non (upd (upd H dx (exd dx [("word", .str wd)])) a (exo a C (some dx)))
def tRaiseW (C : Addr) (wd : Str) : L2.St → Hp → XK → Prop := fun σ H Q => ∀ d, H d = none → Q (.ref C) (some d) (upd H d (.xd [("word", .str wd)]))
theorem pmk_word {X : Cx} {x wd : Str} {C fI : Addr} {k : Nat} {fd : FuncData} {p pos : Pos} (T : OexC X.K C) (iC : PySem.W.findIn X.K (.ref C) "__init__" = some (some (.ref fI))) (tI : PySem.W.typeIn X.K (.ref fI) = some (.type "function"))
    (F1 : FnOk X.prog X.w X.K X.mg X.base CX0 k fI fd ["self"] (spWord C wd)) (hr : Room (k + 1) X.A) (hb : Binds X.K fd ["self"] []) (hg : Gl X x) (hm : X.mg x = some (.ref C)) (hdb : (x == ("__debug__" : Str)) = false := by decide) :
    L2N.PMk X (.Call (.Name x p) [] [] pos) (tRaiseW C wd) := by
  intro pins s σ H Q I h
  refine wpAny_Call_Name_kw (ld_glob I hg hm ?_ hdb)
  refine PySem.W.callWith_K0 I.kIn T.kC (mkRunN T iC tI F1 hr hb I .nil (Nat.zero_le _) fun a ha => ⟨a, rfl, upd_same, fun dx ndx ne => ⟨rfl, dx, [("word", .str wd)], upd_same, ?_, ?_, ?_⟩⟩)
  · rw [upd_ne ne, upd_same]
  · rw [upd_ne ne] at ndx
    exact ndx
  · rw [upd_ne ne] at ndx
    rw [made_heap ha ndx ne]
    exact h dx ndx
end Onp
set_option maxHeartbeats 4000000
set_option autoImplicit false
namespace Onp
open PySem PySem.Spec PyProof.Rows L2 HotX L2H
/-! ### a def that may raise, its errors with no context -/
theorem okN {P : Program} {w : World} {K : PySem.W.Frag} {mg : Str → Option Value} {base : Heap} {x qual : Str} {st : Stmt} {f : Addr} {fd : FuncData} {N ps : List Str} {k : Nat} {sp : Sp} (F : Fun K x qual st f fd) (S : FnScope N ps (defScope st)) (len : ∀ vs H Q E, sp vs H Q E → vs.length = ps.length)
    (hbody : ∀ (cdv : Value) (A : Around) (outer : List Env) (s : Shared) (H : Hp) (vs : List V) (Q : VK) (E : XK), Room k (A.deeper (envOfC qual (defScope st) s.heap.objs.size f cdv)) → sp vs H Q E →
      ∃ t, PSs (cxOf (L2N.CX P w) P w K mg base N qual (defScope st) f cdv A outer s H E) (defBody st) t ∧ t { nx := fun _ H' => Q .non H', rt := Q } (start N vs) H) : FnOk P w K mg base (L2N.CX P w) (k + 1) f fd ps sp := by
  obtain ⟨oc, od, kV, doc, pm, an, cdv, ct, osl, rfl, lk, hcd⟩ := F.ex
  exact fn_of lk hcd S len fun A outer s H vs Q E hr hsp => hbody cdv A outer s H vs Q E hr hsp
/-! ### a def that is called with the handled exception -/
def FnPin (P : Program) (w : World) (K : PySem.W.Frag) (mg : Str → Option Value) (base : Heap) (k : Nat) (f : Addr) (fd : FuncData) (ps : List Str) (sp : Addr × Obj → List V → Hp → VK → Prop) : Prop :=
  ∀ (A : Around) (outer : List Env) (s : Shared) (H : Hp) (us : List Value) (vs : List V) (Q : VK) (p : Addr × Obj), RoomH k A → Hot1 A p → PinOk outer H s p → Env0 P w K mg base A outer s H → BindsTo s fd ⟨us, []⟩ (ps.zip us) → Vals vs us → vs.length = ps.length → sp p vs H Q →
    codeAny (model P w) A (.call (.ref f) ⟨us, []⟩) (CR CX0 outer P w H s Q E0) s
theorem okPin {P : Program} {w : World} {K : PySem.W.Frag} {mg : Str → Option Value} {base : Heap} {x qual : Str} {st : Stmt} {f : Addr} {fd : FuncData} {N ps : List Str} {k : Nat} {sp : Addr × Obj → List V → Hp → VK → Prop} (F : Fun K x qual st f fd) (S : FnScope N ps (defScope st))
    (hbody : ∀ (cdv : Value) (A : Around) (outer : List Env) (s : Shared) (H : Hp) (vs : List V) (Q : VK) (p : Addr × Obj), Hot1 A p → RoomH k (A.deeper (envOfC qual (defScope st) s.heap.objs.size f cdv)) → sp p vs H Q →
      ∃ t, PSs (cxH CX0 P w K mg base N qual (defScope st) f cdv A outer s H E0 p) (defBody st) t ∧ t { nx := fun _ H' => Q .non H', rt := Q } (L2.start N vs) H) : FnPin P w K mg base (k + 1) f fd ps sp := by
  obtain ⟨oc, od, kV, doc, pm, an, cdv, ct, osl, rfl, lk, hcd⟩ := F.ex
  intro A outer s H us vs Q p hr hot hpin e0 hb r hl hsp
  have KX : K.In s.heap := e0.mod.kin.keeps fun b o e => (e0.bs b o e).1
  have lim : s.heap.NoLimit := e0.mod.nolimit.keeps fun b o e => (e0.bs b o e).1
  refine codeAny_call_function hr.depth (KX _ _ lk) rfl S.co S.gen rfl (PySem.W.codeRec_of KX hcd) (hb _ _ _ _ ?_)
  refine wpAny_newFunctionEnv_cells S.kind (fun ⟨n, v⟩ hy => (S.par n (List.of_mem_zip hy).1).imp id fun q => ⟨q, PySem.W.cellsFrom_some _ _ _ (.inl q)⟩) fun env he s1 y => ?_
  subst he
  refine ⟨lim.keeps y.toInCall.keep, codeAny_func ?_⟩
  obtain ⟨t, ht, hq⟩ := hbody cdv A outer s H vs Q p hot (hr.deeper _) hsp
  refine wpAny_mono (ht.run [] s1 (L2.start N vs) H _ (inv_startH S hpin e0 hl r y) hq) (fun fl s' hs => ?_) fun e s' hs => hs
  cases fl with
  | ret u => obtain ⟨v, σ', H', J, rv, q⟩ := hs; exact ⟨v, H', J.os, J.bare, J.base, J.hok, rv, q⟩
  | next => obtain ⟨σ', H', J, q⟩ := hs; exact ⟨.non, H', J.os, J.bare, J.base, J.hok, rfl, q⟩
  | brk => obtain ⟨_, _, _, q⟩ := hs; exact False.elim q
  | cont => obtain ⟨_, _, _, q⟩ := hs; exact False.elim q
theorem pe_callPin {X : Cx} {k : Nat} {f : Addr} {fd : FuncData} {ps : List Str} {sp : Addr × Obj → List V → Hp → VK → Prop} {x : Str} {q pos : Pos} {e : Expr} {es : List Expr} {t : TA} {p : Addr × Obj} (F : FnPin X.prog X.w X.K X.mg X.base k f fd ps sp) (hr : RoomH k X.A) (hot : Hot1 X.A p) (hp : p ∈ X.pn)
    (hg : Gl X x) (hm : X.mg x = some (.ref f)) (hk : PySem.W.keepIn X.K (.ref f) = true) (hb : Binds X.K fd ps []) (ha : PA X (e :: es) t) (hdb : (x == ("__debug__" : Str)) = false := by decide)
    (he : starEach (e :: es) X.env = (false, eval e X.env) :: starEach es X.env := by rfl) (hpl : (backTo pos (starEach es X.env)).any (·.1) = false := by rfl) :
    PE X (.Call (.Name x q) (e :: es) [] pos) (fun σ H Q => t σ H fun vs H1 => vs.length = ps.length ∧ sp p vs H1 Q) := by
  refine ⟨fun pins s σ H Q I h => wpAny_Call_Name_kw (ld_glob I hg hm ?_ hdb)⟩
  refine PySem.W.callWith_K (h₀ := X.base) I.ok.mod.kin hk (thn (ha.run pos pins s σ H _ I h) fun us s1 ⟨vs, H1, I1, r, hl, q⟩ => ⟨I1.kIn, ?_⟩) he hpl
  have b := hb s1 us I1.kIn (by rw [List.append_nil, ← r.length]; exact hl)
  rw [List.append_nil] at b
  have P1 := I1.pin p (List.mem_append_left _ hp)
  have hpin : PinOk X.stack H1 s1 p := ⟨P1.1, P1.2.1, fun z => (List.mem_cons.mp (I1.stkSub p.1 z)).elim P1.2.2.1 P1.2.2.2.1, P1.2.2.2.2⟩
  refine wpAny_call (codeAny_mono (F X.A X.stack s1 H1 us vs Q p hr hot hpin I1.env0 b r hl q) fun r s' hq => ?_)
  cases r with
  | error e => exact (show False from hq).elim
  | ok fl =>
    cases fl with
    | ret u => exact I1.after hq
    | next => exact False.elim hq
    | brk => exact False.elim hq
    | cont => exact False.elim hq
/-! ### what is asked of a pinned exception -/
structure ErrC (K : PySem.W.Frag) (D : Addr) : Prop where
  cl : (PySem.W.clsIn K D).isSome = true
  ga : PySem.W.findIn K (.ref D) "__getattribute__" = some (some (.builtin "BaseException.__getattribute__"))
  gg : PySem.W.findIn K (.ref D) "__getattr__" = some none
  sb : PySem.W.subIn K (.ref D) (.type "BaseException") = some true
  cc : PySem.W.findIn K (.ref D) "__class__" = some (some (.builtin "object.__class__"))
  gs : PySem.W.specialIn K (.builtin "object.__class__") "__get__" = some (some (.builtin "getset_descriptor.__get__"))
  tk : PySem.W.takesIn K (.builtin "object.__class__") = some true
  mo : PySem.W.mroIn K D (.type "object") = some true
  hd : PySem.W.hasDictIn K D = true
theorem inst_pin {X : Cx} {pins : List (Addr × Obj)} {σ : L2.St} {H : Hp} {s : Shared} {p : Addr × Obj} {D d : Addr} {fs : List (Str × V)} (I : Inv X pins σ H s) (hp : p ∈ X.pn) (hz : Zc (.ref D) (some d) p.2) (hf : ∃ vs, p.2.data = .fields vs) (hd : H d = some (.xd fs)) :
    ∃ od, PySem.W.InstAt s.heap p.1 p.2 D (some od) ∧ ∃ mA : Str → Option Value, (∀ f, RelO (fs.lookup f) (mA f)) ∧ ∀ name, PySem.W.lookIn name od = some (mA name) := by
  obtain ⟨mA, hns, hr⟩ := (show ∃ mA, s.heap.Ns1 d mA ∧ ∀ f, RelO (fs.lookup f) (mA f) from I.hok d _ hd)
  obtain ⟨od, ho, hl⟩ := lookIn_ns hns
  obtain ⟨vs, hv⟩ := hf
  exact ⟨od, ⟨(I.pin p (List.mem_append_left _ hp)).1, hz.1, by unfold PySem.W.notCls; rw [hv] <;> rfl, by rw [hz.2]; exact ho⟩, mA, hr, hl⟩
theorem call_isP {X : Cx} {p : Addr × Obj} {D d : Addr} (C : ErrC X.K D) (hp : p ∈ X.pn) (hz : Zc (.ref D) (some d) p.2) (hf : ∃ vs, p.2.data = .fields vs) :
    CallR X (.builtin "isinstance") (fun xs H Q => ∃ (c : Addr) (b : Bool) (fs : List (Str × V)), xs = [.ref p.1, .ref c] ∧ H d = some (.xd fs) ∧ PySem.W.kitOne X.K (.ref D) (.ref c) = some b ∧ Q (.bl b) H) := by
  intro pins s σ H xs us Q I r h
  obtain ⟨c, b, fs, rfl, hd, e, q⟩ := h
  obtain ⟨u, v, rfl, ru, rv⟩ := vals2 r
  cases ru
  cases rv
  obtain ⟨od, J, _⟩ := inst_pin I hp hz hf hd
  exact PySem.W.kia_one (PySem.W.kitx_exc C.cl C.ga C.gg C.sb C.cc C.gs C.tk C.mo) I.kIn J e (fun z => nomatch z) fun tk => ⟨.bl b, H, I.kept (t' := tk) fun _ _ z => z, rfl, q⟩
/-- e.f of it -/
theorem pe_fldP {X : Cx} {p : Addr × Obj} {D d : Addr} {e : Expr} {te : TE} {pos : Pos} {n : Str} (C : ErrC X.K D) (hno : PySem.W.findIn X.K (.ref D) n = some none) (hp : p ∈ X.pn) (hz : Zc (.ref D) (some d) p.2) (hf : ∃ vs, p.2.data = .fields vs) (he : PE X e te)
    (hb : attributeBase e n X.env (eval e X.env) = eval e X.env := by rfl) : PE X (.Attribute e n pos) (fun σ H Q => te σ H fun x H1 => x = .ref p.1 ∧ ∃ (fs : List (Str × V)) (v : V), H1 d = some (.xd fs) ∧ fs.lookup n = some v ∧ Q v H1) := by
  refine ⟨fun pins s σ H Q I h => attr_of hb (thn (he.run pins s σ H _ I h) fun u s1 ⟨x, H1, I1, rx, ex, fs, v, hd, l, q⟩ => ?_)⟩
  subst ex
  obtain rfl : u = Value.ref p.1 := rx
  obtain ⟨od, J, mA, hr, hl⟩ := inst_pin I1 hp hz hf hd
  obtain ⟨u, hu, ru⟩ := RelO.some_of (v := v) (o := mA n) (by rw [← l]; exact hr n)
  exact HandSPX.exc_get I1.kIn J C.ga C.gg C.sb (PySem.W.findObj_own C.hd hno rfl (by rw [hl, hu])) (handed_of ru) ⟨v, H1, I1.tok _, ru, q⟩
/-! ### a comprehension over zip, the first list no longer -/
theorem lc_zip1 {K : PySem.W.Frag} {a b : Addr} {xs ys : List V} {g : TG} {tt : TT} {te : TE} {vs : List Nat} {σ : L2.St} {H1 : Hp} {D : Addr} {Qd : Hp → Prop} (hl : xs.length ≤ ys.length) (Pv : Nat → Hp → Prop) (h0 : Pv 0 (upd H1 D (.lst []))) (hq : ∀ i H, Pv i H → SqL K H a xs ∧ SqL K H b ys)
    (hs : ∀ i x y T H, xs[i]? = some x → ys[i]? = some y → Pv i H → H T = none → g (.ref T) (wipe σ vs) (upd H T (.tup [x, y])) fun σ2 H2 => wipe σ2 vs = wipe σ vs ∧ tt σ2 H2 fun b H3 =>
      if b = true then te σ2 H3 fun y H4 => ∃ acc, H4 D = some (.lst acc) ∧ acc.length < sizeLine ∧ Pv (i + 1) (upd H4 D (.lst (acc ++ [y]))) else Pv (i + 1) H3) (hd : ∀ H, Pv xs.length H → Qd H) :
    ∃ W : Nat → Nat → Hp → Prop, (∃ m, W 0 m (upd H1 D (.lst []))) ∧ ∀ i m H, W i m H → ((Itz1 K a b).stop i H ∧ Qd H) ∨ ((Itz1 K a b).go i H ∧ ∃ Nx : Hp → Prop, (∀ H', Nx H' → ∃ m', m' < m ∧ W (i + 1) m' H') ∧
      ∀ x H', (Itz1 K a b).yld i H x H' → g x (wipe σ vs) H' fun σ2 H2 => wipe σ2 vs = wipe σ vs ∧ tt σ2 H2 fun b H3 => if b = true then te σ2 H3 fun y H4 => ∃ acc, H4 D = some (.lst acc) ∧ acc.length < sizeLine ∧ Nx (upd H4 D (.lst (acc ++ [y]))) else Nx H3) := by
  refine ⟨fun i m H => m = xs.length - i ∧ i ≤ xs.length ∧ Pv i H, ⟨xs.length, by simp, Nat.zero_le _, h0⟩, fun i m H ⟨em, hi, p⟩ => ?_⟩
  obtain ⟨qa, qb⟩ := hq i H p
  by_cases lt : i < xs.length
  · have lt2 : i < ys.length := by omega
    refine .inr ⟨⟨xs, ys, xs[i], ys[i], qa, qb, List.getElem?_eq_getElem lt, List.getElem?_eq_getElem lt2⟩, Pv (i + 1), fun H' p' => ⟨xs.length - (i + 1), by omega, rfl, lt, p'⟩, fun x H' hy => ?_⟩
    obtain ⟨T, x1, x2, rfl, nT, rfl, e1, e2⟩ := hy
    exact hs i x1 x2 T H (e1 _ qa) (e2 _ qb) p nT
  · have e : i = xs.length := by omega
    subst e
    exact .inl ⟨⟨xs, ys, qa, qb, Nat.le_refl _⟩, hd H p⟩
/-! ### the lambda that a def got, called in its try: errors with no context -/
def lamCxN (X : Cx) (A : Around) (outer : List Env) (s : Shared) (H : Hp) (E : XK) (scope : Scope) (f c' : Addr) : Cx :=
  { LamX.lamCx X A outer s H E scope f c' with xe := fun e s' => wpAny (model X.prog X.w) (A.deeper (LamX.lamEnv X scope s.heap.objs.size f c')) (leaving (LamX.lamEnv X scope s.heap.objs.size f c') e) (fun _ s'' => L2N.CX X.prog X.w outer H s E e s'') (fun e' s'' => L2N.CX X.prog X.w outer H s E e' s'') s' }
theorem reXe {X : Cx} {xe : Value → Shared → Prop} {pins : List (Addr × Obj)} {σ : L2.St} {H : Hp} {s : Shared} (I : Inv X pins σ H s) : Inv { X with xe := xe } pins σ H s := by
  have ok := I.ok
  exact ⟨⟨ok.mod, ok.kind, ok.glob, ok.blt, ok.above, ok.inj, ok.has, ok.cab, ok.hd, ok.frames, ok.stk, ok.exf, ok.bs, ok.bsz, ok.noex, ok.exfs, ok.funs, ok.frf⟩, I.os, I.bare, I.base, I.loc, I.cell, I.free, I.freeC, I.pin, I.hok, I.len⟩
section
variable {X : Cx} {pins : List (Addr × Obj)} {σ : L2.St} {H : Hp} {s : Shared}
open LamX
theorem pe_actN {CXg : CXT} {Eg : XK} {Ng : List Str} {qg : Str} {sg : Scope} {g f c' : Addr} {cdg pm ctv : Value} {params : Arguments} {body : Expr} {scope : Scope} {k i : Nat} {a : Str} {pn : List (Addr × Obj)} {xe : Value → Shared → Prop} {W : WX} {E : XK} {tb : TE} {p1 p2 : Pos}
    (I : Inv X pins σ H s) (L : LamS X.env.scope scope) (hf : s.heap.get? f = some (PySem.W.kla_obj "<lambda>" (X.env.qual ++ "<lambda>") params body scope (cloFrom X.env.cells scope.names []) pm c' ctv)) (hfn : H f = none) (hfr : f ∉ frs X.stack)
    (hbind : bindArgs (PySem.W.kla_fn "<lambda>" (X.env.qual ++ "<lambda>") params body scope (cloFrom X.env.cells scope.names []) pm (.ref c') ctv) ⟨[], []⟩ = pure [])
    (tk : L2N.Takes ((cxOf CXg X.prog X.w X.K X.mg X.base Ng qg sg g cdg X.A X.stack s H Eg).tr pn xe) W) (hW : ∀ cls d σ' H', E cls d H' → W cls d σ' H') (hr : Room (k + 1) (X.A.deeper (envOfC qg sg s.heap.objs.size g cdg)))
    (hbody : ∀ (A : Around) (outer : List Env) (s : Shared) (H : Hp), Room k (A.deeper (lamEnv X scope s.heap.objs.size f c')) → PE (lamCxN X A outer s H E scope f c') body tb)
    (hN : Ng[i]? = some a) (hv : Vis sg a) (hd : (a == ("__debug__" : Str)) = false) (hcd : (a == ("__classdict__" : Str)) = false) :
    PE ((cxOf CXg X.prog X.w X.K X.mg X.base Ng qg sg g cdg X.A X.stack s H Eg).tr pn xe) (.Call (.Name a p1) [] [] p2) (fun σZ HZ Q => σZ[i]? = some (some (.ref f)) ∧ HZ c' = some (CodeO c' (X.env.qual ++ "<lambda>")) ∧ tb σ HZ Q) := by
  refine ⟨fun pinsZ sZ σZ HZ Q IZ ⟨hs, hc, ht⟩ => ?_⟩
  refine wpAny_Call_Name_kw (thn ((pe_var (pos := p1) (i := i) hN hv hd hcd).run pinsZ sZ σZ HZ (fun v H1 => v = .ref f ∧ H1 = HZ) IZ ⟨.ref f, hs, rfl, rfl⟩) fun u s1 ⟨v, H1, I1, r1, ev, eH⟩ => ?_)
  subst ev
  rw [eH] at I1
  obtain rfl : u = Value.ref f := r1
  have of1 := I1.base.keep f _ hf hfn hfr (fun z => nomatch (show f ∈ ([] : List Addr) from z))
  refine PySem.W.callWith_F0 ⟨_, _, _, _, of1⟩ ?_
  obtain ⟨⟨oc, vs, t, hoc, hdc, hvc⟩, _, _⟩ := I1.hok c' _ hc
  have rc : codeAny (model X.prog X.w) (X.A.deeper (envOfC qg sg s.heap.objs.size g cdg)) (.call (.ref f) ⟨[], []⟩) (CR (L2N.CX X.prog X.w) (envOfC qg sg s.heap.objs.size g cdg :: X.stack) X.prog X.w HZ s1 Q E) s1 := by
    refine PySem.W.kla_callFunE hr.depth of1 rfl L.co L.gen rfl ⟨c', oc, vs, t, rfl, hoc, hdc, hvc⟩ ?_
    rw [hbind]
    refine wpAny_pure (wpAny_newFunctionEnv (fun y hy => (L.own y hy).2) (fun y hy => absurd hy (by simp)) (fun j hns hsb => ⟨I1.nolimit.fresh _ hsb, ?_⟩) L.kind)
    show codeAny _ _ (.expr body (lamEnv X scope s1.heap.objs.size f c')) _ _
    have kp : ∀ b o, s1.heap.get? b = some o → j.get? b = some o := fun b o e => hsb.extBut b o (Nat.ne_of_lt (Heap.lt_size e)) (Heap.get?_push_of_some _ e)
    have J0 : Inv (lamCx X (X.A.deeper (envOfC qg sg s.heap.objs.size g cdg)) (envOfC qg sg s.heap.objs.size g cdg :: X.stack) s1 HZ E scope f c') [] σ HZ { s1 with heap := j, toks := s1.toks + ([] : List (Str × Value)).length } := lam_start2 I L I1.env0 hr.hd I1.base hns kp
    have J : Inv (lamCxN X (X.A.deeper (envOfC qg sg s.heap.objs.size g cdg)) (envOfC qg sg s.heap.objs.size g cdg :: X.stack) s1 HZ E scope f c') [] σ HZ { s1 with heap := j, toks := s1.toks + ([] : List (Str × Value)).length } := reXe J0
    refine PySem.W.kla_codeExpr (wpAny_mono ((hbody _ _ s1 HZ (hr.deeper _)).run [] _ _ HZ Q J ht) (fun v s' hq => ?_) fun e s' hq => hq)
    obtain ⟨w', H', J', rv, q⟩ := hq
    exact ⟨w', H', J'.os, J'.bare, J'.base, J'.hok, rv, q⟩
  have hx := L2N.passes_call tk hW
  refine wpAny_call (codeAny_mono rc fun r s' hq => ?_)
  cases r with
  | error e => exact hx pinsZ σZ HZ s1 e s' I1 hq
  | ok fl =>
    cases fl with
    | ret u => exact I1.after hq
    | next => exact False.elim hq
    | brk => exact False.elim hq
    | cont => exact False.elim hq
end
end Onp
set_option maxHeartbeats 4000000
set_option autoImplicit false
namespace Onp
open PySem PySem.Spec PyProof.Rows L2 HotX L2H LamX
/-! ### x(lambda: body), x a def that calls what it got in a try; errors with no context -/
def GivesN (X : Cx) (k : Nat) (Ng : List Str) (x : Str) (sg : Scope) (g : Addr) (cdg : Value) (bg : List Stmt) (a : Str) (q : Str) (TT : (XK → Hp → VK → Prop) → Hp → VK → Prop) : Prop :=
  ∀ (f c' : Addr) (s : Shared) (H : Hp) (Q : VK) (tl : XK → Hp → VK → Prop), Room (k + 1) (X.A.deeper (envOfC x sg s.heap.objs.size g cdg)) →
    (∀ (W : WX) (pn : List (Addr × Obj)) (xe : Value → Shared → Prop) (E : XK) (p1 p2 : Pos), L2N.Takes ((cxOf CX0 X.prog X.w X.K X.mg X.base Ng x sg g cdg X.A X.stack s H E0).tr pn xe) W → (∀ cls d σ' H', E cls d H' → W cls d σ' H') →
      PE ((cxOf CX0 X.prog X.w X.K X.mg X.base Ng x sg g cdg X.A X.stack s H E0).tr pn xe) (.Call (.Name a p1) [] [] p2) (fun σZ HZ Q => σZ[0]? = some (some (.ref f)) ∧ HZ c' = some (CodeO c' q) ∧ tl E HZ Q)) →
    H c' = some (CodeO c' q) → TT tl H Q →
    ∃ t, PSs (cxOf CX0 X.prog X.w X.K X.mg X.base Ng x sg g cdg X.A X.stack s H E0).nox bg t ∧ t { nx := fun _ H' => Q .non H', rt := Q } (L2.start Ng [.ref f]) H
theorem pe_lamN {X : Cx} {T : List (Addr × Str)} {TT : (XK → Hp → VK → Prop) → Hp → VK → Prop} {x a : Str} {g c P : Addr} {k : Nat} {pg : Arguments} {bg : List Stmt} {sg : Scope} {dV kV doc pm cdv ct oc : Value} {an od : Option Addr} {osl : Array (Option Value)} {Ng : List Str}
    {params : Arguments} {body : Expr} {scope : Scope} {t : XK → TE} {p lpos pos : Pos} (hg : Gl X x) (hm : X.mg x = some (.ref g)) (hk : PySem.W.keepIn X.K (.ref g) = true) (lk : X.K.lookup g = some ⟨oc, od, .func (PySem.W.fnOf x x pg bg sg dV kV doc pm an cdv ct), osl⟩)
    (hcg : PySem.W.codeIn X.K cdv x = true) (hb : L2.Binds X.K (PySem.W.fnOf x x pg bg sg dV kV doc pm an cdv ct) [a] []) (Sg : FnScope Ng [a] sg) (hNg : Ng[0]? = some a) (hva : Vis sg a) (hG : GivesN X k Ng x sg g cdv bg a (X.env.qual ++ "<lambda>") TT)
    (TB : TabB X.base X.mg c P) (hcode : X.env.code = .ref c) (hmT : (P, X.env.qual ++ "<lambda>") ∈ T) (hu : ∀ p ∈ T, p.1 = P → p.2 = X.env.qual ++ "<lambda>") (hr : Room (k + 2) X.A) (L : LamS X.env.scope scope) (hdef : defaultsOf params X.env = ([], []))
    (hbind : ∀ (q : Str) (cl : List (Str × Addr)) (pm cv ctv : Value), bindArgs (PySem.W.kla_fn "<lambda>" q params body scope cl pm cv ctv) ⟨[], []⟩ = pure [])
    (hbody : ∀ (A : Around) (outer : List Env) (s : Shared) (H : Hp) (E : XK) (f c' : Addr), Room k (A.deeper (lamEnv X scope s.heap.objs.size f c')) → PE (lamCxN X A outer s H E scope f c') body (t E))
    (hdb : (x == ("__debug__" : Str)) = false := by decide) (hd : (a == ("__debug__" : Str)) = false := by decide) (hcd : (a == ("__classdict__" : Str)) = false := by decide) : PE X (.Call (.Name x p) [.Lambda params body scope lpos] [] pos) (tLam T TT t) := by
  refine ⟨fun pins s σ H Q I ⟨hT, h⟩ => wpAny_Call_Name_kw (ld_glob I hg hm ?_ hdb)⟩
  refine PySem.W.callWith_K (h₀ := X.base) I.ok.mod.kin hk ?_ (by rfl) (by rfl)
  show wpAny _ _ (spliced ((false, eval (.Lambda params body scope lpos) X.env) :: backTo pos (starEach [] X.env))) _ _ s
  refine Calls.spliced_cons (lam_make2 I TB hcode hmT hu hT hdef (L.has I.ok) fun f c' pm' ctv H1 s' I1 eN T1 hf hfn hfr hco => Calls.spliced_nil ⟨I1.kIn, ?_⟩)
  have rc : codeAny (model X.prog X.w) X.A (.call (.ref g) ⟨[.ref f], []⟩) (CR CX0 X.stack X.prog X.w H1 s' Q E0) s' := by
    refine run_ofS (N := Ng) (ps := [a]) (us := [.ref f]) (vs := [.ref f]) lk hcg Sg hr I1.env0 (hb s' [.ref f] I1.kIn rfl) (.cons rfl .nil) rfl fun hr' => ?_
    obtain ⟨t', ht', hq'⟩ := hG f c' s' H1 Q (fun E H' Q' => t E σ H' Q') hr' (fun W pn xe E p1 p2 tk hW => pe_actN (i := 0) I1 L hf hfn hfr (hbind _ _ _ _ _) tk hW hr' (fun A outer s H hr2 => hbody A outer s H E f c' hr2) hNg hva hd hcd) hco (h H1 eN T1)
    exact ⟨t', ht'.nox, hq'⟩
  refine wpAny_call (codeAny_mono rc fun r s2 hq => ?_)
  cases r with
  | error e => exact (show False from hq).elim
  | ok fl =>
    cases fl with
    | ret u => exact I1.after hq
    | next => exact False.elim hq
    | brk => exact False.elim hq
    | cont => exact False.elim hq
theorem takes0N {X : Cx} : L2N.Takes X (fun _ _ _ _ => False) := fun _ _ x => by
  obtain ⟨_, _, _, _, _, _, _, _, _, _, _, _, _, _, _, _, z⟩ := x
  exact z.elim
end Onp
set_option autoImplicit false
namespace Onp
open PySem PySem.Spec PyProof.Rows L2
/-! ### deeds and marks -/
inductive Dd where
  | keep | cent | fill | coin | brim
  deriving DecidableEq
def Dd.nm : Dd → Str
  | .keep => "keep" | .cent => "cent" | .fill => "fill" | .coin => "coin" | .brim => "brim"
def Dd.rk : Dd → Nat
  | .keep => 0 | .cent => 1 | .fill => 2 | .coin => 3 | .brim => 4
def deedsL : List Str := ["keep", "cent", "fill", "coin", "brim"]
def marksL : List Str := ["brim", "fill", "keep", "cent", "coin", "dear", "shut"]
def makingL : List Str := ["keep", "cent", "fill", "coin", "brim", "dear", "shut"]
def mkn (i : Nat) : Str := makingL.getD i "shut"
theorem nm_mkn (d : Dd) : d.nm = mkn d.rk := by cases d <;> rfl
theorem rk_lt (d : Dd) : d.rk < 5 := by cases d <;> decide
theorem nm_in (d : Dd) : d.nm ∈ deedsL := by cases d <;> decide +kernel
theorem in_nm : ∀ z ∈ deedsL, ∃ d : Dd, z = d.nm := fun z h => by
  rcases List.mem_cons.mp h with rfl | h
  · exact ⟨.keep, rfl⟩
  rcases List.mem_cons.mp h with rfl | h
  · exact ⟨.cent, rfl⟩
  rcases List.mem_cons.mp h with rfl | h
  · exact ⟨.fill, rfl⟩
  rcases List.mem_cons.mp h with rfl | h
  · exact ⟨.coin, rfl⟩
  rcases List.mem_cons.mp h with rfl | h
  · exact ⟨.brim, rfl⟩
  cases h
def dv (d : Dd) : V := .str d.nm
def stp (p : Int × Int) : Dd → Int × Int
  | .keep => p
  | .cent => (p.1 + 1, p.2)
  | .fill => (0, p.2)
  | .coin => (0, p.2 + 1)
  | .brim => (0, 0)
theorem flatStrs (ys : List Str) : (ys.map V.str).all flatV = true := by
  rw [List.all_map]
  exact List.all_eq_true.mpr fun _ _ => rfl
theorem inV_strs (z : Str) : ∀ ys : List Str, inV (.str z) (ys.map V.str) = decide (z ∈ ys)
  | [] => by rfl
  | y :: r => by
    have ih := inV_strs z r
    unfold inV at ih ⊢
    rw [List.map_cons, List.any_cons, ih]
    show ((y == z) || decide (z ∈ r)) = decide (z ∈ y :: r)
    by_cases e : z = y
    · subst e
      rw [beq_self_eq_true, decide_eq_true List.mem_cons_self]
      rfl
    · have e1 : (y == z) = false := beq_eq_false_iff_ne.mpr (Ne.symm e)
      rw [e1, Bool.false_or]
      by_cases h : z ∈ r
      · rw [decide_eq_true h, decide_eq_true (List.mem_cons_of_mem _ h)]
      · rw [decide_eq_false h, decide_eq_false (fun q => (List.mem_cons.mp q).elim e h)]
end Onp
set_option maxHeartbeats 4000000
set_option autoImplicit false
/-! own refusals over other built-in ones than ValueError, with one field -/
namespace Onp
open PySem PySem.Spec PyProof.Rows L2 HotX L2H
def isR : Value → Bool
  | .ref _ => true
  | _ => false
theorem isR_ref {v : Value} (h : isR v = true) : ∃ c, v = .ref c := by
  cases v <;> first | exact ⟨_, rfl⟩ | cases h
structure BaseB (B newId initId : String) (tl : List Value) : Prop where
  F : ExcBaseFacts B newId initId tl
  pass : ∀ self : Value, refuseLoop self "__setattr__" tl = pure ()
  ob : tl.contains (.type "object") = true
theorem refsT_pass {tl : List Value} (hp : ∀ self : Value, refuseLoop self "__setattr__" tl = pure ()) (self : Value) : ∀ l : List Value, l.dropWhile isR = tl → refuseLoop self "__setattr__" l = pure ()
  | [], h => by
    have h : [] = tl := h
    rw [h]
    exact hp self
  | v :: r, h => by
    cases e : isR v with
    | true =>
      obtain ⟨c, rfl⟩ := isR_ref e
      rw [refuseLoop_ref]
      exact refsT_pass hp self r (by rw [List.dropWhile_cons_of_pos e] at h; exact h)
    | false =>
      rw [List.dropWhile_cons_of_neg (by rw [e]; decide)] at h
      rw [h]
      exact hp self
theorem refsT_has {tl : List Value} (Y : String) : ∀ l : List Value, l.dropWhile isR = tl → l.contains (.type Y) = tl.contains (.type Y)
  | [], h => by
    have h : [] = tl := h
    rw [h]
  | v :: r, h => by
    cases e : isR v with
    | true =>
      obtain ⟨c, rfl⟩ := isR_ref e
      rw [List.dropWhile_cons_of_pos e] at h
      rw [List.contains_cons, refsT_has Y r h]
      rfl
    | false =>
      rw [List.dropWhile_cons_of_neg (by rw [e]; decide)] at h
      rw [h]
structure OexB (K : PySem.W.Frag) (C : Addr) (newId : String) (tl : List Value) : Prop where
  cls : ∃ nm q N bs bm sn sub ab col dd k0 k1 k2 k3 k5, K.lookup C = some (excClassObj nm q C N bs bm true sn sub ab col dd k0 k1 k2 k3 k5 newId) ∧ bm.dropWhile isR = tl
  sa : PySem.W.findIn K (.ref C) "__setattr__" = some (some (.builtin "object.__setattr__"))
  exC : PySem.W.subIn K (.ref C) (.type "BaseException") = some true
  tyC : PySem.W.typeIn K (.ref C) = some (.type "type")
  kC : PySem.W.keepIn K (.ref C) = true
theorem mkRunB {X : Cx} {B newId initId : String} {tl : List Value} (BB : BaseB B newId initId tl) {pins : List (Addr × Obj)} {σ : L2.St} {H1 : Hp} {s1 : Shared} {C fI : Addr} {k : Nat} {fd : FuncData} {ps : List Str} {sp : Sp} {us : List Value} {vs : List V} {Q : XK} (T : OexB X.K C newId tl) (iC : PySem.W.findIn X.K (.ref C) "__init__" = some (some (.ref fI)))
    (tI : PySem.W.typeIn X.K (.ref fI) = some (.type "function")) (F1 : FnOk X.prog X.w X.K X.mg X.base CX0 k fI fd ps sp) (hr : Room (k + 1) X.A) (hb : Binds X.K fd ps []) (I1 : Inv X pins σ H1 s1) (r1 : Vals vs us) (hz : vs.length ≤ 1000)
    (q1 : ∀ a, H1 a = none → sp (.ref a :: vs) (upd H1 a (exo a C none)) (fun v H2 => v = .non ∧ ∃ (d : Addr) (fs : List (Str × V)), H2 a = some (exo a C (some d)) ∧ H2 d = some (exd d fs) ∧ H1 d = none ∧ Q (.ref C) (some d) (upd (del H2 a) d (.xd fs))) (fun _ _ _ => False)) :
    wpAny (model X.prog X.w) X.A (call (.ref C) us) (L2N.MkP X pins σ Q) X.xe s1 := by
  obtain ⟨nm, q, N, bs, bm, sn, sub, ab, col, dd, k0, k1, k2, k3, k5, hC, hbm⟩ := T.cls
  obtain ⟨hp, g, dr, tk, os⟩ := s1
  have le1 : hp.objs.size ≤ hp.objs.size + 1 := Nat.le_succ _
  have hq := q1 (hp.objs.size + 1) (I1.hok.fresh le1)
  have kk : ∀ b o, hp.get? b = some o → ((hp.push (PySem.W.kdv_tup us)).push (PySem.HandSPX.excO C hp.objs.size)).get? b = some o := fun b o e => Heap.get?_push_of_some _ (Heap.get?_push_of_some _ e)
  have hget : ((hp.push (PySem.W.kdv_tup us)).push (PySem.HandSPX.excO C hp.objs.size)).get? (hp.objs.size + 1) = some (PySem.HandSPX.excO C hp.objs.size) := by heap_get
  have I2 := I1.laid (t' := tk) (a := hp.objs.size + 1) (o := exo (hp.objs.size + 1) C none) (h' := (hp.push (PySem.W.kdv_tup us)).push (PySem.HandSPX.excO C hp.objs.size)) kk le1 (exo_ok hget)
  have r2 : Vals (V.ref (hp.objs.size + 1) :: vs) (Value.ref (hp.objs.size + 1) :: us) := .cons rfl r1
  have hl : (Value.ref (hp.objs.size + 1) :: us).length = ps.length := by rw [← r2.length]; exact F1.len _ _ _ _ hq
  have hbd := hb ⟨(hp.push (PySem.W.kdv_tup us)).push (PySem.HandSPX.excO C hp.objs.size), g, dr, tk, os⟩ (Value.ref (hp.objs.size + 1) :: us) I2.kIn (by rw [List.append_nil]; exact hl)
  rw [List.append_nil] at hbd
  have hus : us.length ≤ sizeLine := by
    rw [← Paired.length r1, sizeLine_eq]
    omega
  refine wpAny_call (PySem.HandSPX.call_own BB.F (fun Y => refsT_has Y bm hbm) (I1.kIn _ _ hC) (PySem.W.looks_findIn I1.kIn iC) (fun self => PySem.W.bind_fn I1.kIn self tI) hus
    (codeAny_mono (F1.run _ X.stack _ _ ⟨Value.ref (hp.objs.size + 1) :: us, []⟩ (Value.ref (hp.objs.size + 1) :: us) _ _ (fun _ _ _ => False) (hr.make C us []) (I2.env0.make C us []) hbd r2 hq) fun r s' hq' => ?_))
  cases r with
  | error er => exact (show False from hq').elim
  | ok fl =>
    cases fl with
    | ret u =>
      obtain ⟨v, H2, os2, bare2, un2, hok2, rv, ev, d, fs, ea, ed, hd1, q2⟩ := hq'
      subst ev
      obtain ⟨h2, g2, d2, t2, os'⟩ := s'
      obtain ⟨t0, G, J, kG, ge, hoe, na⟩ := mk_end0 (d2 := d2) (t2 := t2) I1 le1 kk un2 hok2 os2 bare2 ea ed hd1
      exact ⟨rv, _, _, _, ⟨G, g2, d2, t2, os'⟩, _, .ref C, some d, rfl, J, kG, ge, hoe, ⟨rfl, rfl, fun vs e => by cases e; rfl⟩, rfl, rfl, na, rfl, bare2, raises_own T.exC T.tyC, q2⟩
    | next => exact False.elim hq'
    | brk => exact False.elim hq'
    | cont => exact False.elim hq'
theorem pmk_wordB {X : Cx} {B newId initId : String} {tl : List Value} (BB : BaseB B newId initId tl) {x wd : Str} {C fI : Addr} {k : Nat} {fd : FuncData} {p pos : Pos} (T : OexB X.K C newId tl) (iC : PySem.W.findIn X.K (.ref C) "__init__" = some (some (.ref fI))) (tI : PySem.W.typeIn X.K (.ref fI) = some (.type "function"))
    (F1 : FnOk X.prog X.w X.K X.mg X.base CX0 k fI fd ["self"] (spWord C wd)) (hr : Room (k + 1) X.A) (hb : Binds X.K fd ["self"] []) (hg : Gl X x) (hm : X.mg x = some (.ref C)) (hdb : (x == ("__debug__" : Str)) = false := by decide) :
    L2N.PMk X (.Call (.Name x p) [] [] pos) (tRaiseW C wd) := by
  intro pins s σ H Q I h
  refine wpAny_Call_Name_kw (ld_glob I hg hm ?_ hdb)
  refine PySem.W.callWith_K0 I.kIn T.kC (mkRunB BB T iC tI F1 hr hb I .nil (Nat.zero_le _) fun a ha => ⟨a, rfl, upd_same, fun dx ndx ne => ⟨rfl, dx, [("word", .str wd)], upd_same, ?_, ?_, ?_⟩⟩)
  · rw [upd_ne ne, upd_same]
  · rw [upd_ne ne] at ndx
    exact ndx
  · rw [upd_ne ne] at ndx
    rw [made_heap ha ndx ne]
    exact h dx ndx
/-! ### the first field of such a refusal -/
section
open PySem.W PySem.Calls PySem.HandSPX Builtin Builtin.ObjectAttr
theorem osaB {prog : Program} {w : World} {A : Around} {R : Result → Shared → Prop} {hp : Heap} {g : Array GenState} {d : Drawn} {t : Nat} {os : OsState} {K : PySem.W.Frag} {name : Str} {tk : Tok} {v : Value} {x C : Addr} {fv : Array Value} {cd : ClassData} {B newId initId : String} {tl : List Value} (BB : BaseB B newId initId tl)
    (X : K.In hp) (hx : hp.get? x = some { cls := .ref C, data := .fields fv }) (hcd : PySem.W.clsIn K C = some cd) (hm : cd.mro.dropWhile isR = tl) (hne : cd.mro ≠ []) (hh : cd.hasDict = true) (ha : PySem.W.findIn K (.ref C) name = some none)
    (hq : ∀ h' tk' dx, (∀ b o, b ≠ x → hp.get? b = some o → h'.get? b = some o) → hp.objs.size ≤ dx → dx ≠ x → h'.get? x = some { cls := .ref C, dict := some dx, data := .fields fv } →
      h'.Ns1 dx (fun y => if y = name then some v else none) → R (.ok (.ret .none)) ⟨h', g, d, tk', os⟩) :
    codeAny (model prog w) A (.call (.builtin "object.__setattr__") ⟨[.ref x, .str name tk, v], []⟩) R ⟨hp, g, d, t, os⟩ := by
  have mroOb : cd.mro.contains (.type "object") = true := (refsT_has "object" _ hm).trans BB.ob
  have xNew : x ≠ hp.objs.size := Nat.ne_of_lt (Heap.lt_size hx)
  have J : PySem.W.InstAt hp x { cls := .ref C, data := .fields fv } C none := ⟨hx, rfl, rfl, trivial⟩
  have isOb : PySem.W.Looks (model prog w) hp (isInstance (.ref x) (.type "object")) true := by
    refine J.type.andThen (PySem.W.looks_mroIn X ?_)
    unfold PySem.W.mroIn
    rw [hcd, Option.bind_some, if_neg (by rw [List.isEmpty_iff]; exact hne), mroOb]
  have S := PySem.F.store_object
  refine codeAny_call_builtin S.slot.plain S.entry (@PySem.W.check_slot (model prog w) _ _ ⟨hp, g, d, t, os⟩ "object.__setattr__" "object" "__setattr__" (.ref x) [.str name tk, v] [] _ S.kind S.split isOb (S.args (.ref x) (.str name tk) v) ?_)
  have mroL : PySem.W.Looks (model prog w) hp (mroOf (.ref C)) cd.mro := (PySem.W.looks_clsIn X hcd).andThen .now
  have clsL : PySem.W.Looks (model prog w) hp (classData C) cd := PySem.W.looks_clsIn X hcd
  have noTaker : PySem.W.Looks (model prog w) hp (storeTaker? none) none := .now
  rw [PySem.W.osa_eq, refuse_eq]
  refine wpAny_bind (wpAny_bind (J.type.at (wpAny_bind (mroL.at ?_))))
  rw [refsT_pass BB.pass _ _ hm]
  refine wpAny_pure (wpAny_bind (J.type.at (wpAny_bind ((PySem.W.looks_findIn X ha).at (wpAny_bind (noTaker.at ?_))))))
  show wpAny _ _ (storeInOwnDict (.ref x) (.ref C) (.str name tk) name v false) _ _ _
  cases cd with
  | mk nm bs mro ns qn hd sn sb ab col del =>
    have hd1 : hd = true := hh
    rw [hd1] at clsL
    unfold storeInOwnDict ownDictForStores
    repeat (first | with_reducible refine store_in_new ?_ ?_ | with_reducible refine wpAny_loadPart_at hx ?_ | with_reducible refine clsL.at ?_ | wp_step)
    · exact ⟨_, #[], _, (Heap.get?_update_ne _ _ _ _ xNew.symm).trans (Heap.get?_push_at rfl rfl), rfl, fun e he => absurd he (by simp), fun _ => rfl⟩
    · intro h' tk' nsN but
      have hx1 : (hp.push { cls := .type "dict", data := .dict #[] }).get? x = some { cls := .ref C, data := .fields fv } := Heap.get?_push_of_some _ hx
      refine hq h' tk' hp.objs.size (fun b o hb ho => ?_) (Nat.le_refl _) xNew.symm ((but.2 x xNew).trans (Heap.get?_update_self _ hx1 rfl)) nsN
      rw [but.2 b (Nat.ne_of_lt (Heap.lt_size ho)), Heap.get?_update_ne _ _ _ _ hb]
      exact Heap.get?_push_of_some _ ho
end
section
variable {X : Cx} {pins : List (Addr × Obj)} {σ : L2.St} {H : Hp} {s : Shared} {a C : Addr} {f : Str} {y : V} {u : Value} {Q : Unit → Shared → Prop} {E : Value → Shared → Prop} {A : Around} {B newId initId : String} {tl : List Value}
theorem ost_newB (BB : BaseB B newId initId tl) (T : OexB X.K C newId tl) (I : Inv X pins σ H s) (e : H a = some (exo a C none)) (hno : PySem.W.findIn X.K (.ref C) f = some none) (ry : RelV y u)
    (h : ∀ dx s', H dx = none → dx ≠ a → Inv X pins σ (upd (upd H dx (exd dx [(f, y)])) a (exo a C (some dx))) s' → Q () s') : wpAny (model X.prog X.w) A (setAttr (.ref a) f u) Q E s := by
  obtain ⟨nm, q, N, bs, bm, sn, sub, ab, col, dd, k0, k1, k2, k3, k5, hC, hbm⟩ := T.cls
  have clsA : PySem.W.clsIn X.K C = some { name := nm, bases := bs, mro := .ref C :: bm, ns := N, qualname := q, hasDict := true, slotNames := sn, subclasses := sub, abstract := ab, collection := col, hasDel := false } := by
    unfold PySem.W.clsIn
    rw [hC] <;> rfl
  obtain ⟨t1, objA⟩ := exo_at I.hok e
  obtain ⟨hp, g, d, t, os⟩ := s
  refine PySem.W.set_plain I.kIn (ox := { cls := .ref C, dict := none, data := .fields #[.ref t1, .none, .none, .none, .bool false, .none] }) (od := none) ⟨objA, rfl, rfl, trivial⟩ T.sa (osaB BB I.kIn objA clsA (by rw [List.dropWhile_cons_of_pos rfl]; exact hbm) (fun z => nomatch z) rfl hno fun h' tk' dx kept far ne objB nsB => ?_)
  have free : H dx = none := I.hok.fresh far
  have old : ∀ {b : Addr} {o : Obj}, hp.get? b = some o → b ≠ dx := fun hb => Nat.ne_of_lt (Nat.lt_of_lt_of_le (Heap.lt_size hb) far)
  have own : ∀ {b : Addr}, H b = none → b ≠ a := fun hb z => by
    rw [z, e] at hb
    exact nomatch hb
  have look : ∀ {b : Addr} {o : HO}, H b = some o → exo a C none ≠ o → upd (upd H dx (exd dx [(f, y)])) a (exo a C (some dx)) b = some o := fun hb d => by
    rw [upd_ne (at_ne e hb d), upd_ne (ne_of_none hb free)]
    exact hb
  have U : Un X.fs [] H (upd (upd H dx (exd dx [(f, y)])) a (exo a C (some dx))) hp h' := {
    keep := fun b o q n _ _ => kept b o (own n) q
    slot := fun b o q n _ _ => ⟨o.slots, kept b o (own n) q⟩
    free := fun b o q n _ => by
      rw [upd_ne (own n), upd_ne (old q)]
      exact n
    there := fun b o q _ => by
      rcases Classical.em (b = a) with z | z
      · subst z
        exact ⟨_, objB⟩
      · exact ⟨o, kept b o z q⟩
    tups := fun b xs q => look q exo_tup
    frzs := fun b o v q => look q exo_frz
    tbls := fun b ps q => ⟨#[], by rw [look q exo_tbl]; simp⟩ }
  refine h dx _ free ne (I.un (t' := tk') U fun b o q => ?_)
  by_cases z1 : b = a
  · subst z1
    rw [upd_same] at q
    cases q
    exact exo_ok objB
  rw [upd_ne z1] at q
  by_cases z2 : b = dx
  · subst z2
    rw [upd_same] at q
    cases q
    exact exd_ok nsB (relO_put (fs := []) ry fun g => True.intro)
  rw [upd_ne z2] at q
  refine (I.hok b o q).stay (fun c v hc z => kept c v ?_ z) (fun c hc => look hc exo_own) (fun c xs hc => look hc exo_tup)
  rcases hc with hc | hc
  · rw [hc]
    exact z1
  · exact at_ne e hc exo_own
/-- self.f = e, the first field -/
def tOstB (K : PySem.W.Frag) (newId : String) (tl : List Value) (f : Str) (to te : TE) : TS := fun D σ H => te σ H fun y H1 => to σ H1 fun x H2 => ∃ a C : Addr, x = .ref a ∧ OexB K C newId tl ∧ PySem.W.findIn K (.ref C) f = some none ∧
  H2 a = some (exo a C none) ∧ ∀ dx, H2 dx = none → dx ≠ a → D.nx σ (upd (upd H2 dx (exd dx [(f, y)])) a (exo a C (some dx)))
theorem ps_ostB (BB : BaseB B newId initId tl) {o e : Expr} {to te : TE} {p' pos : Pos} (ho : PE X o to) (he : PE X e te) (hs : swapsWith e (some (.Attribute o f p')) pos.line X.env = pure false := by rfl) : PS X (.Assign [.Attribute o f p'] e pos) (tOstB X.K newId tl f to te) := by
  refine ⟨fun pins s σ H D I h => plainObj_wpAny_Assign_Attribute (thn (he.run pins s σ H _ I h) fun v s1 ⟨y, H1, I1, r1, q1⟩ => thn (ho.run pins s1 σ H1 _ I1 q1) fun u s2 ⟨x, H2, I2, r2, a, C, ex, T, hno, ea, q⟩ => ?_) hs⟩
  subst ex
  cases r2
  exact ost_newB BB T I2 ea hno r1 fun dx s' n ne J => ⟨σ, _, J, q dx n ne⟩
end
abbrev leTail : List Value := [.type "LookupError", .type "Exception", .type "BaseException", .type "object"]
abbrev ieTail : List Value := [.type "IndexError", .type "LookupError", .type "Exception", .type "BaseException", .type "object"]
theorem baseL : BaseB "LookupError" "LookupError.__new__" "LookupError.__init__" leTail := ⟨PySem.F.excBase_LookupError, fun self => PySem.F.store_LookupError.passes self, by decide +kernel⟩
theorem baseI : BaseB "IndexError" "IndexError.__new__" "IndexError.__init__" ieTail := ⟨PySem.F.excBase_IndexError, fun self => PySem.F.store_IndexError.passes self, by decide +kernel⟩
end Onp
set_option maxHeartbeats 4000000
set_option autoImplicit false
/-! what is asked of the top, by names -/
namespace Onp
open PySem PySem.Spec PyProof.Rows L2
open He (ga ma eqO eqO_ok ba)
def errNs : List Str := ["BadMark", "BadLetters", "BadRoom", "BadArrow", "BadWord", "BadSize", "BadPattern", "BadTable", "BadTree", "BadText", "BadName", "BadDeed", "BadPage", "Taken", "Full", "Unlike", "NotDear", "InUse", "TooWide", "NoArrow", "NoName", "NoTraveller", "NothingLeft"]
def slB : List (Option Value) → Bool
  | [_, _, _, _, some (.builtin n), _] => n == "ValueError.__new__"
  | _ => false
/-- a refusal's class, as it is laid -/
def oexB (K : PySem.W.Frag) (C : Addr) : Bool := match K.lookup C with
  | some ⟨.type t, _, .cls cd, sl⟩ => t == "type" && (match cd.mro with
    | .ref D :: bm => D == C && (cd.hasDel == false && (cd.hasDict && PySem.HandSPX.refsVE bm))
    | _ => false) && slB sl.toList
  | _ => false
/-- all that is asked of a refusal's class -/
def errB (K : PySem.W.Frag) (x : Str) : Bool :=
  (oexB K (ga K x) && (eqO (PySem.W.findIn K (.ref (ga K x)) "__setattr__") (some (some (.builtin "object.__setattr__"))) && (decide (PySem.W.subIn K (.ref (ga K x)) (.type "BaseException") = some true) && (decide (PySem.W.typeIn K (.ref (ga K x)) = some (.type "type")) && PySem.W.keepIn K (.ref (ga K x))))))
  && ((eqO (PySem.W.findIn K (.ref (ga K x)) "__init__") (some (some (.ref (ma K (ga K x) "__init__")))) && (decide (PySem.W.typeIn K (.ref (ma K (ga K x) "__init__")) = some (.type "function")) && eqO (PySem.W.findIn K (.ref (ga K x)) "word") (some none)))
  && (((PySem.W.clsIn K (ga K x)).isSome && (eqO (PySem.W.findIn K (.ref (ga K x)) "__getattribute__") (some (some (.builtin "BaseException.__getattribute__"))) && (eqO (PySem.W.findIn K (.ref (ga K x)) "__getattr__") (some none) && (eqO (PySem.W.findIn K (.ref (ga K x)) "__class__") (some (some (.builtin "object.__class__"))) && (decide (PySem.W.mroIn K (ga K x) (.type "object") = some true) && PySem.W.hasDictIn K (ga K x))))))
  && ((errNs.all fun y => decide (PySem.W.subIn K (.ref (ga K x)) (.ref (ga K y)) = some (y == x))) && decide (PySem.W.exmAny K (.ref (ga K x)) [.ref (ga K "PurseError"), .ref (ga K "Missing"), .ref (ga K "NothingLeft")] = some true))))
def slLB (newId : String) : List (Option Value) → Bool
  | [_, _, _, _, some (.builtin n), _] => n == newId
  | _ => false
def oexLB (newId : String) (tl : List Value) (K : PySem.W.Frag) (C : Addr) : Bool := match K.lookup C with
  | some ⟨.type t, _, .cls cd, sl⟩ => t == "type" && (match cd.mro with
    | .ref D :: bm => D == C && (cd.hasDel == false && (cd.hasDict && (bm.dropWhile isR == tl)))
    | _ => false) && slLB newId sl.toList
  | _ => false
/-- the same, over another built-in one -/
def errLB (newId : String) (tl : List Value) (K : PySem.W.Frag) (x : Str) : Bool :=
  (oexLB newId tl K (ga K x) && (eqO (PySem.W.findIn K (.ref (ga K x)) "__setattr__") (some (some (.builtin "object.__setattr__"))) && (decide (PySem.W.subIn K (.ref (ga K x)) (.type "BaseException") = some true) && (decide (PySem.W.typeIn K (.ref (ga K x)) = some (.type "type")) && PySem.W.keepIn K (.ref (ga K x))))))
  && ((eqO (PySem.W.findIn K (.ref (ga K x)) "__init__") (some (some (.ref (ma K (ga K x) "__init__")))) && (decide (PySem.W.typeIn K (.ref (ma K (ga K x) "__init__")) = some (.type "function")) && eqO (PySem.W.findIn K (.ref (ga K x)) "word") (some none)))
  && (((PySem.W.clsIn K (ga K x)).isSome && (eqO (PySem.W.findIn K (.ref (ga K x)) "__getattribute__") (some (some (.builtin "BaseException.__getattribute__"))) && (eqO (PySem.W.findIn K (.ref (ga K x)) "__getattr__") (some none) && (eqO (PySem.W.findIn K (.ref (ga K x)) "__class__") (some (some (.builtin "object.__class__"))) && (decide (PySem.W.mroIn K (ga K x) (.type "object") = some true) && PySem.W.hasDictIn K (ga K x))))))
  && ((errNs.all fun y => decide (PySem.W.subIn K (.ref (ga K x)) (.ref (ga K y)) = some (y == x))) && decide (PySem.W.exmAny K (.ref (ga K x)) [.ref (ga K "PurseError"), .ref (ga K "Missing"), .ref (ga K "NothingLeft")] = some true))))
/-- of object.__class__, and of every refusal's name -/
def allB (K : PySem.W.Frag) : Bool := decide (PySem.W.specialIn K (.builtin "object.__class__") "__get__" = some (some (.builtin "getset_descriptor.__get__"))) && (decide (PySem.W.takesIn K (.builtin "object.__class__") = some true)
  && ((errNs.all fun y => decide (PySem.W.typeIn K (.ref (ga K y)) = some (.type "type")) && PySem.W.isClsIn K (ga K y)) && ((["BadText", "BadPage", "TooWide"] : List Str).all fun y => decide (PySem.W.subIn K (.ref (ga K y)) (.type "BaseException") = some true))))
end Onp
set_option maxHeartbeats 4000000
set_option autoImplicit false
/-! facts by names, for the end of a law without refusals of its own -/
namespace Onp
open PySem PySem.Spec PyProof.Rows L2 HotX L2H LamX
open He (ga ma eqO eqO_ok ba)
section
variable {K : PySem.W.Frag}
theorem slB_ok : ∀ {l : List (Option Value)}, slB l = true → ∃ k0 k1 k2 k3 k5, l = [k0, k1, k2, k3, some (.builtin "ValueError.__new__"), k5]
  | [k0, k1, k2, k3, some (.builtin n), k5], h => ⟨k0, k1, k2, k3, k5, by rw [show n = "ValueError.__new__" from beq_iff_eq.mp h]⟩
theorem oexB_ok {C : Addr} (h : oexB K C = true) : ∃ nm q N bs bm sn sub ab col dd k0 k1 k2 k3 k5, K.lookup C = some (excClassObj nm q C N bs bm true sn sub ab col dd k0 k1 k2 k3 k5 "ValueError.__new__") ∧ PySem.HandSPX.refsVE bm = true := by
  unfold oexB at h
  cases e : K.lookup C with
  | none => rw [e] at h; cases h
  | some o =>
    obtain ⟨oc, od, dt, sl⟩ := o
    rw [e] at h
    cases oc <;> try (cases dt <;> cases h)
    rename_i t
    cases dt <;> try cases h
    rename_i cd
    obtain ⟨h1, h2⟩ := ba h
    obtain ⟨ht, h3⟩ := ba h1
    have et : t = "type" := beq_iff_eq.mp ht
    obtain ⟨a1, a2, a3, a4, a5, a6, a7, a8, a9, a10, a11⟩ := cd
    cases a3 with
    | nil => cases h3
    | cons v bm =>
      cases v <;> try cases h3
      rename_i D
      obtain ⟨g1, g2⟩ := ba h3
      obtain ⟨g3, g4⟩ := ba g2
      obtain ⟨g5, g6⟩ := ba g4
      have eD : D = C := beq_iff_eq.mp g1
      have e11 : a11 = false := beq_iff_eq.mp g3
      have e6 : a6 = true := g5
      obtain ⟨l⟩ := sl
      obtain ⟨k0, k1, k2, k3, k5, el⟩ := slB_ok (show slB l = true from h2)
      rw [et, eD, e11, e6, el]
      exact ⟨_, _, _, _, bm, _, _, _, _, _, _, _, _, _, _, rfl, g6⟩
/-- what is asked of a refusal's class that only the program raises -/
def errQ (K : PySem.W.Frag) (x : Str) : Bool :=
  (oexB K (ga K x) && (eqO (PySem.W.findIn K (.ref (ga K x)) "__setattr__") (some (some (.builtin "object.__setattr__"))) && (decide (PySem.W.subIn K (.ref (ga K x)) (.type "BaseException") = some true) && (decide (PySem.W.typeIn K (.ref (ga K x)) = some (.type "type")) && PySem.W.keepIn K (.ref (ga K x))))))
  && (eqO (PySem.W.findIn K (.ref (ga K x)) "__init__") (some (some (.ref (ma K (ga K x) "__init__")))) && (decide (PySem.W.typeIn K (.ref (ma K (ga K x) "__init__")) = some (.type "function")) && eqO (PySem.W.findIn K (.ref (ga K x)) "word") (some none)))
structure ErrQ (K : PySem.W.Frag) (x : Str) : Prop where
  oex : OexC K (ga K x)
  iC : PySem.W.findIn K (.ref (ga K x)) "__init__" = some (some (.ref (ma K (ga K x) "__init__")))
  tI : PySem.W.typeIn K (.ref (ma K (ga K x) "__init__")) = some (.type "function")
  wd : PySem.W.findIn K (.ref (ga K x)) "word" = some none
theorem errQ_ok {x : Str} (h : errQ K x = true) : ErrQ K x := by
  obtain ⟨h1, h2⟩ := ba h
  obtain ⟨a1, h1⟩ := ba h1
  obtain ⟨a2, h1⟩ := ba h1
  obtain ⟨a3, h1⟩ := ba h1
  obtain ⟨a4, a5⟩ := ba h1
  obtain ⟨b1, h2⟩ := ba h2
  obtain ⟨b2, b3⟩ := ba h2
  exact ⟨⟨oexB_ok a1, eqO_ok a2, of_decide_eq_true a3, of_decide_eq_true a4, a5⟩, eqO_ok b1, of_decide_eq_true b2, eqO_ok b3⟩
/-- a def without defaults -/
theorem fun_of {x q : Str} {st : Stmt} {f : Addr} {fd : FuncData} {kws : List (Str × V)} (F : FunD K x q (defArgs st) (defBody st) (defScope st) [] kws f fd) : Fun K x q st f fd := by
  obtain ⟨oc, od, dV, kV, doc, pm, an, cdv, ct, osl, rfl, lk, hcd, hD, _⟩ := F.ex
  rcases hD with ⟨_, rfl⟩ | ⟨e, _⟩
  · exact ⟨⟨oc, od, kV, doc, pm, an, cdv, ct, osl, rfl, lk, hcd⟩, F.kp⟩
  · exact absurd rfl e
/-- a def that makes lambdas: its code object is told by name -/
theorem lam_of {x q : Str} {st : Stmt} {p : He.Defn} {fd : FuncData} (F : Fun K x q st (He.fAd K p) fd) : ∃ oc od kV doc pm an ct osl, fd = PySem.W.fnOf x q (defArgs st) (defBody st) (defScope st) .none kV doc pm an (.ref (He.codeOf K p)) ct ∧ K.lookup (He.fAd K p) = some ⟨oc, od, .func (PySem.W.fnOf x q (defArgs st) (defBody st) (defScope st) .none kV doc pm an (.ref (He.codeOf K p)) ct), osl⟩ ∧ PySem.W.codeIn K (.ref (He.codeOf K p)) q = true := by
  obtain ⟨oc, od, kV, doc, pm, an, cdv, ct, osl, rfl, lk, hcd⟩ := F.ex
  obtain ⟨c, rfl⟩ := He.codeIn_ref hcd
  have e := He.codeOf_eq (p := p) (c := c) lk rfl
  rw [e]
  exact ⟨oc, od, kV, doc, pm, an, ct, osl, rfl, lk, hcd⟩
end
end Onp
set_option maxHeartbeats 0
namespace Onp
open PySem PySem.Spec PyProof.Rows L2
def fa0 : List He.Fa := [.glo "_law_bag", .glo "_law_pull", .glo "_law_of", .glo "_law_same", .glo "_law_deed", .glo "_law_letters", .glo "_law_rooms_some", .glo "_law_arrow", .glo "_law_drawn", .glo "_law_full_one", .glo "_law_known", .glo "_law_machine", .glo "_law_made", .glo "_law_tells", .glo "_law_sorted"]
def fa1 : List He.Fa := [.glo "_law_spread", .glo "_law_left", .glo "are_letters", .glo "is_letter", .glo "is_arrow", .glo "need_arrows", .glo "need_rooms", .glo "steps_by_start", .glo "made", .glo "once_each", .glo "with_keep", .glo "come_to", .glo "numbered", .glo "turned_arrows", .glo "bare"]
def fa2 : List He.Fa := [.glo "trimmed", .glo "law", .free "isinstance", .free "list", .free "tuple", .free "bool", .free "int", .free "str", .free "len", .free "all", .free "zip", .free "set", .free "sorted", .free "range", .free "enumerate"]
def fa3 : List He.Fa := [.str "SMALL_LETTERS" "abcdefghijklmnopqrstuvwxyz", .int "MOST_LETTERS" 3, .int "MOST_ROOMS" 8, .int "MOST_ARROWS" 40, .glo "Machine", .cls "Machine", .noat "Machine" "room_count", .noat "Machine" "letter_text", .noat "Machine" "arrow_row", .noat "Machine" "first_row", .noat "Machine" "last_row", .noat "Machine" "step_rows", .mkr "Machine", .meth "Machine" "rooms", .meth "Machine" "letters"]
def fa4 : List He.Fa := [.meth "Machine" "arrows", .meth "Machine" "firsts", .meth "Machine" "lasts", .meth "Machine" "__eq__", .glo "DEEDS"]
def fas : List He.Fa := (fa0 ++ (fa1 ++ (fa2 ++ (fa3 ++ (fa4)))))
def d_B : He.DefD := ⟨("_law_bag", none), "_law_bag", "_law_bag", defArgs (topS 31), defBody (topS 31), defScope (topS 31), [], []⟩
def d_Pu : He.DefD := ⟨("_law_pull", none), "_law_pull", "_law_pull", defArgs (topS 32), defBody (topS 32), defScope (topS 32), [], []⟩
def d_O : He.DefD := ⟨("_law_of", none), "_law_of", "_law_of", defArgs (topS 33), defBody (topS 33), defScope (topS 33), [], []⟩
def d_Sm : He.DefD := ⟨("_law_same", none), "_law_same", "_law_same", defArgs (topS 34), defBody (topS 34), defScope (topS 34), [], []⟩
def d_De : He.DefD := ⟨("_law_deed", none), "_law_deed", "_law_deed", defArgs (topS 35), defBody (topS 35), defScope (topS 35), [], []⟩
def d_Le : He.DefD := ⟨("_law_letters", none), "_law_letters", "_law_letters", defArgs (topS 36), defBody (topS 36), defScope (topS 36), [], []⟩
def d_Ro : He.DefD := ⟨("_law_rooms_some", none), "_law_rooms_some", "_law_rooms_some", defArgs (topS 37), defBody (topS 37), defScope (topS 37), [], []⟩
def d_Ar : He.DefD := ⟨("_law_arrow", none), "_law_arrow", "_law_arrow", defArgs (topS 38), defBody (topS 38), defScope (topS 38), [], []⟩
def d_Dr : He.DefD := ⟨("_law_drawn", none), "_law_drawn", "_law_drawn", defArgs (topS 39), defBody (topS 39), defScope (topS 39), [], []⟩
def d_Fu : He.DefD := ⟨("_law_full_one", none), "_law_full_one", "_law_full_one", defArgs (topS 40), defBody (topS 40), defScope (topS 40), [], []⟩
def d_Kw : He.DefD := ⟨("_law_known", none), "_law_known", "_law_known", defArgs (topS 41), defBody (topS 41), defScope (topS 41), [], []⟩
def d_Ml : He.DefD := ⟨("_law_machine", none), "_law_machine", "_law_machine", defArgs (topS 42), defBody (topS 42), defScope (topS 42), [], []⟩
def d_Md : He.DefD := ⟨("_law_made", none), "_law_made", "_law_made", defArgs (topS 43), defBody (topS 43), defScope (topS 43), [], []⟩
def d_Te : He.DefD := ⟨("_law_tells", none), "_law_tells", "_law_tells", defArgs (topS 44), defBody (topS 44), defScope (topS 44), [], []⟩
def d_So : He.DefD := ⟨("_law_sorted", none), "_law_sorted", "_law_sorted", defArgs (topS 45), defBody (topS 45), defScope (topS 45), [], []⟩
def d_Sp : He.DefD := ⟨("_law_spread", none), "_law_spread", "_law_spread", defArgs (topS 46), defBody (topS 46), defScope (topS 46), [], []⟩
def d_Ll : He.DefD := ⟨("_law_left", none), "_law_left", "_law_left", defArgs (topS 47), defBody (topS 47), defScope (topS 47), [], []⟩
def d_Al : He.DefD := ⟨("are_letters", none), "are_letters", "are_letters", defArgs (topS 14), defBody (topS 14), defScope (topS 14), [], []⟩
def d_Il : He.DefD := ⟨("is_letter", none), "is_letter", "is_letter", defArgs (topS 15), defBody (topS 15), defScope (topS 15), [], []⟩
def d_Ia : He.DefD := ⟨("is_arrow", none), "is_arrow", "is_arrow", defArgs (topS 16), defBody (topS 16), defScope (topS 16), [], []⟩
def d_Na : He.DefD := ⟨("need_arrows", none), "need_arrows", "need_arrows", defArgs (topS 17), defBody (topS 17), defScope (topS 17), [], []⟩
def d_Nr : He.DefD := ⟨("need_rooms", none), "need_rooms", "need_rooms", defArgs (topS 18), defBody (topS 18), defScope (topS 18), [], []⟩
def d_Sb : He.DefD := ⟨("steps_by_start", none), "steps_by_start", "steps_by_start", defArgs (topS 19), defBody (topS 19), defScope (topS 19), [], []⟩
def d_Mp : He.DefD := ⟨("made", none), "made", "made", defArgs (topS 23), defBody (topS 23), defScope (topS 23), [], []⟩
def d_On : He.DefD := ⟨("once_each", none), "once_each", "once_each", defArgs (topS 22), defBody (topS 22), defScope (topS 22), [], []⟩
def d_Wk : He.DefD := ⟨("with_keep", none), "with_keep", "with_keep", defArgs (topS 27), defBody (topS 27), defScope (topS 27), [], []⟩
def d_Co : He.DefD := ⟨("come_to", none), "come_to", "come_to", defArgs (topS 25), defBody (topS 25), defScope (topS 25), [], []⟩
def d_Nu : He.DefD := ⟨("numbered", none), "numbered", "numbered", defArgs (topS 24), defBody (topS 24), defScope (topS 24), [], []⟩
def d_Ta : He.DefD := ⟨("turned_arrows", none), "turned_arrows", "turned_arrows", defArgs (topS 26), defBody (topS 26), defScope (topS 26), [], []⟩
def d_Ba : He.DefD := ⟨("bare", none), "bare", "bare", defArgs (topS 28), defBody (topS 28), defScope (topS 28), [], []⟩
def d_Tr : He.DefD := ⟨("trimmed", none), "trimmed", "trimmed", defArgs (topS 29), defBody (topS 29), defScope (topS 29), [], []⟩
def d_L : He.DefD := ⟨("law", none), "law", "law", defArgs (topS 48), defBody (topS 48), defScope (topS 48), [], []⟩
def d_I : He.DefD := ⟨("Machine", some "__init__"), "__init__", "Machine.__init__", defArgs (inClass (topS 20) 0), defBody (inClass (topS 20) 0), defScope (inClass (topS 20) 0), [.adr (He.dflAt ("Machine", some "__init__") 0)], []⟩
def d_Rm : He.DefD := ⟨("Machine", some "rooms"), "rooms", "Machine.rooms", defArgs (inClass (topS 20) 1), defBody (inClass (topS 20) 1), defScope (inClass (topS 20) 1), [], []⟩
def d_Lt : He.DefD := ⟨("Machine", some "letters"), "letters", "Machine.letters", defArgs (inClass (topS 20) 2), defBody (inClass (topS 20) 2), defScope (inClass (topS 20) 2), [], []⟩
def d_Aw : He.DefD := ⟨("Machine", some "arrows"), "arrows", "Machine.arrows", defArgs (inClass (topS 20) 3), defBody (inClass (topS 20) 3), defScope (inClass (topS 20) 3), [], []⟩
def d_Fs : He.DefD := ⟨("Machine", some "firsts"), "firsts", "Machine.firsts", defArgs (inClass (topS 20) 4), defBody (inClass (topS 20) 4), defScope (inClass (topS 20) 4), [], []⟩
def d_Ls : He.DefD := ⟨("Machine", some "lasts"), "lasts", "Machine.lasts", defArgs (inClass (topS 20) 5), defBody (inClass (topS 20) 5), defScope (inClass (topS 20) 5), [], []⟩
def d_E : He.DefD := ⟨("Machine", some "__eq__"), "__eq__", "Machine.__eq__", defArgs (inClass (topS 20) 16), defBody (inClass (topS 20) 16), defScope (inClass (topS 20) 16), [], []⟩
def fn0 : List He.DefD := [d_B, d_Pu, d_O, d_Sm, d_De, d_Le, d_Ro, d_Ar, d_Dr, d_Fu, d_Kw, d_Ml, d_Md, d_Te, d_So]
def fn1 : List He.DefD := [d_Sp, d_Ll, d_Al, d_Il, d_Ia, d_Na, d_Nr, d_Sb, d_Mp, d_On, d_Wk, d_Co, d_Nu, d_Ta, d_Ba]
def fn2 : List He.DefD := [d_Tr, d_L, d_I, d_Rm, d_Lt, d_Aw, d_Fs, d_Ls, d_E]
def fns : List He.DefD := fn0 ++ (fn1 ++ (fn2))
def tfs : List He.Defn := []
def exK (K : PySem.W.Frag) : Bool := true && (He.tupB K "DEEDS" [.str "keep", .str "cent", .str "fill", .str "coin", .str "brim"] && (He.eqO (PySem.W.findIn K (.ref (He.ga K "Machine")) "__class__") (some (some (.builtin "object.__class__"))) && (decide (PySem.W.mroIn K (He.ga K "Machine") (.type "object") = some true) && (decide (PySem.W.kitOne K (.ref (He.ga K "Machine")) (.ref (He.ga K "Machine")) = some true) && (He.eqO (PySem.W.findIn K (.ref (He.ga K "Machine")) "__ne__") (some (some (.builtin "object.__ne__"))) && (decide (PySem.W.specialIn K (.builtin "object.__class__") "__get__" = some (some (.builtin "getset_descriptor.__get__"))) && (decide (PySem.W.takesIn K (.builtin "object.__class__") = some true) && (dflE K))))))))
def nm0 : List PySem.Str := ["_wall", "PurseError", "BadLetters", "BadRoom", "BadArrow", "BadSize", "Full", "DEEDS", "SMALL_LETTERS", "MOST_ROOMS", "MOST_LETTERS", "MOST_ARROWS", "are_letters", "is_letter", "is_arrow"]
def nm1 : List PySem.Str := ["need_arrows", "need_rooms", "steps_by_start", "Machine", "once_each", "made", "numbered", "come_to", "turned_arrows", "with_keep", "bare", "trimmed", "_law_bag", "_law_pull", "_law_of"]
def nm2 : List PySem.Str := ["_law_same", "_law_deed", "_law_letters", "_law_rooms_some", "_law_arrow", "_law_drawn", "_law_full_one", "_law_known", "_law_machine", "_law_made", "_law_tells", "_law_sorted", "_law_spread", "_law_left"]
def loose : List PySem.Str := nm0 ++ (nm1 ++ (nm2))
abbrev R : PySem.W.OpenRow := PySem.W.OpenLaw.row PySem.Challenge.rw_onepurse_k35_bare_and_trimmed
abbrev hk : PySem.W.Hook := He.hookX 5 fas fns [] tfs exK
noncomputable def ob (s : PySem.W.SharedT) : He.AlX := He.obsX 5 fas fns [] tfs exK (HandSHeadRun.getT s)
theorem ob_eq (s : PySem.W.SharedT) : ob s = hk.obs s.abs := He.obsX_eq (HandSHeadRun.getT_eq s)
theorem run (w : World) : HandSHeadRun.RunEq R (PySem.W.view R.prog [48]) hk ob 9500 loose w := by
  intro os
  kernel_rfl
end Onp
set_option maxHeartbeats 4000000
set_option autoImplicit false
namespace Onp
open PySem PySem.Spec PyProof.Rows L2
/-! ### texts as lists of code points -/
def Sx (xs : List Nat) : Str := ⟨xs.toArray⟩
theorem sx_len (xs : List Nat) : (Sx xs).length = xs.length := by simp [Sx, Str.length]
theorem sx_cps (xs : List Nat) : (Sx xs).cps.toList = xs := rfl
theorem sx_app (xs ys : List Nat) : Sx xs ++ Sx ys = Sx (xs ++ ys) := by
  show Str.mk (xs.toArray ++ ys.toArray) = Str.mk (xs ++ ys).toArray
  rw [List.append_toArray]
theorem sx_of (z : Str) : z = Sx z.cps.toList := rfl
theorem sx_inj {xs ys : List Nat} (h : Sx xs = Sx ys) : xs = ys := by
  have := congrArg (fun z : Str => z.cps.toList) h
  simpa [Sx] using this
def rep {α : Type} (n : Nat) (xs : List α) : List α := (List.replicate n xs).flatten
theorem rep_len {α : Type} (n : Nat) (xs : List α) : (rep n xs).length = n * xs.length := by
  unfold rep
  induction n with
  | zero => simp
  | succ n ih =>
    rw [List.replicate_succ, List.flatten_cons, List.length_append, ih, Nat.succ_mul]
    omega
theorem foldl_cps (n : Nat) (xs : List Nat) (a : List Nat) : ((List.replicate n xs.toArray).foldl (· ++ ·) a.toArray) = (a ++ rep n xs).toArray := by
  induction n generalizing a with
  | zero => simp [rep]
  | succ n ih =>
    rw [List.replicate_succ, List.foldl_cons, List.append_toArray, ih]
    unfold rep
    rw [List.replicate_succ, List.flatten_cons, List.append_assoc]
section
variable {X : Cx}
/-- text * int -/
def rMulS : R2 := fun x y H Q => ∃ (xs : List Nat) (n : Nat), x = .str (Sx xs) ∧ y = .int (n : Int) ∧ n ≤ 1000 ∧ n * xs.length ≤ sizeLine ∧ Q (.str (Sx (rep n xs))) H
theorem op_mulS : OpR X (binaryOp .Mult) rMulS := by
  intro pins s σ H x y v u Q I rx ry h
  obtain ⟨xs, n, rfl, rfl, hn, hz, q⟩ := h
  obtain ⟨t, rfl⟩ := rx
  obtain ⟨t', rfl⟩ := ry
  have hl : (Sx xs).length = xs.length := sx_len xs
  refine P.mul_str ?_ (fun h1 h2 => ?_) (fun h1 h2 => ?_) ?_
  · have h1 : ¬ ((n : Int) < -(2 ^ 63 : Int)) := by omega
    have h2 : ¬ ((n : Int) ≥ 2 ^ 63) := by omega
    rw [decide_eq_false h1, decide_eq_false h2]
    rfl
  · rw [hl]
    have hs := sizeLine_eq
    have q1 : ((xs.length : Int) * (n : Int)) ≤ 2 ^ 63 - 1 := by
      have q2 : n * xs.length ≤ 9223372036854775807 := by omega
      have q3 : ((n * xs.length : Nat) : Int) ≤ ((9223372036854775807 : Nat) : Int) := Int.ofNat_le.mpr q2
      rw [Int.mul_comm, ← Int.natCast_mul]
      exact q3
    have q3 := Int.le_ediv_of_mul_le (show (0 : Int) < n by omega) q1
    omega
  · rw [hl]
    unfold Builtin.Str.tooLong
    rw [Int.toNat_natCast, Nat.mul_comm]
    exact decide_eq_false (by omega)
  · by_cases h1 : (n : Int) < 1
    · rw [if_pos h1]
      have e : n = 0 := by omega
      subst e
      exact ⟨by decide, .str (Sx (rep 0 xs)), H, I.tok _, ⟨_, rfl⟩, q⟩
    · rw [if_neg h1]
      by_cases h2 : ((n : Int) == 1 || (Sx xs).length == 0) = true
      · rw [if_pos h2]
        have e : rep n xs = xs := by
          rcases Bool.or_eq_true_iff.mp h2 with h | h
          · have : n = 1 := by have := beq_iff_eq.mp h; omega
            subst this
            simp [rep]
          · rw [hl] at h
            have : xs = [] := List.length_eq_zero_iff.mp (beq_iff_eq.mp h)
            subst this
            simp [rep]
        rw [e] at q
        exact ⟨.str (Sx xs), H, I, ⟨_, rfl⟩, q⟩
      · rw [if_neg h2, Int.toNat_natCast]
        have e : (List.replicate n (Sx xs).cps).foldl (· ++ ·) #[] = (rep n xs).toArray := foldl_cps n xs []
        rw [e]
        refine ⟨?_, .str (Sx (rep n xs)), H, I.tok _, ⟨_, rfl⟩, q⟩
        show (Sx (rep n xs)).length ≤ sizeLine
        rw [sx_len, rep_len]
        exact hz
/-- list(text) -/
def signsV (xs : List Nat) : List V := xs.map fun c => V.str (Sx [c])
theorem call_list_s (hc : X.calm = true) : CallR X (.type "list") (fun vs H Q => ∃ xs : List Nat, vs = [.str (Sx xs)] ∧ xs.length ≤ sizeLine ∧ ∀ l, H l = none → Q (.ref l) (upd H l (.lst (signsV xs)))) := by
  intro pins s σ H vs us Q I r h
  obtain ⟨xs, rfl, hz, q⟩ := h
  obtain ⟨u, rfl, t, rfl⟩ := vals1 r
  refine call_list_str (I.ok.hd hc) (Sx xs) t (hn := by show (Sx xs).length ≤ sizeLine; rw [sx_len]; exact hz) fun h' tk acc c hk hS ha => ?_
  refine ⟨.ref s.heap.objs.size, upd H s.heap.objs.size (.lst (signsV xs)), I.laid (t' := tk) hk (Nat.le_refl _) ?_, rfl, q _ (I.hok.fresh (Nat.le_refl _))⟩
  have e : acc = acc.toList.toArray := by simp
  refine ⟨by unfold signsV; rw [List.length_map]; exact hz, acc.toList, c, ?_, by rw [← e]; exact hS⟩
  have hsz : acc.toList.length = xs.length := by
    rw [Array.length_toList, ha.1]
    exact sx_len xs
  have key : ∀ (ys : List Nat) (vs : List Value) (k : Nat), vs.length = ys.length → (∀ (j : Nat) (v : Value), vs[j]? = some v → ∃ cc uu, ys[j]? = some cc ∧ v = Value.str ⟨#[cc]⟩ uu) → Vals (signsV ys) vs := by
    intro ys
    induction ys with
    | nil =>
      intro vs _ hl _
      rw [List.length_eq_zero_iff.mp hl]
      exact .nil
    | cons y ys ih =>
      intro vs k hl hv
      cases vs with
      | nil => simp at hl
      | cons v vs =>
        obtain ⟨cc, uu, e1, e2⟩ := hv 0 v rfl
        cases e1
        subst e2
        exact .cons ⟨uu, rfl⟩ (ih vs k (by simpa using hl) fun j v hj => hv (j + 1) v hj)
  refine key xs acc.toList 0 hsz fun j v hj => ?_
  obtain ⟨cc, uu, e1, e2⟩ := ha.2 j v (by simpa using hj)
  refine ⟨cc, uu, ?_, e2⟩
  have e1 : xs.toArray[j]? = some cc := e1
  simpa using e1
end
end Onp
set_option maxHeartbeats 4000000
set_option autoImplicit false
/-! zip(text, text) -/
namespace Onp
open PySem PySem.Spec PyProof.Rows L2
abbrev sgn (c : Nat) : V := .str ⟨#[c]⟩
def ItzS (x y : Str) : It :=
  ⟨fun i _ => i < min x.cps.size y.cps.size, fun i H v H' => ∃ T c d, v = .ref T ∧ H T = none ∧ H' = upd H T (.tup [sgn c, sgn d]) ∧ x.cps[i]? = some c ∧ y.cps[i]? = some d, fun i _ => i = min x.cps.size y.cps.size⟩
abbrev stS2 (x y : Str) (t u : Tok) (z TI TO i1 i2 : Addr) : Nat → Heap → Prop := fun i h => IsZip h z TI TO .none ∧ IsTupOf2 h TI (.ref i1) (.ref i2) ∧ (∃ a1 a2, IsTupOf2 h TO a1 a2) ∧ h.IsStrIter i1 (strIterType x) x t i ∧ h.IsStrIter i2 (strIterType y) y u i
theorem zipS_obj {x y : Str} {t u : Tok} {z TI TO i1 i2 : Addr} {i : Nat} {h : Heap} (st : stS2 x y t u z TI TO i1 i2 i h) : ∀ c ∈ z :: TI :: TO :: ([i1] ++ [i2]), ∃ o, h.get? c = some o ∧ ∀ v, o.data ≠ .cell v := fun c hc => by
    obtain ⟨g1, g2, ⟨_, _, g3⟩, ⟨o1, e1, _, d1⟩, ⟨o2, e2, _, d2⟩⟩ := st
    have hc' : c = z ∨ c = TI ∨ c = TO ∨ c = i1 ∨ c = i2 := by simpa using hc
    rcases hc' with rfl | rfl | rfl | rfl | rfl
    · exact ⟨_, g1, fun v q => nomatch q⟩
    · exact ⟨_, g2, fun v q => nomatch q⟩
    · exact ⟨_, g3, fun v q => nomatch q⟩
    · exact ⟨o1, e1, fun v q => by rw [d1] at q; cases q⟩
    · exact ⟨o2, e2, fun v q => by rw [d2] at q; cases q⟩
theorem turn_zipS {P : Program} {w : World} {K : PySem.W.Frag} {elts : List Expr} {kk : Nat} {tpos : Pos} {x y : Str} {t u : Tok} {z TI TO i1 i2 : Addr} (S : ZipSep2 z TI TO i1 i2 [i1] [i2]) :
    Turn P w K (.Tuple elts kk tpos) (ItzS x y) (z :: TI :: TO :: ([i1] ++ [i2])) z (stS2 x y t u z TI TO i1 i2) where
  mem := List.mem_cons_self
  obj := fun i h st => zipS_obj st
  keep := fun i h h' st k => by
    obtain ⟨g1, g2, ⟨a1, a2, g3⟩, ⟨o1, e1, r1⟩, ⟨o2, e2, r2⟩⟩ := st
    exact ⟨k z (by simp) _ g1, k TI (by simp) _ g2, ⟨a1, a2, k TO (by simp) _ g3⟩, ⟨o1, k i1 (by simp) _ e1, r1⟩, ⟨o2, k i2 (by simp) _ e2, r2⟩⟩
  item := by
    intro X hP hw hK hc i pins s σ H E I hf st go
    subst hP hw hK
    have W := WalksT.zipD2 (A := X.A) S (Draws.text (prog := X.prog) (w := X.w) (A := X.A.in1) (by simp [I.ok.hd hc]) i1 x t) (Draws.text (prog := X.prog) (w := X.w) (A := X.A.in1) (by simp [I.ok.hd hc]) i2 y u)
    refine W.item i s _ _ go st fun T vals h' tk pv hT isT mid kp => ?_
    obtain ⟨x1, x2, ⟨c, u1, hc1, rfl⟩, ⟨d, u2, hd1, rfl⟩, rfl⟩ := pv
    refine ⟨_, rfl, W.go elts kk tpos i T { s with heap := h', toks := tk } _ _ mid fun h2 st2 kp2 => ?_⟩
    obtain ⟨o, ho, r⟩ := isT
    have hoT : h2.IsTuple T #[.str ⟨#[c]⟩ u1, .str ⟨#[d]⟩ u2] := ⟨o, kp2 _ _ (W.apart i T _ mid) ho, r⟩
    have new : ObjOk X.prog X.w (upd H T (.tup [sgn c, sgn d])) h2 T (.tup [sgn c, sgn d]) := ⟨by show 2 ≤ sizeLine; decide, [.str ⟨#[c]⟩ u1, .str ⟨#[d]⟩ u2], .cons ⟨_, rfl⟩ (.cons ⟨_, rfl⟩ .nil), hoT⟩
    have I1 : Inv X pins σ (upd H T (.tup [sgn c, sgn d])) { s with heap := h2, toks := tk } := I.turnedNew (t' := tk) (ch := z :: TI :: TO :: ([i1] ++ [i2])) (fun b o hb q => kp2 b o (fun z => hb (W.sub b z)) (kp b o (fun z => hb (W.sub b z)) q)) hf hT new
    refine ⟨.ref T, _, I1, rfl, ⟨T, c, d, rfl, I.hok.fresh hT, rfl, hc1, hd1⟩, st2, fun b hb => ?_⟩
    have ne : b ≠ T := fun e => by
      obtain ⟨o', eo', _⟩ := (zipS_obj st b hb)
      exact absurd (Heap.lt_size eo') (Nat.not_lt_of_le (e ▸ hT))
    rw [upd_ne ne]
    exact (hf b hb).1
  done := by
    intro X hP hw hK hc i pins s σ H E I hf st go
    subst hP hw hK
    have W := WalksT.zipD2 (A := X.A) S (Draws.text (prog := X.prog) (w := X.w) (A := X.A.in1) (by simp [I.ok.hd hc]) i1 x t) (Draws.text (prog := X.prog) (w := X.w) (A := X.A.in1) (by simp [I.ok.hd hc]) i2 y u)
    rw [show i = min x.cps.size y.cps.size from go] at st
    exact W.done s _ _ st fun h' tk kp => ⟨rfl, I.turnedL (t' := tk) (ch := z :: TI :: TO :: ([i1] ++ [i2])) (fun b o hb q => kp b o (fun z => hb (W.sub b z)) q) hf⟩
  self := fun A i s Q E st h => wpAny_pyIter_zip st.1 h
def iZipS (ta : TA) : TI := fun σ H R => ta σ H fun vs H1 => ∃ x y, vs = [.str x, .str y] ∧ R (ItzS x y) H1
theorem pi_zipS {X : Cx} {e e2 : Expr} {ta : TA} {p pos tpos : Pos} {elts : List Expr} {kk : Nat} (hg : Gl X "zip") (hm : X.mg "zip" = none) (ha : PA X [e, e2] ta)
    (hs : starEach [e, e2] X.env = (false, eval e X.env) :: starEach [e2] X.env := by rfl) (hpl : (backTo pos (starEach [e2] X.env)).any (·.1) = false := by rfl) :
    PI X (.Tuple elts kk tpos) (.Call (.Name "zip" p) [e, e2] [] pos) (iZipS ta) := by
  refine ⟨fun pins s σ H R I h => ?_⟩
  refine Call_ (ld_blt I hg hm PyProof.Rows.boot_zip (PyProof.Rows.callWith_type1 (thn (ha.run pos pins s σ H _ I h) fun us s1 ⟨vs, H1, I1, r1, q1⟩ => ?_) hs hpl))
  obtain ⟨x, y, ex, q⟩ := q1
  subst ex
  cases r1 with
  | cons r rr =>
    cases rr with
    | cons r' rr =>
      cases rr
      obtain ⟨t, rfl⟩ := r
      obtain ⟨u, rfl⟩ := r'
      refine zip_begins2 (begins_text x t) (begins_text y u) trivial trivial fun h' g1 g2 g3 g4 g5 sz kp => wpAny_pyIter_zip g1 ?_
      have I2 : Inv X pins σ H1 { s1 with heap := h' } := I1.kept (t' := s1.toks) kp
      refine ⟨s1.heap.objs.size + 4, _, _, _, H1, rfl, I2, turn_zipS (x := x) (y := y) (t := t) (u := u) (zip_sep2 (N := s1.heap.objs.size) (fp1 := []) (fp2 := []) (fun _ h => nomatch h) (fun _ h => nomatch h)), ⟨g1, g2, ⟨_, _, g3⟩, ⟨_, g4, rfl, rfl⟩, ⟨_, g5, rfl, rfl⟩⟩, fun c hc => ?_, q⟩
      have hc' : c = s1.heap.objs.size + 4 ∨ c = s1.heap.objs.size + 2 ∨ c = s1.heap.objs.size + 3 ∨ c = s1.heap.objs.size ∨ c = s1.heap.objs.size + 1 := by simpa using hc
      have le : s1.heap.objs.size ≤ c := by
        rcases hc' with rfl | rfl | rfl | rfl | rfl <;> first | exact Nat.le_refl _ | exact Nat.le_add_right _ _
      exact I1.fpOk le (I1.hok.fresh le)
theorem walk_zipS (x y : Str) : Walk (ItzS x y) (min x.cps.size y.cps.size) (fun _ => True) (fun i H v H' => ∃ T c d, v = .ref T ∧ H T = none ∧ H' = upd H T (.tup [sgn c, sgn d]) ∧ x.cps[i]? = some c ∧ y.cps[i]? = some d) :=
  ⟨fun _ _ h _ => h, fun _ _ => rfl, fun _ _ _ _ _ _ y => y⟩
end Onp
set_option maxHeartbeats 4000000
set_option autoImplicit false
/-! sets of tuples of ints and texts (fewer than 64) -/
namespace Onp
open PySem PySem.Spec PyProof.Rows L2
abbrev hM (P : Program) (w : World) (k : List Key) : Int := tupleKeyHash (mixKind P w) k
abbrev IsM (P : Program) (w : World) (h : Heap) (k : List Key) (a : Addr) : Prop := IsTupleKey (mixKind P w) h k a
abbrev AK : Type := Addr × List Key
section
variable {P : Program} {w : World} {A : Around} {E : Value → Shared → Prop} {s : Shared}
def Flat (v : Value) : Prop := (∃ i t, v = Value.int i t) ∨ ∃ x t, v = Value.str x t
theorem flat_of {k : List Key} {vs : List Value} (h : ItemsAre (mixKind P w) k vs) : ∀ v ∈ vs, Flat v := by
  induction h with
  | nil => exact fun v hv => nomatch hv
  | cons h1 _ ih =>
    intro v hv
    rcases List.mem_cons.mp hv with rfl | hv
    · rcases keyIs_shape h1 with ⟨i, t, _, e⟩ | ⟨x, t, _, e⟩
      · exact .inl ⟨_, _, e⟩
      · exact .inr ⟨_, _, e⟩
    · exact ih v hv
theorem flat_cls (n : Nat) {v : Value} (h : Flat v) : ofAClassStatement n v = pure false := by
  rcases h with ⟨i, t, rfl⟩ | ⟨x, t, rfl⟩ <;> cases n <;> rfl
theorem clsM {k : List Key} {b : Addr} {Q : Bool → Shared → Prop} (hk : IsM P w s.heap k b) (h : Q false s) : wpAny (model P w) A (ofAClassStatement 8 (.ref b)) Q E s := by
  have tT := hk.typeIs
  obtain ⟨ob, its, n, g1, _, g2, g3⟩ := hk
  unfold ofAClassStatement
  refine wpAny_bind (wpAny_typeOf tT ?_)
  dsimp only
  have e : (("tuple" : String) == "tuple") = true := by decide
  simp only [e, if_true, Bool.not_true, Bool.false_eq_true, if_false]
  try refine wpAny_bind (wpAny_pure ?_)
  try simp only [Bool.not_true, Bool.false_eq_true, if_false]
  show wpAny _ _ (seqItems? (.ref b) >>= _) _ _ s
  refine wpAny_bind (wpAny_seqItems g1 g2 ?_)
  dsimp only
  refine wpAny_bind ?_
  show wpAny _ _ (forIn its _ _) _ _ s
  rw [← Array.forIn_toList]
  refine wpAny_forIn_list _ (fun rest r s' => r.1 = none ∧ s' = s ∧ ∀ v ∈ rest, Flat v) _ ?_ ?_ _ _ ⟨rfl, rfl, flat_of g3⟩
  · rintro v rest r s' ⟨_, rfl, al⟩
    rw [flat_cls _ (al v List.mem_cons_self)]
    refine wpAny_bind (wpAny_pure ?_)
    simp only [Bool.false_eq_true, if_false]
    exact wpAny_pure ⟨rfl, rfl, fun u z => al u (List.mem_cons_of_mem _ z)⟩
  · rintro ⟨r1, r2⟩ s' ⟨er, rfl, _⟩
    simp only at er
    subst er
    exact wpAny_pure h
theorem flat_hash (n : Nat) {v : Value} (h : Flat v) : ∃ b, hashByValue n v = pure b := by
  rcases h with ⟨i, t, rfl⟩ | ⟨x, t, rfl⟩
  · exact ⟨true, by cases n <;> rfl⟩
  · exact ⟨false, by cases n <;> rfl⟩
theorem hashM {k : List Key} {b : Addr} {Q : Bool → Shared → Prop} (hk : IsM P w s.heap k b) (h : ∀ y, Q y s) : wpAny (model P w) A (hashByValue 8 (.ref b)) Q E s := by
  have tT := hk.typeIs
  obtain ⟨ob, its, n, g1, _, g2, g3⟩ := hk
  unfold hashByValue
  refine wpAny_bind (wpAny_specialOf tT F.slot_tuple_hash.lookup ?_)
  show wpAny _ _ (seqItems? (.ref b) >>= _) _ _ s
  refine wpAny_bind (wpAny_seqItems g1 g2 ?_)
  refine wpAny_bind ?_
  show wpAny _ _ (forIn its _ _) _ _ s
  rw [← Array.forIn_toList]
  refine wpAny_forIn_list _ (fun rest r s' => s' = s ∧ ∀ v ∈ rest, Flat v) _ ?_ ?_ _ _ ⟨rfl, flat_of g3⟩
  · rintro v rest r s' ⟨rfl, al⟩
    obtain ⟨y, ey⟩ := flat_hash 7 (al v List.mem_cons_self)
    rw [ey]
    refine wpAny_bind (wpAny_pure ?_)
    cases y with
    | true =>
      simp only [Bool.not_true, Bool.false_eq_true, if_false]
      exact wpAny_pure ⟨rfl, fun u z => al u (List.mem_cons_of_mem _ z)⟩
    | false =>
      simp only [Bool.not_false, if_true]
      exact wpAny_pure (wpAny_pure (h false))
  · rintro ⟨r1, r2⟩ s' ⟨rfl, _⟩
    cases r1 with
    | none => exact wpAny_pure (h _)
    | some y => exact wpAny_pure (h _)
theorem seenM {k : List Key} {b : Addr} {Q : Bool → Shared → Prop} (hk : IsM P w s.heap k b) {ys : List Value} (hy : ∀ y ∈ ys, ∃ k' c, y = Value.ref c ∧ IsM P w s.heap k' c) (h : Q false s) :
    wpAny (model P w) A (searchCouldBeSeen (.ref b) ys) Q E s := by
  unfold searchCouldBeSeen
  refine wpAny_bind ?_
  refine wpAny_forIn_list _ (fun rest r s' => r.1 = none ∧ s' = s ∧ ∀ y ∈ rest, ∃ k' c, y = Value.ref c ∧ IsM P w s.heap k' c) _ ?_ ?_ _ _ ⟨rfl, rfl, hy⟩
  · rintro v rest r s' ⟨_, rfl, al⟩
    obtain ⟨k', c, rfl, ic⟩ := al v List.mem_cons_self
    have more : ∀ y ∈ rest, ∃ k' c, y = Value.ref c ∧ IsM P w s'.heap k' c := fun u z => al u (List.mem_cons_of_mem _ z)
    dsimp only
    by_cases hv : (b == c || (carriedByValue (.ref b) && carriedByValue (.ref c))) = true
    · exact wp_if_pos hv (wpAny_pure ⟨rfl, rfl, more⟩)
    · refine wp_if_neg hv (wpAny_bind (wpAny_eqIsQuiet_tuple hk ?_))
      simp only [Bool.not_true, Bool.false_eq_true, if_false]
      refine wpAny_bind (wpAny_eqIsQuiet_tuple ic ?_)
      simp only [Bool.not_true, Bool.false_eq_true, if_false]
      refine wpAny_bind (clsM hk ?_)
      simp only [Bool.false_eq_true, if_false]
      refine wpAny_bind (clsM ic ?_)
      simp only [Bool.false_eq_true, if_false]
      exact wpAny_pure ⟨rfl, rfl, more⟩
  · rintro ⟨r1, r2⟩ s' ⟨er, rfl, _⟩
    simp only at er
    subst er
    exact wpAny_pure h
/-! ### the set -/
def rowsM (P : Program) (w : World) (L : List AK) : List (Int × Value) := L.map fun p => (hM P w p.2, Value.ref p.1)
structure SetM (P : Program) (w : World) (h : Heap) (a : Addr) (L : List AK) (es : Array (Int × Value)) (ep : Nat) (t : SetTable) : Prop where
  ob : ∃ o, h.get? a = some o ∧ o.ExactSet ∧ o.data = .set es ep t
  rows : es.toList = rowsM P w L
  tab : TabOk t (L.map fun p => hM P w p.2)
  nd : (L.map (·.2)).Nodup
  tup : ∀ p ∈ L, IsM P w h p.2 p.1
  led : w.params.followText "set-order" = true ∨ t.led = true
  room : L.length * 5 < t.mask * 3
  few : L.length < 64
variable {a : Addr} {L : List AK} {es : Array (Int × Value)} {ep : Nat} {t : SetTable}
theorem rowsM_len {L : List AK} {es : Array (Int × Value)} (e : es.toList = rowsM P w L) : es.size = L.length := by
  have q := congrArg List.length e
  simpa [rowsM] using q
theorem fitsM {n : Nat} (hd : t.dummies = #[]) (h1 : t.place.size = n) (h2 : n ≤ t.mask) : t.fits n = true := by
  unfold SetTable.fits SetTable.fill
  rw [hd, Bool.and_eq_true, beq_iff_eq, decide_eq_true_eq]
  show t.place.size = n ∧ t.place.size + 0 ≤ t.mask
  omega
theorem SetM.fits (R : SetM P w s.heap a L es ep t) : t.fits es.size = true := by
  have z1 := R.tab.sz
  rw [List.length_map] at z1
  have z2 := rowsM_len R.rows
  have z3 := R.room
  exact fitsM R.tab.dm (by omega) (by omega)
theorem SetM.entry (R : SetM P w s.heap a L es ep t) {i : Nat} {p : AK} (h : L[i]? = some p) : es[i]? = some (hM P w p.2, Value.ref p.1) := by
  rw [← Array.getElem?_toList, R.rows]
  unfold rowsM
  rw [List.getElem?_map, h]
  rfl
theorem SetM.gw (R : SetM P w s.heap a L es ep t) : ¬ t.gaveWay = true := by
  unfold SetTable.gaveWay
  rw [mask_odd R.tab.mok]
  decide
abbrev str0 (t : SetTable) (h : Int) : SetTable.Probe := runAt t.mask (SetTable.bits h % (t.mask + 1)) (SetTable.bits h)
theorem nth_dummy (m : Nat) : ∀ (n : Nat) (p : SetTable.Probe), p.dummy = none → (nth m p n).dummy = none
  | 0, _, h => h
  | n + 1, p, h => nth_dummy m n (adv m p) (by unfold adv; split <;> exact h)
theorem searchM (R : SetM P w s.heap a L es ep t) {x : Addr} {k : List Key} (hx : IsM P w s.heap k x) (hu : A.units < cLine) {K : Nat} (kf : K < 10 * SetTable.turns t.mask)
    (k1 : way t.mask (hM P w k) K ∉ t.place.toList) (k2 : ∀ c, c < K → way t.mask (hM P w k) c ∈ t.place.toList) {Q : SetFound → Shared → Prop}
    (yes : k ∈ L.map (·.2) → Q (.there none) s) (no : k ∉ L.map (·.2) → Q (.free (way t.mask (hM P w k) K) false) s) :
    ∀ (f c : Nat) (stand : Option SetTable.Probe), stand.getD (t.probeStart (hM P w k)) = nth t.mask (str0 t (hM P w k)) c → c ≤ K → K - c < f →
      (∀ (i : Nat) p, L[i]? = some p → p.2 = k → ∃ c', c ≤ c' ∧ c' < K ∧ t.place.toList[i]? = some (way t.mask (hM P w k) c')) →
      wpAny (model P w) A (setSearchFrom a (.ref x) (hM P w k) true f stand) Q E s
  | 0, c, stand, _, _, bad, _ => absurd bad (Nat.not_lt_zero _)
  | f + 1, c, stand, es0, hcK, hf, hre => by
    obtain ⟨ob, g1, gx, g2⟩ := R.ob
    rw [setSearchFrom_succ]
    refine wpAny_bind (wpAny_setState_of g1 g2 R.fits ?_)
    dsimp only
    refine wp_if_neg R.gw ?_
    try refine wpAny_bind (wpAny_pure ?_)
    have nd0 := nth_dummy t.mask c (str0 t (hM P w k)) rfl
    have sh : ∀ q, nth t.mask (nth t.mask (str0 t (hM P w k)) c) q = nth t.mask (str0 t (hM P w k)) (c + q) := fun q => (nth_add t.mask c _ q).symm
    have e1 : ∀ q, (nth t.mask (nth t.mask (str0 t (hM P w k)) c) q).j = way t.mask (hM P w k) (c + q) := fun q => congrArg SetTable.Probe.j (sh q)
    have hat : ∀ (i : Nat) p, L[i]? = some p → (fun i => (es[i]?.map (·.1)).getD 0) i = hM P w p.2 := fun i p hp => by
      show (es[i]?.map (·.1)).getD 0 = _
      rw [R.entry hp]
      rfl
    rcases go_spec t R.tab.ris R.tab.dm (fun i => (es[i]?.map (·.1)).getD 0) (hM P w k) (10 * SetTable.turns t.mask) (K - c) _ nd0 (by omega)
      (fun q hq => by rw [e1]; exact k2 (c + q) (by omega)) (by rw [e1, show c + (K - c) = K by omega]; exact k1) with ⟨q, i, hq, hi, hh, hno, hpr⟩ | ⟨hno, hpr⟩
    · have hpr' : t.probe (fun i => (es[i]?.map (·.1)).getD 0) (hM P w k) (stand.getD (t.probeStart (hM P w k))) = some (.candidate (way t.mask (hM P w k) (c + q)) i (nth t.mask (str0 t (hM P w k)) (c + (q + 1)))) := by
        rw [es0, ← e1, ← sh]
        exact hpr
      rw [hpr']
      dsimp only
      rw [e1] at hi
      have hil : i < L.length := by
        have z1 : i < t.place.toList.length := (List.getElem?_eq_some_iff.mp hi).1
        have z2 := R.tab.sz
        rw [List.length_map] at z2
        rw [Array.length_toList] at z1
        omega
      obtain ⟨p, hp⟩ : ∃ p, L[i]? = some p := ⟨_, List.getElem?_eq_getElem hil⟩
      have pm : p ∈ L := List.mem_of_getElem? hp
      have pt := R.tup p pm
      have rest : wpAny (model P w) A (searchRest a (.ref x) (hM P w k) true f es t (way t.mask (hM P w k) (c + q)) i (nth t.mask (str0 t (hM P w k)) (c + (q + 1)))) Q E s := by
        unfold searchRest
        rw [R.entry hp]
        dsimp only
        refine wpAny_bind (wpAny_holding (wpAny_eqBool_tuple hu pt hx ?_))
        refine wpAny_bind (wpAny_setState_of g1 g2 R.fits ?_)
        dsimp only
        by_cases kk : p.2 = k
        · refine wp_if_pos (by simp [kk]) ?_
          exact wpAny_pure (yes (List.mem_map.mpr ⟨p, pm, kk⟩))
        · refine wp_if_neg (by simp [kk]) ?_
          try refine wpAny_bind (wpAny_pure ?_)
          rw [sameMem]
          dsimp only
          have sl : t.slot (way t.mask (hM P w k) (c + q)) = .live i := slot_live R.tab.ris hi
          simp only [if_true, sl, R.entry hp]
          refine wpAny_bind (wpAny_isSame_ref_self (wpAny_bind (wpAny_pure ?_)))
          simp only [if_true]
          refine wp_if_neg (by simp [kk]) ?_
          refine searchM R hx hu kf k1 k2 yes no f (c + (q + 1)) _ rfl (by omega) (by omega) fun i0 p0 z0 hk0 => ?_
          obtain ⟨c', a1, a2, a3⟩ := hre i0 p0 z0 hk0
          refine ⟨c', ?_, a2, a3⟩
          by_cases y1 : c' < c + q
          · exfalso
            refine hno (c' - c) i0 (by omega) (by rw [e1, show c + (c' - c) = c' by omega]; exact a3) ?_
            exact (hat i0 p0 z0).trans (congrArg (hM P w) hk0)
          · by_cases y2 : c + q < c'
            · omega
            · exfalso
              have ec : c' = c + q := by omega
              rw [ec] at a3
              have s0 := slot_live R.tab.ris a3
              rw [sl] at s0
              injection s0 with s0
              rw [← s0, hp] at z0
              rw [← Option.some.inj z0] at hk0
              exact kk hk0
      by_cases hl : t.led = true
      · refine wp_if_neg (by simp [hl]) ?_
        try refine wpAny_bind (wpAny_pure ?_)
        exact rest
      · refine wp_if_pos (by simp [hl]) (wpAny_bind (seenM hx (fun y hy => ?_) ?_))
        · obtain ⟨e, he, ee⟩ := List.mem_map.mp hy
          have he1 : e ∈ es ∧ e.1 = hM P w k := by simpa using he
          have he2 : e ∈ es.toList := by simpa using he1.1
          rw [R.rows] at he2
          obtain ⟨p2, m2, q2⟩ := List.mem_map.mp he2
          exact ⟨p2.2, p2.1, by rw [← ee, ← q2], R.tup p2 m2⟩
        · refine wp_if_neg (by decide) ?_
          try refine wpAny_bind (wpAny_pure ?_)
          exact rest
    · have hpr' : t.probe (fun i => (es[i]?.map (·.1)).getD 0) (hM P w k) (stand.getD (t.probeStart (hM P w k))) = some (.empty (way t.mask (hM P w k) K) none) := by
        have e2 : way t.mask (hM P w k) K = (nth t.mask (nth t.mask (str0 t (hM P w k)) c) (K - c)).j := by
          rw [e1, show c + (K - c) = K by omega]
        rw [es0, e2]
        exact hpr
      rw [hpr']
      dsimp only
      refine wpAny_pure (no fun hm => ?_)
      obtain ⟨p0, z0, hk0⟩ := List.mem_map.mp hm
      obtain ⟨i0, hi0⟩ := List.mem_iff_getElem?.mp z0
      obtain ⟨c', a1, a2, a3⟩ := hre i0 p0 hi0 hk0
      refine hno (c' - c) i0 (by omega) (by rw [e1, show c + (c' - c) = c' by omega]; exact a3) ?_
      exact (hat i0 p0 hi0).trans (congrArg (hM P w) hk0)
theorem searchM0 (R : SetM P w s.heap a L es ep t) {x : Addr} {k : List Key} (hx : IsM P w s.heap k x) (hu : A.units < cLine) {Q : SetFound → Shared → Prop}
    (yes : k ∈ L.map (·.2) → Q (.there none) s)
    (no : ∀ K, k ∉ L.map (·.2) → way t.mask (hM P w k) K ∉ t.place.toList → (∀ c, c < K → way t.mask (hM P w k) c ∈ t.place.toList) → Q (.free (way t.mask (hM P w k) K) false) s) :
    wpAny (model P w) A (setSearch a (.ref x) (hM P w k) true) Q E s := by
  have z3 := R.room
  obtain ⟨K, kf, k1, k2⟩ := R.tab.first (by rw [List.length_map]; omega) (hM P w k)
  have big : K < 100000 := by
    have : 10 * SetTable.turns t.mask ≤ 1420 := by
      unfold SetTable.turns
      rcases R.tab.mok with e | e | e <;> omega
    omega
  unfold setSearch
  refine searchM R hx hu kf k1 k2 yes (fun z => no K z k1 k2) 100000 0 none rfl (Nat.zero_le _) (by omega) fun i p hp hk => ?_
  have hi : (L.map fun p => hM P w p.2)[i]? = some (hM P w k) := by
    rw [List.getElem?_map, hp, ← hk]
    rfl
  have hil : i < t.place.toList.length := by
    have z1 : i < L.length := (List.getElem?_eq_some_iff.mp hp).1
    have z2 := R.tab.sz
    rw [List.length_map] at z2
    rw [Array.length_toList]
    omega
  obtain ⟨c, hc, e⟩ := R.tab.before k1 hi (List.getElem?_eq_getElem hil)
  exact ⟨c, Nat.zero_le _, hc, by rw [List.getElem?_eq_getElem hil, e]⟩
theorem isM_but {h h' : Heap} {k : List Key} {a b : Addr} {o : Obj} {es : Array (Int × Value)} {ep : Nat} {t : SetTable} (hb : IsM P w h k b) (g1 : h.get? a = some o) (g2 : o.data = .set es ep t) (sb : Heap.SameBut a h h') : IsM P w h' k b := by
  obtain ⟨o', its, n, z1, z2, z3, z4⟩ := hb
  have ne : b ≠ a := by
    rintro rfl
    obtain rfl : o' = o := Option.some.inj (z1.symm.trans g1)
    rw [g2] at z3
    exact nomatch z3
  exact ⟨o', its, n, (sb.2 b ne).trans z1, z2, z3, z4⟩
theorem orderM (L : List AK) (es : Array (Int × Value)) (order : Array Nat) (hr : es.toList = rowsM P w L) (hp : order.toList.Perm (List.range L.length)) :
    ∃ L2, (order.filterMap (es[·]?)).toList = rowsM P w L2 ∧ L2.Perm L ∧ (L2.map fun p => hM P w p.2) = order.toList.map fun i => (es.map (·.1)).getD i 0 := by
  have sz := rowsM_len hr
  have ent : ∀ i, es[i]? = (L[i]?).map fun (p : AK) => (hM P w p.2, Value.ref p.1) := fun i => by
    rw [← Array.getElem?_toList, hr]
    unfold rowsM
    rw [List.getElem?_map]
  have key : ∀ l : List Nat, (∀ i ∈ l, i < L.length) → l.filterMap (fun i => es[i]?) = rowsM P w (l.filterMap fun i => L[i]?) ∧ ((l.filterMap fun i => L[i]?).map fun p => hM P w p.2) = l.map fun i => (es.map (·.1)).getD i 0 := by
    intro l
    induction l with
    | nil => exact fun _ => ⟨rfl, rfl⟩
    | cons i l ih =>
      intro hl
      have hi := hl i List.mem_cons_self
      obtain ⟨q1, q2⟩ := ih fun j hj => hl j (List.mem_cons_of_mem _ hj)
      have g : L[i]? = some L[i] := List.getElem?_eq_getElem hi
      have g' : es[i]? = some (hM P w L[i].2, Value.ref L[i].1) := by rw [ent, g]; rfl
      refine ⟨?_, ?_⟩
      · rw [List.filterMap_cons_some g', List.filterMap_cons_some g, q1]
        rfl
      · rw [List.filterMap_cons_some g, List.map_cons, List.map_cons, q2]
        congr 1
        have q5 : (es.map (·.1))[i]? = some (hM P w L[i].2) := by rw [Array.getElem?_map, g']; rfl
        simp [Array.getD_eq_getD_getElem?, q5]
  obtain ⟨q1, q2⟩ := key order.toList fun i hi => List.mem_range.mp (hp.mem_iff.mp hi)
  refine ⟨_, by first | (rw [Array.toList_filterMap]; exact q1) | simpa using q1, ?_, q2⟩
  have m1 : (order.toList.filterMap fun i => L[i]?).Perm ((List.range L.length).filterMap fun i => L[i]?) := hp.filterMap _
  have m2 : (List.range L.length).filterMap (fun i => L[i]?) = L := by
    have key2 : ∀ n, n ≤ L.length → (List.range n).filterMap (fun i => L[i]?) = L.take n := by
      intro n
      induction n with
      | zero => exact fun _ => rfl
      | succ n ih =>
        intro hn
        rw [List.range_succ, List.filterMap_append, ih (by omega), List.take_succ, List.getElem?_eq_getElem hn, List.filterMap_cons_some (List.getElem?_eq_getElem hn)]
        rfl
    rw [key2 L.length (Nat.le_refl _), List.take_length]
  rw [m2] at m1
  exact m1
theorem relayM {o : Obj} (g1 : s.heap.get? a = some o) (gx : o.ExactSet) (g2 : o.data = .set es ep t) (hr : es.toList = rowsM P w L) (z1 : t.place.size = es.size) (z2 : t.dummies = #[]) (z3 : es.size ≤ t.mask)
    (nd : (L.map (·.2)).Nodup) (tup : ∀ p ∈ L, IsM P w s.heap p.2 p.1) (ld : w.params.followText "set-order" = true ∨ t.led = true) (few : L.length < 64) {wanted M : Nat}
    (w1 : SetTable.sizeAbove wanted - 1 = M) (w2 : MaskOk M) (w3 : SetTable.sizeAbove wanted ≤ 128) (w4 : L.length * 5 < M * 3) {Q : Unit → Shared → Prop}
    (q : ∀ h' L' es' ep' t', Heap.SameBut a s.heap h' → SetM P w h' a L' es' ep' t' → L'.Perm L → Q () { s with heap := h' }) : wpAny (model P w) A (setRelay a wanted) Q E s := by
  have sz := rowsM_len hr
  obtain ⟨t', order, e, hp, T, em, el, ep2, ed⟩ := relaid_ok t (hs := es.map (·.1)) (wanted := wanted) w1 w2 (by rw [Array.size_map, sz]; omega)
  rw [Array.size_map, sz] at hp
  obtain ⟨L2, r1, r2, r3⟩ := orderM L es order hr hp
  rw [← r3] at T
  have sz2 : (order.filterMap (es[·]?)).size = es.size := by
    rw [rowsM_len r1, r2.length_eq, sz]
  rw [setRelay_eq]
  refine wpAny_bind (wpAny_setState_of g1 g2 (fitsM z2 z1 z3) ?_)
  dsimp only
  refine wp_if_neg (by rw [sizeLine_eq]; omega) ?_
  try refine wpAny_bind (wpAny_pure ?_)
  rw [e]
  dsimp only
  refine wpAny_bind (wp_if_neg (by rw [sz2]; simp) ?_)
  try refine wpAny_bind (wpAny_pure ?_)
  refine wpAny_pure ?_
  dsimp only
  refine wpAny_storeSet_of g1 g2 ?_ (by rw [sz2, sz, sizeLine_eq]; omega)
  have sb : Heap.SameBut a s.heap (s.heap.update a (Obj.putSet (order.filterMap (es[·]?)) t')) := Heap.SameBut.update ..
  refine q _ L2 (order.filterMap (es[·]?)) (ep + 1) t' sb ⟨⟨_, store_at g1 g2, ⟨gx.1, gx.2.1, gx.2.2⟩, rfl⟩, r1, T, (r2.map (·.2)).nodup_iff.mpr nd, fun p z => isM_but (tup p (r2.mem_iff.mp z)) g1 g2 sb, by rw [el]; exact ld, ?_, by rw [r2.length_eq]; exact few⟩ r2
  rw [r2.length_eq, em]
  exact w4
theorem addM (R : SetM P w s.heap a L es ep t) {x : Addr} {k : List Key} (hx : IsM P w s.heap k x) (hu : A.units < cLine) (few : L.length + 1 < 64) {Q : Bool → Shared → Prop}
    (q : ∀ b h' L' es' ep' t', Heap.SameBut a s.heap h' → SetM P w h' a L' es' ep' t' → (k ∈ L.map (·.2) → L' = L) → (k ∉ L.map (·.2) → L'.Perm ((x, k) :: L)) → Q b { s with heap := h' }) :
    wpAny (model P w) A (setAddHashed a (.ref x) (hM P w k)) Q E s := by
  obtain ⟨ob, g1, gx, g2⟩ := R.ob
  have sz := rowsM_len R.rows
  have z3 := R.room
  unfold setAddHashed
  refine wpAny_holding ?_
  rw [show (100000 : Nat) = 99999 + 1 from rfl, setAddHashedIn_succ]
  refine wpAny_bind (wpAny_setState_of g1 g2 R.fits ?_)
  dsimp only
  refine wp_if_neg (by simp [byScan, Value.scannable]) ?_
  try refine wpAny_bind (wpAny_pure ?_)
  refine wpAny_bind (searchM0 R hx hu (fun hm => ?_) fun K hm k1 k2 => ?_)
  · dsimp only
    exact wpAny_pure (q false s.heap L es ep t (Heap.SameBut.refl a s.heap) R (fun _ => rfl) fun z => absurd hm z)
  · dsimp only
    refine wpAny_bind (wpAny_setState_of g1 g2 R.fits ?_)
    dsimp only
    obtain ⟨q1, q2, q3, q4, q5, q6, q7, q8, q9⟩ := R.tab.put k1 k2
    generalize t.put (way t.mask (hM P w k) K) = pt at q1 q3 q4 q5 q6 q7 q8 q9 ⊢
    obtain ⟨t1, p⟩ := pt
    dsimp only at q1 q3 q4 q5 q6 q7 q8 q9 ⊢
    subst q1
    have put : ∀ t2 : SetTable, TabOk t2 ((L.map fun p => hM P w p.2).take (SetTable.below t.place (way t.mask (hM P w k) K)) ++ hM P w k :: (L.map fun p => hM P w p.2).drop (SetTable.below t.place (way t.mask (hM P w k) K))) → t2.mask = t.mask → t2.led = t.led → t2.fill = (L.map fun p => hM P w p.2).length + 1 →
        wpAny (model P w) A (do
          storeSet a (SetTable.insertAt es (SetTable.below t.place (way t.mask (hM P w k) K)) (hM P w k, Value.ref x)) t2
          if (!false && t2.tooFull) = true then do
            setRelay a (SetTable.grown (es.size + 1))
            pure true
          else pure true) Q E s := fun t1 q3 q4 q5 q9 => by
      generalize epp : SetTable.below t.place (way t.mask (hM P w k) K) = p at q2 q3 ⊢
      have pm := put_perm L p (x, k)
      have hin : (SetTable.insertAt es p (hM P w k, Value.ref x)).toList = rowsM P w (L.take p ++ (x, k) :: L.drop p) := by
        rw [SetTable.toList_insertAt, R.rows]
        unfold rowsM
        rw [List.map_append, List.map_cons, List.map_take, List.map_drop]
      have hhs : (L.take p ++ (x, k) :: L.drop p).map (fun p => hM P w p.2) = (L.map fun p => hM P w p.2).take p ++ hM P w k :: (L.map fun p => hM P w p.2).drop p := by
        rw [List.map_append, List.map_cons, List.map_take, List.map_drop]
      rw [← hhs] at q3
      have sz1 := rowsM_len hin
      generalize SetTable.insertAt es p (hM P w k, Value.ref x) = es1 at hin sz1 ⊢
      generalize L.take p ++ (x, k) :: L.drop p = L1 at pm q3 hin sz1
      have len1 : L1.length = L.length + 1 := pm.length_eq
      have nd1 : (L1.map (·.2)).Nodup := by
        refine (pm.map (·.2)).nodup_iff.mpr ?_
        rw [List.map_cons]
        exact List.nodup_cons.mpr ⟨hm, R.nd⟩
      refine wpAny_bind (wpAny_storeSet_of g1 g2 ?_ (by rw [sz1, len1, sizeLine_eq]; omega))
      have sb : Heap.SameBut a s.heap (s.heap.update a (Obj.putSet es1 t1)) := Heap.SameBut.update ..
      have o1 := store_at (es' := es1) (t' := t1) g1 g2
      generalize s.heap.update a (Obj.putSet es1 t1) = h1 at sb o1 ⊢
      have tup1 : ∀ p ∈ L1, IsM P w h1 p.2 p.1 := fun p hp => by
        rcases List.mem_cons.mp (pm.mem_iff.mp hp) with e | hp
        · rw [e]
          exact isM_but hx g1 g2 sb
        · exact isM_but (R.tup p hp) g1 g2 sb
      have ld1 : w.params.followText "set-order" = true ∨ t1.led = true := by rw [q5]; exact R.led
      have hfull : t1.tooFull = decide ((L.length + 1) * 5 ≥ t1.mask * 3) := by
        unfold SetTable.tooFull
        rw [q9, List.length_map]
      by_cases hf : (L.length + 1) * 5 ≥ t1.mask * 3
      · have hf' : t1.tooFull = true := by rw [hfull, decide_eq_true hf]
        first
          | (refine wpAny_bind ?_; refine wp_if_pos (by simp [hf']) ?_)
          | (refine wp_if_pos (by simp [hf']) ?_; refine wpAny_bind ?_)
        rw [sz]
        have y1 : t1.place.size = es1.size := by
          have z := q3.sz
          rw [List.length_map] at z
          rw [z, sz1]
        have two : (t.mask = 7 ∧ L.length = 4) ∨ (t.mask = 31 ∧ L.length = 18) := by
          rw [q4] at hf
          rcases R.tab.mok with e | e | e <;> rw [e] at hf z3
          · exact .inl ⟨e, by omega⟩
          · exact .inr ⟨e, by omega⟩
          · omega
        have go : ∀ M, SetTable.sizeAbove (SetTable.grown (L.length + 1)) - 1 = M → MaskOk M → SetTable.sizeAbove (SetTable.grown (L.length + 1)) ≤ 128 → (L.length + 1) * 5 < M * 3 →
            wpAny (model P w) A (setRelay a (SetTable.grown (L.length + 1))) (fun _ s' => wpAny (model P w) A (pure true) Q E s') E { s with heap := h1 } := fun M m1 m2 m3 m4 => by
          refine relayM (s := { s with heap := h1 }) o1 ⟨gx.1, gx.2.1, gx.2.2⟩ rfl hin y1 q3.dm (by rw [sz1, len1, q4]; rcases two with ⟨e, e2⟩ | ⟨e, e2⟩ <;> omega) nd1 tup1 ld1 (by rw [len1]; exact few) m1 m2 m3 (by rw [len1]; exact m4) ?_
          exact fun h2 L2 es2 ep2 t2 sb2 R2 pm2 => wpAny_pure (q true h2 L2 es2 ep2 t2 (sb.trans sb2) R2 (fun z => absurd z hm) fun _ => pm2.trans pm)
        rcases two with ⟨_, e2⟩ | ⟨_, e2⟩
        · exact go 31 (by rw [e2, size_20]) (.inr (.inl rfl)) (by rw [e2, size_20]; decide) (by omega)
        · exact go 127 (by rw [e2, size_76]) (.inr (.inr rfl)) (by rw [e2, size_76]; decide) (by omega)
      · have hf' : ¬ t1.tooFull = true := by
          rw [hfull, decide_eq_false hf]
          decide
        first
          | refine wp_if_neg (by simp [hf']) ?_
          | (refine wpAny_bind ?_; refine wp_if_neg (by simp [hf']) ?_; refine wpAny_pure ?_)
        exact wpAny_pure (q true h1 L1 es1 (ep + 1) t1 sb ⟨⟨_, o1, ⟨gx.1, gx.2.1, gx.2.2⟩, rfl⟩, hin, q3, nd1, tup1, ld1, by rw [len1]; omega, by rw [len1]; exact few⟩ (fun z => absurd z hm) fun _ => pm)
    have any := fun y : Bool => put (if y = true then t1 else { t1 with plain := false })
      (by cases y; exact ⟨q3.ris, q3.dm, q3.sz, q3.mok, q3.bd, q3.reach⟩; exact q3) (by cases y <;> exact q4) (by cases y <;> exact q5) (by cases y <;> exact q9)
    first
      | (refine wpAny_bind ?_; by_cases pl : t1.plain = true; exact wp_if_pos pl (hashM hx any); exact wp_if_neg pl (wpAny_pure (any true)))
      | (by_cases pl : t1.plain = true; exact wp_if_pos pl (wpAny_bind (hashM hx any)); exact wp_if_neg pl (wpAny_bind (wpAny_pure (any true))))
end
end Onp
set_option maxHeartbeats 4000000
set_option autoImplicit false
/-! set(list), set(tuple) by an invariant; of tuples of ints and texts -/
namespace Onp
open PySem PySem.Spec PyProof.Rows L2
section
variable {P : Program} {w : World} {A : Around} {E : Value → Shared → Prop} {s : Shared}
abbrev set0 (w : World) : Obj := { cls := .type "set", dict := none, data := .set #[] 0 (.fresh 0 0 (!w.params.followText "set-order")) }
/-- one more item is put in -/
def AddsTo (P : Program) (w : World) (A : Around) (S : Addr) (h0 : Heap) (Pv : Nat → Value → Prop) (G : Nat → Heap → Prop) : Prop :=
  ∀ (i : Nat) (v : Value) (s : Shared) (E : Value → Shared → Prop), Pv i v → G i s.heap → (∀ b o, h0.get? b = some o → s.heap.get? b = some o) →
    wpAny (model P w) A (setAdd S v) (fun _ s' => ∃ h' tk, s' = { s with heap := h', toks := tk } ∧ s.toks ≤ tk ∧ Heap.SameBut S s.heap h' ∧ G (i + 1) h') E s
def KeepsSet (S : Addr) (h0 : Heap) (G : Nat → Heap → Prop) : Prop :=
  ∀ (i : Nat) (h h' : Heap), G i h → (∀ o, h.get? S = some o → h'.get? S = some o) → (∀ b o, h0.get? b = some o → h'.get? b = some o) → G i h'
theorem setLoop {I : Addr} {fp wr : List Addr} {GG : Array GenState → Array GenState → Prop} {n : Nat} {Pv : Nat → Value → Prop} {St : Nat → Shared → Prop} {R : Result → Shared → Prop}
    (W : WalksS P w A.in1 I fp wr GG n Pv St) (S : Addr) (hSf : S ∉ fp) (h0 : Heap) (G : Nat → Heap → Prop) (ad : AddsTo P w A.in1 S h0 Pv G) (kp : KeepsSet S h0 G) (n0 : h0.get? S = none) (nw : ∀ b ∈ wr, h0.get? b = none) :
    ∀ (k i : Nat) (s : Shared), n - i = k → i ≤ n → St i s → (∀ b o, h0.get? b = some o → s.heap.get? b = some o) → G i s.heap →
      (∀ s', Moved (S :: wr) GG s s' → G n s'.heap → (∀ b o, h0.get? b = some o → s'.heap.get? b = some o) → R (.ok (.ret .none)) s') →
      codeAny (model P w) A (.builtin "set.update.loop" ⟨[.ref S, .ref I], []⟩) R s := by
  have Sw : S ∉ wr := fun z => hSf (W.sub _ z)
  have wide : ∀ b ∈ wr, b ∈ S :: wr := fun b hb => List.mem_cons_of_mem _ hb
  have mv : ∀ {s s' : Shared}, Moved wr GG s s' → (∀ b o, h0.get? b = some o → s.heap.get? b = some o) → ∀ b o, h0.get? b = some o → s'.heap.get? b = some o := fun m z b o e =>
    m.heap b o (fun hb => by rw [nw b hb] at e; cases e) (z b o e)
  intro k
  induction k with
  | zero =>
    intro i s ek hi hst stays g fin
    obtain rfl : i = n := by omega
    refine codeAny_builtin F.entry_set_update_loop ?_
    rw [Around.under_plainId F.plain_set_update_loop _]
    show wpAny _ A.in1 (pyNext (.ref I) >>= _) _ _ s
    refine wpAny_bind (W.done s _ _ hst fun s' m => ?_)
    show wpAny _ A.in1 (ret Value.none) _ _ s'
    have stays' := mv m stays
    exact wpAny_pure (fin s' (m.mono wide) (kp _ _ _ g (fun o e => m.heap S o Sw e) stays') stays')
  | succ k ih =>
    intro i s ek hi hst stays g fin
    have lt : i < n := by omega
    refine codeAny_builtin F.entry_set_update_loop ?_
    rw [Around.under_plainId F.plain_set_update_loop _]
    show wpAny _ A.in1 (pyNext (.ref I) >>= _) _ _ s
    refine wpAny_bind (W.item i s _ _ lt hst fun v s' pv hst' m => ?_)
    have stays' := mv m stays
    have g' := kp _ _ _ g (fun o e => m.heap S o Sw e) stays'
    show wpAny _ A.in1 (holding [v] (setAdd S v) >>= _) _ _ s'
    refine wpAny_bind (wpAny_holding (wpAny_mono (ad i v s' _ pv g' stays') (fun _ s2 q => ?_) fun _ _ z => z))
    obtain ⟨h', tk, rfl, ht, sb, g2⟩ := q
    have stays2 : ∀ b o, h0.get? b = some o → h'.get? b = some o := fun b o e => (sb.2 b (fun z => by rw [z, n0] at e; cases e)).trans (stays' b o e)
    refine wpAny_pure ⟨plainId_quiet F.plain_set_update_loop _, ih (i + 1) _ (by omega) lt (W.frame _ s' _ _ hst' ht fun b hb o e => ?_) stays2 g2 fun s'' m2 g3 z3 => ?_⟩
    · rw [sb.2 b (fun z : b = S => hSf (by rw [← z]; exact hb))]
      exact e
    · refine fin s'' (Moved.trans W.gtrans ((m.mono wide).then_heap ht fun b o hb e => ?_) m2) g3 z3
      rw [sb.2 b (fun z : b = S => hb (by rw [z]; exact List.mem_cons_self))]
      exact e
set_option maxHeartbeats 6400000 in
theorem callSet_list {l : Addr} {its : Array Value} {Q : Value → Shared → Prop} (hh : A.handled = none) (hl : s.heap.IsList l its) (G : Nat → Heap → Prop)
    (ad : AddsTo P w A.in1.in1.in1 s.heap.objs.size s.heap (fun i v => its[i]? = some v) G) (kp : KeepsSet s.heap.objs.size s.heap G) (g0 : ∀ h, h.get? s.heap.objs.size = some (set0 w) → G 0 h)
    (q : ∀ (h' : Heap) (tk : Nat), G its.size h' → (∀ b o, s.heap.get? b = some o → h'.get? b = some o) → Q (.ref s.heap.objs.size) { s with heap := h', toks := tk }) :
    wpAny (model P w) A (call (.type "set") [.ref l]) Q E s := by
  obtain ⟨cc, tl, c1⟩ := F.called_set.mro
  have c2 := F.called_set.made
  have c3 := F.called_set.sub
  refine wpAny_call (codeAny_of_tree ?_)
  show wpAny _ _ (callAny (.type "set") _) _ _ _
  refine wpAny_pure ⟨Code.quiet_builtin _ (by decide +kernel), codeAny_builtin F.entry_type_call ?_⟩
  rw [Around.under_plain (weight_type_call_type "set" [.ref l] []) rfl]
  have c4 := F.called_set.notType
  have c5 := F.called_set.canCreate
  have c6 := F.typeCall_set_1 (.ref l)
  repeat (any_goals (first | assumption | wp_step))
  refine codeAny_mono (code_set_led1 (.ref l) (E := E) (Q₁ := fun obj s₁ => obj = .ref s.heap.objs.size ∧ s₁ = { s with heap := s.heap.push (set0 w) }) ⟨rfl, rfl⟩) fun r s₁ hr => ?_
  cases r with
  | error e => exact hr
  | ok fl =>
    cases fl with
    | ret obj =>
      obtain ⟨rfl, rfl⟩ := hr
      have nS : (s.heap.push (set0 w)).get? s.heap.objs.size = some (set0 w) := Heap.get?_push_size _ rfl
      have tS : Shared.TypeIs { s with heap := s.heap.push (set0 w) } (.ref s.heap.objs.size) "set" := ⟨_, nS, rfl⟩
      have c7 := F.called_set.init.lookup
      have c8 := F.called_set.init.bind (.ref s.heap.objs.size)
      repeat (any_goals (first | assumption | wp_step))
      refine codeAny_mono (codeAny_call_builtin (R := wants (fun r s₂ => r = .none ∧ ∃ h' tk, s₂ = { s with heap := h', toks := tk } ∧ G its.size h' ∧ (∀ b o, s.heap.get? b = some o → h'.get? b = some o)) E) F.called_set.init.plain F.entry_set_init (check_set_init_1 tS ?_)) fun r₂ s₂ hr₂ => ?_
      · obtain ⟨ol, ol1, ol2, nl, ol3⟩ := hl
        obtain ⟨ocls, odict, odata, oslots⟩ := ol
        simp only at ol2 ol3
        subst ol2; subst ol3
        have ol4 : (s.heap.push (set0 w)).get? l = some { cls := .type "list", dict := odict, data := .seq its nl, slots := oslots } := Heap.get?_push_of_some _ ol1
        have d1 := F.sub_list_set
        have d2 := F.sub_list_frozenset
        have d3 : (Value.type "list" == Value.type "dict") = false := by decide
        have hl1 : (s.heap.push (set0 w)).IsList l its := ⟨_, ol4, rfl, nl, rfl⟩
        unfold Builtin.«set.__init__» noKeywords Builtin.Frozenset.updateFrom
        generalize ePI : pyIter = PI
        wp_walk
        subst ePI
        refine wpAny_pyIter_list hl1 ?_
        refine wpAny_bind (wpAny_runValue ?_)
        have ll : l < s.heap.objs.size := Heap.lt_size ol1
        have h3 : A.in1.in1.in1.handled = none := by simp [hh]
        have ne1 : l ≠ (s.heap.push (set0 w)).objs.size := fun z => by
          rw [Heap.size_push] at z
          exact absurd (z ▸ ll) (Nat.not_lt_of_le (Nat.le_succ _))
        have ne2 : s.heap.objs.size ∉ [(s.heap.push (set0 w)).objs.size, l] := by
          rw [Heap.size_push]
          exact fun z => (List.mem_cons.mp z).elim (fun y => absurd y (Nat.ne_of_lt (Nat.lt_succ_self _))) fun y => absurd (List.mem_singleton.mp y) (Nat.ne_of_gt ll)
        have none_of : ∀ b, s.heap.objs.size ≤ b → s.heap.get? b = none := fun b hb => by
          cases z : s.heap.get? b with
          | none => rfl
          | some o => exact absurd (Heap.lt_size z) (Nat.not_lt_of_le hb)
        refine setLoop ((Walks.list h3 _ l ne1 its).toS) s.heap.objs.size ne2 s.heap G ad kp (none_of _ (Nat.le_refl _)) (fun b hb => none_of b (by
            rw [List.mem_singleton.mp hb, Heap.size_push]
            exact Nat.le_succ _)) (its.size - 0) 0 _ (by omega) (Nat.zero_le _)
          ⟨⟨_, Heap.get?_push_size _ rfl, rfl, rfl⟩, (hl1.push _)⟩ (fun b o e => Heap.get?_push_of_some _ (Heap.get?_push_of_some _ e)) (g0 _ (Heap.get?_push_of_some _ nS)) ?hR
        case hR =>
          intro s' m g' z'
          obtain ⟨h', g2, d', tk', os'⟩ := s'
          have eg : g2 = s.gens := m.gens
          have ed : d' = s.drawn := m.drawn
          have eo : os' = s.os := m.os
          subst eg; subst ed; subst eo
          show wpAny _ _ _ _ _ _
          refine wpAny_pure ?_
          show wpAny _ _ (ret Value.none) _ _ _
          exact wpAny_pure ⟨rfl, h', tk', rfl, g', z'⟩
      · cases r₂ with
        | error e => exact hr₂
        | ok fl₂ =>
          cases fl₂ with
          | ret r =>
            obtain ⟨rfl, h', tk, rfl, g', z'⟩ := hr₂
            repeat (any_goals (first | assumption | wp_step))
            exact q _ _ g' z'
          | _ => exact hr₂.elim
    | _ => exact hr.elim
set_option maxHeartbeats 6400000 in
theorem callSet_tuple {l : Addr} {its : Array Value} {Q : Value → Shared → Prop} (hh : A.handled = none) (hl : s.heap.IsTuple l its) (G : Nat → Heap → Prop)
    (ad : AddsTo P w A.in1.in1.in1 s.heap.objs.size s.heap (fun i v => its[i]? = some v) G) (kp : KeepsSet s.heap.objs.size s.heap G) (g0 : ∀ h, h.get? s.heap.objs.size = some (set0 w) → G 0 h)
    (q : ∀ (h' : Heap) (tk : Nat), G its.size h' → (∀ b o, s.heap.get? b = some o → h'.get? b = some o) → Q (.ref s.heap.objs.size) { s with heap := h', toks := tk }) :
    wpAny (model P w) A (call (.type "set") [.ref l]) Q E s := by
  obtain ⟨cc, tl, c1⟩ := F.called_set.mro
  have c2 := F.called_set.made
  have c3 := F.called_set.sub
  refine wpAny_call (codeAny_of_tree ?_)
  show wpAny _ _ (callAny (.type "set") _) _ _ _
  refine wpAny_pure ⟨Code.quiet_builtin _ (by decide +kernel), codeAny_builtin F.entry_type_call ?_⟩
  rw [Around.under_plain (weight_type_call_type "set" [.ref l] []) rfl]
  have c4 := F.called_set.notType
  have c5 := F.called_set.canCreate
  have c6 := F.typeCall_set_1 (.ref l)
  repeat (any_goals (first | assumption | wp_step))
  refine codeAny_mono (code_set_led1 (.ref l) (E := E) (Q₁ := fun obj s₁ => obj = .ref s.heap.objs.size ∧ s₁ = { s with heap := s.heap.push (set0 w) }) ⟨rfl, rfl⟩) fun r s₁ hr => ?_
  cases r with
  | error e => exact hr
  | ok fl =>
    cases fl with
    | ret obj =>
      obtain ⟨rfl, rfl⟩ := hr
      have nS : (s.heap.push (set0 w)).get? s.heap.objs.size = some (set0 w) := Heap.get?_push_size _ rfl
      have tS : Shared.TypeIs { s with heap := s.heap.push (set0 w) } (.ref s.heap.objs.size) "set" := ⟨_, nS, rfl⟩
      have c7 := F.called_set.init.lookup
      have c8 := F.called_set.init.bind (.ref s.heap.objs.size)
      repeat (any_goals (first | assumption | wp_step))
      refine codeAny_mono (codeAny_call_builtin (R := wants (fun r s₂ => r = .none ∧ ∃ h' tk, s₂ = { s with heap := h', toks := tk } ∧ G its.size h' ∧ (∀ b o, s.heap.get? b = some o → h'.get? b = some o)) E) F.called_set.init.plain F.entry_set_init (check_set_init_1 tS ?_)) fun r₂ s₂ hr₂ => ?_
      · obtain ⟨ol, ol1, ol2, nl, ol3⟩ := hl
        obtain ⟨ocls, odict, odata, oslots⟩ := ol
        simp only at ol2 ol3
        subst ol2; subst ol3
        have ol4 : (s.heap.push (set0 w)).get? l = some { cls := .type "tuple", dict := odict, data := .seq its nl, slots := oslots } := Heap.get?_push_of_some _ ol1
        have d1 := F.sub_tuple_set
        have d2 := F.sub_tuple_frozenset
        have d3 : (Value.type "tuple" == Value.type "dict") = false := by decide
        have hl1 : (s.heap.push (set0 w)).IsTuple l its := ⟨_, ol4, rfl, nl, rfl⟩
        unfold Builtin.«set.__init__» noKeywords Builtin.Frozenset.updateFrom
        generalize ePI : pyIter = PI
        wp_walk
        subst ePI
        refine wpAny_pyIter_tuple hl1 ?_
        refine wpAny_bind (wpAny_runValue ?_)
        have ll : l < s.heap.objs.size := Heap.lt_size ol1
        have h3 : A.in1.in1.in1.handled = none := by simp [hh]
        have ne1 : l ≠ (s.heap.push (set0 w)).objs.size := fun z => by
          rw [Heap.size_push] at z
          exact absurd (z ▸ ll) (Nat.not_lt_of_le (Nat.le_succ _))
        have ne2 : s.heap.objs.size ∉ [(s.heap.push (set0 w)).objs.size, l] := by
          rw [Heap.size_push]
          exact fun z => (List.mem_cons.mp z).elim (fun y => absurd y (Nat.ne_of_lt (Nat.lt_succ_self _))) fun y => absurd (List.mem_singleton.mp y) (Nat.ne_of_gt ll)
        have none_of : ∀ b, s.heap.objs.size ≤ b → s.heap.get? b = none := fun b hb => by
          cases z : s.heap.get? b with
          | none => rfl
          | some o => exact absurd (Heap.lt_size z) (Nat.not_lt_of_le hb)
        refine setLoop ((Walks.tuple h3 _ l ne1 its).toS) s.heap.objs.size ne2 s.heap G ad kp (none_of _ (Nat.le_refl _)) (fun b hb => none_of b (by
            rw [List.mem_singleton.mp hb, Heap.size_push]
            exact Nat.le_succ _)) (its.size - 0) 0 _ (by omega) (Nat.zero_le _)
          ⟨⟨_, Heap.get?_push_size _ rfl, rfl, rfl⟩, (hl1.push _)⟩ (fun b o e => Heap.get?_push_of_some _ (Heap.get?_push_of_some _ e)) (g0 _ (Heap.get?_push_of_some _ nS)) ?hR
        case hR =>
          intro s' m g' z'
          obtain ⟨h', g2, d', tk', os'⟩ := s'
          have eg : g2 = s.gens := m.gens
          have ed : d' = s.drawn := m.drawn
          have eo : os' = s.os := m.os
          subst eg; subst ed; subst eo
          show wpAny _ _ _ _ _ _
          refine wpAny_pure ?_
          show wpAny _ _ (ret Value.none) _ _ _
          exact wpAny_pure ⟨rfl, h', tk', rfl, g', z'⟩
      · cases r₂ with
        | error e => exact hr₂
        | ok fl₂ =>
          cases fl₂ with
          | ret r =>
            obtain ⟨rfl, h', tk, rfl, g', z'⟩ := hr₂
            repeat (any_goals (first | assumption | wp_step))
            exact q _ _ g' z'
          | _ => exact hr₂.elim
    | _ => exact hr.elim
/-! ### of tuples of ints and texts -/
structure GotM (ks : List AK) (i : Nat) (L : List AK) : Prop where
  sub : ∀ p ∈ L, p ∈ ks.take i
  all : ∀ p ∈ ks.take i, p.2 ∈ L.map (·.2)
  len : L.length ≤ i
theorem GotM.same {ks L : List AK} {i : Nat} {x : AK} (g : GotM ks i L) (h : ks[i]? = some x) (hm : x.2 ∈ L.map (·.2)) : GotM ks (i + 1) L := by
  have e : ks.take (i + 1) = ks.take i ++ [x] := by rw [List.take_add_one, h]; rfl
  refine ⟨fun p hp => ?_, fun p hp => ?_, Nat.le_succ_of_le g.len⟩
  · rw [e]
    exact List.mem_append_left _ (g.sub p hp)
  · rw [e] at hp
    rcases List.mem_append.mp hp with z | z
    · exact g.all p z
    · rw [List.mem_singleton.mp z]
      exact hm
theorem GotM.more {ks L L' : List AK} {i : Nat} {x : AK} (g : GotM ks i L) (h : ks[i]? = some x) (pm : L'.Perm (x :: L)) : GotM ks (i + 1) L' := by
  have e : ks.take (i + 1) = ks.take i ++ [x] := by rw [List.take_add_one, h]; rfl
  refine ⟨fun p hp => ?_, fun p hp => ?_, ?_⟩
  · rw [e]
    rcases List.mem_cons.mp (pm.mem_iff.mp hp) with y | z
    · rw [y]
      exact List.mem_append_right _ List.mem_cons_self
    · exact List.mem_append_left _ (g.sub p z)
  · rw [(pm.map (·.2)).mem_iff, List.map_cons]
    rw [e] at hp
    rcases List.mem_append.mp hp with z | z
    · exact List.mem_cons_of_mem _ (g.all p z)
    · rw [List.mem_singleton.mp z]
      exact List.mem_cons_self
  · rw [pm.length_eq]
    exact Nat.succ_le_succ g.len
def GM (P : Program) (w : World) (S : Addr) (ks : List AK) (i : Nat) (h : Heap) : Prop := ∃ L es ep t, SetM P w h S L es ep t ∧ GotM ks i L
theorem keepsM {S : Addr} {h0 : Heap} {ks : List AK} (hk : ∀ p ∈ ks, IsM P w h0 p.2 p.1) : KeepsSet S h0 (GM P w S ks) := fun i h h' ⟨L, es, ep, t, R, g⟩ z1 z2 => by
  obtain ⟨o, ho, r⟩ := R.ob
  refine ⟨L, es, ep, t, ⟨⟨o, z1 o ho, r⟩, R.rows, R.tab, R.nd, fun p hp => ?_, R.led, R.room, R.few⟩, g⟩
  obtain ⟨o2, its, n, y1, y2⟩ := hk p (List.mem_of_mem_take (g.sub p hp))
  exact ⟨o2, its, n, z2 _ _ y1, y2⟩
theorem addsM {S : Addr} {h0 : Heap} {ks : List AK} {its : Array Value} (hu : A.units < cLine) (hit : its.toList = ks.map fun p => Value.ref p.1) (hk : ∀ p ∈ ks, IsM P w h0 p.2 p.1) (few : ks.length < 64) : AddsTo P w A S h0 (fun i v => its[i]? = some v) (GM P w S ks) := by
  intro i v s E pv ⟨L, es, ep, t, R, g⟩ z
  obtain ⟨p, hp, rfl⟩ : ∃ p, ks[i]? = some p ∧ v = .ref p.1 := by
    have e : its.toList[i]? = some v := by rw [Array.getElem?_toList]; exact pv
    rw [hit, List.getElem?_map] at e
    cases y : ks[i]? with
    | none => rw [y] at e; cases e
    | some p => rw [y] at e; exact ⟨p, rfl, (Option.some.inj e).symm⟩
  have hlt : i < ks.length := (List.getElem?_eq_some_iff.mp hp).1
  have hx : IsM P w s.heap p.2 p.1 := by
    obtain ⟨o2, its, n, y1, y2⟩ := hk p (List.mem_of_getElem? hp)
    exact ⟨o2, its, n, z _ _ y1, y2⟩
  unfold setAdd
  refine wpAny_holding (wpAny_bind (wpAny_pyHash_tuple hu hx ?_))
  refine addM (s := { s with toks := s.toks + (p.2.length + 1) }) R hx hu (by have := g.len; omega) fun b h' L' es' ep' t' sb R' c1 c2 => ?_
  refine ⟨h', s.toks + (p.2.length + 1), rfl, Nat.le_add_right _ _, sb, L', es', ep', t', R', ?_⟩
  by_cases c : p.2 ∈ L.map (·.2)
  · rw [c1 c]
    exact g.same hp c
  · exact g.more hp (c2 c)
theorem freshM {h : Heap} {S : Addr} {ks : List AK} (e : h.get? S = some (set0 w)) : GM P w S ks 0 h := by
  refine ⟨[], #[], 0, .fresh 0 0 (!w.params.followText "set-order"), ⟨⟨_, e, ⟨rfl, rfl, rfl⟩, rfl⟩, rfl, ⟨List.Pairwise.nil, rfl, rfl, .inl rfl, fun x hx => (by cases hx), fun i h j hi => (by simp at hi)⟩, List.nodup_nil, fun p hp => (by cases hp), ?_, by show 0 * 5 < 7 * 3; decide, by show 0 < 64; decide⟩, ⟨fun p hp => (by cases hp), fun p hp => (by simp at hp), Nat.le_refl _⟩⟩
  show _ ∨ (!w.params.followText "set-order") = true
  cases w.params.followText "set-order"
  · exact .inr rfl
  · exact .inl rfl
/-! ### how many -/
theorem nd_le {α : Type} [DecidableEq α] : ∀ (l D : List α), l.Nodup → (∀ x ∈ l, x ∈ D) → l.length ≤ D.length
  | [], _, _, _ => Nat.zero_le _
  | a :: l, D, hn, hs => by
    have n1 := List.nodup_cons.mp hn
    have ha : a ∈ D := hs a List.mem_cons_self
    have ih := nd_le l (D.erase a) n1.2 fun x hx => (List.mem_erase_of_ne (fun (e : x = a) => n1.1 (e ▸ hx))).mpr (hs x (List.mem_cons_of_mem _ hx))
    rw [List.length_erase_of_mem ha] at ih
    have : 0 < D.length := List.length_pos_of_mem ha
    simp only [List.length_cons]
    omega
theorem nd_lt {α : Type} [DecidableEq α] : ∀ (D : List α), ¬ D.Nodup → ∃ (x : α) (D' : List α), D.length = D'.length + 1 ∧ ∀ y, y ∈ D → y ∈ D'
  | [], h => absurd List.nodup_nil h
  | a :: D, h => by
    by_cases ha : a ∈ D
    · exact ⟨a, D, rfl, fun y hy => by
        rcases List.mem_cons.mp hy with rfl | hy
        · exact ha
        · exact hy⟩
    · have hD : ¬ D.Nodup := fun z => h (List.nodup_cons.mpr ⟨ha, z⟩)
      obtain ⟨x, D', e, hs⟩ := nd_lt D hD
      refine ⟨x, a :: D', by simp [e], fun y hy => ?_⟩
      rcases List.mem_cons.mp hy with rfl | hy
      · exact List.mem_cons_self
      · exact List.mem_cons_of_mem _ (hs y hy)
theorem count_nd {α : Type} [DecidableEq α] {l D : List α} (hn : l.Nodup) (h1 : ∀ x ∈ l, x ∈ D) (h2 : ∀ x ∈ D, x ∈ l) : l.length ≤ D.length ∧ (l.length < D.length ↔ ¬ D.Nodup) := by
  refine ⟨nd_le l D hn h1, fun lt hd => ?_, fun hd => ?_⟩
  · have := nd_le D l hd h2
    omega
  · obtain ⟨x, D', e, hs⟩ := nd_lt D hd
    have := nd_le l D' hn fun y hy => hs y (h1 y hy)
    omega
end
/-! ### len(set(..)) over the layer -/
section
variable {X : Cx}
theorem itemsM {P : Program} {w : World} : ∀ {k : List Key} {us : List Value}, Vals (k.map kV) us → ItemsAre (mixKind P w) k us
  | [], _, .nil => .nil
  | _ :: k, _, .cons r t => .cons (kV_is r) (itemsM t)
theorem refsM : ∀ {ks : List AK} {us : List Value}, Vals (ks.map fun p => V.ref p.1) us → us = ks.map fun p => Value.ref p.1
  | [], _, .nil => rfl
  | p :: ks, _, .cons r t => by
    cases r
    rw [refsM t]
    rfl
theorem inv_isM {pins : List (Addr × Obj)} {σ : L2.St} {H : Hp} {s : Shared} {b : Addr} {k : List Key} (I : Inv X pins σ H s) (h : SqT X.K H b (k.map kV)) : IsM X.prog X.w s.heap k b := by
  obtain ⟨its, r, ⟨o, ho, hc, n, hd⟩, _⟩ := I.tuple h
  exact ⟨o, its.toArray, n, ho, hc, hd, by simpa using itemsM r⟩
def tLenSetM (K : PySem.W.Frag) (ta : TE) : TE := fun σ H Q => ta σ H fun x H1 => ∃ (l : Addr) (ks : List AK), x = .ref l ∧ (SqL K H1 l (ks.map fun p => V.ref p.1) ∨ SqT K H1 l (ks.map fun p => V.ref p.1)) ∧ (∀ p ∈ ks, SqT K H1 p.1 (p.2.map kV)) ∧ ks.length < 64 ∧
  ∀ n : Nat, n ≤ ks.length → (n < ks.length ↔ ¬ (ks.map (·.2)).Nodup) → Q (.int n) H1
theorem pe_lenSetM {a : Expr} {ta : TE} {p p2 q pos : Pos} (hc : X.calm = true) (hu : X.A.units + 64 < cLine) (hg : Gl X "len") (hm : X.mg "len" = none) (hg2 : Gl X "set") (hm2 : X.mg "set" = none) (ha : PE X a ta)
    (na : starEach [a] X.env = (false, eval a X.env) :: starEach [] X.env := by rfl) : PE X (.Call (.Name "len" p) [.Call (.Name "set" p2) [a] [] q] [] pos) (tLenSetM X.K ta) := by
  refine ⟨fun pins s σ H Q I h => ?_⟩
  refine Call_ (ld_blt I hg hm PySem.boot_len (PyProof.Rows.callWith_builtin1 (PyProof.Rows.args_cons ?_ rfl) rfl rfl))
  refine Call_ (ld_blt I hg2 hm2 PyProof.Rows.boot_set (PyProof.Rows.callWith_type1 (PyProof.Rows.args_cons (thn (ha.run pins s σ H _ I h) fun v s1 ⟨x, H1, I1, r1, q1⟩ => PyProof.Rows.args_nil ?_) na) na rfl))
  obtain ⟨l, ks, rfl, hq, hk, few, q1⟩ := q1
  cases r1
  have tu : ∀ p ∈ ks, IsM X.prog X.w s1.heap p.2 p.1 := fun p hp => inv_isM I1 (hk p hp)
  have fin : ∀ (its : Array Value), its.size = ks.length → ∀ (h' : Heap) (tk : Nat), GM X.prog X.w s1.heap.objs.size ks its.size h' → (∀ b o, s1.heap.get? b = some o → h'.get? b = some o) →
      wpAny (model X.prog X.w) X.A (spliced (backTo pos (starEach [] X.env))) (fun vs s₂ => wpAny (model X.prog X.w) X.A (call (.builtin "len") (Value.ref s1.heap.objs.size :: vs)) (EP X pins σ Q) X.xe s₂) X.xe { s1 with heap := h', toks := tk } := fun its sz h' tk g kp => by
    refine PyProof.Rows.args_nil ?_
    obtain ⟨L, es, ep, t, R, g⟩ := g
    rw [sz, ] at g
    have I2 : Inv X pins σ H1 { s1 with heap := h', toks := tk } := I1.kept fun b o e => kp b o e
    obtain ⟨o, ho, hex, hd⟩ := R.ob
    have ez := rowsM_len R.rows
    have cn := count_nd (l := L.map (·.2)) (D := ks.map (·.2)) R.nd (fun x hx => by
      obtain ⟨p, hp, rfl⟩ := List.mem_map.mp hx
      exact List.mem_map_of_mem (List.mem_of_mem_take (g.sub p hp))) (fun x hx => by
      obtain ⟨p, hp, rfl⟩ := List.mem_map.mp hx
      exact g.all p (by rw [List.take_length]; exact hp))
    simp only [List.length_map] at cn
    refine call_len_set ho hex hd (R.fits (s := { s1 with heap := h', toks := tk })) (by rw [ez]; omega) ⟨.int L.length, H1, I2.tok _, ⟨_, by rw [ez]⟩, q1 L.length cn.1 cn.2⟩
  rcases hq with hq | hq
  · obtain ⟨its, r, pl, hz⟩ := I1.list hq
    have sz : its.toArray.size = ks.length := by rw [List.size_toArray, ← r.length, List.length_map]
    exact callSet_list (I1.ok.hd hc) pl.isList (GM X.prog X.w s1.heap.objs.size ks) (addsM (by show X.A.in1.in1.in1.units < cLine; simp; omega) (by simpa using refsM r) tu few) (keepsM tu) (fun h e => freshM e) fun h' tk g kp => fin its.toArray sz h' tk g kp
  · obtain ⟨its, r, pl, hz⟩ := I1.tuple hq
    have sz : its.toArray.size = ks.length := by rw [List.size_toArray, ← r.length, List.length_map]
    exact callSet_tuple (I1.ok.hd hc) pl (GM X.prog X.w s1.heap.objs.size ks) (addsM (by show X.A.in1.in1.in1.units < cLine; simp; omega) (by simpa using refsM r) tu few) (keepsM tu) (fun h e => freshM e) fun h' tk g kp => fin its.toArray sz h' tk g kp
end
end Onp
set_option maxHeartbeats 4000000
set_option autoImplicit false
/-! len(set(list or tuple of ints and texts)) -/
namespace Onp
open PySem PySem.Spec PyProof.Rows L2
section
variable {P : Program} {w : World} {A : Around} {E : Value → Shared → Prop} {s : Shared}
def memK (l : List L2.Key) (k : L2.Key) : Bool := l.any fun x => decide (x = k)
theorem memK_iff {l : List L2.Key} {k : L2.Key} : memK l k = true ↔ k ∈ l := by
  unfold memK
  rw [List.any_eq_true]
  exact ⟨fun ⟨x, h1, h2⟩ => of_decide_eq_true h2 ▸ h1, fun h => ⟨k, h, decide_eq_true rfl⟩⟩
theorem setOf_as {h : Heap} {a : Addr} {S S' : L2.Key → Bool} {n n' : Nat} (hS : h.SetOf (mixKind P w) a S n) (e : ∀ k, S k = S' k) (en : n = n') : h.SetOf (mixKind P w) a S' n' := by
  have : S = S' := funext e
  subst this
  subst en
  exact hS
def GK (P : Program) (w : World) (S : Addr) (ks : List L2.Key) (i : Nat) (h : Heap) : Prop := ∃ l : List L2.Key, l.Nodup ∧ (∀ k, k ∈ l ↔ k ∈ ks.take i) ∧ h.SetOf (mixKind P w) S (memK l) l.length
theorem keepsK {S : Addr} {h0 : Heap} {ks : List L2.Key} : KeepsSet S h0 (GK P w S ks) := fun i h h' ⟨l, n, e, R⟩ z1 _ => ⟨l, n, e, setOf_at R z1⟩
theorem keys_at : ∀ {ks : List L2.Key} {us : List Value}, Vals (ks.map kV) us → ∀ {i : Nat} {v : Value}, us[i]? = some v → ∃ k, ks[i]? = some k ∧ RelV (kV k) v
  | [], _, .nil, i, v, h => by simp at h
  | k :: ks, _, .cons r t, i, v, h => by
    cases i with
    | zero =>
      obtain rfl := Option.some.inj h
      exact ⟨k, rfl, r⟩
    | succ i => exact keys_at t h
theorem addsK {S : Addr} {h0 : Heap} {ks : List L2.Key} {its : Array Value} (r : Vals (ks.map kV) its.toList) (few : ks.length < 1000) : AddsTo P w A S h0 (fun i v => its[i]? = some v) (GK P w S ks) := by
  intro i v s E pv ⟨l, nd, e, R⟩ z
  obtain ⟨k, hk, rk⟩ := keys_at r (i := i) (v := v) (by rw [Array.getElem?_toList]; exact pv)
  have hlt : i < ks.length := (List.getElem?_eq_some_iff.mp hk).1
  have hll : l.length ≤ i := by
    have q := nd_le l (ks.take i) nd fun x hx => (e x).mp hx
    rw [List.length_take] at q
    omega
  have et : ks.take (i + 1) = ks.take i ++ [k] := by rw [List.take_add_one, hk]; rfl
  have ik : (mixKind P w).is k v = true := kV_is rk
  unfold setAdd
  refine wpAny_holding (wpAny_bind ((mixKind P w).pyHash ik ?_))
  refine wpAny_setAddHashed_of (s := { s with toks := s.toks + 1 }) ik (key_scan rk) R (by unfold scanBound; omega) fun h' sb R' => ?_
  refine ⟨h', s.toks + 1, rfl, Nat.le_succ _, sb, ?_⟩
  by_cases c : k ∈ l
  · refine ⟨l, nd, fun x => ?_, setOf_as R' (fun x => ?_) ?_⟩
    · rw [et, List.mem_append, ← e x]
      exact ⟨.inl, fun y => y.elim id fun y => by rw [List.mem_singleton.mp y]; exact c⟩
    · by_cases x1 : x = k
      · rw [decide_eq_true x1, Bool.or_true, x1]
        exact (memK_iff.mpr c).symm
      · rw [decide_eq_false x1, Bool.or_false]
    · rw [if_pos (memK_iff.mpr c)]
  · refine ⟨k :: l, List.nodup_cons.mpr ⟨c, nd⟩, fun x => ?_, setOf_as R' (fun x => ?_) ?_⟩
    · rw [et, List.mem_append, ← e x, List.mem_cons, List.mem_singleton]
      exact or_comm
    · rw [Bool.eq_iff_iff, Bool.or_eq_true, memK_iff, memK_iff, decide_eq_true_eq, List.mem_cons]
      exact or_comm
    · rw [if_neg (fun y => c (memK_iff.mp y))]
      rfl
theorem freshK {h : Heap} {S : Addr} {ks : List L2.Key} (e : h.get? S = some (set0 w)) : GK P w S ks 0 h :=
  ⟨[], List.nodup_nil, fun k => by simp, _, #[], 0, _, e, ⟨rfl, rfl, rfl⟩, rfl, fun x hx => by simp at hx, fun k => by simp [memK], by unfold scanBound; decide, rfl, rfl⟩
end
section
variable {X : Cx}
def tLenSetK (K : PySem.W.Frag) (ta : TE) : TE := fun σ H Q => ta σ H fun x H1 => ∃ (l : Addr) (ks : List L2.Key), x = .ref l ∧ (SqL K H1 l (ks.map kV) ∨ SqT K H1 l (ks.map kV)) ∧ ks.length < 1000 ∧ ∀ n : Nat, n ≤ ks.length → (n < ks.length ↔ ¬ ks.Nodup) → Q (.int n) H1
theorem pe_lenSetK {a : Expr} {ta : TE} {p p2 q pos : Pos} (hc : X.calm = true) (hg : Gl X "len") (hm : X.mg "len" = none) (hg2 : Gl X "set") (hm2 : X.mg "set" = none) (ha : PE X a ta)
    (na : starEach [a] X.env = (false, eval a X.env) :: starEach [] X.env := by rfl) : PE X (.Call (.Name "len" p) [.Call (.Name "set" p2) [a] [] q] [] pos) (tLenSetK X.K ta) := by
  refine ⟨fun pins s σ H Q I h => ?_⟩
  refine Call_ (ld_blt I hg hm PySem.boot_len (PyProof.Rows.callWith_builtin1 (PyProof.Rows.args_cons ?_ rfl) rfl rfl))
  refine Call_ (ld_blt I hg2 hm2 PyProof.Rows.boot_set (PyProof.Rows.callWith_type1 (PyProof.Rows.args_cons (thn (ha.run pins s σ H _ I h) fun v s1 ⟨x, H1, I1, r1, q1⟩ => PyProof.Rows.args_nil ?_) na) na rfl))
  obtain ⟨l, ks, rfl, hq, few, q1⟩ := q1
  cases r1
  have fin : ∀ (its : Array Value), its.size = ks.length → ∀ (h' : Heap) (tk : Nat), GK X.prog X.w s1.heap.objs.size ks its.size h' → (∀ b o, s1.heap.get? b = some o → h'.get? b = some o) →
      wpAny (model X.prog X.w) X.A (spliced (backTo pos (starEach [] X.env))) (fun vs s₂ => wpAny (model X.prog X.w) X.A (call (.builtin "len") (Value.ref s1.heap.objs.size :: vs)) (EP X pins σ Q) X.xe s₂) X.xe { s1 with heap := h', toks := tk } := fun its sz h' tk g kp => by
    refine PyProof.Rows.args_nil ?_
    obtain ⟨m, nd, e, R⟩ := g
    rw [sz, List.take_length] at e
    have I2 : Inv X pins σ H1 { s1 with heap := h', toks := tk } := I1.kept fun b o e => kp b o e
    obtain ⟨o, es, ep, t, ho, hex, hd, _, _, _, hf, hn⟩ := R
    have cn := count_nd (l := m) (D := ks) nd (fun x hx => (e x).mp hx) (fun x hx => (e x).mpr hx)
    exact call_len_set ho hex hd hf (by rw [hn]; omega) ⟨.int m.length, H1, I2.tok _, ⟨_, by rw [hn]⟩, q1 m.length cn.1 cn.2⟩
  rcases hq with hq | hq
  · obtain ⟨its, r, pl, hz⟩ := I1.list hq
    have sz : its.toArray.size = ks.length := by rw [List.size_toArray, ← r.length, List.length_map]
    exact callSet_list (I1.ok.hd hc) pl.isList (GK X.prog X.w s1.heap.objs.size ks) (addsK (by simpa using r) few) keepsK (fun h e => freshK e) fun h' tk g kp => fin its.toArray sz h' tk g kp
  · obtain ⟨its, r, pl, hz⟩ := I1.tuple hq
    have sz : its.toArray.size = ks.length := by rw [List.size_toArray, ← r.length, List.length_map]
    exact callSet_tuple (I1.ok.hd hc) pl (GK X.prog X.w s1.heap.objs.size ks) (addsK (by simpa using r) few) keepsK (fun h e => freshK e) fun h' tk g kp => fin its.toArray sz h' tk g kp
/-! ### for over a list or a tuple -/
def iAny (K : PySem.W.Frag) (te : TE) : TI := fun σ H R => te σ H fun v H1 => ∃ (a : Addr) (xs : List V), v = .ref a ∧ (SqL K H1 a xs ∨ SqT K H1 a xs) ∧ ∀ (J : It) (G : Hp → Prop), Walk J xs.length G (YAt xs) → (∀ H', Same H1 H' → G H') → R J H1
theorem pi_any {tg l : Expr} {tl : TE} (hl : PE X l tl) : PI X tg l (iAny X.K tl) := by
  refine ⟨fun pins s σ H R I h => ?_⟩
  refine thn (hl.run pins s σ H _ I h) fun v s1 ⟨x, H1, I1, r1, q1⟩ => ?_
  obtain ⟨a, xs, rfl, hq, q⟩ := q1
  cases r1
  have fp : ∀ b ∈ [s1.heap.objs.size], FpOk X pins H1 b := fun b hb => by
    rw [List.mem_singleton.mp hb]
    exact I1.fpOk (Nat.le_refl _) (I1.hok.fresh (Nat.le_refl _))
  rcases hq with hq | hq
  · obtain ⟨its, rv, p, hz⟩ := I1.list hq
    exact wpAny_pyIter_list p.isList ⟨s1.heap.objs.size, [s1.heap.objs.size], _, _, H1, rfl, I1.kept (t' := s1.toks) fun b o e => Heap.get?_push_of_some _ e, turn_list a _, ⟨_, Heap.get?_push_size _ rfl, rfl, rfl⟩, fp, q _ _ walk_list fun H' sm => sm.seq hq⟩
  · obtain ⟨its, rv, p, hz⟩ := I1.tuple hq
    refine wpAny_pyIter_tuple (show s1.heap.IsTuple a its.toArray from p) ⟨s1.heap.objs.size, [s1.heap.objs.size], _, _, H1, rfl, I1.kept (t' := s1.toks) fun b o e => Heap.get?_push_of_some _ e, turn_tuple a _, ⟨_, Heap.get?_push_size _ rfl, rfl, rfl⟩, fp, q _ _ walk_tup fun H' sm => ?_⟩
    rcases hq with (h | ⟨o, h⟩) | h
    · exact .inl (.inl (sm _ _ h))
    · exact .inl (.inr ⟨o, sm _ _ h⟩)
    · exact .inr h
end
end Onp
set_option maxHeartbeats 4000000
set_option autoImplicit false
/-! sorted(list or tuple) of data -/
namespace Onp
open PySem PySem.Spec PyProof.Rows L2 PySem.W
section
variable {prog : Program} {w : World} {A : Around} {E : Value → Shared → Prop} {s : Shared}
theorem collect_seq {l : Addr} {T : String} {o : Obj} {vs : List Value} {n : Nat} {Q : List Value → Shared → Prop} (hT : T = "list" ∨ T = "tuple") (g1 : s.heap.get? l = some o) (g2 : o.cls = .type T) (g3 : o.data = .seq vs.toArray n) (hz : vs.length ≤ sizeLine)
    (h : Q vs { s with heap := (s.heap.push (seqObj "list" #[] 0)).update s.heap.objs.size (Obj.mapSeq (· ++ vs.toArray)) }) : wpAny (model prog w) A (collect (.ref l)) Q E s := by
  unfold collect
  refine wpAny_bind (wpAny_runValue (codeAny_builtin entry_proto_collect' ?_))
  show wpAny _ _ (do again (.builtin "list.__iadd__" ⟨[← newList [], .ref l], []⟩)) _ _ s
  refine wpAny_bind (wpAny_newList (wpAny_pure ⟨Code.quiet_builtin _ (by decide +kernel), codeAny_builtin entry_list_iadd' ?_⟩))
  show wpAny _ _ (Builtin.List.listExtendWith (.ref s.heap.objs.size) (.ref l) (.ref s.heap.objs.size)) _ _ { s with heap := s.heap.push (seqObj "list" #[] 0) }
  unfold Builtin.List.listExtendWith
  have g1' : (s.heap.push (seqObj "list" #[] 0)).get? l = some o := Heap.get?_push_of_some _ g1
  refine wpAny_bind (wpAny_typeOf (T := T) ⟨o, g1', g2⟩ ?_)
  have tt : (Builtin.List.listSameRef (.ref s.heap.objs.size) (.ref l) || Value.type T == Value.type "list" || Value.type T == Value.type "tuple") = true := by
    rcases hT with rfl | rfl <;> simp
  rw [if_pos tt]
  refine wpAny_bind (listItems_at g1' g3 (wpAny_bind (listItems_at (xs := #[]) (n := 0) (Heap.get?_push_size _ rfl) rfl ?_)))
  rw [if_neg (by simp)]
  refine wpAny_bind (listUpdate_at (xs := #[]) (n := 0) (Heap.get?_push_size _ rfl) rfl (wpAny_pure ?_) (Nat.zero_le _) (by show (#[] ++ vs.toArray).size ≤ sizeLine + 1; simp only [Array.size_append, List.size_toArray, List.length_nil]; omega))
  show wpAny (model prog w) A (do
      let o ← load s.heap.objs.size
      match o.data with
      | .seq xs _ => pure xs.toList
      | _ => unsupported "internal:collect") Q E { s with heap := (s.heap.push (seqObj "list" #[] 0)).update s.heap.objs.size (Obj.mapSeq (· ++ vs.toArray)) }
  refine wpAny_bind (wpAny_load (get?_update_seq (Heap.get?_push_size _ rfl) _) ?_)
  show wpAny _ _ (pure ((#[] : Array Value) ++ vs.toArray).toList) Q E _
  rw [show ((#[] : Array Value) ++ vs.toArray).toList = vs by simp]
  exact wpAny_pure h
theorem sorted_seq {β : Type} {vs : List Value} {bs : List β} {enc : β → PyData} {R : Value → β → Prop} {l : Addr} {T : String} {o : Obj} {n : Nat} {Q : Value → Shared → Prop} (hT : T = "list" ∨ T = "tuple") (g1 : s.heap.get? l = some o) (g2 : o.cls = .type T) (g3 : o.data = .seq vs.toArray n)
    (e : EachIs R vs bs) (er : EachIs (fun v b => ∃ as, Reads s.heap v (enc b) as) vs bs) (al : AllAlike (bs.map enc)) (so : Sortable (bs.map enc)) (hz : bs.length ≤ sizeLine) (hu : ∀ b, b ∈ bs → A.units + 2 + (enc b).depth < cLine)
    (h : ∀ out, out.length = bs.length → EachIs R out (bs.mergeSort (dataLe false enc)) → Q (.ref (s.heap.objs.size + 1)) { s with heap := sortedAll s.heap vs (List.toArray out) }) : wpAny (model prog w) A (call (.builtin "sorted") [.ref l]) Q E s := by
  have hv : vs.length ≤ sizeLine := by rw [e.length]; exact hz
  have er' : EachIs (fun v b => ∃ as, Reads (sortingHeap (copyHeap s.heap vs) (s.heap.objs.size + 1) vs) v (enc b) as) vs bs := er.mono fun _ _ ⟨as, r⟩ => ⟨as, PyProof.Rows.Reads.keeps (fun _ _ => sorting_copy_old) r⟩
  refine call_function_entry_kw kind_sorted plain_sorted entry_sorted (args_sorted1 _) ?_
  unfold Builtin.«sorted»
  refine wpAny_bind (m := checkCount "sorted" 1 1 _) (wpAny_pure ?_)
  refine wpAny_bind (collect_seq hT g1 g2 g3 hv ?_)
  refine wpAny_bind (wpAny_newList ?_ hv)
  have sz : ((s.heap.push (seqObj "list" #[] 0)).update s.heap.objs.size (Obj.mapSeq (· ++ vs.toArray))).objs.size = s.heap.objs.size + 1 := by
    rw [Heap.size_update, size_push']
  show wpAny _ _ _ _ _ { s with heap := copyHeap s.heap vs }
  rw [sz]
  refine wpAny_bind (wpAny_holding (wpAny_call_entry_kw slot_list_sort ⟨_, copyHeap_at s.heap vs, rfl⟩ entry_list_sort ?body (args_list_sort _)))
  case body =>
    show wpAny (model prog w) A.in1.in1 (Builtin.«list.sort» ⟨[.ref (s.heap.objs.size + 1)], []⟩) _ _ _
    refine list_sort_vals (s := { s with heap := copyHeap s.heap vs }) (κ := dataKind (sortingHeap (copyHeap s.heap vs) (s.heap.objs.size + 1) vs) (bs.map enc)) (copyHeap_at s.heap vs)
      (SortsAt.data (s := { s with heap := sortingHeap (copyHeap s.heap vs) (s.heap.objs.size + 1) vs }) (each_map (R := fun v d => ∃ as, Reads (sortingHeap (copyHeap s.heap vs) (s.heap.objs.size + 1) vs) v d as) enc er') al so (bound_map hu)) hv ?_
    exact ⟨_, rfl, wpAny_pure ⟨_, rfl, h _ (by rw [sortVals_length false rfl]; exact e.length) (sortVals_data false e er' al)⟩⟩
end
/-! ### over the layer -/
abbrev VD : Type := V × PyData
def srtD (xs : List VD) : List VD := xs.mergeSort (dataLe false (·.2))
theorem each_vals {X : Cx} {pins : List (Addr × Obj)} {σ : L2.St} {H : Hp} {s : Shared} (I : L2.Inv X pins σ H s) : ∀ (xs : List VD) (us : List Value), Vals (xs.map (·.1)) us → (∀ p ∈ xs, Dp X.K H p.1 p.2) →
    EachIs (fun v (b : VD) => RelV b.1 v) us xs ∧ EachIs (fun v (b : VD) => ∃ as, Reads s.heap v b.2 as) us xs
  | [], _, .nil, _ => ⟨.nil, .nil⟩
  | p :: xs, _, .cons r t, hd => by
    obtain ⟨q1, q2⟩ := each_vals I xs _ t fun x hx => hd x (List.mem_cons_of_mem _ hx)
    exact ⟨.cons r q1, .cons (Dp.reads I p.2 p.1 _ (hd p List.mem_cons_self) r) q2⟩
theorem vals_each : ∀ (xs : List VD) (us : List Value), EachIs (fun v (b : VD) => RelV b.1 v) us xs → Vals (xs.map (·.1)) us
  | [], _, .nil => .nil
  | _ :: xs, _, .cons r t => .cons r (vals_each xs _ t)
def rSortD (K : PySem.W.Frag) : List V → Hp → VK → Prop := fun vs H Q => ∃ (a : Addr) (xs : List VD), vs = [.ref a] ∧ (SqL K H a (xs.map (·.1)) ∨ SqT K H a (xs.map (·.1))) ∧ (∀ p ∈ xs, Dp K H p.1 p.2) ∧ AllAlike (xs.map (·.2)) ∧ Sortable (xs.map (·.2)) ∧ (∀ p ∈ xs, p.2.depth ≤ 8) ∧
  ∀ p, H p = none → Q (.ref p) (upd H p (.lst ((srtD xs).map (·.1))))
theorem cr_sortD {X : Cx} (hu : X.A.units + 64 < cLine) : CallR X (.builtin "sorted") (rSortD X.K) := by
  intro pins s σ H vs us Q I r h
  obtain ⟨a, xs, rfl, hs, hd, al, so, dp, q⟩ := h
  rw [Vals.ref1 r]
  have fin : ∀ (T : String) (its : List Value) (o : Obj) (n : Nat), (T = "list" ∨ T = "tuple") → s.heap.get? a = some o → o.cls = .type T → o.data = .seq its.toArray n → Vals (xs.map (·.1)) its → (xs.map (·.1)).length ≤ sizeLine →
      wpAny (model X.prog X.w) X.A (call (.builtin "sorted") [.ref a]) (EP X pins σ Q) X.xe s := fun T its o n hT g1 g2 g3 rv hz => by
    obtain ⟨e, er⟩ := each_vals I xs its rv hd
    rw [List.length_map] at hz
    refine sorted_seq (enc := fun b : VD => b.2) (R := fun v b => RelV b.1 v) hT g1 g2 g3 e er al so hz (fun b hb => by have := dp b hb; omega) fun out ol eo => ?_
    obtain ⟨ep, he⟩ := PyProof.Rows.sortedAll_at s.heap its out.toArray
    have hl : ((srtD xs).map (·.1)).length ≤ sizeLine := by
      unfold srtD
      rw [List.length_map, List.length_mergeSort]
      exact hz
    exact ⟨.ref _, upd H (s.heap.objs.size + 1) (.lst ((srtD xs).map (·.1))), I.laid (t' := s.toks) (fun _ _ => PyProof.Rows.sortedAll_old) (Nat.le_succ _) ⟨hl, out, ep, vals_each _ _ eo, he⟩, rfl, q _ (I.hok.fresh (Nat.le_succ _))⟩
  rcases hs with hs | hs
  · obtain ⟨its, rv, pl, hz⟩ := I.list hs
    obtain ⟨o, g1, g2, n, g3⟩ := pl.isList
    exact fin "list" its o n (.inl rfl) g1 g2 g3 rv hz
  · obtain ⟨its, rv, pl, hz⟩ := I.tuple hs
    obtain ⟨o, g1, g2, n, g3⟩ := pl
    exact fin "tuple" its o n (.inr rfl) g1 g2 g3 rv hz
end Onp
set_option maxHeartbeats 4000000
set_option autoImplicit false
/-! machines: letters, arrows, rows of them -/
namespace Onp
open PySem PySem.Spec PyProof.Rows L2
def smallL : List Nat := [97, 98, 99, 100, 101, 102, 103, 104, 105, 106, 107, 108, 109, 110, 111, 112, 113, 114, 115, 116, 117, 118, 119, 120, 121, 122]
theorem small_eq : ("abcdefghijklmnopqrstuvwxyz" : Str) = Sx smallL := by decide +kernel
theorem em_eq : ("" : Str) = Sx [] := by decide +kernel
theorem cut_to (xs : List Nat) (n : Nat) (h : n ≤ xs.length) : cutS (Sx xs) none (some (n : Int)) = Sx (xs.take n) := by
  unfold cutS
  rw [HT.sIx_none, HT.sIx_nat, sx_cps, sx_len, List.drop_zero, Nat.sub_zero, Nat.min_eq_left h]
  rfl
theorem cut_from (xs : List Nat) (n : Nat) : cutS (Sx xs) (some (n : Int)) none = Sx (xs.drop n) := by
  unfold cutS
  rw [HT.sIx_none, HT.sIx_nat, sx_cps, sx_len]
  by_cases h : n ≤ xs.length
  · rw [Nat.min_eq_left h, List.take_of_length_le (by rw [List.length_drop]; omega)]
    rfl
  · rw [Nat.min_eq_right (by omega), List.drop_length, List.drop_eq_nil_of_le (by omega), List.take_nil]
    rfl
/-! ### letters -/
def risB (xs : List Nat) : Bool := (xs.zip (xs.drop 1)).all fun p => decide (p.1 < p.2)
def smaB (xs : List Nat) : Bool := xs.all fun c => decide (c ∈ smallL)
def letB (xs : List Nat) : Bool := risB xs && (smaB xs && (decide (1 ≤ xs.length) && decide (xs.length ≤ 3)))
theorem one_lt (c d : Nat) : decide (([c] : List Nat) < [d]) = decide (c < d) := by
  by_cases h : c < d
  · rw [decide_eq_true h, decide_eq_true]
    exact List.Lex.rel h
  · rw [decide_eq_false h, decide_eq_false]
    intro z
    cases z with
    | rel z => exact h z
    | cons z => cases z
/-! ### arrows -/
abbrev Arw : Type := Int × Str × Str × Int
def akey (a : Arw) : List Key := [.inl a.1, .inr a.2.1, .inr a.2.2.1, .inl a.2.2.2]
def aV (a : Arw) : List V := [.int a.1, .str a.2.1, .str a.2.2.1, .int a.2.2.2]
theorem akey_V (a : Arw) : (akey a).map kV = aV a := rfl
theorem akey_inj {a b : Arw} (h : akey a = akey b) : a = b := by
  obtain ⟨a1, a2, a3, a4⟩ := a
  obtain ⟨b1, b2, b3, b4⟩ := b
  simp only [akey, List.cons.injEq, Sum.inl.injEq, Sum.inr.injEq, and_true] at h
  obtain ⟨rfl, rfl, rfl, rfl⟩ := h
  rfl
def adat (a : Arw) : PyData := .tuple [.int a.1, .str a.2.1, .str a.2.2.1, .int a.2.2.2]
abbrev AR : Type := Addr × Arw
def rfs (ps : List AR) : List V := ps.map fun p => V.ref p.1
def RowAt (K : PySem.W.Frag) (H : Hp) (ps : List AR) : Prop := ∀ p ∈ ps, SqT K H p.1 (aV p.2)
theorem sameT {K : PySem.W.Frag} {H H' : Hp} {a : Addr} {xs : List V} (e : Same H H') (h : SqT K H a xs) : SqT K H' a xs := by
  rcases h with (h | ⟨o, h⟩) | h
  · exact .inl (.inl (e _ _ h))
  · exact .inl (.inr ⟨o, e _ _ h⟩)
  · exact .inr h
theorem RowAt.same {K : PySem.W.Frag} {H H' : Hp} {ps : List AR} (r : RowAt K H ps) (s : Same H H') : RowAt K H' ps := fun p hp => sameT s (r p hp)
theorem dp_arw {K : PySem.W.Frag} {H : Hp} {p : AR} (h : SqT K H p.1 (aV p.2)) : Dp K H (.ref p.1) (adat p.2) := .tup h (.cons (.int _) (.cons (.str _) (.cons (.str _) (.cons (.int _) .nil))))
/-- whether a tuple of four is an arrow -/
def arrB (n : Int) (ls : List Nat) (a : Arw) : Bool := decide (0 ≤ a.1) && decide (a.1 < n) && (decide (0 ≤ a.2.2.2) && decide (a.2.2.2 < n)) && (ls.any fun c => decide (a.2.1 = Sx [c])) && decide (a.2.2.1 ∈ deedsL)
def rooB (n : Int) (r : Int) : Bool := decide (0 ≤ r) && decide (r < n)
/-! ### sorted -/
def sortA (as : List Arw) : List Arw := as.mergeSort (PySem.W.dataLe false adat)
def sortI (ns : List Int) : List Int := ns.mergeSort fun a b => decide (a ≤ b)
end Onp
set_option maxHeartbeats 8000000
set_option autoImplicit false
namespace Onp
open PySem PySem.Spec PyProof.Rows L2
abbrev sAreL : Stmt := topS 14
abbrev sIsL : Stmt := topS 15
abbrev sIsA : Stmt := topS 16
abbrev sNeedA : Stmt := topS 17
abbrev sNeedR : Stmt := topS 18
abbrev sStepsB : Stmt := topS 19
structure FnM (K : PySem.W.Frag) (mg : Str → Option Value) (f : Addr) (fd : FuncData) (x : Str) (st : Stmt) (ps : List Str) : Prop where
  F : Fun K x x st f fd
  b : Binds K fd ps []
  g : mg x = some (.ref f)
structure Bl1 (mg : Str → Option Value) : Prop where
  all : mg "all" = none
  zip : mg "zip" = none
  len : mg "len" = none
  set : mg "set" = none
structure CsM (K : PySem.W.Frag) (mg : Str → Option Value) (tD : Addr) : Prop where
  small : ∃ t, mg "SMALL_LETTERS" = some (.str "abcdefghijklmnopqrstuvwxyz" t)
  letters : ∃ t, mg "MOST_LETTERS" = some (.int 3 t)
  rooms : ∃ t, mg "MOST_ROOMS" = some (.int 8 t)
  arrows : ∃ t, mg "MOST_ARROWS" = some (.int 40 t)
  deeds : mg "DEEDS" = some (.ref tD)
  deedsT : ∀ H, SqT K H tD (deedsL.map V.str)
section
variable {P : Program} {w : World} {K : PySem.W.Frag} {mg : Str → Option Value} {base : Heap}
/-! ### are_letters -/
def NAl : List Str := ["text", "rising", "small", "one", "other", "sign"]
theorem scAreL : FnScope NAl ["text"] (defScope sAreL) := ⟨rfl, rfl, rfl, by decide +kernel, rfl, by decide +kernel, by decide +kernel⟩
def spAreL : Sp := fun vs H Q _ => ∃ xs : List Nat, vs = [.str (Sx xs)] ∧ xs.length ≤ 1000 ∧ ∀ H', Same H H' → Q (.bl (letB xs)) H'
theorem ok_areL {f tD : Addr} {fd : FuncData} {k : Nat} (F : Fun K "are_letters" "are_letters" sAreL f fd) (B : Bl1 mg) (C : CsM K mg tD) : FnOk P w K mg base CX0 (k + 1) f fd ["text"] spAreL := by
  obtain ⟨t1, gS⟩ := C.small
  obtain ⟨t2, gL⟩ := C.letters
  refine F.ok scAreL (fun vs H Q E h => ?_) (fun cdv A outer s H vs Q E hr h => ?_)
  · obtain ⟨xs, rfl, _⟩ := h
    rfl
  · obtain ⟨xs, rfl, hlen, q⟩ := h
    refine ⟨_, pss_cons (ps_set (i := 1) scAreL.nd rfl (.inl rfl) (pe_callB (cr_all rfl) (by rfl) B.all (by decide +kernel) (pa_cons (pe_lc (own := [("one", 3), ("other", 4)]) (g := gTup K 2 (gCons (gName 3) (gCons (gName 4) gNil))) (tt := tYes) rfl scAreL.nd
          (pi_zipS (by rfl) B.zip (pa_cons (pv 0) (pa_cons (pe_slice sl_str (pv 0) (po_some pe_int) po_none) pa_nil)))
          (blkOk_by (own := [("one", 3), ("other", 4)]) (N := NAl) (sc := defScope sAreL) (by decide +kernel))
          (fun _ _ _ _ _ => pg_tup rfl (pgs_cons (pg_name (i := 3) scAreL.nd rfl (.inl rfl)) (pgs_cons (pg_name (i := 4) scAreL.nd rfl (.inl rfl)) pgs_nil)))
          (fun _ _ _ _ _ => pts_nil) (fun _ _ _ _ _ => pe_cmpR op_lt_str (pv 3) (pv 4) (nomark _))) pa_nil)))
      (pss_cons (ps_set (i := 2) scAreL.nd rfl (.inl rfl) (pe_callB (cr_all rfl) (by rfl) B.all (by decide +kernel) (pa_cons (pe_lc (own := [("sign", 5)]) (g := gName 5) (tt := tYes) rfl scAreL.nd
          (pi_str (pv 0)) (blkOk_by (own := [("sign", 5)]) (N := NAl) (sc := defScope sAreL) (by decide +kernel))
          (fun _ _ _ _ _ => pg_name (i := 5) scAreL.nd rfl (.inl rfl)) (fun _ _ _ _ _ => pts_nil) (fun _ _ _ _ _ => pe_cmpR op_in_sign (pv 5) (pe_glob (v := .str "abcdefghijklmnopqrstuvwxyz") rfl gS ⟨_, rfl⟩) (by rfl))) pa_nil)))
      (pss_one (ps_ret (pe_and (pv 1) (pe_and (pv 2) (pe_one (pe_chain op_le op_le pe_int (pe_callB call_len_str (by rfl) B.len PySem.boot_len (pa_cons (pv 0) pa_nil)) (pe_glob (v := .int 3) rfl gL ⟨_, rfl⟩)))))))), ?_⟩
    have hbig : 5000 ≤ sizeLine := by decide
    refine ⟨_, rfl, _, rfl, 1, rfl, Sx xs, rfl, by rw [sx_len]; omega, ?_⟩
    rw [show (some (1 : Int)) = some ((1 : Nat) : Int) from rfl, cut_from]
    refine ⟨Sx xs, Sx (xs.drop 1), rfl, fun D nD => ?_⟩
    have hn : min (Sx xs).cps.size (Sx (xs.drop 1)).cps.size = (xs.zip (xs.drop 1)).length := by
      rw [List.length_zip]
      rfl
    refine lc_it (walk_zipS (Sx xs) (Sx (xs.drop 1))) (fun i H' => Same H H' ∧ H D = none ∧ H' D = some (.lst ((((xs.zip (xs.drop 1)).take i).map fun p => decide (p.1 < p.2)).map V.bl)))
      ⟨same_upd nD, nD, upd_same⟩ (fun _ _ _ _ => True.intro) ?_ ?_
    · rintro i v H1 H2 hi ⟨sm, fD, hD⟩ ⟨T, c, d, rfl, nT, rfl, hc, hd⟩
      have hc : xs[i]? = some c := by
        have : xs.toArray[i]? = some c := hc
        simpa using this
      have hd : (xs.drop 1)[i]? = some d := by
        have : (xs.drop 1).toArray[i]? = some d := hd
        simpa using this
      have ez : (xs.zip (xs.drop 1))[i]? = some (c, d) := by
        rw [List.getElem?_zip_eq_some]
        exact ⟨hc, hd⟩
      have et : (xs.zip (xs.drop 1)).take (i + 1) = (xs.zip (xs.drop 1)).take i ++ [(c, d)] := by rw [List.take_add_one, ez]; rfl
      have st : Same H1 (upd H1 T (.tup [sgn c, sgn d])) := same_upd nT
      refine ⟨T, _, rfl, SqT.of upd_same, rfl, _, _, rfl, _, _, rfl, rfl, rfl, ?_⟩
      unfold tYes
      dsimp only
      rw [if_pos rfl]
      refine ⟨_, rfl, _, rfl, ⟨#[c]⟩, ⟨#[d]⟩, rfl, rfl, _, st _ _ hD, ?_, fun b o e => ?_, fD, ?_⟩
      · rw [List.length_map, List.length_map, List.length_take]
        rw [hn] at hi
        rw [List.length_zip] at hi ⊢
        omega
      · rw [upd_ne (ne_of_none e fD)]
        exact st _ _ (sm _ _ e)
      · rw [upd_same, et, List.map_append, List.map_append]
        show some (HO.lst (_ ++ [V.bl (decide (([c] : List Nat) < [d]))])) = _
        rw [one_lt]
        rfl
    · rintro H1 ⟨s1, fD, hD⟩
      rw [hn, List.take_length] at hD
      refine ⟨D, _, rfl, SqL.of hD, ?_⟩
      have er : ((xs.zip (xs.drop 1)).map fun p => decide (p.1 < p.2)).all id = risB xs := by
        unfold risB
        rw [List.all_map]
        rfl
      rw [er]
      refine ⟨_, rfl, Sx xs, rfl, fun D2 nD2 => ?_⟩
      refine lc_it walk_str (fun i H' => Same H1 H' ∧ H1 D2 = none ∧ H' D2 = some (.lst (((xs.take i).map fun c => decide (c ∈ smallL)).map V.bl))) ⟨same_upd nD2, nD2, upd_same⟩ (fun _ _ _ _ => True.intro) ?_ ?_
      · rintro i v H2 H3 hi ⟨sm, fD2, hD2⟩ ⟨rfl, c, hc, rfl⟩
        have hc : xs[i]? = some c := by
          have : xs.toArray[i]? = some c := hc
          simpa using this
        have et : xs.take (i + 1) = xs.take i ++ [c] := by rw [List.take_add_one, hc]; rfl
        refine ⟨rfl, ?_⟩
        unfold tYes
        dsimp only
        rw [if_pos rfl]
        refine ⟨_, rfl, c, "abcdefghijklmnopqrstuvwxyz", rfl, rfl, _, hD2, ?_, fun b o e => ?_, fD2, ?_⟩
        · rw [List.length_map, List.length_map, List.length_take]
          omega
        · rw [upd_ne (ne_of_none e fD2)]
          exact sm _ _ e
        · rw [upd_same, et, List.map_append, List.map_append, small_eq, sx_cps]
          rfl
      · rintro H2 ⟨s2, fD2, hD2⟩
        have hsz : (Sx xs).cps.size = xs.length := sx_len xs
        rw [hsz, List.take_length] at hD2
        refine ⟨D2, _, rfl, SqL.of hD2, ?_⟩
        have es : (xs.map fun c => decide (c ∈ smallL)).all id = smaB xs := by
          unfold smaB
          rw [List.all_map]
          rfl
        rw [es]
        have q1 := q H2 (s1.trans s2)
        unfold letB at q1
        refine ⟨_, rfl, _, rfl, ?_⟩
        cases hr1 : risB xs with
        | false =>
          rw [hr1] at q1
          exact iteF q1
        | true =>
          rw [hr1, Bool.true_and] at q1
          refine iteT ⟨_, rfl, _, rfl, ?_⟩
          cases hs1 : smaB xs with
          | false =>
            rw [hs1] at q1
            exact iteF q1
          | true =>
            rw [hs1, Bool.true_and] at q1
            refine iteT ⟨_, rfl, Sx xs, rfl, by rw [sx_len]; omega, _, _, rfl, rfl, _, rfl, ?_⟩
            rw [sx_len]
            by_cases h1 : 1 ≤ xs.length
            · rw [decide_eq_true h1, Bool.true_and] at q1
              refine itT (by omega) ⟨_, _, rfl, rfl, ?_⟩
              have e : decide ((xs.length : Int) ≤ 3) = decide (xs.length ≤ 3) := by
                by_cases h : xs.length ≤ 3
                · rw [decide_eq_true h, decide_eq_true (by omega)]
                · rw [decide_eq_false h, decide_eq_false (by omega)]
              rw [← e] at q1
              exact q1
            · rw [decide_eq_false h1, Bool.false_and] at q1
              rw [decide_eq_false (by omega)]
              exact iteF q1
end
end Onp
set_option maxHeartbeats 8000000
set_option autoImplicit false
namespace Onp
open PySem PySem.Spec PyProof.Rows L2
theorem in_one (xs : List Nat) (c : Nat) : (!(Builtin.Str.occurrences (Sx xs) (Sx [c]) 0 (Sx xs).length 1).isEmpty) = decide (c ∈ xs) := PySem.StrLaws.found_one (Sx xs) c
theorem any_one (ls : List Nat) (c : Nat) : (ls.any fun d => decide (Sx [c] = Sx [d])) = decide (c ∈ ls) := by
  rw [Bool.eq_iff_iff, List.any_eq_true, decide_eq_true_eq]
  constructor
  · rintro ⟨d, h1, h2⟩
    have := sx_inj (of_decide_eq_true h2)
    rw [(List.cons.inj this).1]
    exact h1
  · exact fun h => ⟨c, h, decide_eq_true rfl⟩
theorem any_not (ls : List Nat) {z : Str} (h : z.length ≠ 1) : (ls.any fun d => decide (z = Sx [d])) = false := by
  rw [Bool.eq_false_iff]
  intro e
  obtain ⟨d, _, h2⟩ := List.any_eq_true.mp e
  rw [of_decide_eq_true h2] at h
  exact h rfl
theorem len_one {z : Str} (h : z.length = 1) : ∃ c, z = Sx [c] := by
  have h1 : z.cps.toList.length = 1 := by simpa [Str.length] using h
  obtain ⟨c, hc⟩ := List.length_eq_one_iff.mp h1
  exact ⟨c, by rw [sx_of z, hc]⟩
section
variable {P : Program} {w : World} {K : PySem.W.Frag} {mg : Str → Option Value} {base : Heap}
/-! ### is_letter -/
theorem scIsL : FnScope ["text", "letters"] ["text", "letters"] (defScope sIsL) := ⟨rfl, rfl, rfl, by decide +kernel, rfl, by decide +kernel, by decide +kernel⟩
def spIsL : Sp := fun vs H Q _ => ∃ (z : Str) (ls : List Nat), vs = [.str z, .str (Sx ls)] ∧ z.length ≤ sizeLine ∧ Q (.bl (ls.any fun c => decide (z = Sx [c]))) H
theorem ok_isL {f : Addr} {fd : FuncData} {k : Nat} (F : Fun K "is_letter" "is_letter" sIsL f fd) (B : Bl1 mg) : FnOk P w K mg base CX0 (k + 1) f fd ["text", "letters"] spIsL := by
  refine F.ok scIsL (fun vs H Q E h => ?_) (fun cdv A outer s H vs Q E hr h => ?_)
  · obtain ⟨z, ls, rfl, _⟩ := h
    rfl
  · obtain ⟨z, ls, rfl, hz, q⟩ := h
    refine ⟨_, pss_one (ps_ret (pe_and (pe_cmpR op_eq (pe_callB call_len_str (by rfl) B.len PySem.boot_len (pa_cons (pv 0) pa_nil)) pe_int (nomark _)) (pe_one (pe_cmpR op_in_str (pv 0) (pv 1) (by rfl))))), ?_⟩
    refine ⟨_, rfl, z, rfl, hz, rfl, _, rfl, ?_⟩
    by_cases h1 : z.length = 1
    · obtain ⟨c, rfl⟩ := len_one h1
      rw [any_one] at q
      refine itT (by rw [h1]; rfl) ⟨_, rfl, _, rfl, Sx [c], Sx ls, rfl, rfl, ?_⟩
      rw [in_one]
      exact q
    · rw [any_not ls h1] at q
      exact itF (fun e => h1 (Int.ofNat.inj (V.int.inj e))) q
/-! ### is_arrow -/
def NIa : List Str := ["arrow", "rooms", "letters", "start", "letter", "deed", "end"]
theorem scIsA : FnScope NIa ["arrow", "rooms", "letters"] (defScope sIsA) := ⟨rfl, rfl, rfl, by decide +kernel, rfl, by decide +kernel, by decide +kernel⟩
def spIsA (K : PySem.W.Frag) : Sp := fun vs H Q _ => ∃ (t : Addr) (a : Arw) (n : Int) (ls : List Nat), vs = [.ref t, .int n, .str (Sx ls)] ∧ SqT K H t (aV a) ∧ a.2.1.length ≤ sizeLine ∧ Q (.bl (arrB n ls a)) H
theorem ok_isA {f fL tD : Addr} {fd fdL : FuncData} {k : Nat} (F : Fun K "is_arrow" "is_arrow" sIsA f fd) (Il : FnM K mg fL fdL "is_letter" sIsL ["text", "letters"]) (B : Bl1 mg) (C : CsM K mg tD) : FnOk P w K mg base CX0 (k + 2) f fd ["arrow", "rooms", "letters"] (spIsA K) := by
  have GL : FnOk P w K mg base CX0 (k + 1) fL fdL ["text", "letters"] spIsL := ok_isL Il.F B
  refine F.ok scIsA (fun vs H Q E h => ?_) (fun cdv A outer s H vs Q E hr h => ?_)
  · obtain ⟨t, a, n, ls, rfl, _⟩ := h
    rfl
  · obtain ⟨t, ⟨a1, a2, a3, a4⟩, n, ls, rfl, hT, hz, q⟩ := h
    refine ⟨_, pss_cons (ps_asg (pv 0) (pg_tup rfl (pgs_cons (pg_name (i := 3) scIsA.nd rfl (.inl rfl)) (pgs_cons (pg_name (i := 4) scIsA.nd rfl (.inl rfl)) (pgs_cons (pg_name (i := 5) scIsA.nd rfl (.inl rfl)) (pgs_cons (pg_name (i := 6) scIsA.nd rfl (.inl rfl)) pgs_nil))))))
      (pss_one (ps_ret (pe_and (pe_chain op_le op_lt pe_int (pv 3) (pv 1)) (pe_and (pe_chain op_le op_lt pe_int (pv 6) (pv 1)) (pe_and (pe_call GL hr (by rfl) Il.g Il.F.kp Il.b .nil pass0 (pa_cons (pv 4) (pa_cons (pv 2) pa_nil)))
        (pe_one (pe_cmpR op_in_seq (pv 5) (pe_glob (v := .ref tD) rfl C.deeds rfl) (by rfl)))))))), ?_⟩
    refine ⟨_, rfl, t, _, rfl, hT, rfl, _, _, rfl, _, _, rfl, _, _, rfl, _, _, rfl, rfl, ?_⟩
    unfold arrB at q
    dsimp only at q
    refine ⟨_, rfl, _, _, rfl, rfl, _, rfl, ?_⟩
    by_cases h1 : 0 ≤ a1
    · rw [decide_eq_true h1, Bool.true_and] at q
      refine itT h1 ⟨_, rfl, _, _, rfl, rfl, _, rfl, ?_⟩
      by_cases h2 : a1 < n
      · rw [decide_eq_true h2, Bool.true_and] at q
        rw [decide_eq_true h2]
        refine iteT ⟨_, rfl, _, _, rfl, rfl, _, rfl, ?_⟩
        by_cases h3 : 0 ≤ a4
        · rw [decide_eq_true h3, Bool.true_and] at q
          refine itT h3 ⟨_, rfl, _, _, rfl, rfl, _, rfl, ?_⟩
          by_cases h4 : a4 < n
          · rw [decide_eq_true h4, Bool.true_and] at q
            rw [decide_eq_true h4]
            refine iteT ⟨_, rfl, _, rfl, a2, ls, rfl, hz, _, rfl, ?_⟩
            cases h5 : (ls.any fun c => decide (a2 = Sx [c])) with
            | true =>
              rw [h5, Bool.true_and] at q
              refine iteT ⟨_, rfl, tD, deedsL.map V.str, rfl, .inr (C.deedsT _), rfl, by decide +kernel, ?_⟩
              show Q (.bl (inV (.str a3) (deedsL.map V.str))) H
              rw [inV_strs]
              exact q
            | false =>
              rw [h5, Bool.false_and] at q
              exact iteF q
          · rw [decide_eq_false h4, Bool.false_and, Bool.false_and] at q
            rw [decide_eq_false h4]
            exact iteF q
        · rw [decide_eq_false h3, Bool.false_and, Bool.false_and, Bool.false_and] at q
          exact itF h3 ⟨_, rfl, iteF q⟩
      · rw [decide_eq_false h2, Bool.false_and, Bool.false_and, Bool.false_and] at q
        rw [decide_eq_false h2]
        exact iteF q
    · rw [decide_eq_false h1, Bool.false_and, Bool.false_and, Bool.false_and, Bool.false_and] at q
      exact itF h1 ⟨_, rfl, iteF q⟩
end
end Onp
set_option maxHeartbeats 8000000
set_option autoImplicit false
namespace Onp
open PySem PySem.Spec PyProof.Rows L2
theorem arrB_len {n : Int} {ls : List Nat} {a : Arw} (h : arrB n ls a = true) : a.2.1.length ≤ sizeLine := by
  unfold arrB at h
  simp only [Bool.and_eq_true] at h
  obtain ⟨d, _, e⟩ := List.any_eq_true.mp h.1.2
  rw [of_decide_eq_true e]
  exact (by decide : 1 ≤ sizeLine)
theorem nodup_map_inj {α β : Type} {f : α → β} (hf : ∀ a b, f a = f b → a = b) {l : List α} (h : l.Nodup) : (l.map f).Nodup := List.pairwise_map.mpr (h.imp fun n e => n (hf _ _ e))
section
variable {P : Program} {w : World} {K : PySem.W.Frag} {mg : Str → Option Value} {base : Heap}
/-! ### need_arrows, need_rooms, of what they let pass -/
def NNa : List Str := ["arrows", "rooms", "letters", "arrow"]
theorem scNeedA : FnScope NNa ["arrows", "rooms", "letters"] (defScope sNeedA) := ⟨rfl, rfl, rfl, by decide +kernel, rfl, by decide +kernel, by decide +kernel⟩
def spNeedA (K : PySem.W.Frag) : Sp := fun vs H Q _ => ∃ (l : Addr) (ps : List AR) (n : Int) (ls : List Nat), vs = [.ref l, .int n, .str (Sx ls)] ∧ (SqL K H l (rfs ps) ∨ SqT K H l (rfs ps)) ∧ RowAt K H ps ∧ (∀ p ∈ ps, arrB n ls p.2 = true) ∧ (ps.map (·.2)).Nodup ∧ ps.length ≤ 40 ∧
  ∀ H', Same H H' → Q .non H'
theorem ok_needA {f fA fL tD : Addr} {fd fdA fdL : FuncData} {k : Nat} (F : Fun K "need_arrows" "need_arrows" sNeedA f fd) (Ia : FnM K mg fA fdA "is_arrow" sIsA ["arrow", "rooms", "letters"]) (Il : FnM K mg fL fdL "is_letter" sIsL ["text", "letters"]) (B : Bl1 mg) (C : CsM K mg tD) :
    FnOk P w K mg base CX0 (k + 3) f fd ["arrows", "rooms", "letters"] (spNeedA K) := by
  have GA : FnOk P w K mg base CX0 (k + 2) fA fdA ["arrow", "rooms", "letters"] (spIsA K) := ok_isA Ia.F Il B C
  obtain ⟨t1, gA⟩ := C.arrows
  refine F.ok scNeedA (fun vs H Q E h => ?_) (fun cdv A outer s H vs Q E hr h => ?_)
  · obtain ⟨l, ps, n, ls, rfl, _⟩ := h
    rfl
  · obtain ⟨l, ps, n, ls, rfl, hl, hR, hA, hnd, hfew, q⟩ := h
    refine ⟨_, pss_cons (ps_if (PW.pt (pw_or (pt_not (pt_val (pe_callB (cr_all rfl) (by rfl) B.all (by decide +kernel) (pa_cons (pe_lc (own := [("arrow", 3)]) (g := gName 3) (tt := tYes) (te := tCall (spIsA K) [] E0 (tCons (tVar 3) (tCons (tVar 1) (tCons (tVar 2) tNil)))) rfl scNeedA.nd
          (pi_any (pv 0)) (blkOk_by (own := [("arrow", 3)]) (N := NNa) (sc := defScope sNeedA) (by decide +kernel)) (fun _ _ _ _ _ => pg_name (i := 3) scNeedA.nd rfl (.inl rfl)) (fun _ _ _ _ _ => pts_nil)
          (fun _ _ _ _ _ => pe_call GA hr (by rfl) Ia.g Ia.F.kp Ia.b .nil pass0 (pa_cons (pv 3) (pa_cons (pv 1) (pa_cons (pv 2) pa_nil))))) pa_nil))))
          (pw_or1 (pt_cmpR op_lt (pe_lenSetM rfl hr.units (by rfl) B.len (by rfl) B.set (pv 0)) (pe_callB call_len_seq (by rfl) B.len PySem.boot_len (pa_cons (pv 0) pa_nil)) (nomark _))))) pss_never pss_nil)
      (pss_one (ps_if (pt_cmpR op_gt (pe_callB call_len_seq (by rfl) B.len PySem.boot_len (pa_cons (pv 0) pa_nil)) (pe_glob (v := .int 40) rfl gA ⟨_, rfl⟩) (nomark _)) pss_never pss_nil)), ?_⟩
    refine ⟨_, rfl, l, rfs ps, rfl, hl, fun J G W hG D nD => ?_⟩
    have hlen : (rfs ps).length = ps.length := List.length_map ..
    have hbig : 5000 ≤ sizeLine := by decide
    refine lc_it W (fun i H' => Same H H' ∧ H D = none ∧ H' D = some (.lst ((List.replicate i true).map V.bl))) ⟨same_upd nD, nD, upd_same⟩ (fun i H' _ ⟨sm, _, _⟩ => hG H' sm) ?_ ?_
    · rintro i v H1 H2 hi ⟨sm, fD, hD⟩ ⟨rfl, hv⟩
      rw [hlen] at hi
      have hp : ps[i]? = some ps[i] := List.getElem?_eq_getElem hi
      have ev : v = .ref ps[i].1 := by
        unfold rfs at hv
        rw [List.getElem?_map, hp] at hv
        exact (Option.some.inj hv).symm
      subst ev
      refine ⟨rfl, ?_⟩
      unfold tYes
      dsimp only
      rw [if_pos rfl]
      refine ⟨_, rfl, _, rfl, _, rfl, ps[i].1, ps[i].2, n, ls, rfl, same_seqT sm (hR _ (List.getElem_mem hi)), arrB_len (hA _ (List.getElem_mem hi)), ?_⟩
      rw [hA _ (List.getElem_mem hi)]
      refine ⟨_, hD, ?_, fun b o e => ?_, fD, ?_⟩
      · rw [List.length_map, List.length_replicate]
        omega
      · rw [upd_ne (ne_of_none e fD)]
        exact sm _ _ e
      · rw [upd_same, List.replicate_succ', List.map_append]
        rfl
    · rintro H1 ⟨s1, fD, hD⟩
      refine ⟨D, _, rfl, SqL.of hD, _, rfl, ?_⟩
      have ea : (List.replicate (rfs ps).length true).all id = true := List.all_eq_true.mpr fun b hb => by rw [(List.mem_replicate.mp hb).2]; rfl
      rw [ea]
      refine iteF ⟨_, rfl, l, ps.map fun p => (p.1, akey p.2), rfl, ?_, ?_, by rw [List.length_map]; omega, fun m m1 m2 => ?_⟩
      · have e : ((ps.map fun p => (p.1, akey p.2)).map fun p => V.ref p.1) = rfs ps := by
          unfold rfs
          rw [List.map_map]
          rfl
        rw [e]
        exact hl.elim (fun h => .inl (s1.seq h)) (fun h => .inr (same_seqT s1 h))
      · intro p hp
        obtain ⟨a, ha, rfl⟩ := List.mem_map.mp hp
        exact same_seqT s1 (hR a ha)
      · have em : m = ps.length := by
          rw [List.length_map] at m1 m2
          have nd2 : ((ps.map fun p => (p.1, akey p.2)).map (·.2)).Nodup := by
            rw [List.map_map]
            have e : ((fun p : AK => p.2) ∘ fun p : AR => (p.1, akey p.2)) = akey ∘ (fun p : AR => p.2) := rfl
            rw [e, ← List.map_map]
            exact nodup_map_inj (fun _ _ => akey_inj) hnd
          by_cases h : m < ps.length
          · exact absurd nd2 (m2.mp h)
          · omega
        subst em
        refine ⟨_, rfl, l, rfs ps, rfl, hl.elim (fun h => .inl (s1.seq h)) (fun h => .inr (same_seqT s1 h)), _, _, rfl, rfl, _, rfl, itF (by rw [hlen]; omega) ?_⟩
        refine ⟨_, rfl, l, rfs ps, rfl, hl.elim (fun h => .inl (s1.seq h)) (fun h => .inr (same_seqT s1 h)), _, _, rfl, rfl, _, rfl, itF (by rw [hlen]; omega) (q H1 s1)⟩
def NNr : List Str := ["some", "rooms", "room"]
theorem scNeedR : FnScope NNr ["some", "rooms"] (defScope sNeedR) := ⟨rfl, rfl, rfl, by decide +kernel, rfl, by decide +kernel, by decide +kernel⟩
def spNeedR (K : PySem.W.Frag) : Sp := fun vs H Q _ => ∃ (l : Addr) (ns : List Int) (n : Int), vs = [.ref l, .int n] ∧ (SqL K H l (ns.map V.int) ∨ SqT K H l (ns.map V.int)) ∧ (∀ r ∈ ns, rooB n r = true) ∧ ns.Nodup ∧ ns.length ≤ 100 ∧ ∀ H', Same H H' → Q .non H'
theorem ok_needR {f : Addr} {fd : FuncData} {k : Nat} (F : Fun K "need_rooms" "need_rooms" sNeedR f fd) (B : Bl1 mg) : FnOk P w K mg base CX0 (k + 1) f fd ["some", "rooms"] (spNeedR K) := by
  refine F.ok scNeedR (fun vs H Q E h => ?_) (fun cdv A outer s H vs Q E hr h => ?_)
  · obtain ⟨l, ns, n, rfl, _⟩ := h
    rfl
  · obtain ⟨l, ns, n, rfl, hl, hA, hnd, hfew, q⟩ := h
    refine ⟨_, pss_one (ps_if (PW.pt (pw_or (pt_not (pt_val (pe_callB (cr_all rfl) (by rfl) B.all (by decide +kernel) (pa_cons (pe_lc (own := [("room", 2)]) (g := gName 2) (tt := tYes) rfl scNeedR.nd
          (pi_any (pv 0)) (blkOk_by (own := [("room", 2)]) (N := NNr) (sc := defScope sNeedR) (by decide +kernel)) (fun _ _ _ _ _ => pg_name (i := 2) scNeedR.nd rfl (.inl rfl)) (fun _ _ _ _ _ => pts_nil)
          (fun _ _ _ _ _ => pe_chain op_le op_lt pe_int (pv 2) (pv 1))) pa_nil))))
          (pw_or1 (pt_cmpR op_lt (pe_lenSetK rfl (by rfl) B.len (by rfl) B.set (pv 0)) (pe_callB call_len_seq (by rfl) B.len PySem.boot_len (pa_cons (pv 0) pa_nil)) (nomark _))))) pss_never pss_nil), ?_⟩
    have hlen : (ns.map V.int).length = ns.length := List.length_map ..
    have hbig : 5000 ≤ sizeLine := by decide
    refine ⟨_, rfl, l, ns.map V.int, rfl, hl, fun J G W hG D nD => ?_⟩
    refine lc_it W (fun i H' => Same H H' ∧ H D = none ∧ H' D = some (.lst ((List.replicate i true).map V.bl))) ⟨same_upd nD, nD, upd_same⟩ (fun i H' _ ⟨sm, _, _⟩ => hG H' sm) ?_ ?_
    · rintro i v H1 H2 hi ⟨sm, fD, hD⟩ ⟨rfl, hv⟩
      rw [hlen] at hi
      rw [List.getElem?_map, List.getElem?_eq_getElem hi] at hv
      obtain rfl := Option.some.inj hv
      have hr1 := hA _ (List.getElem_mem hi)
      unfold rooB at hr1
      rw [Bool.and_eq_true, decide_eq_true_eq, decide_eq_true_eq] at hr1
      refine ⟨rfl, ?_⟩
      unfold tYes
      dsimp only
      rw [if_pos rfl]
      have fin : ∃ acc, H2 D = some (.lst acc) ∧ acc.length < sizeLine ∧ Same H (upd H2 D (.lst (acc ++ [V.bl true]))) ∧ H D = none ∧ (upd H2 D (.lst (acc ++ [V.bl true]))) D = some (.lst ((List.replicate (i + 1) true).map V.bl)) := by
        refine ⟨_, hD, ?_, fun b o e => ?_, fD, ?_⟩
        · rw [List.length_map, List.length_replicate]
          omega
        · rw [upd_ne (ne_of_none e fD)]
          exact sm _ _ e
        · rw [upd_same, List.replicate_succ', List.map_append]
          rfl
      refine ⟨_, rfl, _, _, rfl, rfl, _, rfl, itT hr1.1 ⟨_, rfl, _, _, rfl, rfl, ?_⟩⟩
      show ∃ acc, _ ∧ _ ∧ Same H (upd H2 D (.lst (acc ++ [V.bl (decide (ns[i] < n))]))) ∧ _ ∧ (upd H2 D (.lst (acc ++ [V.bl (decide (ns[i] < n))]))) D = _
      rw [decide_eq_true hr1.2]
      exact fin
    · rintro H1 ⟨s1, fD, hD⟩
      refine ⟨D, _, rfl, SqL.of hD, _, rfl, ?_⟩
      have ea : (List.replicate (ns.map V.int).length true).all id = true := List.all_eq_true.mpr fun b hb => by rw [(List.mem_replicate.mp hb).2]; rfl
      rw [ea]
      refine iteF ⟨_, rfl, l, ns.map Sum.inl, rfl, ?_, by rw [List.length_map]; omega, fun m m1 m2 => ?_⟩
      · have e : (ns.map Sum.inl).map kV = ns.map V.int := by
          rw [List.map_map]
          rfl
        rw [e]
        exact hl.elim (fun h => .inl (s1.seq h)) (fun h => .inr (same_seqT s1 h))
      · have em : m = ns.length := by
          rw [List.length_map] at m1 m2
          by_cases h : m < ns.length
          · exact absurd (nodup_map_inj (fun _ _ e => Sum.inl.inj e) hnd) (m2.mp h)
          · omega
        subst em
        exact ⟨_, rfl, l, ns.map V.int, rfl, hl.elim (fun h => .inl (s1.seq h)) (fun h => .inr (same_seqT s1 h)), _, _, rfl, rfl, _, rfl, itF (by rw [hlen]; omega) (q H1 s1)⟩
end
end Onp
set_option maxHeartbeats 4000000
set_option autoImplicit false
/-! d.setdefault(key, z), the key a tuple of ints and texts -/
namespace Onp
open PySem PySem.Spec PyProof.Rows L2
section
variable {X : Cx} {pins : List (Addr × Obj)} {σ : L2.St} {H : Hp} {s : Shared} {a b : Addr} {r : Value} {d : V} {k : List L2.Key} {A : Around} {E : Value → Shared → Prop}
theorem d_setdT {kvs : List (List L2.Key × V)} {Q : Value → Shared → Prop} (hu : A.units + 1 < cLine) (I : Inv X pins σ H s) (e : H a = some (.dT kvs)) (eb : H b = some (.tup (k.map kV))) (rd : RelV d r) (hl : kvs.length < sizeLine)
    (h1 : ∀ v, valV kvs k = some v → ∀ (w' : Value) (s' : Shared), Inv X pins σ H s' → RelV v w' → Q w' s') (h2 : valV kvs k = none → ∀ (w' : Value) (s' : Shared), Inv X pins σ (upd H a (.dT (putK kvs k d))) s' → RelV d w' → Q w' s') :
    wpAny (model X.prog X.w) A (call (.builtin "dict.setdefault") [.ref a, .ref b, r]) Q E s := by
  obtain ⟨z, hd, xs, rel, dd⟩ := dt_of I.hok e
  have hz : xs.length ≤ sizeLine := by rw [← Paired.length rel]; exact z
  have rk := rel.val k
  refine call_setdefault_heap (hsz := hz) (tupleKind_room_in1 hu) (key_of I.hok eb) hd dd (fun p hp => ?_) fun hn h' dd' hs => ?_
  · rw [hp] at rk
    cases ev : valV kvs k with
    | none =>
      rw [ev] at rk
      exact (show False from rk).elim
    | some v0 =>
      rw [ev] at rk
      exact h1 v0 ev _ _ (I.tok _) rk
  · rw [hn] at rk
    cases ev : valV kvs k with
    | some v0 =>
      rw [ev] at rk
      exact (show False from rk).elim
    | none =>
      have hl2 : (putK kvs k d).length ≤ sizeLine := by
        have := length_putK kvs k d
        omega
      obtain ⟨q, es, ep, hq, c2, c3, c4, _, c5⟩ := dd'
      refine h2 ev _ _ (d_write I (by rw [e]; exact True.intro) hs ⟨q, hq⟩ ⟨hl2, hd, _, (rel.put k eb rd).keeps fun c ys ec => ?_, q, es, ep, hq, c2, c3, c4, c5⟩) rd
      rw [upd_ne (ne_of ec e (fun z => nomatch z))]
      exact ec
end
def tDSetT (td ty tx : TE) : TE := fun σ H Q => td σ H fun x H1 => ∃ a, x = .ref a ∧ (∃ kvs, H1 a = some (.dT kvs)) ∧ ty σ H1 fun y H2 => tx σ H2 fun z H3 => ∃ (kvs : List (List L2.Key × V)) (k : List L2.Key) (b : Addr), H3 a = some (.dT kvs) ∧ y = .ref b ∧ H3 b = some (.tup (k.map kV)) ∧ kvs.length < sizeLine ∧
  (∀ v, valV kvs k = some v → Q v H3) ∧ (valV kvs k = none → Q z (upd H3 a (.dT (putK kvs k z))))
section
variable {X : Cx} {o e f : Expr} {td ty tx : TE} {apos cpos : Pos}
theorem pe_dsetT (hu : X.A.units + 64 < cLine) (ho : PE X o td) (he : PE X e ty) (hf : PE X f tx) (m : M2 X o "setdefault" apos e f cpos) : PE X (.Call (.Attribute o "setdefault" apos) [e, f] [] cpos) (tDSetT td ty tx) := by
  refine ⟨fun pins s σ H Q I h => ?_⟩
  refine wpAny_Call_method m.base m.few m.line PySem.F.plainAttrs_dict PySem.F.slot_dict_setdefault PySem.F.type_dict_setdefault (thn (ho.run pins s σ H _ I h) fun u s1 ⟨x, H1, I1, rx, a, ex, ⟨kv0, d⟩, q1⟩ => ?_)
  subst ex
  obtain rfl : u = Value.ref a := rx
  obtain ⟨t1, t2, _⟩ := isD_at I1 (.inr ⟨kv0, .inl d⟩)
  refine ⟨t1, t2, ?_⟩
  rw [m.trees]
  refine Calls.callWith_builtin rfl (Calls.evalArgs_plain (Calls.spliced_cons (thn (he.run pins s1 σ H1 _ I1 q1) fun iv s2 ⟨y, H2, I2, ry, q2⟩ =>
    Calls.spliced_cons (thn (hf.run pins s2 σ H2 _ I2 q2) fun fv s3 ⟨z, H3, I3, rz, kvs, k, b, ea, ey, eb, hl, q3, q4⟩ => Calls.spliced_nil ?_))))
  subst ey
  obtain rfl : iv = Value.ref b := ry
  exact d_setdT (by omega) I3 ea eb rz hl (fun v hv w' s4 I4 rw' => ⟨v, _, I4, rw', q3 v hv⟩) fun hn w' s4 I4 rw' => ⟨z, _, I4, rw', q4 hn⟩
end
end Onp
set_option maxHeartbeats 4000000
set_option autoImplicit false
namespace Onp
open PySem PySem.Spec PyProof.Rows L2
/-! ### the steps of each room and letter -/
def stepsOf (as : List Arw) (r : Int) (l : Str) : List (Str × Int) := (as.filter fun a => decide (a.1 = r) && decide (a.2.1 = l)).map fun a => (a.2.2.1, a.2.2.2)
theorem stepsOf_snoc (as : List Arw) (a : Arw) (r : Int) (l : Str) : stepsOf (as ++ [a]) r l = stepsOf as r l ++ (if (decide (a.1 = r) && decide (a.2.1 = l)) = true then [(a.2.2.1, a.2.2.2)] else []) := by
  unfold stepsOf
  rw [List.filter_append, List.map_append]
  congr 1
  by_cases h : (decide (a.1 = r) && decide (a.2.1 = l)) = true
  · rw [if_pos h, List.filter_cons_of_pos (p := fun a : Arw => decide (a.1 = r) && decide (a.2.1 = l)) h]
    rfl
  · rw [if_neg h, List.filter_cons_of_neg (p := fun a : Arw => decide (a.1 = r) && decide (a.2.1 = l)) h]
    rfl
abbrev ST : Type := Addr × Str × Int
def skey (r : Int) (l : Str) : List L2.Key := [.inl r, .inr l]
theorem skey_inj {r r' : Int} {l l' : Str} (h : skey r l = skey r' l') : r = r' ∧ l = l' := by
  simp only [skey, List.cons.injEq, Sum.inl.injEq, Sum.inr.injEq, and_true] at h
  exact h
/-- one key's list, new since H0 -/
structure OneS (H0 H : Hp) (at_ : Addr) (ys : List (Str × Int)) : Prop where
  fr : H0 at_ = none
  ex : ∃ xs : List ST, H at_ = some (.lst (xs.map fun x => V.ref x.1)) ∧ (∀ x ∈ xs, H x.1 = some (.tup [.str x.2.1, .int x.2.2])) ∧ xs.map (·.2) = ys
structure StepsK (H0 H : Hp) (D : Addr) (as : List Arw) (kvs : List (List L2.Key × V)) : Prop where
  at' : H D = some (.dT kvs)
  len : kvs.length ≤ as.length
  no : ∀ r l, stepsOf as r l = [] → valV kvs (skey r l) = none
  yes : ∀ r l, stepsOf as r l ≠ [] → ∃ a, valV kvs (skey r l) = some (.ref a) ∧ OneS H0 H a (stepsOf as r l)
  inj : ∀ r l r' l' a, valV kvs (skey r l) = some (.ref a) → valV kvs (skey r' l') = some (.ref a) → r = r' ∧ l = l'
def StepsAt (H0 H : Hp) (D : Addr) (as : List Arw) : Prop := ∃ kvs, StepsK H0 H D as kvs
theorem cond_iff {r r' : Int} {l l' : Str} : (decide (r' = r) && decide (l' = l)) = true ↔ r' = r ∧ l' = l := by
  rw [Bool.and_eq_true, decide_eq_true_eq, decide_eq_true_eq]
/-- a step more for a key that is there -/
theorem stepOld {H H2 H' : Hp} {D at_ p3 : Addr} {as : List Arw} {kvs : List (List L2.Key × V)} {a1 a4 : Int} {a2 a3 : Str} {xs : List ST} (S : StepsK H H2 D as kvs) (hv : valV kvs (skey a1 a2) = some (.ref at_)) (fr : H at_ = none) (x1 : H2 at_ = some (.lst (xs.map fun x => V.ref x.1))) (x2 : ∀ x ∈ xs, H2 x.1 = some (.tup [.str x.2.1, .int x.2.2])) (x3 : xs.map (·.2) = stepsOf as a1 a2)
    (kp : ∀ b o, b ≠ at_ → H2 b = some o → H' b = some o) (n1 : H' at_ = some (.lst ((xs.map fun x => V.ref x.1) ++ [.ref p3]))) (n3 : H' p3 = some (.tup [.str a3, .int a4])) : StepsAt H H' D (as ++ [(a1, a2, a3, a4)]) := by
  have hx : ∀ {b : Addr} {ys : List V}, H2 b = some (.tup ys) → H' b = some (.tup ys) := fun e => kp _ _ (ne_of e x1 (fun z => nomatch z)) e
  refine ⟨kvs, kp _ _ (ne_of S.at' x1 (fun z => nomatch z)) S.at', by rw [List.length_append]; have := S.len; omega, fun r l h => ?_, fun r l h => ?_, S.inj⟩
  · rw [stepsOf_snoc] at h
    exact S.no r l (List.append_eq_nil_iff.mp h).1
  · rw [stepsOf_snoc] at h ⊢
    by_cases c : a1 = r ∧ a2 = l
    · obtain ⟨rfl, rfl⟩ := c
      rw [if_pos (cond_iff.mpr ⟨rfl, rfl⟩)]
      refine ⟨at_, hv, fr, xs ++ [(p3, a3, a4)], by rw [n1, List.map_append]; rfl, fun x hx' => ?_, by rw [List.map_append, x3]; rfl⟩
      rcases List.mem_append.mp hx' with y | y
      · exact hx (x2 x y)
      · rw [List.mem_singleton.mp y]
        exact n3
    · rw [if_neg (fun z => c (cond_iff.mp z)), List.append_nil] at h ⊢
      obtain ⟨a, ea, O⟩ := S.yes r l h
      obtain ⟨ys, y1, y2, y3⟩ := O.ex
      have ne : a ≠ at_ := fun z => by
        rw [z] at ea
        exact c (S.inj _ _ _ _ _ hv ea)
      exact ⟨a, ea, O.fr, ys, kp _ _ ne y1, fun x hx' => hx (y2 x hx'), y3⟩
/-- a step for a new key -/
theorem stepNew {H H2 H' : Hp} {D p2 p3 : Addr} {as : List Arw} {kvs : List (List L2.Key × V)} {a1 a4 : Int} {a2 a3 : Str} (S : StepsK H H2 D as kvs) (hv : valV kvs (skey a1 a2) = none) (fr : H p2 = none) (fr2 : H2 p2 = none)
    (kp : ∀ b o, b ≠ D → H2 b = some o → H' b = some o) (n0 : H' D = some (.dT (putK kvs (skey a1 a2) (.ref p2)))) (n1 : H' p2 = some (.lst [.ref p3])) (n3 : H' p3 = some (.tup [.str a3, .int a4])) : StepsAt H H' D (as ++ [(a1, a2, a3, a4)]) := by
  have e0 : stepsOf as a1 a2 = [] := by
    by_cases z : stepsOf as a1 a2 = []
    · exact z
    · obtain ⟨a, ea, _⟩ := S.yes a1 a2 z
      rw [hv] at ea
      cases ea
  have hx : ∀ {b : Addr} {ys : List V}, H2 b = some (.tup ys) → H' b = some (.tup ys) := fun e => kp _ _ (ne_of e S.at' (fun z => nomatch z)) e
  have hl : ∀ {b : Addr} {ys : List V}, H2 b = some (.lst ys) → H' b = some (.lst ys) := fun e => kp _ _ (ne_of e S.at' (fun z => nomatch z)) e
  have np : ∀ {r : Int} {l : Str} {a : Addr}, valV kvs (skey r l) = some (.ref a) → a ≠ p2 := fun {r l a} ea z => by
    have h : stepsOf as r l ≠ [] := fun y => by
      rw [S.no r l y] at ea
      cases ea
    obtain ⟨a', ea', O⟩ := S.yes r l h
    rw [ea] at ea'
    cases ea'
    obtain ⟨ys, y1, _⟩ := O.ex
    rw [z, fr2] at y1
    cases y1
  have vp : ∀ r l, valV (putK kvs (skey a1 a2) (.ref p2)) (skey r l) = if skey r l = skey a1 a2 then some (.ref p2) else valV kvs (skey r l) := fun r l => valV_put kvs _ _ _
  refine ⟨_, n0, ?_, fun r l h => ?_, fun r l h => ?_, fun r l r' l' a h1 h2 => ?_⟩
  · rw [List.length_append]
    have := S.len
    have := length_putK kvs (skey a1 a2) (V.ref p2)
    simp only [List.length_cons, List.length_nil]
    omega
  · rw [stepsOf_snoc] at h
    have h3 := List.append_eq_nil_iff.mp h
    rw [vp, if_neg (fun z => ?_)]
    · exact S.no r l h3.1
    · obtain ⟨rfl, rfl⟩ := skey_inj z
      rw [if_pos (cond_iff.mpr ⟨rfl, rfl⟩)] at h3
      exact absurd h3.2 (by simp)
  · rw [stepsOf_snoc] at h ⊢
    rw [vp]
    by_cases c : a1 = r ∧ a2 = l
    · obtain ⟨rfl, rfl⟩ := c
      rw [if_pos rfl, if_pos (cond_iff.mpr ⟨rfl, rfl⟩), e0]
      refine ⟨p2, rfl, fr, [(p3, a3, a4)], n1, fun x hx' => ?_, rfl⟩
      rw [List.mem_singleton.mp hx']
      exact n3
    · rw [if_neg (fun z => c (cond_iff.mp z)), List.append_nil] at h ⊢
      rw [if_neg (fun z => c ⟨(skey_inj z).1.symm, (skey_inj z).2.symm⟩)]
      obtain ⟨a, ea, O⟩ := S.yes r l h
      obtain ⟨ys, y1, y2, y3⟩ := O.ex
      exact ⟨a, ea, O.fr, ys, hl y1, fun x hx' => hx (y2 x hx'), y3⟩
  · rw [vp] at h1 h2
    by_cases c1 : skey r l = skey a1 a2
    · by_cases c2 : skey r' l' = skey a1 a2
      · exact skey_inj (c1.trans c2.symm)
      · rw [if_pos c1] at h1
        rw [if_neg c2] at h2
        cases h1
        exact absurd rfl (np h2)
    · by_cases c2 : skey r' l' = skey a1 a2
      · rw [if_neg c1] at h1
        rw [if_pos c2] at h2
        cases h2
        exact absurd rfl (np h1)
      · rw [if_neg c1] at h1
        rw [if_neg c2] at h2
        exact S.inj _ _ _ _ _ h1 h2
end Onp
set_option maxHeartbeats 8000000
set_option autoImplicit false
namespace Onp
open PySem PySem.Spec PyProof.Rows L2
section
variable {P : Program} {w : World} {K : PySem.W.Frag} {mg : Str → Option Value} {base : Heap}
def NSb : List Str := ["arrows", "found", "start", "letter", "deed", "end"]
theorem scStepsB : FnScope NSb ["arrows"] (defScope sStepsB) := ⟨rfl, rfl, rfl, by decide +kernel, rfl, by decide +kernel, by decide +kernel⟩
def spStepsB (K : PySem.W.Frag) : Sp := fun vs H Q _ => ∃ (t : Addr) (ps : List AR), vs = [.ref t] ∧ SqT K H t (rfs ps) ∧ RowAt K H ps ∧ ps.length ≤ 100 ∧ ∀ D H', H D = none → Same H H' → StepsAt H H' D (ps.map (·.2)) → Q (.ref D) H'
theorem ok_stepsB {f : Addr} {fd : FuncData} {k : Nat} (F : Fun K "steps_by_start" "steps_by_start" sStepsB f fd) : FnOk P w K mg base CX0 (k + 1) f fd ["arrows"] (spStepsB K) := by
  refine F.ok scStepsB (fun vs H Q E h => ?_) (fun cdv A outer s H vs Q E hr h => ?_)
  · obtain ⟨t, ps, rfl, _⟩ := h
    rfl
  · obtain ⟨t, ps, rfl, hT, hR, hfew, q⟩ := h
    have hu : (cxOf CX0 P w K mg base NSb "steps_by_start" (defScope sStepsB) f cdv A outer s H E).A.units + 64 < cLine := hr.units
    refine ⟨_, pss_cons (ps_set (i := 1) scStepsB.nd rfl (.inl rfl) pe_dnewT)
      (pss_cons (ps_for PassesOwn.never rfl (pi_tup (pv 0)) (pg_tup rfl (pgs_cons (pg_name (i := 2) scStepsB.nd rfl (.inl rfl)) (pgs_cons (pg_name (i := 3) scStepsB.nd rfl (.inl rfl)) (pgs_cons (pg_name (i := 4) scStepsB.nd rfl (.inl rfl)) (pgs_cons (pg_name (i := 5) scStepsB.nd rfl (.inl rfl)) pgs_nil)))))
        (pss_one (ps_expr (pe_bm PySem.F.plainAttrs_list PySem.F.slot_list_append PySem.F.type_list_append mt_append (pe_dsetT hu (pv 1) (pe_tup (pa_cons (pv 2) (pa_cons (pv 3) pa_nil))) (pe_lst pa_nil) ⟨rfl, rfl, rfl, rfl⟩) (pa_cons (pe_tup (pa_cons (pv 4) (pa_cons (pv 5) pa_nil))) pa_nil)))))
      (pss_one (ps_ret (pv 1)))), ?_⟩
    refine fun D nD => ?_
    have hbig : 5000 ≤ sizeLine := by decide
    have hlen : (rfs ps).length = ps.length := List.length_map ..
    refine ⟨_, rfl, t, rfl, ⟨_, same_seqT (same_upd nD) hT⟩, for_it (walk_tup (xs := rfs ps)) (fun i σ H' => ∃ y2 y3 y4 y5 : Option V, σ = [some (.ref t), some (.ref D), y2, y3, y4, y5] ∧ Same H H' ∧ StepsAt H H' D ((ps.map (·.2)).take i))
      ⟨none, none, none, none, rfl, same_upd nD, [], upd_same, Nat.le_refl _, fun _ _ _ => rfl, fun r l h => absurd rfl h, fun r l r' l' a h => nomatch h⟩ (fun i σ H' _ ⟨_, _, _, _, _, sm, _⟩ => same_seqT sm hT) ?_ ?_⟩
    · rintro i v σ H1 H2 hi ⟨y2, y3, y4, y5, rfl, sm, ⟨kvs, S⟩⟩ ⟨rfl, hv⟩
      have hD := S.at'
      have hkl := S.len
      rw [hlen] at hi
      have hp : ps[i]? = some ps[i] := List.getElem?_eq_getElem hi
      have hT1 := hR _ (List.getElem_mem hi)
      have ev : v = .ref ps[i].1 := by
        unfold rfs at hv
        rw [List.getElem?_map, hp] at hv
        exact (Option.some.inj hv).symm
      subst ev
      have et : (ps.map (·.2)).take (i + 1) = (ps.map (·.2)).take i ++ [ps[i].2] := by
        rw [List.take_add_one, List.getElem?_map, hp]
        rfl
      have hkl' : kvs.length ≤ i := by
        rw [List.length_take] at hkl
        omega
      generalize ps[i] = p at hT1 et
      obtain ⟨pa, a1, a2, a3, a4⟩ := p
      refine ⟨pa, _, rfl, same_seqT sm hT1, rfl, _, _, rfl, _, _, rfl, _, _, rfl, _, _, rfl, rfl, ?_⟩
      refine ⟨_, rfl, D, rfl, ⟨_, hD⟩, _, rfl, _, rfl, (by decide : 2 ≤ sizeLine), fun p1 n1 => ⟨(by decide : 0 ≤ sizeLine), fun p2 n2 => ?_⟩⟩
      have e1 := same_upd (o := .tup [.int a1, .str a2]) n1
      have e2 := e1.trans (same_upd (o := .lst []) n2)
      have g1 : (upd (upd H2 p1 (.tup [.int a1, .str a2])) p2 (.lst [])) p1 = some (.tup ((skey a1 a2).map kV)) := Eq.trans (upd_ne (ne_of_none upd_same n2)) upd_same
      refine ⟨kvs, skey a1 a2, p1, e2 _ _ hD, rfl, g1, by omega, ?_, ?_⟩
      · intro v hval
        have hne : stepsOf ((ps.map (·.2)).take i) a1 a2 ≠ [] := fun z => by
          rw [S.no a1 a2 z] at hval
          cases hval
        obtain ⟨at_, ea, O⟩ := S.yes a1 a2 hne
        rw [hval] at ea
        obtain rfl := Option.some.inj ea
        obtain ⟨xs, x1, x2, x3⟩ := O.ex
        refine ⟨.inl ⟨rfl, _, SqL.of (e2 _ _ x1)⟩, _, rfl, _, rfl, (by decide : 2 ≤ sizeLine), fun p3 n3 => ?_⟩
        have e3 := e2.trans (same_upd (o := .tup [.str a3, .int a4]) n3)
        have nat3 : p3 ≠ at_ := (ne_of_none (e2 _ _ x1) n3).symm
        have hxl : xs.length ≤ i := by
          have z := congrArg List.length x3
          have z2 : (stepsOf ((ps.map (·.2)).take i) a1 a2).length ≤ ((ps.map (·.2)).take i).length := by
            unfold stepsOf
            rw [List.length_map]
            exact List.length_filter_le _ _
          rw [List.length_map] at z
          rw [List.length_take] at z2
          omega
        refine ⟨at_, _, _, rfl, rfl, e3 _ _ x1, by rw [List.length_map]; omega, _, _, _, _, rfl, fun b o e => ?_, ?_⟩
        · rw [upd_ne (fun z => by rw [z, O.fr] at e; cases e)]
          exact e3 _ _ (sm _ _ e)
        · rw [et]
          refine stepOld S hval O.fr x1 x2 x3 (fun b o n e => ?_) upd_same ?_
          · rw [upd_ne n]
            exact e3 _ _ e
          · rw [upd_ne nat3]
            exact upd_same
      · intro hval
        have n2' : H2 p2 = none := e1.free n2
        have nD2 : p2 ≠ D := (ne_of_none (e1 _ _ hD) n2).symm
        refine ⟨.inl ⟨rfl, _, SqL.of ((upd_ne nD2).trans upd_same)⟩, _, rfl, _, rfl, (by decide : 2 ≤ sizeLine), fun p3 n3 => ?_⟩
        have hp2 : (upd (upd (upd H2 p1 (.tup [.int a1, .str a2])) p2 (.lst [])) D (.dT (putK kvs (skey a1 a2) (.ref p2)))) p2 = some (.lst []) := (upd_ne nD2).trans upd_same
        have hDD : (upd (upd (upd H2 p1 (.tup [.int a1, .str a2])) p2 (.lst [])) D (.dT (putK kvs (skey a1 a2) (.ref p2)))) D = some (.dT (putK kvs (skey a1 a2) (.ref p2))) := upd_same
        have keep : ∀ b o, b ≠ D → H2 b = some o → (upd (upd (upd H2 p1 (.tup [.int a1, .str a2])) p2 (.lst [])) D (.dT (putK kvs (skey a1 a2) (.ref p2)))) b = some o := fun b o n e => by
          rw [upd_ne n]
          exact e2 _ _ e
        generalize upd (upd (upd H2 p1 (.tup [.int a1, .str a2])) p2 (.lst [])) D (.dT (putK kvs (skey a1 a2) (.ref p2))) = H3 at hp2 hDD keep n3
        have e3 := same_upd (o := .tup [.str a3, .int a4]) n3
        have n32 : p3 ≠ p2 := (ne_of_none hp2 n3).symm
        have nDp : D ≠ p2 := nD2.symm
        refine ⟨p2, _, _, rfl, rfl, e3 _ _ hp2, (by decide : 0 < sizeLine), _, _, _, _, rfl, fun b o e => ?_, ?_⟩
        · have b1 : b ≠ p2 := fun z => by rw [z, sm.free n2'] at e; cases e
          have b2 : b ≠ D := fun z => by rw [z, nD] at e; cases e
          rw [upd_ne b1]
          exact e3 _ _ (keep _ _ b2 (sm _ _ e))
        · rw [et]
          refine stepNew (p2 := p2) (p3 := p3) S hval (sm.free n2') n2' (fun b o n e => ?_) ?_ upd_same ?_
          · have b1 : b ≠ p2 := fun z => by rw [z, n2'] at e; cases e
            rw [upd_ne b1]
            exact e3 _ _ (keep _ _ n e)
          · rw [upd_ne nDp]
            exact e3 _ _ hDD
          · rw [upd_ne n32]
            exact upd_same
    · rintro σ H1 ⟨y2, y3, y4, y5, rfl, sm, S⟩
      rw [hlen, List.take_of_length_le (by rw [List.length_map]; exact Nat.le_refl _)] at S
      exact ⟨_, rfl, q D H1 nD sm S⟩
end
end Onp
set_option maxHeartbeats 4000000
set_option autoImplicit false
/-! a machine as an object -/
namespace Onp
open PySem PySem.Spec PyProof.Rows L2
/-! ### sorted rows -/
def vdA (p : AR) : VD := (.ref p.1, adat p.2)
def vdI (r : Int) : VD := (.int r, .int r)
def srtR (ps : List AR) : List AR := ps.mergeSort fun p q => PySem.W.dataLe false adat p.2 q.2
theorem srtD_A (ps : List AR) : srtD (ps.map vdA) = (srtR ps).map vdA := (PySem.W.sort_maps vdA (fun _ _ _ _ => rfl)).symm
theorem srtR_as (ps : List AR) : (srtR ps).map (·.2) = sortA (ps.map (·.2)) := PySem.W.sort_maps (fun p : AR => p.2) (fun _ _ _ _ => rfl)
theorem srtR_mem {ps : List AR} {p : AR} : p ∈ srtR ps ↔ p ∈ ps := List.mem_mergeSort
theorem srtR_len (ps : List AR) : (srtR ps).length = ps.length := List.length_mergeSort ..
theorem srtD_I (ns : List Int) : srtD (ns.map vdI) = (sortI ns).map vdI := by
  refine (PySem.W.sort_maps vdI (fun a _ b _ => ?_)).symm
  have e := congrFun (congrFun (PySem.W.dataLe_int (fun b : Int => b)) a) b
  exact e.symm
theorem al_I (ns : List Int) : PySem.W.AllAlike ((ns.map vdI).map (·.2)) := fun d hd d' hd' => by
  obtain ⟨p, hp, rfl⟩ := List.mem_map.mp hd
  obtain ⟨r, _, rfl⟩ := List.mem_map.mp hp
  obtain ⟨p', hp', rfl⟩ := List.mem_map.mp hd'
  obtain ⟨r', _, rfl⟩ := List.mem_map.mp hp'
  rfl
theorem so_I (ns : List Int) : PySem.W.Sortable ((ns.map vdI).map (·.2)) := .inr fun d hd => by
  obtain ⟨p, hp, rfl⟩ := List.mem_map.mp hd
  obtain ⟨r, _, rfl⟩ := List.mem_map.mp hp
  exact ⟨(fun z => nomatch z), (fun _ z => nomatch z)⟩
theorem al_A (ps : List AR) : PySem.W.AllAlike ((ps.map vdA).map (·.2)) := fun d hd d' hd' => by
  obtain ⟨p, hp, rfl⟩ := List.mem_map.mp hd
  obtain ⟨r, _, rfl⟩ := List.mem_map.mp hp
  obtain ⟨p', hp', rfl⟩ := List.mem_map.mp hd'
  obtain ⟨r', _, rfl⟩ := List.mem_map.mp hp'
  rfl
theorem so_A (ps : List AR) : PySem.W.Sortable ((ps.map vdA).map (·.2)) := .inl fun d hd => by
  obtain ⟨p, hp, rfl⟩ := List.mem_map.mp hd
  obtain ⟨r, _, rfl⟩ := List.mem_map.mp hp
  exact ⟨_, _, rfl⟩
theorem vdA_fst (ps : List AR) : (ps.map vdA).map (·.1) = rfs ps := by
  rw [List.map_map]
  rfl
theorem vdI_fst (ns : List Int) : (ns.map vdI).map (·.1) = ns.map V.int := by
  rw [List.map_map]
  rfl
theorem dep_A (ps : List AR) : ∀ p ∈ ps.map vdA, p.2.depth ≤ 8 := fun p hp => by
  obtain ⟨r, _, rfl⟩ := List.mem_map.mp hp
  show (adat r.2).depth ≤ 8
  unfold adat
  simp [PyData.depth, PyData.depthAll]
theorem dep_I (ns : List Int) : ∀ p ∈ ns.map vdI, p.2.depth ≤ 8 := fun p hp => by
  obtain ⟨r, _, rfl⟩ := List.mem_map.mp hp
  show (PyData.int r).depth ≤ 8
  simp [PyData.depth]
/-! ### the object -/
structure AM where
  n : Int
  ls : List Nat
  as : List Arw
  fs : List Int
  gs : List Int
def AM.ok (M : AM) : Prop := 1 ≤ M.n ∧ M.n ≤ 8 ∧ letB M.ls = true ∧ (∀ a ∈ M.as, arrB M.n M.ls a = true) ∧ M.as.Nodup ∧ M.as.length ≤ 40 ∧ (∀ r ∈ M.fs, rooB M.n r = true) ∧ M.fs.Nodup ∧ (∀ r ∈ M.gs, rooB M.n r = true) ∧ M.gs.Nodup ∧ M.fs.length ≤ 100 ∧ M.gs.length ≤ 100
/-- as it is kept: rising -/
def AM.srt (M : AM) : AM := ⟨M.n, M.ls, sortA M.as, sortI M.fs, sortI M.gs⟩
def mfl (n : Int) (ls : List Nat) (ta tf tg D : Addr) : List (Str × V) :=
  putF "step_rows" (.ref D) (putF "last_row" (.ref tg) (putF "first_row" (.ref tf) (putF "arrow_row" (.ref ta) (putF "letter_text" (.str (Sx ls)) (putF "room_count" (.int n) [])))))
section
variable {n : Int} {ls : List Nat} {ta tf tg D : Addr}
theorem mfl_rooms : (mfl n ls ta tf tg D).lookup ("room_count" : Str) = some (.int n) := by
  unfold mfl
  rw [lookup_putF, if_neg (by decide +kernel), lookup_putF, if_neg (by decide +kernel), lookup_putF, if_neg (by decide +kernel), lookup_putF, if_neg (by decide +kernel), lookup_putF, if_neg (by decide +kernel), lookup_putF, if_pos rfl]
theorem mfl_letters : (mfl n ls ta tf tg D).lookup ("letter_text" : Str) = some (.str (Sx ls)) := by
  unfold mfl
  rw [lookup_putF, if_neg (by decide +kernel), lookup_putF, if_neg (by decide +kernel), lookup_putF, if_neg (by decide +kernel), lookup_putF, if_neg (by decide +kernel), lookup_putF, if_pos rfl]
theorem mfl_arrows : (mfl n ls ta tf tg D).lookup ("arrow_row" : Str) = some (.ref ta) := by
  unfold mfl
  rw [lookup_putF, if_neg (by decide +kernel), lookup_putF, if_neg (by decide +kernel), lookup_putF, if_neg (by decide +kernel), lookup_putF, if_pos rfl]
theorem mfl_firsts : (mfl n ls ta tf tg D).lookup ("first_row" : Str) = some (.ref tf) := by
  unfold mfl
  rw [lookup_putF, if_neg (by decide +kernel), lookup_putF, if_neg (by decide +kernel), lookup_putF, if_pos rfl]
theorem mfl_lasts : (mfl n ls ta tf tg D).lookup ("last_row" : Str) = some (.ref tg) := by
  unfold mfl
  rw [lookup_putF, if_neg (by decide +kernel), lookup_putF, if_pos rfl]
theorem mfl_steps : (mfl n ls ta tf tg D).lookup ("step_rows" : Str) = some (.ref D) := by
  unfold mfl
  rw [lookup_putF, if_pos rfl]
def mnames : List Str := ["step_rows", "last_row", "first_row", "arrow_row", "letter_text", "room_count"]
theorem mfl_none {f : Str} (h : f ∉ mnames) : (mfl n ls ta tf tg D).lookup f = none := by
  unfold mnames at h
  simp only [List.mem_cons, List.not_mem_nil, or_false, not_or] at h
  unfold mfl
  rw [lookup_putF, if_neg h.1, lookup_putF, if_neg h.2.1, lookup_putF, if_neg h.2.2.1, lookup_putF, if_neg h.2.2.2.1, lookup_putF, if_neg h.2.2.2.2.1, lookup_putF, if_neg h.2.2.2.2.2]
  rfl
end
theorem putF_len (f : Str) (v : V) : ∀ fs : List (Str × V), (putF f v fs).length ≤ fs.length + 1
  | [] => Nat.le_refl _
  | (g, x) :: r => by
    unfold putF
    by_cases h : g = f
    · rw [if_pos h]
      exact Nat.le_succ _
    · rw [if_neg h]
      exact Nat.succ_le_succ (putF_len f v r)
/-- the steps, to be read -/
def StepsR (H : Hp) (D : Addr) (as : List Arw) : Prop := ∃ kvs : List (List L2.Key × V), H D = some (.dT kvs) ∧ (∀ r l, stepsOf as r l = [] → valV kvs (skey r l) = none) ∧
  (∀ r l, stepsOf as r l ≠ [] → ∃ (a : Addr) (xs : List ST), valV kvs (skey r l) = some (.ref a) ∧ H a = some (.lst (xs.map fun x => V.ref x.1)) ∧ (∀ x ∈ xs, H x.1 = some (.tup [.str x.2.1, .int x.2.2])) ∧ xs.map (·.2) = stepsOf as r l)
theorem StepsAt.rd {H0 H : Hp} {D : Addr} {as : List Arw} (S : StepsAt H0 H D as) : StepsR H D as := by
  obtain ⟨kvs, S⟩ := S
  refine ⟨kvs, S.at', S.no, fun r l h => ?_⟩
  obtain ⟨a, ea, O⟩ := S.yes r l h
  obtain ⟨xs, x1, x2, x3⟩ := O.ex
  exact ⟨a, xs, ea, x1, x2, x3⟩
theorem StepsR.same {H H' : Hp} {D : Addr} {as : List Arw} (S : StepsR H D as) (s : Same H H') : StepsR H' D as := by
  obtain ⟨kvs, h1, h2, h3⟩ := S
  refine ⟨kvs, s _ _ h1, h2, fun r l h => ?_⟩
  obtain ⟨a, xs, ea, x1, x2, x3⟩ := h3 r l h
  exact ⟨a, xs, ea, s _ _ x1, fun x hx => s _ _ (x2 x hx), x3⟩
/-- a machine stands at m -/
def MachAt (K : PySem.W.Frag) (C : Addr) (H : Hp) (m : Addr) (M : AM) : Prop := ∃ (dx ta tf tg D : Addr) (ps : List AR), H m = some (.ins C dx (mfl M.n M.ls ta tf tg D)) ∧ H ta = some (.tup (rfs ps)) ∧ RowAt K H ps ∧ ps.map (·.2) = M.as ∧
  H tf = some (.tup (M.fs.map V.int)) ∧ H tg = some (.tup (M.gs.map V.int)) ∧ StepsR H D M.as
theorem MachAt.same {K : PySem.W.Frag} {C : Addr} {H H' : Hp} {m : Addr} {M : AM} (h : MachAt K C H m M) (s : Same H H') : MachAt K C H' m M := by
  obtain ⟨dx, ta, tf, tg, D, ps, h1, h2, h3, h4, h5, h6, h7⟩ := h
  exact ⟨dx, ta, tf, tg, D, ps, s _ _ h1, s _ _ h2, h3.same s, h4, s _ _ h5, s _ _ h6, h7.same s⟩
end Onp
set_option maxHeartbeats 8000000
set_option autoImplicit false
namespace Onp
open PySem PySem.Spec PyProof.Rows L2
abbrev sMach : Stmt := topS 20
abbrev sMInit : Stmt := inClass sMach 0
structure Bl2 (mg : Str → Option Value) : Prop where
  tuple : mg "tuple" = none
  sorted : mg "sorted" = none
structure ClsM (K : PySem.W.Frag) (C : Addr) : Prop where
  cl : Cls K C
  n1 : NoAttr K C "room_count"
  n2 : NoAttr K C "letter_text"
  n3 : NoAttr K C "arrow_row"
  n4 : NoAttr K C "first_row"
  n5 : NoAttr K C "last_row"
  n6 : NoAttr K C "step_rows"
section
variable {P : Program} {w : World} {K : PySem.W.Frag} {mg : Str → Option Value} {base : Heap}
def psMI : List Str := ["self", "rooms", "letters", "arrows", "firsts", "lasts"]
theorem scMInit : FnScope psMI psMI (defScope sMInit) := ⟨rfl, rfl, rfl, by decide +kernel, rfl, by decide +kernel, by decide +kernel⟩
abbrev SqA (K : PySem.W.Frag) (H : Hp) (l : Addr) (xs : List V) : Prop := SqL K H l xs ∨ SqT K H l xs
theorem sqA_same {K : PySem.W.Frag} {H H' : Hp} {l : Addr} {xs : List V} (s : Same H H') (h : SqA K H l xs) : SqA K H' l xs := h.elim (fun h => .inl (s.seq h)) (fun h => .inr (same_seqT s h))
theorem sqA_keep {K : PySem.W.Frag} {b l : Addr} {H H' : Hp} {xs : List V} (k : Keep b H H') (n : l ≠ b) (h : SqA K H l xs) : SqA K H' l xs := h.elim (fun h => .inl (k.seqL n h)) (fun h => .inr (k.seqT n h))
theorem keepI_T {C x dx a : Addr} {fs : List (Str × V)} {H H' : Hp} {xs : List V} (hx : H x = some (.ins C dx fs)) (k : Keep x H H') (h : SqT K H a xs) : SqT K H' a xs := by
  by_cases e : a = x
  · subst e
    rcases h with (h | ⟨o, h⟩) | h
    · rw [hx] at h
      cases h
    · rw [hx] at h
      cases h
    · exact .inr h
  · exact k.seqT e h
theorem keepI_A {C x dx a : Addr} {fs : List (Str × V)} {H H' : Hp} {xs : List V} (hx : H x = some (.ins C dx fs)) (k : Keep x H H') (h : SqA K H a xs) : SqA K H' a xs := by
  rcases h with h | h
  · by_cases e : a = x
    · subst e
      rcases h with (h | ⟨o, h⟩) | h
      · rw [hx] at h
        cases h
      · rw [hx] at h
        cases h
      · exact .inl (.inr h)
    · exact .inl (k.seqL e h)
  · exact .inr (keepI_T hx k h)
/-- what is handed to Machine(..), of a machine that there is -/
def spMInit (K : PySem.W.Frag) (C : Addr) : Sp := fun vs H Q _ => ∃ (x dx la lf lg : Addr) (ps : List AR) (M : AM), vs = [.ref x, .int M.n, .str (Sx M.ls), .ref la, .ref lf, .ref lg] ∧ H x = some (.ins C dx []) ∧ SqA K H la (rfs ps) ∧ RowAt K H ps ∧ ps.map (·.2) = M.as ∧ SqA K H lf (M.fs.map V.int) ∧ SqA K H lg (M.gs.map V.int) ∧ M.ok ∧
  ∀ H', Keep x H H' → MachAt K C H' x M.srt → Q .non H'
theorem mlen {f : Str} {v : V} {fs : List (Str × V)} {k : Nat} (h : fs.length ≤ k) : (putF f v fs).length ≤ k + 1 := Nat.le_trans (putF_len f v fs) (Nat.succ_le_succ h)
theorem letB_len {xs : List Nat} (h : letB xs = true) : xs.length ≤ 3 := by
  unfold letB at h
  simp only [Bool.and_eq_true, decide_eq_true_eq] at h
  exact h.2.2.2
theorem ok_minit {f C fAl fIl fIa fNa fNr fSb tD : Addr} {fd fdAl fdIl fdIa fdNa fdNr fdSb : FuncData} {k : Nat} {dvs : List V} {kws : List (Str × V)} (F : FunD K "__init__" "Machine.__init__" (defArgs sMInit) (defBody sMInit) (defScope sMInit) dvs kws f fd)
    (Al : FnM K mg fAl fdAl "are_letters" sAreL ["text"]) (Il : FnM K mg fIl fdIl "is_letter" sIsL ["text", "letters"]) (Ia : FnM K mg fIa fdIa "is_arrow" sIsA ["arrow", "rooms", "letters"]) (Na : FnM K mg fNa fdNa "need_arrows" sNeedA ["arrows", "rooms", "letters"]) (Nr : FnM K mg fNr fdNr "need_rooms" sNeedR ["some", "rooms"]) (Sb : FnM K mg fSb fdSb "steps_by_start" sStepsB ["arrows"])
    (B : Bl1 mg) (B2 : Bl2 mg) (Cs : CsM K mg tD) (T : ClsM K C) : FnOk P w K mg base CX0 (k + 4) f fd psMI (spMInit K C) := by
  have GAl : FnOk P w K mg base CX0 (k + 3) fAl fdAl ["text"] spAreL := ok_areL Al.F B Cs
  have GNa : FnOk P w K mg base CX0 (k + 3) fNa fdNa ["arrows", "rooms", "letters"] (spNeedA K) := ok_needA Na.F Ia Il B Cs
  have GNr : FnOk P w K mg base CX0 (k + 3) fNr fdNr ["some", "rooms"] (spNeedR K) := ok_needR Nr.F B
  have GSb : FnOk P w K mg base CX0 (k + 3) fSb fdSb ["arrows"] (spStepsB K) := ok_stepsB Sb.F
  obtain ⟨t1, gR⟩ := Cs.rooms
  refine F.ok scMInit (fun vs H Q E h => ?_) (fun cdv A outer s H vs Q E hr h => ?_)
  · obtain ⟨x, dx, la, lf, lg, ps, M, rfl, _⟩ := h
    rfl
  · obtain ⟨x, dx, la, lf, lg, ps, M, rfl, hx, hla, hR, eas, hlf, hlg, ok, q⟩ := h
    obtain ⟨o1, o2, o3, o4, o5, o6, o7, o8, o9, o10, o11, o12⟩ := ok
    have hu : (cxOf CX0 P w K mg base psMI "Machine.__init__" (defScope sMInit) f cdv A outer s H E).A.units + 64 < cLine := hr.units
    refine ⟨_, pss_cons (ps_if (pt_not (pt_chain op_le op_le pe_int (pv 1) (pe_glob (v := .int 8) rfl gR ⟨_, rfl⟩))) pss_never pss_nil)
      (pss_cons (ps_if (pt_not (pt_val (pe_call GAl hr (by rfl) Al.g Al.F.kp Al.b .nil pass0 (pa_cons (pv 2) pa_nil)))) pss_never pss_nil)
      (pss_cons (ps_expr (pe_call GNa hr (by rfl) Na.g Na.F.kp Na.b .nil pass0 (pa_cons (pv 3) (pa_cons (pv 1) (pa_cons (pv 2) pa_nil)))))
      (pss_cons (ps_expr (pe_call GNr hr (by rfl) Nr.g Nr.F.kp Nr.b .nil pass0 (pa_cons (pv 4) (pa_cons (pv 1) pa_nil))))
      (pss_cons (ps_expr (pe_call GNr hr (by rfl) Nr.g Nr.F.kp Nr.b .nil pass0 (pa_cons (pv 5) (pa_cons (pv 1) pa_nil))))
      (pss_cons (ps_fld (pv 0) (pv 1) rfl)
      (pss_cons (ps_fld (pv 0) (pv 2) rfl)
      (pss_cons (ps_fld (pv 0) (pe_callTy call_tuple_of (by rfl) B2.tuple (by decide +kernel) (pa_cons (pe_callB (cr_sortD hu) (by rfl) B2.sorted (by decide +kernel) (pa_cons (pv 3) pa_nil)) pa_nil)) rfl)
      (pss_cons (ps_fld (pv 0) (pe_callTy call_tuple_of (by rfl) B2.tuple (by decide +kernel) (pa_cons (pe_callB (cr_sortD hu) (by rfl) B2.sorted (by decide +kernel) (pa_cons (pv 4) pa_nil)) pa_nil)) rfl)
      (pss_cons (ps_fld (pv 0) (pe_callTy call_tuple_of (by rfl) B2.tuple (by decide +kernel) (pa_cons (pe_callB (cr_sortD hu) (by rfl) B2.sorted (by decide +kernel) (pa_cons (pv 5) pa_nil)) pa_nil)) rfl)
      (pss_one (ps_fld (pv 0) (pe_call GSb hr (by rfl) Sb.g Sb.F.kp Sb.b .nil pass0 (pa_cons (pe_fld (pv 0) rfl) pa_nil)) rfl))))))))))), ?_⟩
    refine ⟨_, rfl, _, _, rfl, rfl, _, rfl, itT o1 ⟨_, _, rfl, rfl, _, rfl, ?_⟩⟩
    rw [decide_eq_true o2]
    refine iteF ⟨_, rfl, M.ls, rfl, by have := letB_len o3; omega, fun H1 s1 => ⟨_, rfl, ?_⟩⟩
    rw [o3]
    have oa : ∀ p ∈ ps, arrB M.n M.ls p.2 = true := fun p hp => o4 p.2 (by rw [← eas]; exact List.mem_map_of_mem hp)
    have on : (ps.map (·.2)).Nodup := by rw [eas]; exact o5
    have ol : ps.length ≤ 40 := by
      have := congrArg List.length eas
      rw [List.length_map] at this
      omega
    refine iteF ⟨_, rfl, _, rfl, _, rfl, la, ps, M.n, M.ls, rfl, sqA_same s1 hla, hR.same s1, oa, on, ol, fun H2 s2 => ?_⟩
    refine ⟨_, rfl, _, rfl, lf, M.fs, M.n, rfl, sqA_same (s1.trans s2) hlf, o7, o8, o11, fun H3 s3 => ?_⟩
    refine ⟨_, rfl, _, rfl, lg, M.gs, M.n, rfl, sqA_same (s1.trans (s2.trans s3)) hlg, o9, o10, o12, fun H4 s4 => ?_⟩
    have s14 : Same H H4 := s1.trans (s2.trans (s3.trans s4))
    have hx4 := s14 _ _ hx
    -- rooms, letters
    refine ⟨_, rfl, _, rfl, x, C, dx, _, rfl, hx4, T.cl, T.n1, (by decide : 0 < 1000), ?_⟩
    refine ⟨_, rfl, _, rfl, x, C, dx, _, rfl, upd_same, T.cl, T.n2, Nat.lt_of_le_of_lt (mlen (Nat.le_refl 0)) (by decide), ?_⟩
    have k6 : Keep x H4 (upd (upd H4 x (.ins C dx (putF "room_count" (.int M.n) []))) x (.ins C dx (putF "letter_text" (.str (Sx M.ls)) (putF "room_count" (.int M.n) [])))) := Keep.upd.trans Keep.upd
    have hx6 : (upd (upd H4 x (.ins C dx (putF "room_count" (.int M.n) []))) x (.ins C dx (putF "letter_text" (.str (Sx M.ls)) (putF "room_count" (.int M.n) [])))) x = some (.ins C dx (putF "letter_text" (.str (Sx M.ls)) (putF "room_count" (.int M.n) []))) := upd_same
    generalize upd (upd H4 x (.ins C dx (putF "room_count" (.int M.n) []))) x (.ins C dx (putF "letter_text" (.str (Sx M.ls)) (putF "room_count" (.int M.n) []))) = H6 at k6 hx6
    have kx6 : Keep x H H6 := (Keep.of s14).trans k6
    -- arrows
    refine ⟨_, rfl, la, ps.map vdA, rfl, ?_, ?_, al_A ps, so_A ps, dep_A ps, fun p1 np1 => ?_⟩
    · rw [vdA_fst]
      exact keepI_A hx kx6 hla
    · intro p hp
      obtain ⟨a, ha, rfl⟩ := List.mem_map.mp hp
      exact dp_arw (keepI_T hx kx6 (hR a ha))
    rw [srtD_A, vdA_fst]
    refine ⟨p1, _, rfl, .inl ⟨SqL.of upd_same, fun ta nta => ?_⟩⟩
    have e7 := (same_upd (o := .lst (rfs (srtR ps))) np1).trans (same_upd (o := .tup (rfs (srtR ps))) nta)
    have hta : (upd (upd H6 p1 (.lst (rfs (srtR ps)))) ta (.tup (rfs (srtR ps)))) ta = some (.tup (rfs (srtR ps))) := upd_same
    generalize upd (upd H6 p1 (.lst (rfs (srtR ps)))) ta (.tup (rfs (srtR ps))) = H7 at e7 hta
    have hx7 := e7 _ _ hx6
    have kx7 : Keep x H H7 := kx6.trans (Keep.of e7)
    have nta : ta ≠ x := ne_of hta hx7 (fun z => nomatch z)
    refine ⟨_, rfl, x, C, dx, _, rfl, hx7, T.cl, T.n3, Nat.lt_of_le_of_lt (mlen (mlen (Nat.le_refl 0))) (by decide), ?_⟩
    have k8 : Keep x H7 (upd H7 x (.ins C dx (putF "arrow_row" (.ref ta) (putF "letter_text" (.str (Sx M.ls)) (putF "room_count" (.int M.n) []))))) := Keep.upd
    have hx8 : (upd H7 x (.ins C dx (putF "arrow_row" (.ref ta) (putF "letter_text" (.str (Sx M.ls)) (putF "room_count" (.int M.n) []))))) x = some (.ins C dx (putF "arrow_row" (.ref ta) (putF "letter_text" (.str (Sx M.ls)) (putF "room_count" (.int M.n) [])))) := upd_same
    generalize upd H7 x (.ins C dx (putF "arrow_row" (.ref ta) (putF "letter_text" (.str (Sx M.ls)) (putF "room_count" (.int M.n) [])))) = H8 at k8 hx8
    have kx8 : Keep x H H8 := kx7.trans k8
    have hta8 := k8 _ _ nta hta
    -- firsts
    refine ⟨_, rfl, lf, M.fs.map vdI, rfl, ?_, ?_, al_I _, so_I _, dep_I _, fun p2 np2 => ?_⟩
    · rw [vdI_fst]
      exact keepI_A hx kx8 hlf
    · intro p hp
      obtain ⟨a, ha, rfl⟩ := List.mem_map.mp hp
      exact .int a
    rw [srtD_I, vdI_fst]
    refine ⟨p2, _, rfl, .inl ⟨SqL.of upd_same, fun tf ntf => ?_⟩⟩
    have e9 := (same_upd (o := .lst ((sortI M.fs).map V.int)) np2).trans (same_upd (o := .tup ((sortI M.fs).map V.int)) ntf)
    have htf : (upd (upd H8 p2 (.lst ((sortI M.fs).map V.int))) tf (.tup ((sortI M.fs).map V.int))) tf = some (.tup ((sortI M.fs).map V.int)) := upd_same
    generalize upd (upd H8 p2 (.lst ((sortI M.fs).map V.int))) tf (.tup ((sortI M.fs).map V.int)) = H9 at e9 htf
    have hx9 := e9 _ _ hx8
    have kx9 : Keep x H H9 := kx8.trans (Keep.of e9)
    have ntf : tf ≠ x := ne_of htf hx9 (fun z => nomatch z)
    refine ⟨_, rfl, x, C, dx, _, rfl, hx9, T.cl, T.n4, Nat.lt_of_le_of_lt (mlen (mlen (mlen (Nat.le_refl 0)))) (by decide), ?_⟩
    have k10 : Keep x H9 (upd H9 x (.ins C dx (putF "first_row" (.ref tf) (putF "arrow_row" (.ref ta) (putF "letter_text" (.str (Sx M.ls)) (putF "room_count" (.int M.n) [])))))) := Keep.upd
    have hx10 : (upd H9 x (.ins C dx (putF "first_row" (.ref tf) (putF "arrow_row" (.ref ta) (putF "letter_text" (.str (Sx M.ls)) (putF "room_count" (.int M.n) [])))))) x = some (.ins C dx (putF "first_row" (.ref tf) (putF "arrow_row" (.ref ta) (putF "letter_text" (.str (Sx M.ls)) (putF "room_count" (.int M.n) []))))) := upd_same
    generalize upd H9 x (.ins C dx (putF "first_row" (.ref tf) (putF "arrow_row" (.ref ta) (putF "letter_text" (.str (Sx M.ls)) (putF "room_count" (.int M.n) []))))) = H10 at k10 hx10
    have kx10 : Keep x H H10 := kx9.trans k10
    have hta10 := k10 _ _ nta (e9 _ _ hta8)
    have htf10 := k10 _ _ ntf htf
    -- lasts
    refine ⟨_, rfl, lg, M.gs.map vdI, rfl, ?_, ?_, al_I _, so_I _, dep_I _, fun p3 np3 => ?_⟩
    · rw [vdI_fst]
      exact keepI_A hx kx10 hlg
    · intro p hp
      obtain ⟨a, ha, rfl⟩ := List.mem_map.mp hp
      exact .int a
    rw [srtD_I, vdI_fst]
    refine ⟨p3, _, rfl, .inl ⟨SqL.of upd_same, fun tg ntg => ?_⟩⟩
    have e11 := (same_upd (o := .lst ((sortI M.gs).map V.int)) np3).trans (same_upd (o := .tup ((sortI M.gs).map V.int)) ntg)
    have htg : (upd (upd H10 p3 (.lst ((sortI M.gs).map V.int))) tg (.tup ((sortI M.gs).map V.int))) tg = some (.tup ((sortI M.gs).map V.int)) := upd_same
    generalize upd (upd H10 p3 (.lst ((sortI M.gs).map V.int))) tg (.tup ((sortI M.gs).map V.int)) = H11 at e11 htg
    have hx11 := e11 _ _ hx10
    have kx11 : Keep x H H11 := kx10.trans (Keep.of e11)
    have ntg : tg ≠ x := ne_of htg hx11 (fun z => nomatch z)
    refine ⟨_, rfl, x, C, dx, _, rfl, hx11, T.cl, T.n5, Nat.lt_of_le_of_lt (mlen (mlen (mlen (mlen (Nat.le_refl 0))))) (by decide), ?_⟩
    have k12 : Keep x H11 (upd H11 x (.ins C dx (putF "last_row" (.ref tg) (putF "first_row" (.ref tf) (putF "arrow_row" (.ref ta) (putF "letter_text" (.str (Sx M.ls)) (putF "room_count" (.int M.n) []))))))) := Keep.upd
    have hx12 : (upd H11 x (.ins C dx (putF "last_row" (.ref tg) (putF "first_row" (.ref tf) (putF "arrow_row" (.ref ta) (putF "letter_text" (.str (Sx M.ls)) (putF "room_count" (.int M.n) []))))))) x = some (.ins C dx (putF "last_row" (.ref tg) (putF "first_row" (.ref tf) (putF "arrow_row" (.ref ta) (putF "letter_text" (.str (Sx M.ls)) (putF "room_count" (.int M.n) [])))))) := upd_same
    generalize upd H11 x (.ins C dx (putF "last_row" (.ref tg) (putF "first_row" (.ref tf) (putF "arrow_row" (.ref ta) (putF "letter_text" (.str (Sx M.ls)) (putF "room_count" (.int M.n) [])))))) = H12 at k12 hx12
    have kx12 : Keep x H H12 := kx11.trans k12
    have hta12 := k12 _ _ nta (e11 _ _ hta10)
    have htf12 := k12 _ _ ntf (e11 _ _ htf10)
    have htg12 := k12 _ _ ntg htg
    have hR12 : RowAt K H12 (srtR ps) := fun p hp => keepI_T hx kx12 (hR p (srtR_mem.mp hp))
    -- the steps
    have lk : (putF "last_row" (.ref tg) (putF "first_row" (.ref tf) (putF "arrow_row" (.ref ta) (putF "letter_text" (.str (Sx M.ls)) (putF "room_count" (.int M.n) []))))).lookup ("arrow_row" : Str) = some (V.ref ta) := by
      rw [lookup_putF, if_neg (by decide +kernel), lookup_putF, if_neg (by decide +kernel), lookup_putF, if_pos rfl]
    refine ⟨_, rfl, x, C, dx, _, _, rfl, hx12, T.cl, T.n3, lk, ta, srtR ps, rfl, SqT.of hta12, hR12, by rw [srtR_len]; omega, fun D H13 nD s13 S13 => ?_⟩
    have hx13 := s13 _ _ hx12
    refine ⟨_, rfl, x, C, dx, _, rfl, hx13, T.cl, T.n6, Nat.lt_of_le_of_lt (mlen (mlen (mlen (mlen (mlen (Nat.le_refl 0)))))) (by decide), q _ (kx12.trans ((Keep.of s13).trans Keep.upd)) ?_⟩
    have S14 := S13.rd
    have hk : ∀ b o, b ≠ x → H13 b = some o → (upd H13 x (.ins C dx (mfl M.n M.ls ta tf tg D))) b = some o := fun b o n e => by rw [upd_ne n]; exact e
    refine ⟨dx, ta, tf, tg, D, srtR ps, upd_same, hk _ _ nta (s13 _ _ hta12), fun p hp => ?_, ?_, hk _ _ ntf (s13 _ _ htf12), hk _ _ ntg (s13 _ _ htg12), ?_⟩
    · exact keepI_T hx13 Keep.upd (same_seqT s13 (hR12 p hp))
    · rw [srtR_as, eas]
      rfl
    · rw [srtR_as, eas] at S14
      obtain ⟨kvs, h1, h2, h3⟩ := S14
      refine ⟨kvs, hk _ _ (ne_of h1 hx13 (fun z => nomatch z)) h1, h2, fun r l h => ?_⟩
      obtain ⟨a, xs, ea, x1, x2, x3⟩ := h3 r l h
      exact ⟨a, xs, ea, hk _ _ (ne_of x1 hx13 (fun z => nomatch z)) x1, fun y hy => hk _ _ (ne_of (x2 y hy) hx13 (fun z => nomatch z)) (x2 y hy), x3⟩
end
end Onp
set_option maxHeartbeats 8000000
set_option autoImplicit false
namespace Onp
open PySem PySem.Spec PyProof.Rows L2
abbrev sDeed : Stmt := topS 35
abbrev sLett : Stmt := topS 36
abbrev sRooms : Stmt := topS 37
abbrev sArrow : Stmt := topS 38
abbrev sDrawn : Stmt := topS 39
theorem join_signs : ∀ cs : List Nat, Str.join (Sx []) (cs.map fun c => Sx [c]) = Sx cs
  | [] => rfl
  | [c] => rfl
  | c :: d :: r => by
    show Sx [c] ++ Sx [] ++ Str.join (Sx []) ((d :: r).map fun c => Sx [c]) = _
    rw [join_signs (d :: r), sx_app, sx_app]
    rfl
theorem sum_ones : ∀ cs : List Nat, ((cs.map fun c => Sx [c]).map (·.length)).sum = cs.length
  | [] => rfl
  | c :: r => by
    have h := sum_ones r
    rw [List.map_cons, List.map_cons, List.sum_cons, h, List.length_cons, sx_len]
    simp only [List.length_cons, List.length_nil]
    omega
theorem signs_map (cs : List Nat) : signsV cs = (cs.map fun c => Sx [c]).map V.str := by
  unfold signsV
  rw [List.map_map]
  rfl

section
variable {P : Program} {w : World} {K : PySem.W.Frag} {mg : Str → Option Value} {base : Heap}
/-! ### one sign of a text -/
def spOfS : Sp := fun vs H Q _ => ∃ (g : Bid) (ls : List Nat), vs = [.ref g.b, .str (Sx ls)] ∧ Bg H g ∧ 0 < ls.length ∧ ls.length < 1000 ∧ ∀ c H', c ∈ ls → Keep g.b H H' → Bg H' g → Q (.str (Sx [c])) H'
theorem ok_ofS {f fP : Addr} {fd fdP : FuncData} {k : Nat} (F : Fun K "_law_of" "_law_of" sOf f fd) (FP : Fun K "_law_pull" "_law_pull" sPull fP fdP) (bP : Binds K fdP ["_law_bag_here", "_law_many"] []) (gP : mg "_law_pull" = some (.ref fP)) (ml : mg "len" = none) : FnOk P w K mg base CX0 (k + 2) f fd ["_law_bag_here", "_law_some"] spOfS := by
  have GP : FnOk P w K mg base CX0 (k + 1) fP fdP ["_law_bag_here", "_law_many"] (spPull K) := ok_pull FP ml
  refine F.ok scOf (fun vs H Q E h => ?_) (fun cdv A outer s H vs Q E hr h => ?_)
  · obtain ⟨g, ls, rfl, _⟩ := h
    rfl
  · obtain ⟨b, ls, rfl, B, h0, hlen, q⟩ := h
    refine ⟨_, pss_one (ps_ret (pe_ix ix_str (pv 1) (pe_call GP hr (by rfl) gP FP.kp bP .nil pass0 (pa_cons (pv 0) (pa_cons (pe_callB call_len_str (by rfl) ml PySem.boot_len (pa_cons (pv 1) pa_nil)) pa_nil))) (fun _ _ => rfl))), ?_⟩
    have hz : (Sx ls).length ≤ sizeLine := by
      rw [sx_len]
      exact Nat.le_trans (Nat.le_of_lt hlen) (by decide)
    refine ⟨_, rfl, _, rfl, _, rfl, Sx ls, rfl, hz, b, _, rfl, ?_, ?_, B, fun z H' z0 z1 kp B' => ?_⟩
    · rw [sx_len]
      omega
    · rw [sx_len]
      exact Nat.lt_trans (show ((ls.length : Nat) : Int).natAbs < 2 ^ 64 by omega) (by decide)
    · rw [sx_len] at z1
      have e : z = ((z.toNat : Nat) : Int) := by omega
      have hz1 : z.toNat < ls.length := by omega
      rw [e]
      refine ⟨Sx ls, z.toNat, ls[z.toNat], rfl, rfl, hz, ?_, q _ _ (List.getElem_mem hz1) kp B'⟩
      rw [sx_cps]
      exact atI_nat (List.getElem?_eq_getElem hz1)

/-! ### _law_deed -/
def tenD : List Str := ["keep", "cent", "fill", "coin", "brim", "keep", "cent", "cent", "coin", "fill"]
theorem tenD_in : ∀ d ∈ tenD, d ∈ deedsL := by decide +kernel
theorem scDeed : FnScope ["_law_bag_here"] ["_law_bag_here"] (defScope sDeed) := ⟨rfl, rfl, rfl, by decide +kernel, rfl, by decide +kernel, by decide +kernel⟩
def spDeed : Sp := fun vs H Q _ => ∃ g : Bid, vs = [.ref g.b] ∧ Bg H g ∧ ∀ d H', d ∈ deedsL → Keep g.b H H' → Bg H' g → Q (.str d) H'
theorem ok_deed {f fO fP : Addr} {fd fdO fdP : FuncData} {k : Nat} (F : Fun K "_law_deed" "_law_deed" sDeed f fd) (O : FnM K mg fO fdO "_law_of" sOf ["_law_bag_here", "_law_some"]) (Pu : FnM K mg fP fdP "_law_pull" sPull ["_law_bag_here", "_law_many"]) (ml : mg "len" = none) : FnOk P w K mg base CX0 (k + 3) f fd ["_law_bag_here"] spDeed := by
  have GO : FnOk P w K mg base CX0 (k + 2) fO fdO ["_law_bag_here", "_law_some"] (spOf K) := ok_of O.F Pu.F Pu.b Pu.g ml
  refine F.ok scDeed (fun vs H Q E h => ?_) (fun cdv A outer s H vs Q E hr h => ?_)
  · obtain ⟨g, rfl, _⟩ := h
    rfl
  · obtain ⟨g, rfl, B, q⟩ := h
    refine ⟨_, pss_one (ps_ret (pe_call GO hr (by rfl) O.g O.F.kp O.b .nil pass0 (pa_cons (pv 0) (pa_cons (pe_lst (pa_cons pe_str (pa_cons pe_str (pa_cons pe_str (pa_cons pe_str (pa_cons pe_str (pa_cons pe_str (pa_cons pe_str (pa_cons pe_str (pa_cons pe_str (pa_cons pe_str pa_nil))))))))))) pa_nil)))), ?_⟩
    refine ⟨_, rfl, (by decide : 10 ≤ sizeLine), fun p np => ?_⟩
    have s1 := same_upd (o := .lst (tenD.map V.str)) np
    refine ⟨g, p, tenD.map V.str, rfl, B.same s1, B.ne np, SqL.of upd_same, by decide, by decide, fun v H' hv k' B' => ?_⟩
    obtain ⟨d, hd, rfl⟩ := List.mem_map.mp hv
    exact q d H' (tenD_in d hd) ((Keep.of s1).trans k') B'
/-! ### _law_letters -/
def NLe : List Str := ["_law_bag_here", "_law_most", "_law_alphabet", "_law_first", "_law_by", "_law_k"]
theorem scLett : FnScope NLe ["_law_bag_here", "_law_most"] (defScope sLett) := ⟨rfl, rfl, rfl, by decide +kernel, rfl, by decide +kernel, by decide +kernel⟩
def spLett : Sp := fun vs H Q _ => ∃ (g : Bid) (m : Int), vs = [.ref g.b, .int m] ∧ 1 ≤ m ∧ m ≤ 3 ∧ Bg H g ∧ ∀ (ls : List Nat) H', letB ls = true → (ls.length : Int) ≤ m → (∀ c ∈ ls.take 2, c < 122) → Keep g.b H H' → Bg H' g → Q (.str (Sx ls)) H'
def lrow (x y n : Nat) : List Nat := (List.range n).map fun k => 97 + x + y * k
theorem small_code : ∀ j : Fin 26, smallL[j.val]? = some (97 + j.val) := by decide
theorem small_mem : ∀ j : Fin 26, 97 + j.val ∈ smallL := by decide
theorem lrow_ok {x y n : Nat} (hx : x < 20) (hy1 : 1 ≤ y) (hy : y ≤ 3) (h1 : 1 ≤ n) (h3 : n ≤ 3) : letB (lrow x y n) = true := by
  have hs : ∀ k, k < 3 → decide (97 + x + y * k ∈ smallL) = true := fun k hk => by
    have hyk : y * k ≤ 3 * 2 := Nat.mul_le_mul hy (by omega)
    have := small_mem ⟨x + y * k, by omega⟩
    exact decide_eq_true (by rw [Nat.add_assoc]; exact this)
  have e0 := hs 0 (by decide)
  have e1 := hs 1 (by decide)
  have e2 := hs 2 (by decide)
  have r1 : decide (97 + x + y * 0 < 97 + x + y * 1) = true := decide_eq_true (by omega)
  have r2 : decide (97 + x + y * 1 < 97 + x + y * 2) = true := decide_eq_true (by omega)
  have h : n = 1 ∨ n = 2 ∨ n = 3 := by omega
  unfold letB risB smaB
  rcases h with rfl | rfl | rfl
  · show (true && ((decide (97 + x + y * 0 ∈ smallL) && true) && _)) = true
    rw [e0]
    rfl
  · show ((decide (97 + x + y * 0 < 97 + x + y * 1) && true) && ((decide (97 + x + y * 0 ∈ smallL) && (decide (97 + x + y * 1 ∈ smallL) && true)) && _)) = true
    rw [r1, e0, e1]
    rfl
  · show ((decide (97 + x + y * 0 < 97 + x + y * 1) && (decide (97 + x + y * 1 < 97 + x + y * 2) && true)) && ((decide (97 + x + y * 0 ∈ smallL) && (decide (97 + x + y * 1 ∈ smallL) && (decide (97 + x + y * 2 ∈ smallL) && true))) && _)) = true
    rw [r1, r2, e0, e1, e2]
    rfl
theorem lrow_low {x y n : Nat} (hx : x < 20) (hy : y ≤ 3) : ∀ c ∈ (lrow x y n).take 2, c < 122 := by
  intro c hc
  unfold lrow at hc
  rw [← List.map_take] at hc
  obtain ⟨k, hk, rfl⟩ := List.mem_map.mp hc
  rw [List.take_range] at hk
  have hk2 : k < 2 := by
    have := List.mem_range.mp hk
    omega
  have : y * k ≤ 3 * 1 := Nat.mul_le_mul hy (by omega)
  show 97 + x + y * k < 122
  omega
theorem ok_lett {f fP : Addr} {fd fdP : FuncData} {k : Nat} (F : Fun K "_law_letters" "_law_letters" sLett f fd) (Pu : FnM K mg fP fdP "_law_pull" sPull ["_law_bag_here", "_law_many"]) (ml : mg "len" = none) (mr : mg "range" = none) : FnOk P w K mg base CX0 (k + 2) f fd ["_law_bag_here", "_law_most"] spLett := by
  have GP : FnOk P w K mg base CX0 (k + 1) fP fdP ["_law_bag_here", "_law_many"] (spPull K) := ok_pull Pu.F ml
  refine F.ok scLett (fun vs H Q E h => ?_) (fun cdv A outer s H vs Q E hr h => ?_)
  · obtain ⟨g, m, rfl, _⟩ := h
    rfl
  · obtain ⟨g, m, rfl, m1, m2, B, q⟩ := h
    refine ⟨_, pss_cons (ps_set (i := 2) scLett.nd rfl (.inr rfl) pe_str)
      (pss_cons (ps_asg (pe_tup (pa_cons (pe_call GP hr (by rfl) Pu.g Pu.F.kp Pu.b .nil pass0 (pa_cons (pv 0) (pa_cons pe_int pa_nil))) (pa_cons (pe_op op_add pe_int (pe_call GP hr (by rfl) Pu.g Pu.F.kp Pu.b .nil pass0 (pa_cons (pv 0) (pa_cons pe_int pa_nil)))) pa_nil))) (pg_tup rfl (pgs_cons (pg_name (i := 3) scLett.nd rfl (.inr rfl)) (pgs_cons (pg_name (i := 4) scLett.nd rfl (.inr rfl)) pgs_nil))))
      (pss_one (ps_ret (pe_join pe_str (pe_lc (own := [("_law_k", 5)]) (g := gName 5) (tt := tYes) (te := tOp rIxS (tVar 2) (tOp (rI0 fun i j => .int (i + j)) (tVar 3) (tOp (rI CMul fun i j => .int (i * j)) (tVar 4) (tVar 5)))) rfl scLett.nd
        (pi_range1 (by rfl) mr (pa_cons (pe_op op_add pe_int (pe_call GP hr (by rfl) Pu.g Pu.F.kp Pu.b .nil pass0 (pa_cons (pv 0) (pa_cons (pv 1) pa_nil)))) pa_nil)) (blkOk_by (own := [("_law_k", 5)]) (N := NLe) (sc := defScope sLett) (by decide +kernel))
        (fun _ _ _ _ _ => pg_name (i := 5) scLett.nd rfl (Or.inl rfl)) (fun _ _ _ _ _ => pts_nil) (fun _ _ _ _ _ => pe_ix ix_str (pv 2) (pe_op op_add (pv 3) (pe_op op_mul (pv 4) (pv 5))) (fun _ _ => rfl))))))), ?_⟩
    refine ⟨_, rfl, g, 20, rfl, by decide, by decide, B, fun x H1 x0 x1 k1 B1 => ?_⟩
    refine ⟨_, rfl, g, 3, rfl, by decide, by decide, B1, fun y H2 y0 y1 k2 B2 => ?_⟩
    refine ⟨_, _, rfl, rfl, (by decide : 2 ≤ sizeLine), fun p np => ?_⟩
    have s3 := same_upd (o := .tup [.int x, .int (1 + y)]) np
    refine ⟨p, _, rfl, SqT.of upd_same, rfl, _, _, rfl, _, _, rfl, rfl, ?_⟩
    have B3 := B2.same s3
    generalize upd H2 p (.tup [.int x, .int (1 + y)]) = H3 at s3 B3
    refine ⟨⟨_, rfl⟩, _, rfl, _, rfl, g, m, rfl, by omega, Nat.lt_trans (show m.natAbs < 2 ^ 64 by omega) (by decide), B3, fun z H4 z0 z1 k4 B4 => ?_⟩
    obtain ⟨xn, rfl⟩ : ∃ xn : Nat, x = (xn : Int) := ⟨x.toNat, by omega⟩
    obtain ⟨yn, ey⟩ : ∃ yn : Nat, 1 + y = (yn : Int) := ⟨(1 + y).toNat, by omega⟩
    obtain ⟨zn, ez⟩ : ∃ zn : Nat, 1 + z = (zn : Int) := ⟨(1 + z).toNat, by omega⟩
    refine ⟨_, _, rfl, rfl, 1 + z, rfl, by omega, by omega, fun D nD => ?_⟩
    rw [show (1 + z).toNat = zn by omega]
    refine lc_range (lo := 0) (n := zn) (fun i H' => H' D = some (.lst (signsV (lrow xn yn i))) ∧ Same H4 H') ⟨upd_same, same_upd nD⟩ (fun j H' hj ⟨hD, sm⟩ => ?_) (fun H5 ⟨hD, sm⟩ => ?_)
    · refine ⟨rfl, ?_⟩
      unfold tYes
      dsimp only
      rw [if_pos rfl]
      have hyj : yn * j ≤ 3 * 2 := Nat.mul_le_mul (by omega) (by omega)
      have eix : (xn : Int) + (1 + y) * (0 + (j : Int)) = ((xn + yn * j : Nat) : Int) := by
        rw [ey, Int.zero_add, ← Int.natCast_mul, ← Int.natCast_add]
      have hc := small_code ⟨xn + yn * j, by omega⟩
      refine ⟨_, rfl, _, rfl, _, rfl, _, rfl, _, _, rfl, rfl, .inl ⟨by omega, by omega⟩, _, _, rfl, rfl, Sx smallL, ((xn + yn * j : Nat) : Int), 97 + (xn + yn * j), by rw [small_eq], congrArg V.int eix, ?_, ?_, ?_⟩
      · rw [sx_len]
        decide
      · rw [sx_cps]
        exact atI_nat hc
      · refine ⟨_, hD, ?_, ?_, fun b o hb => ?_⟩
        · unfold signsV lrow
          rw [List.length_map, List.length_map, List.length_range]
          exact small1000 (by omega)
        · rw [upd_same]
          unfold signsV lrow
          rw [List.range_succ, List.map_append, List.map_append, ← Nat.add_assoc]
          rfl
        · rw [upd_ne (ne_of_none hb nD)]
          exact sm b o hb
    · have hll : (lrow xn yn zn).length = zn := by
        unfold lrow
        rw [List.length_map, List.length_range]
      refine ⟨Sx [], D, (lrow xn yn zn).map fun c => Sx [c], by rw [em_eq], rfl, .inl (SqL.of (by rw [hD, signs_map])), ?_, ?_⟩
      · rw [sum_ones, sx_len, List.length_nil, Nat.mul_zero, hll]
        omega
      · rw [TL.join_eq, join_signs]
        refine q _ H5 (lrow_ok (by omega) (by omega) (by omega) (by omega) (by omega)) (by rw [hll]; omega) (lrow_low (by omega) (by omega)) ?_ (B4.same sm)
        exact ((k1.trans k2).trans (Keep.of s3)).trans (k4.trans (Keep.of sm))
end
end Onp
set_option maxHeartbeats 4000000
set_option autoImplicit false
namespace Onp
open PySem PySem.Spec PyProof.Rows L2
/-! ### == of arrows and of rows of them -/
theorem eqv_adat (a b : Arw) : PyData.eqv (adat a) (adat b) = decide (a = b) := by
  obtain ⟨a1, a2, a3, a4⟩ := a
  obtain ⟨b1, b2, b3, b4⟩ := b
  simp only [adat, PyData.eqv, PyData.eqvAll]
  rw [Bool.eq_iff_iff, decide_eq_true_eq]
  simp only [Bool.and_eq_true, beq_iff_eq, Prod.mk.injEq, and_true]
theorem any_adat (as : List Arw) (a : Arw) : ((as.map adat).any fun z => PyData.eqv z (adat a)) = decide (a ∈ as) := by
  rw [Bool.eq_iff_iff, List.any_eq_true, decide_eq_true_eq]
  constructor
  · rintro ⟨d, hd, e⟩
    obtain ⟨b, hb, rfl⟩ := List.mem_map.mp hd
    rw [eqv_adat, decide_eq_true_eq] at e
    rw [← e]
    exact hb
  · intro h
    exact ⟨adat a, List.mem_map_of_mem h, by rw [eqv_adat]; exact decide_eq_true rfl⟩
/-- texts of the kind that arrows bear -/
def okS (a : Arw) : Prop := PyData.strOk a.2.1 = true ∧ PyData.strOk a.2.2.1 = true
theorem small_strOk : ∀ c ∈ smallL, PyData.strOk (Sx [c]) = true := by decide +kernel
theorem deeds_strOk : ∀ d ∈ deedsL, PyData.strOk d = true := by decide +kernel
theorem letB_small {ls : List Nat} (h : letB ls = true) : ∀ c ∈ ls, c ∈ smallL := fun c hc => by
  unfold letB smaB at h
  simp only [Bool.and_eq_true] at h
  exact of_decide_eq_true (List.all_eq_true.mp h.2.1 c hc)
theorem arrB_okS {n : Int} {ls : List Nat} {a : Arw} (hl : letB ls = true) (h : arrB n ls a = true) : okS a := by
  unfold arrB at h
  simp only [Bool.and_eq_true] at h
  obtain ⟨c, hc, e⟩ := List.any_eq_true.mp h.1.2
  refine ⟨?_, deeds_strOk _ (of_decide_eq_true h.2)⟩
  rw [of_decide_eq_true e]
  exact small_strOk c (letB_small hl c hc)
theorem lay_adat {a : Arw} (h : okS a) : (adat a).canLay0 = true := by
  unfold adat
  simp only [PyData.canLay0, PyData.canLayAll0, h.1, h.2, Bool.and_true]
theorem lay_row : ∀ {as : List Arw}, (∀ a ∈ as, okS a) → PyData.canLayAll0 (as.map adat) = true
  | [], _ => rfl
  | a :: r, h => by
    show (PyData.canLay0 (adat a) && PyData.canLayAll0 (r.map adat)) = true
    rw [lay_adat (h a List.mem_cons_self), lay_row fun b hb => h b (List.mem_cons_of_mem _ hb)]
    rfl
theorem dep_adat (a : Arw) : (adat a).depth ≤ 8 := by
  unfold adat
  simp [PyData.depth, PyData.depthAll]
theorem dep_row : ∀ as : List Arw, PyData.depthAll (as.map adat) ≤ 8
  | [] => by simp [PyData.depthAll]
  | a :: r => by
    show PyData.depthAll (adat a :: r.map adat) ≤ 8
    have h1 := dep_adat a
    have h2 := dep_row r
    rw [PyData.depthAll]
    exact Nat.max_le.mpr ⟨h1, h2⟩
theorem shA {a : Arw} (h : okS a) : SeqAt.shaped (adat a) = true := by
  unfold SeqAt.shaped
  rw [lay_adat h, decide_eq_true (Nat.le_trans (dep_adat a) (by decide))]
  rfl
theorem shR {as : List Arw} (h : ∀ a ∈ as, okS a) : SeqAt.shaped (.list (as.map adat)) = true := by
  unfold SeqAt.shaped
  have h1 : (PyData.list (as.map adat)).canLay0 = true := by rw [PyData.canLay0]; exact lay_row h
  have h2 : (PyData.list (as.map adat)).depth ≤ 64 := by
    rw [PyData.depth]
    have := dep_row as
    omega
  rw [h1, decide_eq_true h2]
  rfl
theorem lay_ints : ∀ ns : List Int, PyData.canLayAll0 (ns.map PyData.int) = true
  | [] => rfl
  | a :: r => by
    show (PyData.canLay0 (.int a) && PyData.canLayAll0 (r.map PyData.int)) = true
    rw [lay_ints r]
    rfl
theorem shI (ns : List Int) : SeqAt.shaped (.list (ns.map .int)) = true := by
  unfold SeqAt.shaped
  have h1 : (PyData.list (ns.map .int)).canLay0 = true := by rw [PyData.canLay0]; exact lay_ints ns
  have h2 : (PyData.list (ns.map .int)).depth ≤ 64 := by
    rw [PyData.depth, PySem.W.depth_ints]
    decide
  rw [h1, decide_eq_true h2]
  rfl
theorem dpRow {K : PySem.W.Frag} {H : Hp} : ∀ {ps : List AR}, RowAt K H ps → DpAll K H (rfs ps) ((ps.map (·.2)).map adat)
  | [], _ => .nil
  | p :: r, h => .cons (dp_arw (h p List.mem_cons_self)) (dpRow fun q hq => h q (List.mem_cons_of_mem _ hq))
theorem dpInts {K : PySem.W.Frag} {H : Hp} : ∀ ns : List Int, DpAll K H (ns.map V.int) (ns.map PyData.int)
  | [] => .nil
  | _ :: r => .cons (.int _) (dpInts r)
/-! ### what the law draws: a tuple of five -/
def DrawnAt (K : PySem.W.Frag) (H : Hp) (t : Addr) (M : AM) : Prop := ∃ (la lf lg : Addr) (ps : List AR), H t = some (.tup [.int M.n, .str (Sx M.ls), .ref la, .ref lf, .ref lg]) ∧ H la = some (.lst (rfs ps)) ∧ RowAt K H ps ∧ ps.map (·.2) = M.as ∧ H lf = some (.lst (M.fs.map V.int)) ∧ H lg = some (.lst (M.gs.map V.int))
theorem DrawnAt.same {K : PySem.W.Frag} {H H' : Hp} {t : Addr} {M : AM} (h : DrawnAt K H t M) (s : Same H H') : DrawnAt K H' t M := by
  obtain ⟨la, lf, lg, ps, h1, h2, h3, h4, h5, h6⟩ := h
  exact ⟨la, lf, lg, ps, s _ _ h1, s _ _ h2, h3.same s, h4, s _ _ h5, s _ _ h6⟩
end Onp
set_option maxHeartbeats 8000000
set_option autoImplicit false
namespace Onp
open PySem PySem.Spec PyProof.Rows L2
theorem Bg.keepT {K : PySem.W.Frag} {g : Bid} {H H' : Hp} {a : Addr} {xs : List V} (B : Bg H g) (k : Keep g.b H H') (h : SqT K H a xs) : SqT K H' a xs := by
  obtain ⟨i, r, z, c, h1, h2, h3⟩ := B
  by_cases e : a = g.b
  · subst e
    rcases h with (h | ⟨o, h⟩) | h
    · rw [h1] at h
      cases h
    · rw [h1] at h
      cases h
    · exact .inr h
  · exact k.seqT e h
theorem Bg.keepRow {K : PySem.W.Frag} {g : Bid} {H H' : Hp} {ps : List AR} (B : Bg H g) (k : Keep g.b H H') (h : RowAt K H ps) : RowAt K H' ps := fun p hp => B.keepT k (h p hp)
theorem Bg.neRfs {g : Bid} {H : Hp} {a : Addr} {ps : List AR} (B : Bg H g) (h : H a = some (.lst (rfs ps))) : a ≠ g.b := fun e => by
  subst e
  obtain ⟨i, r, z, c, h1, h2, h3⟩ := B
  rw [h1] at h
  unfold bagV at h
  have h' : [V.ref g.l, V.int i, V.int r, V.int z, V.int c] = rfs ps := HO.lst.inj (Option.some.inj h)
  have : V.int i ∈ rfs ps := by rw [← h']; simp
  obtain ⟨p, _, e⟩ := List.mem_map.mp this
  cases e
theorem Bg.neInts {g : Bid} {H : Hp} {a : Addr} {ns : List Int} (B : Bg H g) (h : H a = some (.lst (ns.map V.int))) : a ≠ g.b := fun e => by
  subst e
  obtain ⟨i, r, z, c, h1, h2, h3⟩ := B
  rw [h1] at h
  unfold bagV at h
  match ns, h with
  | [], h => cases h
  | _ :: _, h => cases h
theorem Bg.neTup {g : Bid} {H : Hp} {a : Addr} {xs : List V} (B : Bg H g) (h : H a = some (.tup xs)) : a ≠ g.b := fun e => by
  subst e
  obtain ⟨i, r, z, c, h1, h2, h3⟩ := B
  rw [h1] at h
  cases h
theorem DrawnAt.keep {K : PySem.W.Frag} {H H' : Hp} {t : Addr} {M : AM} {g : Bid} (h : DrawnAt K H t M) (B : Bg H g) (k : Keep g.b H H') : DrawnAt K H' t M := by
  obtain ⟨la, lf, lg, ps, h1, h2, h3, h4, h5, h6⟩ := h
  exact ⟨la, lf, lg, ps, k _ _ (B.neTup h1) h1, k _ _ (B.neRfs h2) h2, B.keepRow k h3, h4, k _ _ (B.neInts h5) h5, k _ _ (B.neInts h6) h6⟩
theorem room65 {k : Nat} {A : Around} (r : Room k A) : A.units + 65 < cLine := by have := r.un; omega
theorem eqv_nil (ds : List PyData) : PyData.eqv (.list ds) (.list []) = decide (ds = []) := by
  cases ds <;> simp [PyData.eqv, PyData.eqvAll]
section
variable {P : Program} {w : World} {K : PySem.W.Frag} {mg : Str → Option Value} {base : Heap}
/-! ### _law_rooms_some -/
def NRs : List Str := ["_law_bag_here", "_law_rooms", "_law_some", "_law_room"]
theorem scRooms : FnScope NRs ["_law_bag_here", "_law_rooms"] (defScope sRooms) := ⟨rfl, rfl, rfl, by decide +kernel, rfl, by decide +kernel, by decide +kernel⟩
def spRooms : Sp := fun vs H Q _ => ∃ (g : Bid) (n : Int), vs = [.ref g.b, .int n] ∧ 1 ≤ n ∧ n ≤ 100 ∧ Bg H g ∧ ∀ (ns : List Int) (l : Addr) H', (∀ r ∈ ns, rooB n r = true) → ns.Nodup → ns.length ≤ 100 → H' l = some (.lst (ns.map V.int)) → Keep g.b H H' → Bg H' g → Q (.ref l) H'
theorem ok_rooms {f fP : Addr} {fd fdP : FuncData} {k : Nat} (F : Fun K "_law_rooms_some" "_law_rooms_some" sRooms f fd) (Pu : FnM K mg fP fdP "_law_pull" sPull ["_law_bag_here", "_law_many"]) (ml : mg "len" = none) (mr : mg "range" = none) : FnOk P w K mg base CX0 (k + 2) f fd ["_law_bag_here", "_law_rooms"] spRooms := by
  have GP : FnOk P w K mg base CX0 (k + 1) fP fdP ["_law_bag_here", "_law_many"] (spPull K) := ok_pull Pu.F ml
  refine F.ok scRooms (fun vs H Q E h => ?_) (fun cdv A outer s H vs Q E hr h => ?_)
  · obtain ⟨g, m, rfl, _⟩ := h
    rfl
  · obtain ⟨g, n, rfl, n1, n2, B, q⟩ := h
    refine ⟨_, pss_cons (ps_setLc (i := 2) (own := [("_law_room", 3)]) (g := gName 3) (tt := tTest (tOp rEq (tCall (spPull K) [] E0 (tCons (tVar 0) (tCons (tC (.int 2)) tNil))) (tC (.int 0)))) (te := tVar 3) rfl scRooms.nd rfl rfl (sw_true rfl rfl rfl (by decide +kernel))
        (pi_range1 (by rfl) mr (pa_cons (pv 1) pa_nil)) (blkOk_by (own := [("_law_room", 3)]) (N := NRs) (sc := defScope sRooms) (by decide +kernel))
        (fun _ _ _ _ _ => pg_name (i := 3) scRooms.nd rfl (Or.inl rfl)) (fun _ _ _ _ _ => pts_one (pt_cmpR op_eq (pe_call GP hr (by rfl) Pu.g Pu.F.kp Pu.b .nil pass0 (pa_cons (pv 0) (pa_cons pe_int pa_nil))) pe_int (nomark _))) (fun _ _ _ _ _ => pv 3))
      (pss_one (ps_ret (pe_ifExp (PW.pt (pw_or (pt_cmpR (op_neD hr.units) (pv 2) (pe_lst pa_nil) (nomark _)) (pw_or1 (pt_cmpR op_eq (pe_call GP hr (by rfl) Pu.g Pu.F.kp Pu.b .nil pass0 (pa_cons (pv 0) (pa_cons pe_int pa_nil))) pe_int (nomark _)))))
        (pv 2) (pe_lst (pa_cons (pe_call GP hr (by rfl) Pu.g Pu.F.kp Pu.b .nil pass0 (pa_cons (pv 0) (pa_cons (pv 1) pa_nil))) pa_nil))))), ?_⟩
    have hbig : 5000 ≤ sizeLine := by decide
    refine ⟨_, rfl, n, rfl, by omega, by omega, fun D nD => ?_⟩
    obtain ⟨m, rfl⟩ : ∃ m : Nat, n = (m : Int) := ⟨n.toNat, by omega⟩
    rw [show (m : Int).toNat = m by omega]
    have neD := B.ne nD
    refine lc_range (lo := 0) (n := m) (fun i H' => ∃ ns : List Int, H' D = some (.lst (ns.map V.int)) ∧ (∀ r ∈ ns, 0 ≤ r ∧ r < i) ∧ ns.Nodup ∧ ns.length ≤ i ∧ Keep g.b H H' ∧ Bg H' g) ⟨[], upd_same, (fun _ h => nomatch h), .nil, Nat.le_refl _, Keep.new nD, B.new nD⟩ (fun j H' hj hI => ?_) (fun H5 hI => ?_)
    · obtain ⟨ns, hD, hb, hnd, hln, kk, BB⟩ := hI
      refine ⟨rfl, ?_⟩
      refine ⟨_, rfl, g, 2, rfl, by decide, by decide, BB, fun z H2 z0 z1 k2 B2 => ?_⟩
      have hD2 := k2 _ _ neD hD
      refine ⟨rfl, _, rfl, ?_⟩
      dsimp only
      split
      · refine ⟨_, rfl, _, hD2, by rw [List.length_map]; omega, ns ++ [0 + (j : Int)], ?_, ?_, ?_, ?_, ?_, ?_⟩
        · rw [upd_same, List.map_append]
          rfl
        · intro r hr'
          rcases List.mem_append.mp hr' with h | h
          · have := hb r h
            omega
          · have := List.mem_singleton.mp h
            omega
        · rw [List.nodup_append]
          refine ⟨hnd, by simp, fun a ha b hb' e => ?_⟩
          have h1 := hb a ha
          have h2 := List.mem_singleton.mp hb'
          omega
        · rw [List.length_append]
          show ns.length + 1 ≤ j + 1
          omega
        · exact fun a o ne e => by
            by_cases e1 : a = D
            · subst e1
              rw [nD] at e
              cases e
            · rw [upd_ne e1]
              exact k2 _ _ ne (kk _ _ ne e)
        · exact B2.put neD (fun e => by
            obtain ⟨_, _, _, _, _, h2, _⟩ := B
            rw [← e, nD] at h2
            cases h2)
      · exact ⟨ns, hD2, fun r h => by have := hb r h; omega, hnd, by omega, kk.trans k2, B2⟩
    · obtain ⟨ns, hD, hb, hnd, hln, kk, BB⟩ := hI
      have hroo : ∀ r ∈ ns, rooB (m : Int) r = true := fun r h => by
        have := hb r h
        unfold rooB
        rw [Bool.and_eq_true, decide_eq_true_eq, decide_eq_true_eq]
        exact this
      refine ⟨.ref D, rfl, (by decide : 0 ≤ sizeLine), fun p np => ?_⟩
      have s1 := same_upd (o := .lst []) np
      refine ⟨.list (ns.map .int), .list [], .lst (SqL.of (s1 _ _ hD)) (dpInts ns), .lst (SqL.of upd_same) .nil, shI ns, by decide +kernel, _, rfl, ?_⟩
      rw [eqv_nil]
      have B1 := BB.same s1
      have k1 : Keep g.b H _ := kk.trans (Keep.of s1)
      by_cases hn : ns = []
      · subst hn
        show if (!decide (([] : List PyData) = [])) = true then _ else _
        rw [decide_eq_true rfl]
        refine iteF ⟨_, rfl, g, 6, rfl, by decide, by decide, B1, fun z H2 z0 z1 k2 B2 => ?_⟩
        refine ⟨rfl, _, rfl, ?_⟩
        dsimp only
        split
        · exact ⟨.ref D, rfl, q [] D H2 hroo hnd (by decide) (k2 _ _ neD (s1 _ _ hD)) (k1.trans k2) B2⟩
        · refine ⟨_, rfl, _, rfl, g, (m : Int), rfl, by omega, Nat.lt_trans (show (m : Int).natAbs < 2 ^ 64 by omega) (by decide), B2, fun y H3 y0 y1 k3 B3 => ?_⟩
          refine ⟨(by decide : 1 ≤ sizeLine), fun p3 np3 => ?_⟩
          refine q [y] p3 _ (fun r h => ?_) (by simp) (show 1 ≤ 100 by decide) upd_same (((k1.trans k2).trans k3).trans (Keep.new np3)) (B3.new np3)
          rw [List.mem_singleton.mp h]
          unfold rooB
          rw [Bool.and_eq_true, decide_eq_true_eq, decide_eq_true_eq]
          exact ⟨y0, y1⟩
      · rw [decide_eq_false (fun e => hn (List.map_eq_nil_iff.mp e))]
        exact iteT (iteT ⟨.ref D, rfl, q ns D _ hroo hnd (by omega) (s1 _ _ hD) k1 B1⟩)
/-! ### _law_arrow -/
theorem scArrow : FnScope ["_law_bag_here", "_law_rooms", "_law_letters_here"] ["_law_bag_here", "_law_rooms", "_law_letters_here"] (defScope sArrow) := ⟨rfl, rfl, rfl, by decide +kernel, rfl, by decide +kernel, by decide +kernel⟩
def spArrow : Sp := fun vs H Q _ => ∃ (g : Bid) (n : Int) (ls : List Nat), vs = [.ref g.b, .int n, .str (Sx ls)] ∧ 1 ≤ n ∧ n ≤ 100 ∧ 0 < ls.length ∧ ls.length < 1000 ∧ Bg H g ∧ ∀ (a : Arw) (t : Addr) H', arrB n ls a = true → H' t = some (.tup (aV a)) → Keep g.b H H' → Bg H' g → Q (.ref t) H'
theorem ok_arrow {f fP fO fD : Addr} {fd fdP fdO fdD : FuncData} {k : Nat} (F : Fun K "_law_arrow" "_law_arrow" sArrow f fd) (Pu : FnM K mg fP fdP "_law_pull" sPull ["_law_bag_here", "_law_many"]) (O : FnM K mg fO fdO "_law_of" sOf ["_law_bag_here", "_law_some"]) (De : FnM K mg fD fdD "_law_deed" sDeed ["_law_bag_here"]) (ml : mg "len" = none) : FnOk P w K mg base CX0 (k + 4) f fd ["_law_bag_here", "_law_rooms", "_law_letters_here"] spArrow := by
  have GP : FnOk P w K mg base CX0 (k + 3) fP fdP ["_law_bag_here", "_law_many"] (spPull K) := ok_pull Pu.F ml
  have GO : FnOk P w K mg base CX0 (k + 3) fO fdO ["_law_bag_here", "_law_some"] spOfS := ok_ofS O.F Pu.F Pu.b Pu.g ml
  have GD : FnOk P w K mg base CX0 (k + 3) fD fdD ["_law_bag_here"] spDeed := ok_deed De.F O Pu ml
  refine F.ok scArrow (fun vs H Q E h => ?_) (fun cdv A outer s H vs Q E hr h => ?_)
  · obtain ⟨g, m, ls, rfl, _⟩ := h
    rfl
  · obtain ⟨g, n, ls, rfl, n1, n2, l1, l2, B, q⟩ := h
    refine ⟨_, pss_one (ps_ret (pe_tup (pa_cons (pe_call GP hr (by rfl) Pu.g Pu.F.kp Pu.b .nil pass0 (pa_cons (pv 0) (pa_cons (pv 1) pa_nil))) (pa_cons (pe_call GO hr (by rfl) O.g O.F.kp O.b .nil pass0 (pa_cons (pv 0) (pa_cons (pv 2) pa_nil)))
      (pa_cons (pe_call GD hr (by rfl) De.g De.F.kp De.b .nil pass0 (pa_cons (pv 0) pa_nil)) (pa_cons (pe_call GP hr (by rfl) Pu.g Pu.F.kp Pu.b .nil pass0 (pa_cons (pv 0) (pa_cons (pv 1) pa_nil))) pa_nil)))))), ?_⟩
    have nb : n.natAbs < 2 ^ 200 := Nat.lt_trans (show n.natAbs < 2 ^ 64 by omega) (by decide)
    refine ⟨_, rfl, _, rfl, g, n, rfl, by omega, nb, B, fun x H1 x0 x1 k1 B1 => ?_⟩
    refine ⟨_, rfl, _, rfl, g, ls, rfl, B1, l1, l2, fun c H2 hc k2 B2 => ?_⟩
    refine ⟨_, rfl, g, rfl, B2, fun d H3 hd k3 B3 => ?_⟩
    refine ⟨_, rfl, _, rfl, g, n, rfl, by omega, nb, B3, fun y H4 y0 y1 k4 B4 => ?_⟩
    refine ⟨(by decide : 4 ≤ sizeLine), fun t nt => ?_⟩
    refine q (x, Sx [c], d, y) t _ ?_ upd_same ((((k1.trans k2).trans k3).trans k4).trans (Keep.new nt)) (B4.new nt)
    unfold arrB
    dsimp only
    rw [decide_eq_true x0, decide_eq_true x1, decide_eq_true y0, decide_eq_true y1, decide_eq_true hd, show (ls.any fun c' => decide (Sx [c] = Sx [c'])) = true from List.any_eq_true.mpr ⟨c, hc, decide_eq_true rfl⟩]
    rfl
/-! ### _law_drawn -/
def NDr : List Str := ["_law_bag_here", "_law_rooms_most", "_law_letters_most", "_law_arrows_most", "_law_rooms", "_law_letters_here", "_law_arrows", "_law_k", "_law_arrow_here"]
def psDr : List Str := ["_law_bag_here", "_law_rooms_most", "_law_letters_most", "_law_arrows_most"]
theorem scDrawn : FnScope NDr psDr (defScope sDrawn) := ⟨rfl, rfl, rfl, by decide +kernel, rfl, by decide +kernel, by decide +kernel⟩
def spDrawn (K : PySem.W.Frag) : Sp := fun vs H Q _ => ∃ (g : Bid) (rm lm am : Int), vs = [.ref g.b, .int rm, .int lm, .int am] ∧ 1 ≤ rm ∧ rm ≤ 8 ∧ 1 ≤ lm ∧ lm ≤ 3 ∧ 0 ≤ am ∧ am ≤ 40 ∧ Bg H g ∧ ∀ (t : Addr) (M : AM) H', M.ok → M.n ≤ rm → (M.ls.length : Int) ≤ lm → (M.as.length : Int) ≤ am → (∀ c ∈ M.ls.take 2, c < 122) → DrawnAt K H' t M → Keep g.b H H' → Bg H' g → Q (.ref t) H'
theorem letB_pos {ls : List Nat} (h : letB ls = true) : 1 ≤ ls.length ∧ ls.length ≤ 3 := by
  unfold letB at h
  simp only [Bool.and_eq_true, decide_eq_true_eq] at h
  omega
theorem ok_drawn {f fP fO fD fL fR fA : Addr} {fd fdP fdO fdD fdL fdR fdA : FuncData} {k : Nat} (F : Fun K "_law_drawn" "_law_drawn" sDrawn f fd) (Pu : FnM K mg fP fdP "_law_pull" sPull ["_law_bag_here", "_law_many"]) (O : FnM K mg fO fdO "_law_of" sOf ["_law_bag_here", "_law_some"]) (De : FnM K mg fD fdD "_law_deed" sDeed ["_law_bag_here"])
    (Le : FnM K mg fL fdL "_law_letters" sLett ["_law_bag_here", "_law_most"]) (Ro : FnM K mg fR fdR "_law_rooms_some" sRooms ["_law_bag_here", "_law_rooms"]) (Ar : FnM K mg fA fdA "_law_arrow" sArrow ["_law_bag_here", "_law_rooms", "_law_letters_here"])
    (ml : mg "len" = none) (mr : mg "range" = none) (mi : mg "int" = none) : FnOk P w K mg base CX0 (k + 5) f fd psDr (spDrawn K) := by
  have GP : FnOk P w K mg base CX0 (k + 4) fP fdP ["_law_bag_here", "_law_many"] (spPull K) := ok_pull Pu.F ml
  have GL : FnOk P w K mg base CX0 (k + 4) fL fdL ["_law_bag_here", "_law_most"] spLett := ok_lett Le.F Pu ml mr
  have GR : FnOk P w K mg base CX0 (k + 4) fR fdR ["_law_bag_here", "_law_rooms"] spRooms := ok_rooms Ro.F Pu ml mr
  have GA : FnOk P w K mg base CX0 (k + 4) fA fdA ["_law_bag_here", "_law_rooms", "_law_letters_here"] spArrow := ok_arrow Ar.F Pu O De ml
  refine F.ok scDrawn (fun vs H Q E h => ?_) (fun cdv A outer s H vs Q E hr h => ?_)
  · obtain ⟨g, rm, lm, am, rfl, _⟩ := h
    rfl
  · obtain ⟨g, rm, lm, am, rfl, r1, r2, l1, l2, a1, a2, B, q⟩ := h
    refine ⟨_, pss_cons (ps_par (i := 4) (j := 5) rfl scDrawn.nd rfl rfl (by decide) rfl rfl (pa_cons (pe_op op_add pe_int (pe_call GP hr (by rfl) Pu.g Pu.F.kp Pu.b .nil pass0 (pa_cons (pv 0) (pa_cons (pv 1) pa_nil)))) (pa_cons (pe_call GL hr (by rfl) Le.g Le.F.kp Le.b .nil pass0 (pa_cons (pv 0) (pa_cons (pv 2) pa_nil))) pa_nil)) rfl)
      (pss_cons (ps_set (i := 6) scDrawn.nd rfl (.inl rfl) (pe_lst pa_nil))
      (pss_cons (ps_for PassesOwn.never rfl (pi_range1 (by rfl) mr (pa_cons (pe_call GP hr (by rfl) Pu.g Pu.F.kp Pu.b .nil pass0 (pa_cons (pv 0) (pa_cons (pe_op op_add (pv 3) pe_int) pa_nil))) pa_nil)) (pg_name (i := 7) scDrawn.nd rfl (.inl rfl))
        (pss_cons (ps_set (i := 8) scDrawn.nd rfl (.inl rfl) (pe_call GA hr (by rfl) Ar.g Ar.F.kp Ar.b .nil pass0 (pa_cons (pv 0) (pa_cons (pv 4) (pa_cons (pv 5) pa_nil)))))
        (pss_one (ps_set (i := 6) scDrawn.nd rfl (.inl rfl) (pe_op op_cat (pv 6) (pe_op op_rep (pe_lst (pa_cons (pv 8) pa_nil)) (pe_callTy call_int1 (by rfl) mi (by decide +kernel) (pa_cons (pe_cmpR (op_notInD (room65 hr)) (pv 8) (pv 6) (by rfl)) pa_nil))))))))
      (pss_one (ps_ret (pe_tup (pa_cons (pv 4) (pa_cons (pv 5) (pa_cons (pv 6) (pa_cons (pe_call GR hr (by rfl) Ro.g Ro.F.kp Ro.b .nil pass0 (pa_cons (pv 0) (pa_cons (pv 4) pa_nil))) (pa_cons (pe_call GR hr (by rfl) Ro.g Ro.F.kp Ro.b .nil pass0 (pa_cons (pv 0) (pa_cons (pv 4) pa_nil))) pa_nil)))))))))), ?_⟩
    have hbig : 5000 ≤ sizeLine := by decide
    refine ⟨_, rfl, _, rfl, g, rm, rfl, by omega, Nat.lt_trans (show rm.natAbs < 2 ^ 64 by omega) (by decide), B, fun x H1 x0 x1 k1 B1 => ?_⟩
    refine ⟨_, _, rfl, rfl, _, rfl, _, rfl, g, lm, rfl, l1, l2, B1, fun ls H2 hls hll hlow k2 B2 => ?_⟩
    have hl3 := letB_pos hls
    refine ⟨_, _, rfl, (by decide : 0 ≤ sizeLine), fun la nla => ?_⟩
    have B3 := B2.new (o := .lst []) nla
    have k3 : Keep g.b H _ := (k1.trans k2).trans (Keep.new (o := .lst []) nla)
    have h3 : upd H2 la (.lst []) la = some (.lst (rfs [])) := upd_same
    generalize upd H2 la (.lst []) = H3 at B3 k3 h3
    refine ⟨_, rfl, _, rfl, _, _, rfl, rfl, g, am + 1, rfl, by omega, Nat.lt_trans (show (am + 1).natAbs < 2 ^ 64 by omega) (by decide), B3, fun z H4 z0 z1 k4 B4 => ?_⟩
    obtain ⟨zn, rfl⟩ : ∃ zn : Nat, z = (zn : Int) := ⟨z.toNat, by omega⟩
    refine ⟨(zn : Int), rfl, by omega, by omega, for_range (lo := 0) (n := zn) (fun i σ H' => ∃ (la : Addr) (ps : List AR) (y7 y8 : Option V), σ = [some (.ref g.b), some (.int rm), some (.int lm), some (.int am), some (.int (1 + x)), some (.str (Sx ls)), some (.ref la), y7, y8] ∧ H' la = some (.lst (rfs ps)) ∧ RowAt K H' ps ∧ (∀ p ∈ ps, arrB (1 + x) ls p.2 = true) ∧ (ps.map (·.2)).Nodup ∧ ps.length ≤ i ∧ Keep g.b H H' ∧ Bg H' g)
      ⟨la, [], _, _, rfl, k4 _ _ (B3.neRfs h3) h3, (fun _ h => nomatch h), (fun _ h => nomatch h), .nil, Nat.le_refl _, k3.trans k4, B4⟩ ?_ ?_⟩
    · rintro i σ H5 hi ⟨la, ps, y7, y8, rfl, hla, hR, hA, hnd, hln, k5, B5⟩
      refine ⟨_, rfl, _, rfl, _, rfl, g, 1 + x, ls, rfl, by omega, by omega, by omega, by omega, B5, fun a t H6 ha ht k6 B6 => ?_⟩
      have hla6 := k6 _ _ (B5.neRfs hla) hla
      have hR6 := B5.keepRow k6 hR
      refine ⟨.ref la, rfl, _, rfl, (by decide : 1 ≤ sizeLine), fun p np => ?_⟩
      have s7 := same_upd (o := .lst [.ref t]) np
      have B7 := B6.same s7
      have hp7 : upd H6 p (.lst [.ref t]) p = some (.lst [.ref t]) := upd_same
      have k7 : Keep g.b H _ := (k5.trans k6).trans (Keep.of s7)
      have hla7 := s7 _ _ hla6
      have hR7 := hR6.same s7
      have ht7 := s7 _ _ ht
      generalize upd H6 p (.lst [.ref t]) = H7 at B7 hp7 k7 hla7 hR7 ht7
      have hok : ∀ b ∈ ps.map (·.2), okS b := fun b hb => by
        obtain ⟨p', hp', rfl⟩ := List.mem_map.mp hb
        exact arrB_okS hls (hA p' hp')
      refine ⟨.ref t, rfl, .ref la, rfl, adat a, (ps.map fun p : AR => p.2).map adat, dp_arw (p := (t, a)) (SqT.of ht7), .lst (SqL.of hla7) (dpRow hR7), shA (arrB_okS hls ha), shR hok, .inr ⟨_, rfl, ?_⟩⟩
      rw [any_adat]
      by_cases hin : a ∈ ps.map (·.2)
      · rw [decide_eq_true hin]
        refine ⟨p, 0, [.ref t], rfl, rfl, hp7, by decide, by decide, (show 1 * 0 ≤ sizeLine by decide), fun p8 np8 => ?_⟩
        have s8 := same_upd (o := .lst (List.replicate (Int.toNat 0) [V.ref t]).flatten) np8
        refine ⟨la, p8, rfs ps, [], rfl, rfl, s8 _ _ hla7, upd_same, ?_, fun p9 np9 => ?_⟩
        · unfold rfs
          rw [List.length_map]
          show ps.length + 0 ≤ sizeLine
          omega
        · have s9 := s8.trans (same_upd (o := .lst (rfs ps ++ [])) np9)
          exact ⟨p9, ps, _, _, rfl, by rw [upd_same, List.append_nil], hR7.same s9, hA, hnd, by omega, k7.trans (Keep.of s9), B7.same s9⟩
      · rw [decide_eq_false hin]
        refine ⟨p, 1, [.ref t], rfl, rfl, hp7, by decide, by decide, (by decide : 1 ≤ sizeLine), fun p8 np8 => ?_⟩
        have s8 := same_upd (o := .lst (List.replicate (Int.toNat 1) [V.ref t]).flatten) np8
        refine ⟨la, p8, rfs ps, [.ref t], rfl, rfl, s8 _ _ hla7, upd_same, ?_, fun p9 np9 => ?_⟩
        · unfold rfs
          rw [List.length_map]
          show ps.length + 1 ≤ sizeLine
          omega
        · have s9 := s8.trans (same_upd (o := .lst (rfs ps ++ [.ref t])) np9)
          refine ⟨p9, ps ++ [(t, a)], _, _, rfl, ?_, ?_, ?_, ?_, ?_, k7.trans (Keep.of s9), B7.same s9⟩
          · rw [upd_same]
            unfold rfs
            rw [List.map_append]
            rfl
          · intro p' hp'
            rcases List.mem_append.mp hp' with h | h
            · exact hR7.same s9 p' h
            · rw [List.mem_singleton.mp h]
              exact SqT.of (s9 _ _ ht7)
          · intro p' hp'
            rcases List.mem_append.mp hp' with h | h
            · exact hA p' h
            · rw [List.mem_singleton.mp h]
              exact ha
          · rw [List.map_append, List.nodup_append]
            refine ⟨hnd, by simp, fun b hb c hc e => ?_⟩
            have := List.mem_singleton.mp hc
            subst this e
            exact hin hb
          · rw [List.length_append]
            show ps.length + 1 ≤ i + 1
            omega
    · rintro σ H5 ⟨la, ps, y7, y8, rfl, hla, hR, hA, hnd, hln, k5, B5⟩
      refine ⟨_, rfl, _, rfl, _, rfl, _, rfl, _, rfl, g, 1 + x, rfl, by omega, by omega, B5, fun fs lf H6 hf1 hf2 hf3 hf4 k6 B6 => ?_⟩
      refine ⟨_, rfl, _, rfl, g, 1 + x, rfl, by omega, by omega, B6, fun gs lg H7 hg1 hg2 hg3 hg4 k7 B7 => ?_⟩
      refine ⟨(by decide : 5 ≤ sizeLine), fun t nt => ?_⟩
      have s8 := same_upd (o := .tup [.int (1 + x), .str (Sx ls), .ref la, .ref lf, .ref lg]) nt
      refine q t ⟨1 + x, ls, ps.map (·.2), fs, gs⟩ _ ⟨(show 1 ≤ 1 + x by omega), (show 1 + x ≤ 8 by omega), hls, fun a ha => ?_, hnd, ?_, hf1, hf2, hg1, hg2, hf3, hg3⟩ (show 1 + x ≤ rm by omega) hll ?_ hlow ⟨la, lf, lg, ps, upd_same, ?_, ?_, rfl, ?_, ?_⟩ (((k5.trans k6).trans k7).trans (Keep.of s8)) (B7.same s8)
      · obtain ⟨p', hp', rfl⟩ := List.mem_map.mp ha
        exact hA p' hp'
      · rw [List.length_map]
        omega
      · rw [List.length_map]
        omega
      · exact s8 _ _ (k7 _ _ (B6.neRfs (k6 _ _ (B5.neRfs hla) hla)) (k6 _ _ (B5.neRfs hla) hla))
      · exact (B6.keepRow k7 (B5.keepRow k6 hR)).same s8
      · exact s8 _ _ (k7 _ _ (B6.neInts hf4) hf4)
      · exact s8 _ _ hg4
end
end Onp
set_option maxHeartbeats 8000000
set_option autoImplicit false
namespace Onp
open PySem PySem.Spec PyProof.Rows L2
abbrev sMade : Stmt := topS 43
abbrev sSortd : Stmt := topS 45
section
variable {P : Program} {w : World} {K : PySem.W.Frag} {mg : Str → Option Value} {base : Heap}
/-! ### Machine(a, b, c, firsts=.., lasts=..) -/
theorem kb_made {f : Addr} {fd : FuncData} {dvs : List V} {kws : List (Str × V)} (F : FunD K "__init__" "Machine.__init__" (defArgs sMInit) (defBody sMInit) (defScope sMInit) dvs kws f fd) (hd : dvs ≠ []) (h1 : dvs.length = 1) :
    ∃ g : List Value → List Value → List Value, KBn K fd psMI 4 ["firsts", "lasts"] g (fun vs zs => vs ++ zs) := by
  obtain ⟨its, h⟩ := F.kbindsD (ps := psMI) 4 ["firsts", "lasts"] (fun us _ ws => us ++ ws) hd (fun r1 _ r3 => r1.append r3) (fun T kV doc pm an cdv ct us its ws l1 l2 l3 => by
    rw [h1] at l2
    match us, l1, ws, l3, its, l2 with
    | [a, b, c, d], _, [e, f], _, [z], _ => exact ⟨_, rfl, rfl⟩)
  exact ⟨_, h⟩
theorem kb_made2 {f : Addr} {fd : FuncData} {dvs : List V} {kws : List (Str × V)} (F : FunD K "__init__" "Machine.__init__" (defArgs sMInit) (defBody sMInit) (defScope sMInit) dvs kws f fd) (hd : dvs ≠ []) (h1 : dvs.length = 1) :
    ∃ g : List Value → List Value → List Value, KBn K fd psMI 4 ["lasts", "firsts"] g (fun vs zs => vs ++ zs.reverse) := by
  obtain ⟨its, h⟩ := F.kbindsD (ps := psMI) 4 ["lasts", "firsts"] (fun us _ ws => us ++ ws.reverse) hd (fun r1 _ r3 => r1.append r3.reverse) (fun T kV doc pm an cdv ct us its ws l1 l2 l3 => by
    rw [h1] at l2
    match us, l1, ws, l3, its, l2 with
    | [a, b, c, d], _, [e, f], _, [z], _ => exact ⟨_, rfl, rfl⟩)
  exact ⟨_, h⟩
/-- the class and what its making needs -/
structure MkM (K : PySem.W.Frag) (mg : Str → Option Value) (C : Addr) (fdI : FuncData) (fI : Addr) (dvs : List V) (kws : List (Str × V)) : Prop where
  F : FunD K "__init__" "Machine.__init__" (defArgs sMInit) (defBody sMInit) (defScope sMInit) dvs kws fI fdI
  mak : Mk K C fI
  g : mg "Machine" = some (.ref C)
  cl : ClsM K C
  nd : dvs ≠ []
  one : dvs.length = 1
/-! ### _law_made -/
theorem scMade : FnScope ["_law_m"] ["_law_m"] (defScope sMade) := ⟨rfl, rfl, rfl, by decide +kernel, rfl, by decide +kernel, by decide +kernel⟩
def spMade (K : PySem.W.Frag) (C : Addr) : Sp := fun vs H Q _ => ∃ (t : Addr) (M : AM), vs = [.ref t] ∧ DrawnAt K H t M ∧ M.ok ∧ ∀ (m : Addr) H', H m = none → Same H H' → MachAt K C H' m M.srt → Q (.ref m) H'
theorem ok_made {f fI C : Addr} {fd fdI : FuncData} {k : Nat} {dvs : List V} {kws : List (Str × V)} (F : Fun K "_law_made" "_law_made" sMade f fd) (T : MkM K mg C fdI fI dvs kws) (GI : FnOk P w K mg base CX0 k fI fdI psMI (spMInit K C)) (ml : mg "list" = none) : FnOk P w K mg base CX0 (k + 2) f fd ["_law_m"] (spMade K C) := by
  obtain ⟨gg, KB⟩ := kb_made T.F T.nd T.one
  refine F.ok scMade (fun vs H Q E h => ?_) (fun cdv A outer s H vs Q E hr h => ?_)
  · obtain ⟨t, M, rfl, _⟩ := h
    rfl
  · obtain ⟨t, M, rfl, D, ok, q⟩ := h
    refine ⟨_, pss_one (ps_ret (pe_makeN (n := 3) (ks := ["firsts", "lasts"]) T.mak GI hr (by rfl) T.g KB pass0
      (pa_cons (pe_ix ix_tup (pv 0) pe_int (fun _ _ => rfl)) (pa_cons (pe_ix ix_tup (pv 0) pe_int (fun _ _ => rfl)) (pa_cons (pe_callTy call_list_of (by rfl) ml (by decide +kernel) (pa_cons (pe_ix ix_tup (pv 0) pe_int (fun _ _ => rfl)) pa_nil)) pa_nil)))
      (pk_cons (pe_callTy call_list_of (by rfl) ml (by decide +kernel) (pa_cons (pe_ix ix_tup (pv 0) pe_int (fun _ _ => rfl)) pa_nil)) (pk_cons (pe_callTy call_list_of (by rfl) ml (by decide +kernel) (pa_cons (pe_ix ix_tup (pv 0) pe_int (fun _ _ => rfl)) pa_nil)) pk_nil)))), ?_⟩
    obtain ⟨la, lf, lg, ps, h1, h2, h3, h4, h5, h6⟩ := D
    refine ⟨_, rfl, t, _, 0, _, rfl, rfl, SqT.of h1, rfl, ?_⟩
    refine ⟨_, rfl, t, _, 1, _, rfl, rfl, SqT.of h1, rfl, ?_⟩
    refine ⟨_, rfl, t, _, 2, _, rfl, rfl, SqT.of h1, rfl, la, rfs ps, rfl, .inl (SqL.of h2), fun p1 n1 => ?_⟩
    have s1 := same_upd (o := .lst (rfs ps)) n1
    refine ⟨_, rfl, t, _, 3, _, rfl, rfl, SqT.of (s1 _ _ h1), rfl, lf, M.fs.map V.int, rfl, .inl (SqL.of (s1 _ _ h5)), fun p2 n2 => ?_⟩
    have s2 := same_upd (o := .lst (M.fs.map V.int)) n2
    refine ⟨_, rfl, t, _, 4, _, rfl, rfl, SqT.of (s2 _ _ (s1 _ _ h1)), rfl, lg, M.gs.map V.int, rfl, .inl (SqL.of (s2 _ _ (s1 _ _ h6))), fun p3 n3 => ?_⟩
    have s3 := same_upd (o := .lst (M.gs.map V.int)) n3
    refine ⟨rfl, rfl, fun x dx nx ndx ne => ?_⟩
    have e1 := s3 _ _ (s2 _ _ (upd_same (H := H) (a := p1) (o := .lst (rfs ps))))
    have e2 := s3 _ _ (upd_same (H := upd H p1 (.lst (rfs ps))) (a := p2) (o := .lst (M.fs.map V.int)))
    have e3 : upd (upd (upd H p1 (.lst (rfs ps))) p2 (.lst (M.fs.map V.int))) p3 (.lst (M.gs.map V.int)) p3 = some (.lst (M.gs.map V.int)) := upd_same
    have s13 := (s1.trans s2).trans s3
    generalize upd (upd (upd H p1 (.lst (rfs ps))) p2 (.lst (M.fs.map V.int))) p3 (.lst (M.gs.map V.int)) = H3 at nx ndx e1 e2 e3 s13
    have sx : Same H3 (upd (upd H3 dx (.own x)) x (.ins C dx [])) := fun b o hb => by
      rw [upd_ne (ne_of_none hb nx), upd_ne (ne_of_none hb ndx)]
      exact hb
    refine ⟨x, dx, p1, p2, p3, ps, M, rfl, upd_same, .inl (SqL.of (sx _ _ e1)), (h3.same s13).same sx, h4, .inl (SqL.of (sx _ _ e2)), .inl (SqL.of (sx _ _ e3)), ok, fun H' k' mm => ⟨rfl, q x H' (s13.free nx) (fun b o hb => ?_) mm⟩⟩
    have hb3 := s13 _ _ hb
    exact k' _ _ (ne_of_none hb3 nx) (sx _ _ hb3)
/-! ### _law_sorted -/
theorem scSortd : FnScope ["_law_m"] ["_law_m"] (defScope sSortd) := ⟨rfl, rfl, rfl, by decide +kernel, rfl, by decide +kernel, by decide +kernel⟩
def spSortd (K : PySem.W.Frag) : Sp := fun vs H Q _ => ∃ (t : Addr) (M : AM), vs = [.ref t] ∧ DrawnAt K H t M ∧ ∀ (t' : Addr) H', Same H H' → DrawnAt K H' t' M.srt → Q (.ref t') H'
theorem ok_sortd {f : Addr} {fd : FuncData} {k : Nat} (F : Fun K "_law_sorted" "_law_sorted" sSortd f fd) (ms : mg "sorted" = none) : FnOk P w K mg base CX0 (k + 1) f fd ["_law_m"] (spSortd K) := by
  refine F.ok scSortd (fun vs H Q E h => ?_) (fun cdv A outer s H vs Q E hr h => ?_)
  · obtain ⟨t, M, rfl, _⟩ := h
    rfl
  · obtain ⟨t, M, rfl, D, q⟩ := h
    have hu : (cxOf CX0 P w K mg base ["_law_m"] "_law_sorted" (defScope sSortd) f cdv A outer s H E).A.units + 64 < cLine := hr.units
    refine ⟨_, pss_one (ps_ret (pe_tup (pa_cons (pe_ix ix_tup (pv 0) pe_int (fun _ _ => rfl)) (pa_cons (pe_ix ix_tup (pv 0) pe_int (fun _ _ => rfl))
      (pa_cons (pe_callB (cr_sortD hu) (by rfl) ms (by decide +kernel) (pa_cons (pe_ix ix_tup (pv 0) pe_int (fun _ _ => rfl)) pa_nil))
      (pa_cons (pe_callB (cr_sortD hu) (by rfl) ms (by decide +kernel) (pa_cons (pe_ix ix_tup (pv 0) pe_int (fun _ _ => rfl)) pa_nil))
      (pa_cons (pe_callB (cr_sortD hu) (by rfl) ms (by decide +kernel) (pa_cons (pe_ix ix_tup (pv 0) pe_int (fun _ _ => rfl)) pa_nil)) pa_nil))))))), ?_⟩
    obtain ⟨la, lf, lg, ps, h1, h2, h3, h4, h5, h6⟩ := D
    refine ⟨_, rfl, t, _, 0, _, rfl, rfl, SqT.of h1, rfl, ?_⟩
    refine ⟨_, rfl, t, _, 1, _, rfl, rfl, SqT.of h1, rfl, ?_⟩
    refine ⟨_, rfl, t, _, 2, _, rfl, rfl, SqT.of h1, rfl, la, ps.map vdA, rfl, ?_, ?_, al_A ps, so_A ps, dep_A ps, fun p1 n1 => ?_⟩
    · rw [vdA_fst]
      exact .inl (SqL.of h2)
    · intro p hp
      obtain ⟨a, ha, rfl⟩ := List.mem_map.mp hp
      exact dp_arw (h3 a ha)
    rw [srtD_A, vdA_fst]
    have s1 := same_upd (o := .lst (rfs (srtR ps))) n1
    refine ⟨_, rfl, t, _, 3, _, rfl, rfl, SqT.of (s1 _ _ h1), rfl, lf, M.fs.map vdI, rfl, ?_, ?_, al_I _, so_I _, dep_I _, fun p2 n2 => ?_⟩
    · rw [vdI_fst]
      exact .inl (SqL.of (s1 _ _ h5))
    · intro p hp
      obtain ⟨a, ha, rfl⟩ := List.mem_map.mp hp
      exact .int a
    rw [srtD_I, vdI_fst]
    have s2 := same_upd (o := .lst ((sortI M.fs).map V.int)) n2
    refine ⟨_, rfl, t, _, 4, _, rfl, rfl, SqT.of (s2 _ _ (s1 _ _ h1)), rfl, lg, M.gs.map vdI, rfl, ?_, ?_, al_I _, so_I _, dep_I _, fun p3 n3 => ?_⟩
    · rw [vdI_fst]
      exact .inl (SqL.of (s2 _ _ (s1 _ _ h6)))
    · intro p hp
      obtain ⟨a, ha, rfl⟩ := List.mem_map.mp hp
      exact .int a
    rw [srtD_I, vdI_fst]
    have s3 := same_upd (o := .lst ((sortI M.gs).map V.int)) n3
    refine ⟨(by decide : 5 ≤ sizeLine), fun t' nt' => ?_⟩
    have s4 := same_upd (o := .tup [.int M.n, .str (Sx M.ls), .ref p1, .ref p2, .ref p3]) nt'
    have sS := ((s1.trans s2).trans s3).trans s4
    refine q t' _ sS ⟨p1, p2, p3, srtR ps, upd_same, s4 _ _ (s3 _ _ (s2 _ _ upd_same)), fun p hp => sameT sS (h3 p (srtR_mem.mp hp)), ?_, s4 _ _ (s3 _ _ upd_same), s4 _ _ upd_same⟩
    rw [srtR_as, h4]
    rfl
end
end Onp
set_option maxHeartbeats 8000000
set_option autoImplicit false
namespace Onp
open PySem PySem.Spec PyProof.Rows L2
abbrev sFull : Stmt := topS 40
/-- arrows so far, as they lie in the heap -/
structure Ars (K : PySem.W.Frag) (H : Hp) (g : Bid) (n : Int) (ls : List Nat) (la : Addr) (ps : List AR) (c : Nat) : Prop where
  at_ : H la = some (.lst (rfs ps))
  row : RowAt K H ps
  ok : ∀ p ∈ ps, arrB n ls p.2 = true
  nd : (ps.map (·.2)).Nodup
  len : ps.length ≤ c
  bag : Bg H g
/-- few arrows by each letter -/
def few (as : List Arw) : Prop := ∀ z : Str, (as.filter fun a => decide (a.2.1 = z)).length ≤ 10
theorem few_len {as : List Arw} (h : as.length ≤ 10) : few as := fun z => Nat.le_trans (List.length_filter_le ..) h
def cntL (z : Str) (ps : List AR) : Nat := (ps.filter fun p => decide (p.2.2.1 = z)).length
theorem cntL_put {z : Str} {ps ps' : List AR} {t : Addr} {a : Arw} (h : ps' = ps ∨ ps' = ps ++ [(t, a)]) : cntL z ps' ≤ cntL z ps + (if a.2.1 = z then 1 else 0) := by
  rcases h with rfl | rfl
  · exact Nat.le_add_right ..
  · unfold cntL
    rw [List.filter_append, List.length_append]
    by_cases e : a.2.1 = z
    · rw [if_pos e, List.filter_cons_of_pos (by simpa using e)]
      exact Nat.le_refl _
    · rw [if_neg e, List.filter_cons_of_neg (by simpa using e)]
      exact Nat.le_refl _
def anyL (ls : List Nat) (j : Nat) (z : Str) : Bool := (ls.take j).any fun c => decide (Sx [c] = z)
def bndJ (ls : List Nat) (i j : Nat) (z : Str) : Nat := 2 * i + (if anyL ls j z = true then 2 else 0)
def bndU (ls : List Nat) (i j c u : Nat) (z : Str) : Nat := 2 * i + (if Sx [c] = z then u else if anyL ls j z = true then 2 else 0)
theorem rise2 {ls : List Nat} (h : letB ls = true) {j c : Nat} (hc : ls[j]? = some c) (hj : j < 2) : ∀ c' ∈ ls.take j, c' ≠ c := by
  match j, hj with
  | 0, _ => intro c' h'; exact absurd h' (by simp)
  | 1, _ =>
    match ls, hc, h with
    | [x], hc, _ => cases hc
    | x :: y :: r, hc, h =>
      have e : y = c := by simpa using hc
      have hlt : x < y := by
        unfold letB risB at h
        simp only [Bool.and_eq_true, List.drop, List.zip, List.zipWith, List.all_cons, decide_eq_true_eq] at h
        exact h.1.1
      intro c' h'
      have e2 : c' = x := by simpa using h'
      omega
theorem bnd_in {ls : List Nat} (h : letB ls = true) {i j c : Nat} (hc : ls[j]? = some c) (hj : j < 2) (z : Str) : bndJ ls i j z ≤ bndU ls i j c 0 z := by
  unfold bndJ bndU
  by_cases e : Sx [c] = z
  · rw [if_pos e]
    have : anyL ls j z = false := by
      unfold anyL
      rw [List.any_eq_false]
      intro c' hc' e'
      have e2 : Sx [c'] = Sx [c] := (of_decide_eq_true e').trans e.symm
      exact rise2 h hc hj c' hc' (List.cons.inj (sx_inj e2)).1
    rw [if_neg (by rw [this]; decide)]
    exact Nat.le_refl _
  · rw [if_neg e]
    exact Nat.le_refl _
theorem bnd_out {ls : List Nat} {i j c u : Nat} (hc : ls[j]? = some c) (hu : u ≤ 2) (z : Str) : bndU ls i j c u z ≤ bndJ ls i (j + 1) z := by
  unfold bndJ bndU
  have ht : anyL ls (j + 1) z = (anyL ls j z || decide (Sx [c] = z)) := by
    unfold anyL
    rw [List.take_succ, hc, List.any_append]
    simp
  by_cases e : Sx [c] = z
  · rw [if_pos e, if_pos (by rw [ht, decide_eq_true e, Bool.or_true])]
    omega
  · rw [if_neg e, ht, decide_eq_false e, Bool.or_false]
    exact Nat.le_refl _
theorem bnd_go {ls : List Nat} {i j c u m : Nat} {z : Str} (h : m ≤ bndU ls i j c u z) : m + (if Sx [c] = z then 1 else 0) ≤ bndU ls i j c (u + 1) z := by
  unfold bndU at h ⊢
  by_cases e : Sx [c] = z
  · rw [if_pos e] at h ⊢
    rw [if_pos e]
    omega
  · rw [if_neg e] at h ⊢
    rw [if_neg e]
    exact h
theorem bndJ_zero (ls : List Nat) (i : Nat) (z : Str) : bndJ ls i 0 z = 2 * i := by
  unfold bndJ anyL
  simp
theorem bndJ_le (ls : List Nat) (i j : Nat) (z : Str) : bndJ ls i j z ≤ 2 * (i + 1) := by
  unfold bndJ
  by_cases e : anyL ls j z = true
  · rw [if_pos e]; omega
  · rw [if_neg e]; omega
section
variable {P : Program} {w : World} {K : PySem.W.Frag} {mg : Str → Option Value} {base : Heap}
theorem Ars.keep {H H' : Hp} {g : Bid} {n : Int} {ls : List Nat} {la : Addr} {ps : List AR} {c : Nat} (x : Ars K H g n ls la ps c) (k : Keep g.b H H') (B : Bg H' g) : Ars K H' g n ls la ps c :=
  ⟨k _ _ (x.bag.neRfs x.at_) x.at_, x.bag.keepRow k x.row, x.ok, x.nd, x.len, B⟩
theorem Ars.more {H : Hp} {g : Bid} {n : Int} {ls : List Nat} {la : Addr} {ps : List AR} {c d : Nat} (x : Ars K H g n ls la ps c) (h : c ≤ d) : Ars K H g n ls la ps d := ⟨x.at_, x.row, x.ok, x.nd, Nat.le_trans x.len h, x.bag⟩
/-- arrows + [arrow] * int(arrow not in arrows) -/
theorem ars_put {H : Hp} {g : Bid} {n : Int} {ls : List Nat} {la t : Addr} {ps : List AR} {c : Nat} {a : Arw} {i j : Nat} {σ : L2.St} {Q : VK} (x : Ars K H g n ls la ps c) (hls : letB ls = true) (hc : c ≤ 1000) (ha : arrB n ls a = true) (ht : H t = some (.tup (aV a))) (ei : σ[i]? = some (some (.ref la))) (ej : σ[j]? = some (some (.ref t)))
    (q : ∀ H' p ps', Same H H' → Ars K H' g n ls p ps' (c + 1) → (ps' = ps ∨ ps' = ps ++ [(t, a)]) → Q (.ref p) H') :
    tOp rCat (tVar i) (tOp rRep (tLst (tCons (tVar j) tNil)) (tCB (fun xs H Q => (∃ i, xs = [.int i] ∧ Q (.int i) H) ∨ ∃ k, xs = [.bl k] ∧ Q (.int (if k then 1 else 0)) H) (tCons (tOp (rNotInD K) (tVar j) (tVar i)) tNil))) σ H Q := by
  have hbig : 5000 ≤ sizeLine := by decide
  have hln := x.len
  refine ⟨.ref la, ei, _, ej, (by decide : 1 ≤ sizeLine), fun p np => ?_⟩
  have s7 := same_upd (o := .lst [.ref t]) np
  have hp7 : upd H p (.lst [.ref t]) p = some (.lst [.ref t]) := upd_same
  have hla7 := s7 _ _ x.at_
  have hR7 := x.row.same s7
  have ht7 := s7 _ _ ht
  have B7 := x.bag.same s7
  generalize upd H p (.lst [.ref t]) = H7 at s7 hp7 hla7 hR7 ht7 B7
  have hok : ∀ b ∈ ps.map (·.2), okS b := fun b hb => by
    obtain ⟨p', hp', rfl⟩ := List.mem_map.mp hb
    exact arrB_okS hls (x.ok p' hp')
  refine ⟨.ref t, ej, .ref la, ei, adat a, (ps.map fun p : AR => p.2).map adat, dp_arw (p := (t, a)) (SqT.of ht7), .lst (SqL.of hla7) (dpRow hR7), shA (arrB_okS hls ha), shR hok, .inr ⟨_, rfl, ?_⟩⟩
  rw [any_adat]
  by_cases hin : a ∈ ps.map (·.2)
  · rw [decide_eq_true hin]
    refine ⟨p, 0, [.ref t], rfl, rfl, hp7, by decide, by decide, (show 1 * 0 ≤ sizeLine by decide), fun p8 np8 => ?_⟩
    have s8 := same_upd (o := .lst (List.replicate (Int.toNat 0) [V.ref t]).flatten) np8
    refine ⟨la, p8, rfs ps, [], rfl, rfl, s8 _ _ hla7, upd_same, ?_, fun p9 np9 => ?_⟩
    · unfold rfs
      rw [List.length_map]
      show ps.length + 0 ≤ sizeLine
      omega
    · have s9 := s8.trans (same_upd (o := .lst (rfs ps ++ [])) np9)
      exact q _ p9 ps (s7.trans s9) ⟨by rw [upd_same, List.append_nil], hR7.same s9, x.ok, x.nd, by omega, B7.same s9⟩ (.inl rfl)
  · rw [decide_eq_false hin]
    refine ⟨p, 1, [.ref t], rfl, rfl, hp7, by decide, by decide, (by decide : 1 ≤ sizeLine), fun p8 np8 => ?_⟩
    have s8 := same_upd (o := .lst (List.replicate (Int.toNat 1) [V.ref t]).flatten) np8
    refine ⟨la, p8, rfs ps, [.ref t], rfl, rfl, s8 _ _ hla7, upd_same, ?_, fun p9 np9 => ?_⟩
    · unfold rfs
      rw [List.length_map]
      show ps.length + 1 ≤ sizeLine
      omega
    · have s9 := s8.trans (same_upd (o := .lst (rfs ps ++ [.ref t])) np9)
      refine q _ p9 (ps ++ [(t, a)]) (s7.trans s9) ⟨?_, fun p' hp' => ?_, fun p' hp' => ?_, ?_, by rw [List.length_append]; show ps.length + 1 ≤ c + 1; omega, B7.same s9⟩ (.inr rfl)
      · rw [upd_same]
        unfold rfs
        rw [List.map_append]
        rfl
      · rcases List.mem_append.mp hp' with h | h
        · exact hR7.same s9 p' h
        · rw [List.mem_singleton.mp h]
          exact SqT.of (s9 _ _ ht7)
      · rcases List.mem_append.mp hp' with h | h
        · exact x.ok p' h
        · rw [List.mem_singleton.mp h]
          exact ha
      · rw [List.map_append, List.nodup_append]
        refine ⟨x.nd, by simp, fun b hb c hc e => ?_⟩
        have := List.mem_singleton.mp hc
        subst this e
        exact hin hb
def NFu : List Str := ["_law_bag_here", "_law_rooms_most", "_law_letters_most", "_law_rooms", "_law_letters_here", "_law_arrows", "_law_room", "_law_letter", "_law_k", "_law_arrow_here"]
def psFu : List Str := ["_law_bag_here", "_law_rooms_most", "_law_letters_most"]
theorem scFull : FnScope NFu psFu (defScope sFull) := ⟨rfl, rfl, rfl, by decide +kernel, rfl, by decide +kernel, by decide +kernel⟩
def spFull (K : PySem.W.Frag) : Sp := fun vs H Q _ => ∃ (g : Bid) (rm lm : Int), vs = [.ref g.b, .int rm, .int lm] ∧ (1 ≤ rm ∧ rm ≤ 3) ∧ (1 ≤ lm ∧ lm ≤ 2) ∧ Bg H g ∧ ∀ (t : Addr) (M : AM) H', M.ok → M.n ≤ rm → (M.ls.length : Int) ≤ lm → few M.as → DrawnAt K H' t M → Keep g.b H H' → Bg H' g → Q (.ref t) H'
theorem ok_full {f fP fO fD fL fR : Addr} {fd fdP fdO fdD fdL fdR : FuncData} {k : Nat} (F : Fun K "_law_full_one" "_law_full_one" sFull f fd) (Pu : FnM K mg fP fdP "_law_pull" sPull ["_law_bag_here", "_law_many"]) (O : FnM K mg fO fdO "_law_of" sOf ["_law_bag_here", "_law_some"]) (De : FnM K mg fD fdD "_law_deed" sDeed ["_law_bag_here"])
    (Le : FnM K mg fL fdL "_law_letters" sLett ["_law_bag_here", "_law_most"]) (Ro : FnM K mg fR fdR "_law_rooms_some" sRooms ["_law_bag_here", "_law_rooms"])
    (ml : mg "len" = none) (mr : mg "range" = none) (mi : mg "int" = none) : FnOk P w K mg base CX0 (k + 4) f fd psFu (spFull K) := by
  have GP : FnOk P w K mg base CX0 (k + 3) fP fdP ["_law_bag_here", "_law_many"] (spPull K) := ok_pull Pu.F ml
  have GL : FnOk P w K mg base CX0 (k + 3) fL fdL ["_law_bag_here", "_law_most"] spLett := ok_lett Le.F Pu ml mr
  have GR : FnOk P w K mg base CX0 (k + 3) fR fdR ["_law_bag_here", "_law_rooms"] spRooms := ok_rooms Ro.F Pu ml mr
  have GD : FnOk P w K mg base CX0 (k + 3) fD fdD ["_law_bag_here"] spDeed := ok_deed De.F O Pu ml
  refine F.ok scFull (fun vs H Q E h => ?_) (fun cdv A outer s H vs Q E hr h => ?_)
  · obtain ⟨g, rm, lm, rfl, _⟩ := h
    rfl
  · obtain ⟨g, rm, lm, rfl, ⟨r1, r2⟩, ⟨l1, l2⟩, B, q⟩ := h
    refine ⟨_, pss_cons (ps_par (i := 3) (j := 4) rfl scFull.nd rfl rfl (by decide) rfl rfl (pa_cons (pe_op op_add pe_int (pe_call GP hr (by rfl) Pu.g Pu.F.kp Pu.b .nil pass0 (pa_cons (pv 0) (pa_cons (pv 1) pa_nil)))) (pa_cons (pe_call GL hr (by rfl) Le.g Le.F.kp Le.b .nil pass0 (pa_cons (pv 0) (pa_cons (pv 2) pa_nil))) pa_nil)) rfl)
      (pss_cons (ps_set (i := 5) scFull.nd rfl (.inl rfl) (pe_lst pa_nil))
      (pss_cons (ps_for PassesOwn.never rfl (pi_range1 (by rfl) mr (pa_cons (pv 3) pa_nil)) (pg_name (i := 6) scFull.nd rfl (.inl rfl))
        (pss_one (ps_for PassesOwn.never rfl (pi_str (pv 4)) (pg_name (i := 7) scFull.nd rfl (.inl rfl))
          (pss_one (ps_for PassesOwn.never rfl (pi_range1 (by rfl) mr (pa_cons (pe_op op_add pe_int (pe_call GP hr (by rfl) Pu.g Pu.F.kp Pu.b .nil pass0 (pa_cons (pv 0) (pa_cons pe_int pa_nil)))) pa_nil)) (pg_name (i := 8) scFull.nd rfl (.inl rfl))
            (pss_cons (ps_set (i := 9) scFull.nd rfl (.inl rfl) (pe_tup (pa_cons (pv 6) (pa_cons (pv 7) (pa_cons (pe_call GD hr (by rfl) De.g De.F.kp De.b .nil pass0 (pa_cons (pv 0) pa_nil)) (pa_cons (pe_call GP hr (by rfl) Pu.g Pu.F.kp Pu.b .nil pass0 (pa_cons (pv 0) (pa_cons (pv 3) pa_nil))) pa_nil))))))
            (pss_one (ps_set (i := 5) scFull.nd rfl (.inl rfl) (pe_op op_cat (pv 5) (pe_op op_rep (pe_lst (pa_cons (pv 9) pa_nil)) (pe_callTy call_int1 (by rfl) mi (by decide +kernel) (pa_cons (pe_cmpR (op_notInD (room65 hr)) (pv 9) (pv 5) (by rfl)) pa_nil)))))))))))) 
      (pss_one (ps_ret (pe_tup (pa_cons (pv 3) (pa_cons (pv 4) (pa_cons (pv 5) (pa_cons (pe_call GR hr (by rfl) Ro.g Ro.F.kp Ro.b .nil pass0 (pa_cons (pv 0) (pa_cons (pv 3) pa_nil))) (pa_cons (pe_call GR hr (by rfl) Ro.g Ro.F.kp Ro.b .nil pass0 (pa_cons (pv 0) (pa_cons (pv 3) pa_nil))) pa_nil)))))))))), ?_⟩
    refine ⟨_, rfl, _, rfl, g, rm, rfl, by omega, Nat.lt_trans (show rm.natAbs < 2 ^ 64 by omega) (by decide), B, fun x H1 x0 x1 k1 B1 => ?_⟩
    refine ⟨_, _, rfl, rfl, _, rfl, _, rfl, g, lm, rfl, l1, by omega, B1, fun ls H2 hls hll hlow k2 B2 => ?_⟩
    have hl3 := letB_pos hls
    refine ⟨_, _, rfl, (by decide : 0 ≤ sizeLine), fun la nla => ?_⟩
    have B3 := B2.new (o := .lst []) nla
    have k3 : Keep g.b H _ := (k1.trans k2).trans (Keep.new (o := .lst []) nla)
    have h3 : upd H2 la (.lst []) la = some (.lst (rfs [])) := upd_same
    generalize upd H2 la (.lst []) = H3 at B3 k3 h3
    obtain ⟨m, em⟩ : ∃ m : Nat, 1 + x = (m : Int) := ⟨(1 + x).toNat, by omega⟩
    have A3 : Ars K H3 g (1 + x) ls la [] 0 := ⟨h3, (fun _ h => nomatch h), (fun _ h => nomatch h), .nil, Nat.le_refl _, B3⟩
    have nb : (1 + x).natAbs < 2 ^ 200 := Nat.lt_trans (show (1 + x).natAbs < 2 ^ 64 by omega) (by decide)
    have csz : (Sx ls).cps.size = ls.length := by show ls.toArray.size = _; simp
    refine ⟨_, rfl, 1 + x, rfl, by omega, by omega, for_range (lo := 0) (n := (1 + x).toNat) (fun i σ H' => ∃ (la : Addr) (ps : List AR) (y6 y7 y8 y9 : Option V), σ = [some (.ref g.b), some (.int rm), some (.int lm), some (.int (1 + x)), some (.str (Sx ls)), some (.ref la), y6, y7, y8, y9] ∧ Ars K H' g (1 + x) ls la ps (4 * i) ∧ (∀ z, cntL z ps ≤ 2 * i) ∧ Keep g.b H H')
      ⟨la, [], _, _, _, _, rfl, A3, (fun _ => Nat.le_refl _), k3⟩ ?_ ?_⟩
    · rintro i σ H4 hi ⟨la, ps, y6, y7, y8, y9, rfl, A4, c4, k4⟩
      refine ⟨_, rfl, Sx ls, rfl, for_it walk_str (fun j σ H' => ∃ (la : Addr) (ps : List AR) (y7 y8 y9 : Option V), σ = [some (.ref g.b), some (.int rm), some (.int lm), some (.int (1 + x)), some (.str (Sx ls)), some (.ref la), some (.int (0 + (i : Nat))), y7, y8, y9] ∧ Ars K H' g (1 + x) ls la ps (4 * i + 2 * j) ∧ (∀ z, cntL z ps ≤ bndJ ls i j z) ∧ Keep g.b H H')
        ⟨la, ps, _, _, _, rfl, A4, (fun z => by rw [bndJ_zero]; exact c4 z), k4⟩ (fun _ _ _ _ _ => True.intro) ?_ ?_⟩
      · rintro j v σ H5 H6 hj ⟨la, ps, y7, y8, y9, rfl, A5, c5, k5⟩ ⟨rfl, c, hc, rfl⟩
        have hc : ls[j]? = some c := by
          have : ls.toArray[j]? = some c := hc
          simpa using this
        have hcm := List.mem_of_getElem? hc
        have hj2 : j < 2 := by
          rw [csz] at hj
          omega
        refine ⟨_, rfl, g, 2, rfl, by decide, by decide, A5.bag, fun z H7 z0 z1 k7 B7 => ?_⟩
        refine ⟨1, z, rfl, rfl, 1 + z, rfl, by omega, by omega, for_range (lo := 0) (n := (1 + z).toNat) (fun u σ H' => ∃ (la : Addr) (ps : List AR) (y8 y9 : Option V), σ = [some (.ref g.b), some (.int rm), some (.int lm), some (.int (1 + x)), some (.str (Sx ls)), some (.ref la), some (.int (0 + (i : Nat))), some (.str (Sx [c])), y8, y9] ∧ Ars K H' g (1 + x) ls la ps (4 * i + 2 * j + u) ∧ (∀ z, cntL z ps ≤ bndU ls i j c u z) ∧ Keep g.b H H')
          ⟨la, ps, _, _, rfl, A5.keep k7 B7, (fun z => Nat.le_trans (c5 z) (bnd_in hls hc hj2 z)), k5.trans k7⟩ ?_ ?_⟩
        · rintro u σ H8 hu ⟨la, ps, y8, y9, rfl, A8, c8, k8⟩
          refine ⟨_, rfl, _, rfl, _, rfl, g, rfl, A8.bag, fun d H9 hd k9 B9 => ?_⟩
          refine ⟨_, rfl, _, rfl, g, 1 + x, rfl, by omega, nb, B9, fun y H10 yy0 yy1 k10 B10 => ?_⟩
          refine ⟨(by decide : 4 ≤ sizeLine), fun t nt => ?_⟩
          have A11 := ((A8.keep k9 B9).keep k10 B10).keep (Keep.new (o := .tup (aV (0 + (i : Nat), Sx [c], d, y))) nt) (B10.new nt)
          have ha : arrB (1 + x) ls (0 + (i : Nat), Sx [c], d, y) = true := by
            unfold arrB
            dsimp only
            rw [decide_eq_true (show (0 : Int) ≤ 0 + (i : Nat) by omega), decide_eq_true (show (0 : Int) + (i : Nat) < 1 + x by omega), decide_eq_true yy0, decide_eq_true yy1, decide_eq_true hd, show (ls.any fun c' => decide (Sx [c] = Sx [c'])) = true from List.any_eq_true.mpr ⟨c, hcm, decide_eq_true rfl⟩]
            rfl
          have kt : Keep g.b H (upd H10 t (.tup (aV (0 + (i : Nat), Sx [c], d, y)))) := ((k8.trans k9).trans k10).trans (Keep.new nt)
          refine ars_put (i := 5) (j := 9) (a := (0 + (i : Nat), Sx [c], d, y)) A11 hls (by omega) ha upd_same rfl rfl fun H12 p ps' s12 A12 hps => ?_
          exact ⟨p, ps', _, _, rfl, A12, (fun z => Nat.le_trans (cntL_put hps) (bnd_go (c8 z))), kt.trans (Keep.of s12)⟩
        · rintro σ H8 ⟨la, ps, y8, y9, rfl, A8, c8, k8⟩
          exact ⟨la, ps, _, _, _, rfl, A8.more (by omega), (fun z => Nat.le_trans (c8 z) (bnd_out hc (by omega) z)), k8⟩
      · rintro σ H5 ⟨la, ps, y7, y8, y9, rfl, A5, c5, k5⟩
        rw [csz] at A5
        exact ⟨la, ps, _, _, _, _, rfl, A5.more (by omega), (fun z => Nat.le_trans (c5 z) (bndJ_le ls i _ z)), k5⟩
    · rintro σ H5 ⟨la, ps, y6, y7, y8, y9, rfl, A5, c5, k5⟩
      refine ⟨_, rfl, _, rfl, _, rfl, _, rfl, _, rfl, g, 1 + x, rfl, by omega, by omega, A5.bag, fun fs lf H6 hf1 hf2 hf3 hf4 k6 B6 => ?_⟩
      refine ⟨_, rfl, _, rfl, g, 1 + x, rfl, by omega, by omega, B6, fun gs lg H7 hg1 hg2 hg3 hg4 k7 B7 => ?_⟩
      refine ⟨(by decide : 5 ≤ sizeLine), fun t nt => ?_⟩
      have s8 := same_upd (o := .tup [.int (1 + x), .str (Sx ls), .ref la, .ref lf, .ref lg]) nt
      have A7 := (A5.keep k6 B6).keep k7 B7
      have hln := A5.len
      refine q t ⟨1 + x, ls, ps.map (·.2), fs, gs⟩ _ ⟨(show 1 ≤ 1 + x by omega), (show 1 + x ≤ 8 by omega), hls, fun a ha => ?_, A5.nd, ?_, hf1, hf2, hg1, hg2, hf3, hg3⟩ (show 1 + x ≤ rm by omega) hll (fun z => ?_) ⟨la, lf, lg, ps, upd_same, s8 _ _ A7.at_, A7.row.same s8, rfl, s8 _ _ (k7 _ _ (B6.neInts hf4) hf4), s8 _ _ hg4⟩ (((k5.trans k6).trans k7).trans (Keep.of s8)) (B7.same s8)
      · obtain ⟨p', hp', rfl⟩ := List.mem_map.mp ha
        exact A5.ok p' hp'
      · rw [List.length_map]
        omega
      · show ((ps.map (·.2)).filter fun a : Arw => decide (a.2.1 = z)).length ≤ 10
        rw [List.filter_map, List.length_map]
        have h := c5 z
        unfold cntL at h
        exact Nat.le_trans h (by omega)
end
end Onp
set_option maxHeartbeats 8000000
set_option autoImplicit false
namespace Onp
open PySem PySem.Spec PyProof.Rows L2
abbrev sKnown : Stmt := topS 41
abbrev Lit : Type := Int × Nat × Str × Int
def arTA : List Lit → TA
  | [] => tNil
  | x :: r => tCons (tTup (tCons (tC (.int x.1)) (tCons (tVar x.2.1) (tCons (tC (.str x.2.2.1)) (tCons (tC (.int x.2.2.2)) tNil))))) (arTA r)
def litA (lv : Nat → Str) (x : Lit) : Arw := (x.1, lv x.2.1, x.2.2.1, x.2.2.2)
theorem arTA_ok {K : PySem.W.Frag} {lv : Nat → Str} {σ : L2.St} : ∀ (L : List Lit) (H : Hp) (Q : List V → Hp → Prop), (∀ x ∈ L, σ[x.2.1]? = some (some (.str (lv x.2.1)))) → (∀ ps H', Same H H' → RowAt K H' ps → ps.map (·.2) = L.map (litA lv) → Q (rfs ps) H') → arTA L σ H Q
  | [], H, Q, _, q => q [] H (fun _ _ h => h) (fun _ h => nomatch h) rfl
  | x :: r, H, Q, hv, q => by
    refine ⟨_, hv x List.mem_cons_self, (by decide : 4 ≤ sizeLine), fun t nt => ?_⟩
    have st := same_upd (o := .tup [V.int x.1, .str (lv x.2.1), .str x.2.2.1, .int x.2.2.2]) nt
    refine arTA_ok (K := K) r _ _ (fun y hy => hv y (List.mem_cons_of_mem _ hy)) fun ps H' s hR e => ?_
    refine q ((t, litA lv x) :: ps) H' (st.trans s) (fun p hp => ?_) (by rw [List.map_cons, List.map_cons, e])
    rcases List.mem_cons.mp hp with rfl | hp
    · exact SqT.of (s _ _ upd_same)
    · exact hR p hp
/-- a count of rooms with its arrows, which lie in the list at l -/
def EntL (K : PySem.W.Frag) (H : Hp) (e l : Addr) (n : Int) (as : List Arw) : Prop := ∃ ps : List AR, H e = some (.tup [.int n, .ref l]) ∧ H l = some (.lst (rfs ps)) ∧ RowAt K H ps ∧ ps.map (·.2) = as
theorem EntL.same {K : PySem.W.Frag} {H H' : Hp} {e l : Addr} {n : Int} {as : List Arw} (x : EntL K H e l n as) (s : Same H H') : EntL K H' e l n as := by
  obtain ⟨ps, h1, h2, h3, h4⟩ := x
  exact ⟨ps, s _ _ h1, s _ _ h2, h3.same s, h4⟩
theorem EntL.keep {K : PySem.W.Frag} {H H' : Hp} {e l : Addr} {n : Int} {as : List Arw} {g : Bid} (x : EntL K H e l n as) (B : Bg H g) (k : Keep g.b H H') : EntL K H' e l n as := by
  obtain ⟨ps, h1, h2, h3, h4⟩ := x
  exact ⟨ps, k _ _ (B.neTup h1) h1, k _ _ (B.neRfs h2) h2, B.keepRow k h3, h4⟩
theorem EntL.put {K : PySem.W.Frag} {H : Hp} {D e l : Addr} {n : Int} {as : List Arw} {xs ys : List V} (x : EntL K H e l n as) (h : H D = some (.lst xs)) (n2 : l ≠ D) : EntL K (upd H D (.lst ys)) e l n as := by
  obtain ⟨ps, h1, h2, h3, h4⟩ := x
  have n1 : e ≠ D := fun z => by rw [z, h] at h1; cases h1
  refine ⟨ps, by rw [upd_ne n1]; exact h1, by rw [upd_ne n2]; exact h2, fun p hp => ?_, h4⟩
  rcases h3 p hp with (h' | ⟨o, h'⟩) | h'
  · refine .inl (.inl ?_)
    have n3 : p.1 ≠ D := fun z => by rw [z, h] at h'; cases h'
    show upd H D (.lst ys) p.1 = _
    rw [upd_ne n3]
    exact h'
  · refine .inl (.inr ⟨o, ?_⟩)
    have n3 : p.1 ≠ D := fun z => by rw [z, h] at h'; cases h'
    show upd H D (.lst ys) p.1 = _
    rw [upd_ne n3]
    exact h'
  · exact .inr h'
theorem ent_ok {K : PySem.W.Frag} {lv : Nat → Str} {σ : L2.St} (n : Int) (L : List Lit) (hl : L.length ≤ 100) (H : Hp) (Q : VK) (hv : ∀ x ∈ L, σ[x.2.1]? = some (some (.str (lv x.2.1)))) (q : ∀ e l H', Same H H' → H l = none → EntL K H' e l n (L.map (litA lv)) → Q (.ref e) H') :
    tTup (tCons (tC (.int n)) (tCons (tLst (arTA L)) tNil)) σ H Q := by
  refine arTA_ok (K := K) L H _ hv fun ps H1 s1 hR e => ?_
  have hlen : (rfs ps).length ≤ 100 := by
    have := congrArg List.length e
    rw [List.length_map, List.length_map] at this
    unfold rfs
    rw [List.length_map]
    omega
  refine ⟨Nat.le_trans hlen (by decide), fun l nl => ⟨(by decide : 2 ≤ sizeLine), fun t nt => ?_⟩⟩
  have s2 := same_upd (o := .lst (rfs ps)) nl
  have s3 := same_upd (o := .tup [V.int n, .ref l]) nt
  exact q t l _ (s1.trans (s2.trans s3)) (s1.free nl) ⟨ps, upd_same, s3 _ _ upd_same, hR.same (s2.trans s3), e⟩
def tEnt (K : PySem.W.Frag) (n : Int) (L : List Lit) : TE := fun σ H Q => ∃ lv : Nat → Str, (∀ x ∈ L, σ[x.2.1]? = some (some (.str (lv x.2.1)))) ∧ ∀ e l H', Same H H' → H l = none → EntL K H' e l n (L.map (litA lv)) → Q (.ref e) H'
theorem pe_ent {X : Cx} {e : Expr} {K : PySem.W.Frag} {n : Int} {L : List Lit} (hl : L.length ≤ 100) (h : PE X e (tTup (tCons (tC (.int n)) (tCons (tLst (arTA L)) tNil)))) : PE X e (tEnt K n L) := by
  refine ⟨fun pins s σ H Q I hq => ?_⟩
  obtain ⟨lv, hv, q⟩ := hq
  exact h.run pins s σ H Q I (ent_ok (K := K) (lv := lv) n L hl H Q hv q)
/-- arrows of a machine of n rooms -/
def Good (n : Int) (ls : List Nat) (as : List Arw) : Prop := (1 ≤ n ∧ n ≤ 3) ∧ (∀ a ∈ as, arrB n ls a = true) ∧ as.Nodup ∧ as.length ≤ 10
def litB (n : Int) (x : Lit) : Bool := decide (0 ≤ x.1) && decide (x.1 < n) && (decide (0 ≤ x.2.2.2) && decide (x.2.2.2 < n)) && decide (x.2.2.1 ∈ deedsL)
theorem good_of {n : Int} {ls : List Nat} {lv : Nat → Str} {L : List Lit} (hn : 1 ≤ n ∧ n ≤ 3) (hlv : ∀ x ∈ L, ∃ c ∈ ls, lv x.2.1 = Sx [c]) (hb : L.all (litB n) = true) (hnd : (L.map fun x : Lit => (x.1, x.2.2.1, x.2.2.2)).Nodup) (hl : L.length ≤ 10) : Good n ls (L.map (litA lv)) := by
  refine ⟨hn, fun a ha => ?_, ?_, by rw [List.length_map]; exact hl⟩
  · obtain ⟨x, hx, rfl⟩ := List.mem_map.mp ha
    have b := List.all_eq_true.mp hb x hx
    unfold litB at b
    simp only [Bool.and_eq_true] at b
    obtain ⟨c, hc, e⟩ := hlv x hx
    unfold arrB litA
    dsimp only
    rw [b.1.1.1, b.1.1.2, b.1.2.1, b.1.2.2, b.2, show (ls.any fun c' => decide (lv x.2.1 = Sx [c'])) = true from List.any_eq_true.mpr ⟨c, hc, decide_eq_true e⟩]
    rfl
  · have h2 : ((L.map (litA lv)).map fun a : Arw => (a.1, a.2.2.1, a.2.2.2)).Nodup := by
      rw [List.map_map]
      exact hnd
    exact List.Pairwise.of_map (fun a : Arw => (a.1, a.2.2.1, a.2.2.2)) (fun a b h e => h (by rw [e])) h2
def AllEnt (K : PySem.W.Frag) (H : Hp) (ls : List Nat) (so : Addr) (xs : List V) : Prop := ∀ x ∈ xs, ∃ (e l : Addr) (n : Int) (as : List Arw), x = .ref e ∧ l ≠ so ∧ EntL K H e l n as ∧ Good n ls as
theorem AllEnt.more {K : PySem.W.Frag} {H H' : Hp} {ls : List Nat} {so e l : Addr} {xs : List V} {n : Int} {as : List Arw} (x : AllEnt K H ls so xs) (h : H so = some (.lst xs)) (s : Same H H') (nl : H l = none) (y : EntL K H' e l n as) (gd : Good n ls as) : AllEnt K (upd H' so (.lst (xs ++ [.ref e]))) ls so (xs ++ [.ref e]) := fun v hv => by
  have h' := s _ _ h
  rcases List.mem_append.mp hv with hv | hv
  · obtain ⟨e2, l2, n2, as2, h1, h2, h3, h4⟩ := x v hv
    exact ⟨e2, l2, n2, as2, h1, h2, (h3.same s).put h' h2, h4⟩
  · have nls : l ≠ so := (ne_of_none h nl).symm
    exact ⟨e, l, n, as, List.mem_singleton.mp hv, nls, y.put h' nls, gd⟩
theorem AllEnt.keep {K : PySem.W.Frag} {H H' : Hp} {ls : List Nat} {so : Addr} {xs : List V} {g : Bid} (x : AllEnt K H ls so xs) (B : Bg H g) (k : Keep g.b H H') : AllEnt K H' ls so xs := fun v hv => by
  obtain ⟨e2, l2, n2, as2, h1, h2, h3, h4⟩ := x v hv
  exact ⟨e2, l2, n2, as2, h1, h2, h3.keep B k, h4⟩
theorem letB_z {c : Nat} (h : letB [c] = true) (hc : c < 122) : letB [c, 122] = true := by
  have a := letB_small h c List.mem_cons_self
  unfold letB risB smaB
  simp only [List.drop, List.zip, List.zipWith, List.all_cons, List.all_nil, Bool.and_true, Bool.and_eq_true, decide_eq_true_eq]
  exact ⟨hc, ⟨a, by decide +kernel⟩, Nat.succ_le_succ (Nat.zero_le _), Nat.le_succ _⟩
section
variable {P : Program} {w : World} {K : PySem.W.Frag} {mg : Str → Option Value} {base : Heap}
def NKn : List Str := ["_law_bag_here", "_law_letters_here", "_law_a", "_law_b", "_law_some", "_law_rooms", "_law_arrows"]
theorem scKnown : FnScope NKn ["_law_bag_here"] (defScope sKnown) := ⟨rfl, rfl, rfl, by decide +kernel, rfl, by decide +kernel, by decide +kernel⟩
def spKnown (K : PySem.W.Frag) : Sp := fun vs H Q _ => ∃ g : Bid, vs = [.ref g.b] ∧ Bg H g ∧ ∀ (t : Addr) (M : AM) H', M.ok → M.n ≤ 3 → M.ls.length = 2 → M.as.length ≤ 10 → DrawnAt K H' t M → Keep g.b H H' → Bg H' g → Q (.ref t) H'
theorem ok_known {f fP fO fL fR : Addr} {fd fdP fdO fdL fdR : FuncData} {k : Nat} (F : Fun K "_law_known" "_law_known" sKnown f fd) (Pu : FnM K mg fP fdP "_law_pull" sPull ["_law_bag_here", "_law_many"]) (O : FnM K mg fO fdO "_law_of" sOf ["_law_bag_here", "_law_some"])
    (Le : FnM K mg fL fdL "_law_letters" sLett ["_law_bag_here", "_law_most"]) (Ro : FnM K mg fR fdR "_law_rooms_some" sRooms ["_law_bag_here", "_law_rooms"]) (ml : mg "len" = none) (mr : mg "range" = none) (mli : mg "list" = none) : FnOk P w K mg base CX0 (k + 4) f fd ["_law_bag_here"] (spKnown K) := by
  have GO : FnOk P w K mg base CX0 (k + 3) fO fdO ["_law_bag_here", "_law_some"] (spOf K) := ok_of O.F Pu.F Pu.b Pu.g ml
  have GL : FnOk P w K mg base CX0 (k + 3) fL fdL ["_law_bag_here", "_law_most"] spLett := ok_lett Le.F Pu ml mr
  have GR : FnOk P w K mg base CX0 (k + 3) fR fdR ["_law_bag_here", "_law_rooms"] spRooms := ok_rooms Ro.F Pu ml mr
  refine F.ok scKnown (fun vs H Q E h => ?_) (fun cdv A outer s H vs Q E hr h => ?_)
  · obtain ⟨g, rfl, _⟩ := h
    rfl
  · obtain ⟨g, rfl, B, q⟩ := h
    refine ⟨_, pss_cons (ps_set (i := 1) scKnown.nd rfl (.inl rfl) (pe_op op_add_str (pe_call GL hr (by rfl) Le.g Le.F.kp Le.b .nil pass0 (pa_cons (pv 0) (pa_cons pe_int pa_nil))) pe_str))
      (pss_cons (ps_par (i := 2) (j := 3) rfl scKnown.nd rfl rfl (by decide) rfl rfl (pa_cons (pe_ix ix_str (pv 1) pe_int (fun _ _ => rfl)) (pa_cons pe_str pa_nil)) rfl)
      (pss_cons (ps_set (i := 4) scKnown.nd rfl (.inl rfl) (pe_lst (pa_cons (pe_ent (K := K) (n := 1) (L := [(0, 2, "cent", 0), (0, 3, "fill", 0)]) (by decide) (pe_tup (pa_cons pe_int (pa_cons (pe_lst (pa_cons (pe_tup (pa_cons pe_int (pa_cons (pv 2) (pa_cons pe_str (pa_cons pe_int pa_nil))))) (pa_cons (pe_tup (pa_cons pe_int (pa_cons (pv 3) (pa_cons pe_str (pa_cons pe_int pa_nil))))) pa_nil))) pa_nil)))) pa_nil)))
      (pss_cons (ps_expr (pe_bm PySem.F.plainAttrs_list PySem.F.slot_list_append PySem.F.type_list_append mt_append (pv 4) (pa_cons (pe_ent (K := K) (n := 1) (L := [(0, 2, "cent", 0), (0, 3, "coin", 0)]) (by decide) (pe_tup (pa_cons pe_int (pa_cons (pe_lst (pa_cons (pe_tup (pa_cons pe_int (pa_cons (pv 2) (pa_cons pe_str (pa_cons pe_int pa_nil))))) (pa_cons (pe_tup (pa_cons pe_int (pa_cons (pv 3) (pa_cons pe_str (pa_cons pe_int pa_nil))))) pa_nil))) pa_nil)))) pa_nil)))
      (pss_cons (ps_expr (pe_bm PySem.F.plainAttrs_list PySem.F.slot_list_append PySem.F.type_list_append mt_append (pv 4) (pa_cons (pe_ent (K := K) (n := 2) (L := [(0, 2, "cent", 0), (0, 3, "keep", 0), (0, 2, "keep", 1), (0, 3, "cent", 1), (1, 2, "cent", 1)]) (by decide) (pe_tup (pa_cons pe_int (pa_cons (pe_lst (pa_cons (pe_tup (pa_cons pe_int (pa_cons (pv 2) (pa_cons pe_str (pa_cons pe_int pa_nil))))) (pa_cons (pe_tup (pa_cons pe_int (pa_cons (pv 3) (pa_cons pe_str (pa_cons pe_int pa_nil))))) (pa_cons (pe_tup (pa_cons pe_int (pa_cons (pv 2) (pa_cons pe_str (pa_cons pe_int pa_nil))))) (pa_cons (pe_tup (pa_cons pe_int (pa_cons (pv 3) (pa_cons pe_str (pa_cons pe_int pa_nil))))) (pa_cons (pe_tup (pa_cons pe_int (pa_cons (pv 2) (pa_cons pe_str (pa_cons pe_int pa_nil))))) pa_nil)))))) pa_nil)))) pa_nil)))
      (pss_cons (ps_expr (pe_bm PySem.F.plainAttrs_list PySem.F.slot_list_append PySem.F.type_list_append mt_append (pv 4) (pa_cons (pe_ent (K := K) (n := 2) (L := [(0, 2, "cent", 0), (0, 3, "keep", 0), (0, 3, "keep", 1), (1, 2, "keep", 1), (1, 3, "cent", 1)]) (by decide) (pe_tup (pa_cons pe_int (pa_cons (pe_lst (pa_cons (pe_tup (pa_cons pe_int (pa_cons (pv 2) (pa_cons pe_str (pa_cons pe_int pa_nil))))) (pa_cons (pe_tup (pa_cons pe_int (pa_cons (pv 3) (pa_cons pe_str (pa_cons pe_int pa_nil))))) (pa_cons (pe_tup (pa_cons pe_int (pa_cons (pv 3) (pa_cons pe_str (pa_cons pe_int pa_nil))))) (pa_cons (pe_tup (pa_cons pe_int (pa_cons (pv 2) (pa_cons pe_str (pa_cons pe_int pa_nil))))) (pa_cons (pe_tup (pa_cons pe_int (pa_cons (pv 3) (pa_cons pe_str (pa_cons pe_int pa_nil))))) pa_nil)))))) pa_nil)))) pa_nil)))
      (pss_cons (ps_expr (pe_bm PySem.F.plainAttrs_list PySem.F.slot_list_append PySem.F.type_list_append mt_append (pv 4) (pa_cons (pe_ent (K := K) (n := 2) (L := [(0, 2, "cent", 0), (0, 3, "coin", 1), (1, 2, "cent", 1), (1, 3, "brim", 0)]) (by decide) (pe_tup (pa_cons pe_int (pa_cons (pe_lst (pa_cons (pe_tup (pa_cons pe_int (pa_cons (pv 2) (pa_cons pe_str (pa_cons pe_int pa_nil))))) (pa_cons (pe_tup (pa_cons pe_int (pa_cons (pv 3) (pa_cons pe_str (pa_cons pe_int pa_nil))))) (pa_cons (pe_tup (pa_cons pe_int (pa_cons (pv 2) (pa_cons pe_str (pa_cons pe_int pa_nil))))) (pa_cons (pe_tup (pa_cons pe_int (pa_cons (pv 3) (pa_cons pe_str (pa_cons pe_int pa_nil))))) pa_nil))))) pa_nil)))) pa_nil)))
      (pss_cons (ps_expr (pe_bm PySem.F.plainAttrs_list PySem.F.slot_list_append PySem.F.type_list_append mt_append (pv 4) (pa_cons (pe_ent (K := K) (n := 2) (L := [(0, 2, "keep", 0), (0, 3, "cent", 1), (1, 2, "keep", 1), (1, 3, "cent", 0), (1, 2, "fill", 0)]) (by decide) (pe_tup (pa_cons pe_int (pa_cons (pe_lst (pa_cons (pe_tup (pa_cons pe_int (pa_cons (pv 2) (pa_cons pe_str (pa_cons pe_int pa_nil))))) (pa_cons (pe_tup (pa_cons pe_int (pa_cons (pv 3) (pa_cons pe_str (pa_cons pe_int pa_nil))))) (pa_cons (pe_tup (pa_cons pe_int (pa_cons (pv 2) (pa_cons pe_str (pa_cons pe_int pa_nil))))) (pa_cons (pe_tup (pa_cons pe_int (pa_cons (pv 3) (pa_cons pe_str (pa_cons pe_int pa_nil))))) (pa_cons (pe_tup (pa_cons pe_int (pa_cons (pv 2) (pa_cons pe_str (pa_cons pe_int pa_nil))))) pa_nil)))))) pa_nil)))) pa_nil)))
      (pss_cons (ps_expr (pe_bm PySem.F.plainAttrs_list PySem.F.slot_list_append PySem.F.type_list_append mt_append (pv 4) (pa_cons (pe_ent (K := K) (n := 3) (L := [(0, 2, "coin", 1), (1, 2, "coin", 2), (2, 2, "brim", 0), (0, 3, "cent", 0), (2, 3, "keep", 1)]) (by decide) (pe_tup (pa_cons pe_int (pa_cons (pe_lst (pa_cons (pe_tup (pa_cons pe_int (pa_cons (pv 2) (pa_cons pe_str (pa_cons pe_int pa_nil))))) (pa_cons (pe_tup (pa_cons pe_int (pa_cons (pv 2) (pa_cons pe_str (pa_cons pe_int pa_nil))))) (pa_cons (pe_tup (pa_cons pe_int (pa_cons (pv 2) (pa_cons pe_str (pa_cons pe_int pa_nil))))) (pa_cons (pe_tup (pa_cons pe_int (pa_cons (pv 3) (pa_cons pe_str (pa_cons pe_int pa_nil))))) (pa_cons (pe_tup (pa_cons pe_int (pa_cons (pv 3) (pa_cons pe_str (pa_cons pe_int pa_nil))))) pa_nil)))))) pa_nil)))) pa_nil)))
      (pss_cons (ps_asg (pe_call GO hr (by rfl) O.g O.F.kp O.b .nil pass0 (pa_cons (pv 0) (pa_cons (pv 4) pa_nil))) (pg_tup (n := 2) rfl (pgs_cons (pg_name (i := 5) scKnown.nd rfl (.inl rfl)) (pgs_cons (pg_name (i := 6) scKnown.nd rfl (.inl rfl)) pgs_nil))))
      (pss_one (ps_ret (pe_tup (pa_cons (pv 5) (pa_cons (pv 1) (pa_cons (pv 6) (pa_cons (pe_call GR hr (by rfl) Ro.g Ro.F.kp Ro.b .nil pass0 (pa_cons (pv 0) (pa_cons (pv 5) pa_nil))) (pa_cons (pe_listRg rfl (by rfl) mli (prg_1 (by rfl) mr (pv 5))) pa_nil))))))))))))))))), ?_⟩
    refine ⟨_, rfl, g, 1, rfl, by decide, by decide, B, fun ls H1 hls hll hlow k1 B1 => ?_⟩
    obtain ⟨c, rfl⟩ : ∃ c, ls = [c] := by
      have h1 := letB_pos hls
      match ls, h1, hll with
      | [c], _, _ => exact ⟨c, rfl⟩
    have hc : c < 122 := hlow c (by simp)
    have hz : letB [c, 122] = true := letB_z hls hc
    have ez : Sx [c] ++ "z" = Sx [c, 122] := by
      rw [show ("z" : Str) = Sx [122] from by decide +kernel, sx_app]
      rfl
    refine ⟨_, _, rfl, rfl, (by decide : 1 + 1 ≤ sizeLine), ?_⟩
    rw [ez]
    refine ⟨_, rfl, Sx [c, 122], 0, c, rfl, rfl, (by decide : 2 ≤ sizeLine), rfl, ?_⟩
    refine ⟨_, _, rfl, ?_⟩
    obtain ⟨lv, hlv2, hlv3⟩ : ∃ lv : Nat → Str, lv 2 = Sx [c] ∧ lv 3 = "z" := ⟨fun i => if i = 2 then Sx [c] else "z", rfl, rfl⟩
    have hz3 : ("z" : Str) = Sx [122] := by decide +kernel
    have lvOk : ∀ {L : List Lit}, (L.all fun x => decide (x.2.1 = 2 ∨ x.2.1 = 3)) = true → ∀ x ∈ L, ∃ c' ∈ [c, 122], lv x.2.1 = Sx [c'] := fun {L} h x hx => by
      rcases of_decide_eq_true (List.all_eq_true.mp h x hx) with e | e
      · exact ⟨c, by simp, by rw [e, hlv2]⟩
      · exact ⟨122, by simp, by rw [e, hlv3, hz3]⟩
    have vOk : ∀ {L : List Lit} {y4 y5 y6 : Option V}, (L.all fun x => decide (x.2.1 = 2 ∨ x.2.1 = 3)) = true → ∀ x ∈ L, ([some (.ref g.b), some (.str (Sx [c, 122])), some (.str (Sx [c])), some (.str "z"), y4, y5, y6] : L2.St)[x.2.1]? = some (some (.str (lv x.2.1))) := fun {L y4 y5 y6} h x hx => by
      rcases of_decide_eq_true (List.all_eq_true.mp h x hx) with e | e
      · rw [e, hlv2]
        rfl
      · rw [e, hlv3]
        rfl
    refine ⟨lv, vOk (by decide), fun e0 l0 H2 s2 nl0 en0 => ?_⟩
    refine ⟨(by decide : 1 ≤ sizeLine), fun so nso => ?_⟩
    have B2 := B1.same s2
    have k2 : Keep g.b H H2 := k1.trans (Keep.of s2)
    have nsb := B2.ne nso
    have nsl := B2.neL nso
    have kput : ∀ {H' : Hp} {o : HO}, Keep g.b H H' → Keep g.b H (upd H' so o) := fun {H' o} kk a o' na e => by
      rw [upd_ne (ne_of_none (k2 a o' na e) nso)]
      exact kk a o' na e
    have nl0s : l0 ≠ so := by
      obtain ⟨ps, _, h2, _⟩ := en0
      exact ne_of_none h2 nso
    have st0 := same_upd (o := .lst [V.ref e0]) nso
    have h_0 : (upd H2 so (.lst [V.ref e0])) so = some (.lst [V.ref e0]) := upd_same
    have al_0 : AllEnt K (upd H2 so (.lst [V.ref e0])) [c, 122] so [V.ref e0] := fun v hv => ⟨e0, l0, 1, _, List.mem_singleton.mp hv, nl0s, en0.same st0, good_of (by decide) (lvOk (by decide)) (by decide +kernel) (by decide +kernel) (by decide)⟩
    have B_0 := B2.same st0
    have k_0 : Keep g.b H (upd H2 so (.lst [V.ref e0])) := kput k2
    have len_0 : [V.ref e0].length ≤ 1 := Nat.le_refl _
    generalize upd H2 so (.lst [V.ref e0]) = G_0 at h_0 al_0 B_0 k_0
    generalize [V.ref e0] = xs_0 at h_0 al_0 len_0
    refine ⟨_, rfl, .inl ⟨rfl, _, SqL.of h_0⟩, lv, vOk (by decide), fun e1 l1 H_1 s_1 nl_1 en_1 => ?_⟩
    have hs_1 := s_1 _ _ h_0
    refine ⟨so, xs_0, .ref e1, rfl, rfl, hs_1, Nat.lt_of_le_of_lt len_0 (by decide), ?_⟩
    have h_1 : (upd H_1 so (.lst (xs_0 ++ [.ref e1]))) so = some (.lst (xs_0 ++ [.ref e1])) := upd_same
    have al_1 := AllEnt.more al_0 h_0 s_1 nl_1 en_1 (good_of (by decide) (lvOk (by decide)) (by decide +kernel) (by decide +kernel) (by decide))
    have B_1 := (B_0.same s_1).put (o := .lst (xs_0 ++ [.ref e1])) nsb nsl
    have k_1 : Keep g.b H (upd H_1 so (.lst (xs_0 ++ [.ref e1]))) := kput (k_0.trans (Keep.of s_1))
    have len_1 : (xs_0 ++ [V.ref e1]).length ≤ 2 := by rw [List.length_append]; exact Nat.succ_le_succ len_0
    generalize upd H_1 so (.lst (xs_0 ++ [.ref e1])) = G_1 at h_1 al_1 B_1 k_1
    generalize xs_0 ++ [V.ref e1] = xs_1 at h_1 al_1 len_1
    refine ⟨_, rfl, .inl ⟨rfl, _, SqL.of h_1⟩, lv, vOk (by decide), fun e2 l2 H_2 s_2 nl_2 en_2 => ?_⟩
    have hs_2 := s_2 _ _ h_1
    refine ⟨so, xs_1, .ref e2, rfl, rfl, hs_2, Nat.lt_of_le_of_lt len_1 (by decide), ?_⟩
    have h_2 : (upd H_2 so (.lst (xs_1 ++ [.ref e2]))) so = some (.lst (xs_1 ++ [.ref e2])) := upd_same
    have al_2 := AllEnt.more al_1 h_1 s_2 nl_2 en_2 (good_of (by decide) (lvOk (by decide)) (by decide +kernel) (by decide +kernel) (by decide))
    have B_2 := (B_1.same s_2).put (o := .lst (xs_1 ++ [.ref e2])) nsb nsl
    have k_2 : Keep g.b H (upd H_2 so (.lst (xs_1 ++ [.ref e2]))) := kput (k_1.trans (Keep.of s_2))
    have len_2 : (xs_1 ++ [V.ref e2]).length ≤ 3 := by rw [List.length_append]; exact Nat.succ_le_succ len_1
    generalize upd H_2 so (.lst (xs_1 ++ [.ref e2])) = G_2 at h_2 al_2 B_2 k_2
    generalize xs_1 ++ [V.ref e2] = xs_2 at h_2 al_2 len_2
    refine ⟨_, rfl, .inl ⟨rfl, _, SqL.of h_2⟩, lv, vOk (by decide), fun e3 l3 H_3 s_3 nl_3 en_3 => ?_⟩
    have hs_3 := s_3 _ _ h_2
    refine ⟨so, xs_2, .ref e3, rfl, rfl, hs_3, Nat.lt_of_le_of_lt len_2 (by decide), ?_⟩
    have h_3 : (upd H_3 so (.lst (xs_2 ++ [.ref e3]))) so = some (.lst (xs_2 ++ [.ref e3])) := upd_same
    have al_3 := AllEnt.more al_2 h_2 s_3 nl_3 en_3 (good_of (by decide) (lvOk (by decide)) (by decide +kernel) (by decide +kernel) (by decide))
    have B_3 := (B_2.same s_3).put (o := .lst (xs_2 ++ [.ref e3])) nsb nsl
    have k_3 : Keep g.b H (upd H_3 so (.lst (xs_2 ++ [.ref e3]))) := kput (k_2.trans (Keep.of s_3))
    have len_3 : (xs_2 ++ [V.ref e3]).length ≤ 4 := by rw [List.length_append]; exact Nat.succ_le_succ len_2
    generalize upd H_3 so (.lst (xs_2 ++ [.ref e3])) = G_3 at h_3 al_3 B_3 k_3
    generalize xs_2 ++ [V.ref e3] = xs_3 at h_3 al_3 len_3
    refine ⟨_, rfl, .inl ⟨rfl, _, SqL.of h_3⟩, lv, vOk (by decide), fun e4 l4 H_4 s_4 nl_4 en_4 => ?_⟩
    have hs_4 := s_4 _ _ h_3
    refine ⟨so, xs_3, .ref e4, rfl, rfl, hs_4, Nat.lt_of_le_of_lt len_3 (by decide), ?_⟩
    have h_4 : (upd H_4 so (.lst (xs_3 ++ [.ref e4]))) so = some (.lst (xs_3 ++ [.ref e4])) := upd_same
    have al_4 := AllEnt.more al_3 h_3 s_4 nl_4 en_4 (good_of (by decide) (lvOk (by decide)) (by decide +kernel) (by decide +kernel) (by decide))
    have B_4 := (B_3.same s_4).put (o := .lst (xs_3 ++ [.ref e4])) nsb nsl
    have k_4 : Keep g.b H (upd H_4 so (.lst (xs_3 ++ [.ref e4]))) := kput (k_3.trans (Keep.of s_4))
    have len_4 : (xs_3 ++ [V.ref e4]).length ≤ 5 := by rw [List.length_append]; exact Nat.succ_le_succ len_3
    generalize upd H_4 so (.lst (xs_3 ++ [.ref e4])) = G_4 at h_4 al_4 B_4 k_4
    generalize xs_3 ++ [V.ref e4] = xs_4 at h_4 al_4 len_4
    refine ⟨_, rfl, .inl ⟨rfl, _, SqL.of h_4⟩, lv, vOk (by decide), fun e5 l5 H_5 s_5 nl_5 en_5 => ?_⟩
    have hs_5 := s_5 _ _ h_4
    refine ⟨so, xs_4, .ref e5, rfl, rfl, hs_5, Nat.lt_of_le_of_lt len_4 (by decide), ?_⟩
    have h_5 : (upd H_5 so (.lst (xs_4 ++ [.ref e5]))) so = some (.lst (xs_4 ++ [.ref e5])) := upd_same
    have al_5 := AllEnt.more al_4 h_4 s_5 nl_5 en_5 (good_of (by decide) (lvOk (by decide)) (by decide +kernel) (by decide +kernel) (by decide))
    have B_5 := (B_4.same s_5).put (o := .lst (xs_4 ++ [.ref e5])) nsb nsl
    have k_5 : Keep g.b H (upd H_5 so (.lst (xs_4 ++ [.ref e5]))) := kput (k_4.trans (Keep.of s_5))
    have len_5 : (xs_4 ++ [V.ref e5]).length ≤ 6 := by rw [List.length_append]; exact Nat.succ_le_succ len_4
    generalize upd H_5 so (.lst (xs_4 ++ [.ref e5])) = G_5 at h_5 al_5 B_5 k_5
    generalize xs_4 ++ [V.ref e5] = xs_5 at h_5 al_5 len_5
    refine ⟨_, rfl, .inl ⟨rfl, _, SqL.of h_5⟩, lv, vOk (by decide), fun e6 l6 H_6 s_6 nl_6 en_6 => ?_⟩
    have hs_6 := s_6 _ _ h_5
    refine ⟨so, xs_5, .ref e6, rfl, rfl, hs_6, Nat.lt_of_le_of_lt len_5 (by decide), ?_⟩
    have h_6 : (upd H_6 so (.lst (xs_5 ++ [.ref e6]))) so = some (.lst (xs_5 ++ [.ref e6])) := upd_same
    have al_6 := AllEnt.more al_5 h_5 s_6 nl_6 en_6 (good_of (by decide) (lvOk (by decide)) (by decide +kernel) (by decide +kernel) (by decide))
    have B_6 := (B_5.same s_6).put (o := .lst (xs_5 ++ [.ref e6])) nsb nsl
    have k_6 : Keep g.b H (upd H_6 so (.lst (xs_5 ++ [.ref e6]))) := kput (k_5.trans (Keep.of s_6))
    have len_6 : (xs_5 ++ [V.ref e6]).length ≤ 7 := by rw [List.length_append]; exact Nat.succ_le_succ len_5
    generalize upd H_6 so (.lst (xs_5 ++ [.ref e6])) = G_6 at h_6 al_6 B_6 k_6
    have pos_6 : 0 < (xs_5 ++ [V.ref e6]).length := by rw [List.length_append]; exact Nat.succ_pos _
    generalize xs_5 ++ [V.ref e6] = xs_6 at h_6 al_6 len_6 pos_6
    refine ⟨_, rfl, _, rfl, g, so, xs_6, rfl, B_6, nsb, SqL.of h_6, pos_6, Nat.lt_of_le_of_lt len_6 (by decide), fun v H7 hv k7 B7 => ?_⟩
    obtain ⟨e, l, n, as, rfl, _, ⟨ps, h1, h2, h3, h4⟩, ⟨gn, ga, gd, gl⟩⟩ := (al_6.keep B_6 k7) v hv
    refine ⟨e, _, rfl, SqT.of h1, rfl, _, _, rfl, _, _, rfl, rfl, ?_⟩
    refine ⟨_, rfl, _, rfl, _, rfl, _, rfl, _, rfl, g, n, rfl, gn.1, by omega, B7, fun fs lf H8 hf1 hf2 hf3 hf4 k8 B8 => ?_⟩
    refine ⟨_, rfl, n, rfl, RgOk.of_le (by omega) (by omega) (by omega) (by omega), fun lg nlg => ?_⟩
    have s9 := same_upd (o := .lst (rgV 0 n)) nlg
    have eg : rgV 0 n = ((List.range n.toNat).map fun i : Nat => (0 : Int) + i).map V.int := by
      unfold rgV
      rw [List.map_map, Int.sub_zero]
      rfl
    refine ⟨(by decide : 5 ≤ sizeLine), fun t nt => ?_⟩
    have s10 := same_upd (o := .tup [.int n, .str (Sx [c, 122]), .ref l, .ref lf, .ref lg]) nt
    have s910 := s9.trans s10
    have hlg : (upd H8 lg (.lst (rgV 0 n))) lg = some (.lst (((List.range n.toNat).map fun i : Nat => (0 : Int) + i).map V.int)) := by rw [upd_same, eg]
    refine q t ⟨n, [c, 122], as, fs, (List.range n.toNat).map fun i : Nat => (0 : Int) + i⟩ _ ⟨gn.1, (show n ≤ 8 by omega), hz, ga, gd, Nat.le_trans gl (by decide), hf1, hf2, fun r hr' => ?_, ?_, hf3, ?_⟩ gn.2 rfl gl ⟨l, lf, lg, ps, upd_same, s910 _ _ (k8 _ _ (B7.neRfs h2) h2), (B7.keepRow k8 h3).same s910, h4, s910 _ _ hf4, s10 _ _ hlg⟩ ((k_6.trans (k7.trans k8)).trans (Keep.of s910)) (B8.same s910)
    · obtain ⟨i, hi, rfl⟩ := List.mem_map.mp hr'
      have hi := List.mem_range.mp hi
      unfold rooB
      rw [Bool.and_eq_true, decide_eq_true_eq, decide_eq_true_eq]
      show (0 : Int) ≤ 0 + (i : Nat) ∧ (0 : Int) + (i : Nat) < n
      omega
    · refine List.Pairwise.map _ (fun a b h e => h (by omega)) List.nodup_range
    · show ((List.range n.toNat).map fun i : Nat => (0 : Int) + i).length ≤ 100
      rw [List.length_map, List.length_range]
      omega
end
end Onp
set_option maxHeartbeats 8000000
set_option autoImplicit false
namespace Onp
open PySem PySem.Spec PyProof.Rows L2
abbrev sMachL : Stmt := topS 42
section
variable {P : Program} {w : World} {K : PySem.W.Frag} {mg : Str → Option Value} {base : Heap}
theorem scMachL : FnScope ["_law_bag_here", "_law_way_z"] ["_law_bag_here"] (defScope sMachL) := ⟨rfl, rfl, rfl, by decide +kernel, rfl, by decide +kernel, by decide +kernel⟩
def spMachL (K : PySem.W.Frag) : Sp := fun vs H Q _ => ∃ g : Bid, vs = [.ref g.b] ∧ Bg H g ∧ ∀ (t : Addr) (M : AM) H', M.ok → M.n ≤ 4 → few M.as → DrawnAt K H' t M → Keep g.b H H' → Bg H' g → Q (.ref t) H'
theorem ok_machL {f fP fO fD fL fR fA fDr fFu fKn : Addr} {fd fdP fdO fdD fdL fdR fdA fdDr fdFu fdKn : FuncData} {k : Nat} (F : Fun K "_law_machine" "_law_machine" sMachL f fd) (Pu : FnM K mg fP fdP "_law_pull" sPull ["_law_bag_here", "_law_many"]) (O : FnM K mg fO fdO "_law_of" sOf ["_law_bag_here", "_law_some"]) (De : FnM K mg fD fdD "_law_deed" sDeed ["_law_bag_here"])
    (Le : FnM K mg fL fdL "_law_letters" sLett ["_law_bag_here", "_law_most"]) (Ro : FnM K mg fR fdR "_law_rooms_some" sRooms ["_law_bag_here", "_law_rooms"]) (Ar : FnM K mg fA fdA "_law_arrow" sArrow ["_law_bag_here", "_law_rooms", "_law_letters_here"]) (Dr : FnM K mg fDr fdDr "_law_drawn" sDrawn psDr) (Fu : FnM K mg fFu fdFu "_law_full_one" sFull psFu) (Kn : FnM K mg fKn fdKn "_law_known" sKnown ["_law_bag_here"])
    (ml : mg "len" = none) (mr : mg "range" = none) (mi : mg "int" = none) (mli : mg "list" = none) : FnOk P w K mg base CX0 (k + 6) f fd ["_law_bag_here"] (spMachL K) := by
  have GP : FnOk P w K mg base CX0 (k + 5) fP fdP ["_law_bag_here", "_law_many"] (spPull K) := ok_pull Pu.F ml
  have GD : FnOk P w K mg base CX0 (k + 5) fDr fdDr psDr (spDrawn K) := ok_drawn Dr.F Pu O De Le Ro Ar ml mr mi
  have GF : FnOk P w K mg base CX0 (k + 5) fFu fdFu psFu (spFull K) := ok_full Fu.F Pu O De Le Ro ml mr mi
  have GK : FnOk P w K mg base CX0 (k + 5) fKn fdKn ["_law_bag_here"] (spKnown K) := ok_known Kn.F Pu O Le Ro ml mr mli
  refine F.ok scMachL (fun vs H Q E h => ?_) (fun cdv A outer s H vs Q E hr h => ?_)
  · obtain ⟨g, rfl, _⟩ := h
    rfl
  · obtain ⟨g, rfl, B, q⟩ := h
    refine ⟨_, pss_cons (ps_set (i := 1) scMachL.nd rfl (.inl rfl) (pe_call GP hr (by rfl) Pu.g Pu.F.kp Pu.b .nil pass0 (pa_cons (pv 0) (pa_cons pe_int pa_nil))))
      (pss_cons (ps_if (pt_cmpR op_lt (pv 1) pe_int (nomark _)) (pss_one (ps_ret (pe_call GF hr (by rfl) Fu.g Fu.F.kp Fu.b .nil pass0 (pa_cons (pv 0) (pa_cons pe_int (pa_cons pe_int pa_nil)))))) pss_nil)
      (pss_one (ps_ret (pe_ifExp (pt_cmpR op_eq (pv 1) pe_int (nomark _)) (pe_call GK hr (by rfl) Kn.g Kn.F.kp Kn.b .nil pass0 (pa_cons (pv 0) pa_nil)) (pe_call GD hr (by rfl) Dr.g Dr.F.kp Dr.b .nil pass0 (pa_cons (pv 0) (pa_cons pe_int (pa_cons pe_int (pa_cons pe_int pa_nil))))))))), ?_⟩
    refine ⟨_, rfl, g, 6, rfl, by decide, by decide, B, fun z H1 z0 z1 k1 B1 => ?_⟩
    refine ⟨_, rfl, z, 2, rfl, rfl, _, rfl, ?_⟩
    by_cases h2 : z < 2
    · refine itT h2 ?_
      exact ⟨_, rfl, g, 3, 2, rfl, by decide, by decide, B1, fun t M H2 ok hn _ fw dr k2 B2 => q t M H2 ok (by omega) fw dr (k1.trans k2) B2⟩
    · refine itF h2 ?_
      refine ⟨_, rfl, rfl, _, rfl, ?_⟩
      by_cases h3 : z = 2
      · refine itT (by rw [h3]) ?_
        exact ⟨_, rfl, g, rfl, B1, fun t M H2 ok hn _ fw dr k2 B2 => q t M H2 ok (by omega) (few_len fw) dr (k1.trans k2) B2⟩
      · refine itF (fun e => h3 (V.int.inj e)) ?_
        exact ⟨_, rfl, g, 4, 3, 10, rfl, by decide, by decide, by decide, by decide, by decide, by decide, B1, fun t M H2 ok hn _ fw _ dr k2 B2 => q t M H2 ok (by omega) (few_len (by omega)) dr (k1.trans k2) B2⟩
end
end Onp
set_option maxHeartbeats 8000000
set_option autoImplicit false
namespace Onp
open PySem PySem.Spec PyProof.Rows L2
abbrev sMRooms : Stmt := inClass sMach 1
abbrev sMLets : Stmt := inClass sMach 2
abbrev sMArrs : Stmt := inClass sMach 3
abbrev sMFsts : Stmt := inClass sMach 4
abbrev sMLsts : Stmt := inClass sMach 5
section
variable {P : Program} {w : World} {K : PySem.W.Frag} {mg : Str → Option Value} {base : Heap}
/-! ### what a machine tells of itself -/
theorem scMRooms : FnScope ["self"] ["self"] (defScope sMRooms) := ⟨rfl, rfl, rfl, by decide +kernel, rfl, by decide +kernel, by decide +kernel⟩
theorem scMLets : FnScope ["self"] ["self"] (defScope sMLets) := ⟨rfl, rfl, rfl, by decide +kernel, rfl, by decide +kernel, by decide +kernel⟩
theorem scMArrs : FnScope ["self"] ["self"] (defScope sMArrs) := ⟨rfl, rfl, rfl, by decide +kernel, rfl, by decide +kernel, by decide +kernel⟩
theorem scMFsts : FnScope ["self"] ["self"] (defScope sMFsts) := ⟨rfl, rfl, rfl, by decide +kernel, rfl, by decide +kernel, by decide +kernel⟩
theorem scMLsts : FnScope ["self"] ["self"] (defScope sMLsts) := ⟨rfl, rfl, rfl, by decide +kernel, rfl, by decide +kernel, by decide +kernel⟩
def spMRooms (K : PySem.W.Frag) (C : Addr) : Sp := fun vs H Q _ => ∃ (a : Addr) (M : AM), vs = [.ref a] ∧ MachAt K C H a M ∧ Q (.int M.n) H
def spMLets (K : PySem.W.Frag) (C : Addr) : Sp := fun vs H Q _ => ∃ (a : Addr) (M : AM), vs = [.ref a] ∧ MachAt K C H a M ∧ Q (.str (Sx M.ls)) H
def spMArrs (K : PySem.W.Frag) (C : Addr) : Sp := fun vs H Q _ => ∃ (a : Addr) (M : AM), vs = [.ref a] ∧ MachAt K C H a M ∧ ∀ (l : Addr) (ps : List AR), H l = none → RowAt K H ps → ps.map (·.2) = M.as → Q (.ref l) (upd H l (.lst (rfs ps)))
def spMFsts (K : PySem.W.Frag) (C : Addr) : Sp := fun vs H Q _ => ∃ (a : Addr) (M : AM), vs = [.ref a] ∧ MachAt K C H a M ∧ ∀ l, H l = none → Q (.ref l) (upd H l (.lst (M.fs.map V.int)))
def spMLsts (K : PySem.W.Frag) (C : Addr) : Sp := fun vs H Q _ => ∃ (a : Addr) (M : AM), vs = [.ref a] ∧ MachAt K C H a M ∧ ∀ l, H l = none → Q (.ref l) (upd H l (.lst (M.gs.map V.int)))
theorem ok_mrooms {f C : Addr} {fd : FuncData} {k : Nat} (F : Fun K "rooms" "Machine.rooms" sMRooms f fd) (T : ClsM K C) : FnOk P w K mg base CX0 (k + 1) f fd ["self"] (spMRooms K C) := by
  refine F.ok scMRooms (fun vs H Q E h => ?_) (fun cdv A outer s H vs Q E hr h => ?_)
  · obtain ⟨a, M, rfl, _⟩ := h
    rfl
  · obtain ⟨a, M, rfl, ⟨dx, ta, tf, tg, D, ps, h1, _⟩, q⟩ := h
    exact ⟨_, pss_one (ps_ret (pe_fld (pv 0) rfl)), _, rfl, a, C, dx, _, _, rfl, h1, T.cl, T.n1, mfl_rooms, q⟩
theorem ok_mlets {f C : Addr} {fd : FuncData} {k : Nat} (F : Fun K "letters" "Machine.letters" sMLets f fd) (T : ClsM K C) : FnOk P w K mg base CX0 (k + 1) f fd ["self"] (spMLets K C) := by
  refine F.ok scMLets (fun vs H Q E h => ?_) (fun cdv A outer s H vs Q E hr h => ?_)
  · obtain ⟨a, M, rfl, _⟩ := h
    rfl
  · obtain ⟨a, M, rfl, ⟨dx, ta, tf, tg, D, ps, h1, _⟩, q⟩ := h
    exact ⟨_, pss_one (ps_ret (pe_fld (pv 0) rfl)), _, rfl, a, C, dx, _, _, rfl, h1, T.cl, T.n2, mfl_letters, q⟩
theorem ok_marrs {f C : Addr} {fd : FuncData} {k : Nat} (F : Fun K "arrows" "Machine.arrows" sMArrs f fd) (T : ClsM K C) (ml : mg "list" = none) : FnOk P w K mg base CX0 (k + 1) f fd ["self"] (spMArrs K C) := by
  refine F.ok scMArrs (fun vs H Q E h => ?_) (fun cdv A outer s H vs Q E hr h => ?_)
  · obtain ⟨a, M, rfl, _⟩ := h
    rfl
  · obtain ⟨a, M, rfl, ⟨dx, ta, tf, tg, D, ps, h1, h2, h3, h4, _⟩, q⟩ := h
    exact ⟨_, pss_one (ps_ret (pe_callTy call_list_of (by rfl) ml (by decide +kernel) (pa_cons (pe_fld (pv 0) rfl) pa_nil))), _, rfl, a, C, dx, _, _, rfl, h1, T.cl, T.n3, mfl_arrows, ta, rfs ps, rfl, .inr (SqT.of h2), fun l nl => q l ps nl h3 h4⟩
theorem ok_mfsts {f C : Addr} {fd : FuncData} {k : Nat} (F : Fun K "firsts" "Machine.firsts" sMFsts f fd) (T : ClsM K C) (ml : mg "list" = none) : FnOk P w K mg base CX0 (k + 1) f fd ["self"] (spMFsts K C) := by
  refine F.ok scMFsts (fun vs H Q E h => ?_) (fun cdv A outer s H vs Q E hr h => ?_)
  · obtain ⟨a, M, rfl, _⟩ := h
    rfl
  · obtain ⟨a, M, rfl, ⟨dx, ta, tf, tg, D, ps, h1, h2, h3, h4, h5, h6, _⟩, q⟩ := h
    exact ⟨_, pss_one (ps_ret (pe_callTy call_list_of (by rfl) ml (by decide +kernel) (pa_cons (pe_fld (pv 0) rfl) pa_nil))), _, rfl, a, C, dx, _, _, rfl, h1, T.cl, T.n4, mfl_firsts, tf, _, rfl, .inr (SqT.of h5), q⟩
theorem ok_mlsts {f C : Addr} {fd : FuncData} {k : Nat} (F : Fun K "lasts" "Machine.lasts" sMLsts f fd) (T : ClsM K C) (ml : mg "list" = none) : FnOk P w K mg base CX0 (k + 1) f fd ["self"] (spMLsts K C) := by
  refine F.ok scMLsts (fun vs H Q E h => ?_) (fun cdv A outer s H vs Q E hr h => ?_)
  · obtain ⟨a, M, rfl, _⟩ := h
    rfl
  · obtain ⟨a, M, rfl, ⟨dx, ta, tf, tg, D, ps, h1, h2, h3, h4, h5, h6, _⟩, q⟩ := h
    exact ⟨_, pss_one (ps_ret (pe_callTy call_list_of (by rfl) ml (by decide +kernel) (pa_cons (pe_fld (pv 0) rfl) pa_nil))), _, rfl, a, C, dx, _, _, rfl, h1, T.cl, T.n5, mfl_lasts, tg, _, rfl, .inr (SqT.of h6), q⟩
end
end Onp
set_option maxHeartbeats 8000000
set_option autoImplicit false
namespace Onp
open PySem PySem.Spec PyProof.Rows L2
abbrev sMadeP : Stmt := topS 23
/-- the machine of one room and nothing else -/
def idleM (ls : List Nat) : AM := ⟨1, ls, [], [], []⟩
theorem idle_ok {ls : List Nat} (h : letB ls = true) : (idleM ls).ok := ⟨(show (1 : Int) ≤ 1 by decide), (show (1 : Int) ≤ 8 by decide), h, (fun _ z => nomatch z), .nil, (show 0 ≤ 40 by decide), (fun _ z => nomatch z), .nil, (fun _ z => nomatch z), .nil, (show 0 ≤ 100 by decide), (show 0 ≤ 100 by decide)⟩
section
variable {P : Program} {w : World} {K : PySem.W.Frag} {mg : Str → Option Value} {base : Heap}
/-! ### Machine(a, b, firsts=.., lasts=..): no arrows handed in -/
theorem kb_made0 {f : Addr} {fd : FuncData} {dvs : List V} {kws : List (Str × V)} (F : FunD K "__init__" "Machine.__init__" (defArgs sMInit) (defBody sMInit) (defScope sMInit) dvs kws f fd) (hd : dvs ≠ []) (h1 : dvs.length = 1) :
    ∃ g : List Value → List Value → List Value, KBn K fd psMI 3 ["firsts", "lasts"] g (fun vs zs => vs ++ (dvs ++ zs)) := by
  obtain ⟨its, h⟩ := F.kbindsD (ps := psMI) 3 ["firsts", "lasts"] (fun us ds ws => us ++ (ds ++ ws)) hd (fun r1 r2 r3 => r1.append (r2.append r3)) (fun T kV doc pm an cdv ct us its ws l1 l2 l3 => by
    rw [h1] at l2
    match us, l1, ws, l3, its, l2 with
    | [a, b, c], _, [e, f], _, [z], _ => exact ⟨_, rfl, rfl⟩)
  exact ⟨_, h⟩
/-! ### made, of a machine that there is -/
def psMp : List Str := ["rooms", "letters", "arrows", "firsts", "lasts"]
theorem scMadeP : FnScope psMp psMp (defScope sMadeP) := ⟨rfl, rfl, rfl, by decide +kernel, rfl, by decide +kernel, by decide +kernel⟩
def spMadeO (K : PySem.W.Frag) (C : Addr) : Sp := fun vs H Q _ => ∃ (la lf lg : Addr) (n : Int) (ls : List Nat), vs = [.int n, .str (Sx ls), .ref la, .ref lf, .ref lg] ∧
  ((n = 0 ∧ letB ls = true ∧ ∀ (m : Addr) H', H m = none → Same H H' → MachAt K C H' m (idleM ls).srt → Q (.ref m) H') ∨
   ∃ (ps : List AR) (M : AM), M.n = n ∧ M.ls = ls ∧ SqA K H la (rfs ps) ∧ RowAt K H ps ∧ ps.map (·.2) = M.as ∧ SqA K H lf (M.fs.map V.int) ∧ SqA K H lg (M.gs.map V.int) ∧ M.ok ∧ ∀ (m : Addr) H', H m = none → Same H H' → MachAt K C H' m M.srt → Q (.ref m) H')
theorem ok_madeO {f C fI : Addr} {fd fdI : FuncData} {k : Nat} {D : Addr} {kws : List (Str × V)} (F : Fun K "made" "made" sMadeP f fd) (T : MkM K mg C fdI fI [.ref D] kws) (GI : FnOk P w K mg base CX0 k fI fdI psMI (spMInit K C)) (hD : ∀ H, SqT K H D []) {tk : Tok} (gR : mg "MOST_ROOMS" = some (.int 8 tk)) : FnOk P w K mg base CX0 (k + 2) f fd psMp (spMadeO K C) := by
  obtain ⟨gg, KB⟩ := kb_made T.F T.nd T.one
  obtain ⟨gg0, KB0⟩ := kb_made0 T.F T.nd T.one
  refine F.ok scMadeP (fun vs H Q E h => ?_) (fun cdv A outer s H vs Q E hr h => ?_)
  · obtain ⟨la, lf, lg, n, ls, rfl, _⟩ := h
    rfl
  · obtain ⟨la, lf, lg, n, ls, rfl, h⟩ := h
    refine ⟨_, pss_cons (ps_if (pt_cmpR op_eq (pv 0) pe_int (nomark _)) (pss_one (ps_ret (pe_makeN (n := 2) (ks := ["firsts", "lasts"]) T.mak GI hr (by rfl) T.g KB0 pass0 (pa_cons pe_int (pa_cons (pv 1) pa_nil)) (pk_cons (pe_tup pa_nil) (pk_cons (pe_tup pa_nil) pk_nil))))) pss_nil)
      (pss_cons (ps_if (pt_cmpR op_gt (pv 0) (pe_glob (v := .int 8) rfl gR ⟨_, rfl⟩) (nomark _)) pss_never pss_nil)
      (pss_one (ps_ret (pe_makeN (n := 3) (ks := ["firsts", "lasts"]) T.mak GI hr (by rfl) T.g KB pass0 (pa_cons (pv 0) (pa_cons (pv 1) (pa_cons (pv 2) pa_nil))) (pk_cons (pv 3) (pk_cons (pv 4) pk_nil)))))), ?_⟩
    refine ⟨_, rfl, rfl, _, rfl, ?_⟩
    rcases h with ⟨rfl, hls, q⟩ | ⟨ps, M, rfl, rfl, hla, hR, eas, hlf, hlg, okM, q⟩
    · refine itT rfl ?_
      refine ⟨_, rfl, (by decide : 0 ≤ sizeLine), fun t1 nt1 => ?_⟩
      have s1 := same_upd (o := .tup []) nt1
      have h1 : (upd H t1 (.tup [])) t1 = some (.tup []) := upd_same
      generalize upd H t1 (.tup []) = H1 at s1 h1
      refine ⟨(by decide : 0 ≤ sizeLine), fun t2 nt2 => ?_⟩
      have s2 := same_upd (o := .tup []) nt2
      have h2 : (upd H1 t2 (.tup [])) t2 = some (.tup []) := upd_same
      generalize upd H1 t2 (.tup []) = H2 at s2 h2
      refine ⟨rfl, rfl, fun x dx nx ndx ne => ?_⟩
      have sx : Same H2 (upd (upd H2 dx (.own x)) x (.ins C dx [])) := fun b o hb => by
        rw [upd_ne (ne_of_none hb nx), upd_ne (ne_of_none hb ndx)]
        exact hb
      have s02 := s1.trans s2
      refine ⟨x, dx, D, t1, t2, [], idleM ls, rfl, upd_same, .inr (hD _), (fun _ z => nomatch z), rfl, .inr (SqT.of (sx _ _ (s2 _ _ h1))), .inr (SqT.of (sx _ _ h2)), idle_ok hls, fun H' k' mm => ⟨rfl, q x H' (s02.free nx) (fun b o hb => ?_) mm⟩⟩
      exact k' _ _ (ne_of_none (s02 _ _ hb) nx) (sx _ _ (s02 _ _ hb))
    · refine itF (fun z => by have := V.int.inj z; have := okM.1; omega) ?_
      refine ⟨_, rfl, _, _, rfl, rfl, _, rfl, itF (by have := okM.2.1; omega) ?_⟩
      refine ⟨_, rfl, _, rfl, _, rfl, _, rfl, _, rfl, rfl, rfl, fun x dx nx ndx ne => ?_⟩
      have sx : Same H (upd (upd H dx (.own x)) x (.ins C dx [])) := fun b o hb => by
        rw [upd_ne (ne_of_none hb nx), upd_ne (ne_of_none hb ndx)]
        exact hb
      refine ⟨x, dx, la, lf, lg, ps, M, rfl, upd_same, sqA_same sx hla, hR.same sx, eas, sqA_same sx hlf, sqA_same sx hlg, okM, fun H' k' mm => ⟨rfl, q x H' nx (fun b o hb => ?_) mm⟩⟩
      exact k' _ _ (ne_of_none hb nx) (sx _ _ hb)
end
end Onp
set_option maxHeartbeats 4000000
set_option autoImplicit false
/-! {k: v for target in iter if ..}, the keys tuples of ints and texts -/
namespace Onp
open PySem PySem.Spec PyProof.Rows L2
section
variable {X : Cx}
theorem d_dictSetP {pins : List (Addr × Obj)} {σ : L2.St} {H : Hp} {s : Shared} {E : Value → Shared → Prop} {D b : Addr} {kvs : List (List L2.Key × V)} {k : List L2.Key} {v : V} {r : Value} {Q : Unit → Shared → Prop} (hu : X.A.units + 1 < cLine) (I : Inv X pins σ H s) (hD : H D = some (.dT kvs)) (hb : H b = some (.tup (k.map kV))) (hz : kvs.length < sizeLine)
    (rv : RelV v r) (h : ∀ s', Inv X pins σ (upd H D (.dT (putK kvs k v))) s' → Q () s') : wpAny (model X.prog X.w) X.A (dictSet D (.ref b) r) Q E s := by
  obtain ⟨z, hd, xs, rel, dd⟩ := dt_of I.hok hD
  have hx : xs.length ≤ sizeLine := Paired.length rel ▸ z
  have hl : (putK kvs k v).length ≤ sizeLine := Nat.le_trans (length_putK kvs k v) hz
  refine wpAny_dictSet_heap (hsz := hx) (show X.A.units < cLine by omega) (key_of I.hok hb) dd fun h' dd' hs => h _ ?_
  obtain ⟨q, es, ep, hq, c2, c3, c4, _, c5⟩ := dd'
  refine d_write I (by rw [hD]; exact True.intro) hs ⟨q, hq⟩ ⟨hl, hd, _, (rel.put k hb rv).keeps fun c ys ec => ?_, q, es, ep, hq, c2, c3, c4, c5⟩
  rw [upd_ne (ne_of ec hD (fun z => nomatch z))]
  exact ec
end
/-- what a store does, told of the heap -/
abbrev PutR : Type := Hp → Addr → V → V → Hp → Prop
def PutOk (P : Program) (w : World) (Put : PutR) : Prop := ∀ (X : Cx) (pins : List (Addr × Obj)) (σ : L2.St) (H H' : Hp) (s : Shared) (E : Value → Shared → Prop) (D : Addr) (y v : V) (u r : Value) (Q : Unit → Shared → Prop), X.prog = P → X.w = w → X.A.units + 64 < cLine → Inv X pins σ H s → Put H D y v H' → RelV y u → RelV v r → (∀ s', Inv X pins σ H' s' → Q () s') → wpAny (model X.prog X.w) X.A (dictSet D u r) Q E s
/-- a dict that nothing is in -/
def NewOk (P : Program) (w : World) (o : HO) : Prop := ∀ (H : Hp) (h : Heap), sysModules < h.objs.size → ObjOk P w H (h.push { cls := .type "dict", data := .dict #[] }) h.objs.size o
def PutT : PutR := fun H D y v H' => ∃ kvs k b, H D = some (.dT kvs) ∧ y = .ref b ∧ H b = some (.tup (k.map kV)) ∧ kvs.length < sizeLine ∧ H' = upd H D (.dT (putK kvs k v))
theorem putT_ok (P : Program) (w : World) : PutOk P w PutT := by
  intro X pins σ H H' s E D y v u r Q e1 e2 hu I hp ry rv h
  obtain ⟨kvs, k, b, hD, rfl, hb, hz, rfl⟩ := hp
  cases ry
  exact d_dictSetP (by omega) I hD hb hz rv h
theorem newT_ok (P : Program) (w : World) : NewOk P w (.dT []) := fun _ h hb => dt_empty h hb
section
variable {X : Cx}
def tDcG (o0 : HO) (Put : PutR) (wi : TI) (g : TG) (tt : TT) (tk tv : TE) (vs : List Nat) : TE := fun σ H Q => wi σ H fun J H1 => ∀ D, H1 D = none → ∃ W : Nat → Nat → Hp → Prop, (∃ m, W 0 m (upd H1 D o0)) ∧ ∀ i m H, W i m H →
  (J.stop i H ∧ Q (.ref D) H) ∨ (J.go i H ∧ ∃ Nx : Hp → Prop, (∀ H', Nx H' → ∃ m', m' < m ∧ W (i + 1) m' H') ∧ ∀ x H', J.yld i H x H' → g x (wipe σ vs) H' fun σ2 H2 => wipe σ2 vs = wipe σ vs ∧ tt σ2 H2 fun b H3 =>
    if b = true then tk σ2 H3 fun y H4 => tv σ2 H4 fun z H5 => ∃ H6, Put H5 D y z H6 ∧ Nx H6 else Nx H3)
theorem pe_dcG {kx vx tg iter : Expr} {ifs : List Expr} {scope : Scope} {own : List (Str × Nat)} {pos : Pos} {wi : TI} {g : TG} {tt : TT} {tk tv : TE} {o0 : HO} {Put : PutR} (hnew : NewOk X.prog X.w o0) (hput : PutOk X.prog X.w Put) (hu : X.A.units + 64 < cLine) (hc : X.calm = true) (hN : X.N.Nodup) (hi : PI X tg iter wi) (ok : BlkOk X.N X.env.scope scope own)
    (hg : ∀ (s : Shared) (H : Hp) (C : Addr) (cl : List (Str × Addr)) (fp : List Addr), PG (X.blk s H scope (compEnvC scope cl C X.env) fp) tg g) (ht : ∀ (s : Shared) (H : Hp) (C : Addr) (cl : List (Str × Addr)) (fp : List Addr), PTs (X.blk s H scope (compEnvC scope cl C X.env) fp) ifs tt)
    (hk : ∀ (s : Shared) (H : Hp) (C : Addr) (cl : List (Str × Addr)) (fp : List Addr), PE (X.blk s H scope (compEnvC scope cl C X.env) fp) kx tk)
    (he : ∀ (s : Shared) (H : Hp) (C : Addr) (cl : List (Str × Addr)) (fp : List Addr), PE (X.blk s H scope (compEnvC scope cl C X.env) fp) vx tv) (hs : ∀ x, foldedSetIterable iter X.env x = pure x := by intro _; rfl) :
    PE X (.DictComp kx vx [⟨tg, iter, ifs, 0⟩] scope pos) (tDcG o0 Put wi g tt tk tv (own.map (·.2))) := by
  refine ⟨fun pins s σ H Q I hstart => ?_⟩
  rw [arm_eval_DictComp]
  have cellsOf : ∀ y ∈ scope.names, y.2 = .free → ∃ c, X.env.cells.lookup y.1 = some c := fun y hy e => I.ok.has _ (ok.free y hy e)
  refine wpAny_comprehension_free (use := none) rfl hs (closure_ok cellsOf) ok.kind (fun y hy e => by rw [ok.uniq y hy, e])
    (thn (hi.run pins s σ H _ I hstart) fun _ sa hx => thn hx fun _ sb hb => ?_)
  obtain ⟨it, fp, tn, J, Hb, rfl, Ib, T, st0, pin0, todo⟩ := hb
  refine wpAny_newObj_type (newEnv_comp ?_)
  generalize hD : sb.heap.objs.size = D
  obtain ⟨W, ⟨m0, w0⟩, turn⟩ := todo D (Ib.hok.fresh (Nat.le_of_eq hD))
  generalize hsc : ({ sb with heap := sb.heap.push { cls := .type "dict", data := .dict #[] } } : Shared) = sc
  have push : sc.heap = sb.heap.push { cls := .type "dict", data := .dict #[] } := by rw [← hsc]
  have Ic : Inv X pins σ (upd Hb D o0) sc := by
    subst hsc
    refine Ib.laid (t' := sb.toks) (fun b o e => Heap.get?_push_of_some _ e) (Nat.le_of_eq hD) ?_
    subst hD
    exact hnew _ sb.heap Ib.big
  have old : ∀ b ∈ fp, b < sb.heap.objs.size := fun b hb => (T.obj _ _ st0 b hb).elim fun o e => Heap.lt_size e.1
  have pin1 : ∀ b ∈ fp, FpOk X pins (upd Hb D o0) b ∧ b < sc.heap.objs.size := fun b hb =>
    ⟨⟨by rw [upd_ne (by rw [← hD]; exact Nat.ne_of_lt (old b hb))]; exact (pin0 b hb).1, (pin0 b hb).2⟩, by rw [push, Heap.size_push]; exact Nat.lt_succ_of_lt (old b hb)⟩
  have st1 : tn 0 sc.heap := T.keep _ _ _ st0 fun b _ o e => by rw [push]; exact Heap.get?_push_of_some _ e
  have Id := block_start Ic ok hN pin1
  have pg := hg sc (upd Hb D o0) sc.heap.objs.size (cellsFrom (sc.heap.objs.size + 1) scope.names (cloFrom X.env.cells scope.names [])) fp
  have pt := ht sc (upd Hb D o0) sc.heap.objs.size (cellsFrom (sc.heap.objs.size + 1) scope.names (cloFrom X.env.cells scope.names [])) fp
  have pk := hk sc (upd Hb D o0) sc.heap.objs.size (cellsFrom (sc.heap.objs.size + 1) scope.names (cloFrom X.env.cells scope.names [])) fp
  have pv' := he sc (upd Hb D o0) sc.heap.objs.size (cellsFrom (sc.heap.objs.size + 1) scope.names (cloFrom X.env.cells scope.names [])) fp
  show codeAny _ _ (.compStart (.DictComp kx vx [⟨tg, iter, ifs, 0⟩] scope pos) 0 (.ref it) (.ref D) (compEnvC scope (cellsFrom (sc.heap.objs.size + 1) scope.names (cloFrom X.env.cells scope.names [])) sc.heap.objs.size X.env)) (compPost (model X.prog X.w) X.A X.xe none _ (.ref D) sc.heap.objs.size) { sc with heap := pushCells (sc.heap.push { cls := .type "dict", data := .dict #[] }) scope.names }
  generalize hce : compEnvC scope (cellsFrom (sc.heap.objs.size + 1) scope.names (cloFrom X.env.cells scope.names [])) sc.heap.objs.size X.env = ce at Id pg pt pk pv' ⊢
  have cL : ce.locals = sc.heap.objs.size := by subst hce; rfl
  have gone : ∀ b ∈ fp, (upd Hb D o0) b = none := fun b hb => (pin1 b hb).1.1
  generalize hHc : upd Hb D o0 = Hc at Ic Id pg pt pk pv' w0 gone pin1
  generalize hsd : ({ sc with heap := pushCells (sc.heap.push { cls := .type "dict", data := .dict #[] }) scope.names } : Shared) = sd at Id ⊢
  have st2 : tn 0 sd.heap := T.keep _ _ _ st1 fun b _ o e => by rw [← hsd]; exact pushCells_keeps _ _ _ _ (Heap.get?_push_of_some _ e)
  have stat : ∀ {σ' : L2.St} {H' : Hp} {s' : Shared}, Inv (X.blk sc Hc scope ce fp) [] σ' H' s' → (∀ b ∈ fp, H' b = none) → ∀ b ∈ fp, FpOk (X.blk sc Hc scope ce fp) [] H' b := fun {σ' H' s'} I' hn b hb =>
    ⟨hn b hb, (I'.ok.exf b hb).1, I'.ok.exfs b hb, .inl hb, fun x c e => (I'.ok.exf b hb).2 x c e, fun p hp => absurd (show p ∈ ([] : List (Addr × Obj)) ++ [] from hp) (by simp)⟩
  refine codeAny_compStart_dict ?loop (T.self X.A 0 _ _ _ st2 ?loop)
  case loop =>
  refine compLoop_anyD (fun n s' => ∃ i H', Inv (X.blk sc Hc scope ce fp) [] (wipe σ (own.map (·.2))) H' s' ∧ tn i s'.heap ∧ (∀ b ∈ fp, H' b = none) ∧ W i n H') ?_ m0 ⟨0, Hc, Id, st2, gone, w0⟩
  rintro n se ⟨i, He, Ie, ste, ne, we⟩
  rcases turn i n He we with ⟨stop, qq⟩ | ⟨go, Nx, hNx, step⟩
  · refine thnF (T.done (X.blk sc Hc scope ce fp) rfl rfl rfl hc i [] se _ He (fun _ _ => False) Ie (stat Ie ne) ste stop) fun r sf ⟨hr, If⟩ => ?_
    subst hr
    have Ig : Inv X pins σ He sf := Ic.call' (ch := fp) If.os If.base If.hok If.bare fun b hb => ⟨(pin1 b hb).1.2.2.2.1, (pin1 b hb).1.2.1, (pin1 b hb).1.2.2.2.2.1, (pin1 b hb).1.2.2.2.2.2⟩
    have nC : He sc.heap.objs.size = none := cL ▸ (show He ce.locals = none from If.free)
    obtain ⟨m, hn, _⟩ := If.loc
    have hn : sf.heap.Ns sc.heap.objs.size m := cL ▸ (show sf.heap.Ns ce.locals m from hn)
    obtain ⟨f0, f1, f2, f3, f4, f5⟩ := Ic.fpOk (Nat.le_refl _) (show Hc sc.heap.objs.size = none from Ic.hok.fresh (Nat.le_refl _))
    exact ⟨m, hn, fun h'' sb' => ⟨.ref D, He, Ig.turned (t' := sf.toks) (fun b o hb e => (sb'.2 b hb).trans e) nC f1 f3 f4 f5, rfl, qq⟩⟩
  · refine thnF (T.item (X.blk sc Hc scope ce fp) rfl rfl rfl hc i [] se _ He (fun _ _ => False) Ie (stat Ie ne) ste go) fun r sf ⟨u, hr, hf⟩ => ?_
    subst hr
    refine thnF hf fun _ sg ⟨x, Hg, Ig, rg, yg, stg, ng⟩ => ?_
    have Ig' := Ig.pinned (stat Ig ng) (T.obj _ _ stg)
    refine thnF (pg.run _ sg _ Hg x u _ Ig' rg (step x Hg yg)) fun _ sh ⟨σ8, H8, I8, hw8, q8⟩ => ?_
    refine thnF (pt.run _ sh σ8 H8 _ I8 q8) fun b s9 ⟨H9, I9, q9⟩ => ?_
    have fin : ∀ {s' : Shared} {H' : Hp}, Inv (X.blk sc Hc scope ce fp) ([] ++ pinsAt fp sg.heap) σ8 H' s' → Nx H' → ∃ m, m < n ∧ ∃ i H', Inv (X.blk sc Hc scope ce fp) [] (wipe σ (own.map (·.2))) H' s' ∧ tn i s'.heap ∧ (∀ b ∈ fp, H' b = none) ∧ W i m H' := fun {s' H'} I' nx => by
      obtain ⟨m', hm, w'⟩ := hNx H' nx
      have pin' : ∀ b ∈ fp, ∀ o, sg.heap.get? b = some o → s'.heap.get? b = some o ∧ H' b = none := fun b hb o e =>
        let z := I'.pin (b, o) (List.mem_append_right _ (List.mem_append_right _ (mem_pinsAt hb e)))
        ⟨z.1, z.2.1⟩
      refine ⟨m', hm, i + 1, H', (I'.unpinned (pins := [])).weak (by rw [← hw8, wipe_length]) (fun j v e => (wipe_some (hw8 ▸ e)).1), T.keep _ _ _ stg fun b hb o e => (pin' b hb o e).1, fun b hb => ?_, w'⟩
      obtain ⟨o, e, _⟩ := T.obj _ _ stg b hb
      exact (pin' b hb o e).2
    cases b with
    | false =>
      rw [if_neg Bool.false_ne_true] at q9
      exact fin I9 q9
    | true =>
      rw [if_pos rfl] at q9
      refine thnF (pk.run _ s9 σ8 H9 _ I9 q9) fun z s10 ⟨yk, H10, I10, r10, q10⟩ => ?_
      refine thnF (pv'.run _ s10 σ8 H10 _ I10 q10) fun z2 s11 ⟨yv, H11, I11, r11, H12, put, nx⟩ => ?_
      exact hput (X.blk sc Hc scope ce fp) _ _ _ _ _ _ _ _ _ _ _ _ rfl rfl hu I11 put r10 r11 fun s12 I12 => fin I12 nx
end
end Onp
set_option autoImplicit false
namespace Onp
open PySem PySem.Spec PyProof.Rows L2
/-- turns of a comprehension, whatever is done in one -/
theorem lcG {J : It} {n : Nat} {G : Hp → Prop} {Y : Nat → Hp → V → Hp → Prop} (w : Walk J n G Y) {Bd : (Hp → Prop) → V → Hp → Prop} {H0 : Hp} {Qd : Hp → Prop} (Pv : Nat → Hp → Prop) (h0 : Pv 0 H0) (hG : ∀ i H, i ≤ n → Pv i H → G H)
    (hs : ∀ i x H H', i < n → Pv i H → Y i H x H' → Bd (Pv (i + 1)) x H') (hd : ∀ H, Pv n H → Qd H) :
    ∃ W : Nat → Nat → Hp → Prop, (∃ m, W 0 m H0) ∧ ∀ i m H, W i m H → (J.stop i H ∧ Qd H) ∨ (J.go i H ∧ ∃ Nx : Hp → Prop, (∀ H', Nx H' → ∃ m', m' < m ∧ W (i + 1) m' H') ∧ ∀ x H', J.yld i H x H' → Bd Nx x H') := by
  refine ⟨fun i m H => m = n - i ∧ i ≤ n ∧ Pv i H, ⟨n, by simp, Nat.zero_le _, h0⟩, ?_⟩
  rintro i m H ⟨rfl, hi, p⟩
  have q := hG i H hi p
  by_cases hlt : i < n
  · exact .inr ⟨w.goes i H hlt q, Pv (i + 1), fun H' p' => ⟨n - (i + 1), by omega, rfl, hlt, p'⟩, fun x H' y => hs i x H H' hlt p (w.yields i H x H' hlt q y)⟩
  · have e : i = n := by omega
    subst e
    exact .inl ⟨w.stops H q, hd H p⟩
end Onp
set_option autoImplicit false
/-! small things that several layers want -/
namespace Onp
open PySem PySem.Spec PyProof.Rows L2
theorem yes2 {σ : L2.St} {H : Hp} {a b : Hp → Prop} (h : a H) : tYes σ H fun c H3 => if c = true then a H3 else b H3 := by
  show if true = true then a H else b H
  rw [if_pos rfl]
  exact h
theorem take_next {α : Type} {xs : List α} {i : Nat} {x : α} (h : xs[i]? = some x) : xs.take (i + 1) = xs.take i ++ [x] := by
  rw [List.take_succ, h]
  rfl
end Onp
set_option maxHeartbeats 8000000
set_option autoImplicit false
namespace Onp
open PySem PySem.Spec PyProof.Rows L2
abbrev sOnce : Stmt := topS 22
/-! ### each thing once -/
def onceS {κ : Type} [DecidableEq κ] (acc : List κ) (k : κ) : List κ := if k ∈ acc then acc else acc ++ [k]
def onceL {κ : Type} [DecidableEq κ] (ks : List κ) : List κ := ks.foldl onceS []
theorem onceL_snoc {κ : Type} [DecidableEq κ] (ks : List κ) (k : κ) : onceL (ks ++ [k]) = onceS (onceL ks) k := by
  unfold onceL
  rw [List.foldl_append]
  rfl
theorem onceS_mem {κ : Type} [DecidableEq κ] {acc : List κ} {k x : κ} : x ∈ onceS acc k ↔ x ∈ acc ∨ x = k := by
  unfold onceS
  by_cases h : k ∈ acc
  · rw [if_pos h]
    exact ⟨.inl, fun e => e.elim id fun e => e ▸ h⟩
  · rw [if_neg h, List.mem_append, List.mem_singleton]
theorem onceS_nd {κ : Type} [DecidableEq κ] {acc : List κ} {k : κ} (h : acc.Nodup) : (onceS acc k).Nodup := by
  unfold onceS
  by_cases c : k ∈ acc
  · rw [if_pos c]
    exact h
  · rw [if_neg c]
    exact List.nodup_append.mpr ⟨h, by simp, fun a ha b hb e => c (by rw [← List.mem_singleton.mp hb, ← e]; exact ha)⟩
theorem fold_once_mem {κ : Type} [DecidableEq κ] : ∀ {ks acc : List κ} {x : κ}, x ∈ ks.foldl onceS acc ↔ x ∈ acc ∨ x ∈ ks
  | [], acc, x => by simp
  | k :: ks, acc, x => by
    rw [List.foldl_cons, fold_once_mem, onceS_mem, List.mem_cons, or_assoc]
theorem fold_once_nd {κ : Type} [DecidableEq κ] : ∀ {ks acc : List κ}, acc.Nodup → (ks.foldl onceS acc).Nodup
  | [], _, h => h
  | _ :: ks, _, h => fold_once_nd (ks := ks) (onceS_nd h)
theorem onceL_mem {κ : Type} [DecidableEq κ] {ks : List κ} {x : κ} : x ∈ onceL ks ↔ x ∈ ks := by
  unfold onceL
  rw [fold_once_mem]
  simp
theorem onceL_nd {κ : Type} [DecidableEq κ] (ks : List κ) : (onceL ks).Nodup := fold_once_nd List.nodup_nil
theorem onceS_len {κ : Type} [DecidableEq κ] (acc : List κ) (k : κ) : (onceS acc k).length ≤ acc.length + 1 := by
  unfold onceS
  by_cases h : k ∈ acc
  · rw [if_pos h]
    exact Nat.le_succ _
  · rw [if_neg h, List.length_append]
    exact Nat.le_refl _
theorem fold_once_len {κ : Type} [DecidableEq κ] : ∀ (ks acc : List κ), (ks.foldl onceS acc).length ≤ acc.length + ks.length
  | [], _ => Nat.le_refl _
  | k :: ks, acc => by
    have h1 := fold_once_len ks (onceS acc k)
    have h2 := onceS_len acc k
    rw [List.foldl_cons, List.length_cons]
    omega
theorem onceL_len {κ : Type} [DecidableEq κ] (ks : List κ) : (onceL ks).length ≤ ks.length := by
  have := fold_once_len ks []
  rw [List.length_nil, Nat.zero_add] at this
  exact this
theorem onceS_map {κ ι : Type} [DecidableEq κ] [DecidableEq ι] {f : κ → ι} (hf : ∀ a b, f a = f b → a = b) (acc : List κ) (k : κ) : onceS (acc.map f) (f k) = (onceS acc k).map f := by
  unfold onceS
  have e : f k ∈ acc.map f ↔ k ∈ acc := ⟨fun h => by obtain ⟨a, ha, e⟩ := List.mem_map.mp h; rw [← hf _ _ e]; exact ha, List.mem_map_of_mem⟩
  by_cases h : k ∈ acc
  · rw [if_pos h, if_pos (e.mpr h)]
  · rw [if_neg h, if_neg (fun z => h (e.mp z)), List.map_append]
    rfl
theorem fold_once_map {κ ι : Type} [DecidableEq κ] [DecidableEq ι] {f : κ → ι} (hf : ∀ a b, f a = f b → a = b) : ∀ (ks acc : List κ), (ks.map f).foldl onceS (acc.map f) = (ks.foldl onceS acc).map f
  | [], _ => rfl
  | k :: ks, acc => by
    rw [List.map_cons, List.foldl_cons, onceS_map hf, fold_once_map hf ks, List.foldl_cons]
theorem onceL_map {κ ι : Type} [DecidableEq κ] [DecidableEq ι] {f : κ → ι} (hf : ∀ a b, f a = f b → a = b) (ks : List κ) : onceL (ks.map f) = (onceL ks).map f := fold_once_map hf ks []
theorem putK_keys {κ : Type} [DecidableEq κ] (kvs : List (κ × V)) (k : κ) (v : V) : (putK kvs k v).map (·.1) = onceS (kvs.map (·.1)) k := by
  have e : (kvs.any fun kv => decide (kv.1 = k)) = decide (k ∈ kvs.map (·.1)) := by
    rw [Bool.eq_iff_iff, List.any_eq_true, decide_eq_true_eq, List.mem_map]
    exact ⟨fun ⟨x, h1, h2⟩ => ⟨x, h1, of_decide_eq_true h2⟩, fun ⟨x, h1, h2⟩ => ⟨x, h1, decide_eq_true h2⟩⟩
  unfold putK onceS
  rw [e]
  by_cases h : k ∈ kvs.map (·.1)
  · rw [decide_eq_true h, if_pos rfl, if_pos h, List.map_map]
    refine List.map_congr_left fun x _ => ?_
    show (if x.1 = k then (x.1, v) else x).1 = x.1
    by_cases c : x.1 = k
    · rw [if_pos c]
    · rw [if_neg c]
  · rw [decide_eq_false h, if_neg Bool.false_ne_true, if_neg h, List.map_append]
    rfl
theorem isKeys_ak {H : Hp} : ∀ {kvs : List (List L2.Key × V)} {bs : List Addr}, IsKeys H kvs bs → ∃ qs : List AK, bs.map V.ref = qs.map (fun p => V.ref p.1) ∧ (∀ q ∈ qs, H q.1 = some (.tup (q.2.map kV))) ∧ qs.map (·.2) = kvs.map (·.1)
  | _, _, .nil => ⟨[], rfl, (fun _ h => nomatch h), rfl⟩
  | (k, _) :: _, b :: _, .cons h t => by
    obtain ⟨qs, h1, h2, h3⟩ := isKeys_ak t
    refine ⟨(b, k) :: qs, by rw [List.map_cons, h1, List.map_cons], fun q hq => ?_, by rw [List.map_cons, h3, List.map_cons]⟩
    rcases List.mem_cons.mp hq with rfl | hq
    · exact h
    · exact h2 q hq
section
variable {P : Program} {w : World} {K : PySem.W.Frag} {mg : Str → Option Value} {base : Heap}
def NOn : List Str := ["things", "thing"]
theorem scOnce : FnScope NOn ["things"] (defScope sOnce) := ⟨rfl, rfl, rfl, by decide +kernel, rfl, by decide +kernel, by decide +kernel⟩
def spOnceT (K : PySem.W.Frag) : Sp := fun vs H Q _ => ∃ (l : Addr) (ps : List AK), vs = [.ref l] ∧ SqL K H l (ps.map fun p => V.ref p.1) ∧ (∀ p ∈ ps, H p.1 = some (.tup (p.2.map kV))) ∧ ps.length ≤ 5000 ∧
  ∀ (r : Addr) (qs : List AK) H', Same H H' → H r = none → H' r = some (.lst (qs.map fun p => V.ref p.1)) → (∀ q ∈ qs, H' q.1 = some (.tup (q.2.map kV))) → qs.map (·.2) = onceL (ps.map (·.2)) → Q (.ref r) H'
theorem ok_onceT {f : Addr} {fd : FuncData} {k : Nat} (F : Fun K "once_each" "once_each" sOnce f fd) (ml : mg "list" = none) : FnOk P w K mg base CX0 (k + 1) f fd ["things"] (spOnceT K) := by
  refine F.ok scOnce (fun vs H Q E h => ?_) (fun cdv A outer s H vs Q E hr h => ?_)
  · obtain ⟨l, ps, rfl, _⟩ := h
    rfl
  · obtain ⟨l, ps, rfl, hl, hp, hn, q⟩ := h
    have hu : (cxOf CX0 P w K mg base NOn "once_each" (defScope sOnce) f cdv A outer s H E).nox.A.units + 64 < cLine := hr.units
    refine ⟨_, pss_one (ps_ret (pe_callTy (call_list_dT rfl) (by rfl) ml (by decide +kernel) (pa_cons (pe_dcG (own := [("thing", 1)]) (g := gName 1) (tt := tYes) (tk := tVar 1) (tv := tC (.bl true)) (newT_ok _ _) (putT_ok _ _) hu rfl scOnce.nd (pi_list (pv 0))
      (blkOk_by (own := [("thing", 1)]) (N := NOn) (sc := defScope sOnce) (by decide +kernel)) (fun _ _ _ _ _ => pg_name (i := 1) scOnce.nd rfl (.inl rfl)) (fun _ _ _ _ _ => pts_nil) (fun _ _ _ _ _ => pv 1) (fun _ _ _ _ _ => pe_bl)) pa_nil))), ?_⟩
    refine ⟨_, rfl, l, rfl, ⟨_, hl⟩, fun D nD => ?_⟩
    have hbig : 5000 < sizeLine := by decide
    refine lcG walk_list (fun i H' => Same H H' ∧ ∃ kvs : List (List L2.Key × V), H' D = some (.dT kvs) ∧ kvs.map (·.1) = onceL ((ps.map (·.2)).take i)) ⟨same_upd nD, [], upd_same, rfl⟩ (fun i H' _ ⟨sm, _⟩ => sm.seq hl) ?_ ?_
    · rintro i v H1 H2 hi ⟨sm, kvs, hD, he⟩ ⟨rfl, hv⟩
      rw [List.getElem?_map] at hv
      obtain ⟨p, hp', rfl⟩ : ∃ p, ps[i]? = some p ∧ v = .ref p.1 := by
        cases e : ps[i]? with
        | none => rw [e] at hv; cases hv
        | some p => rw [e] at hv; exact ⟨p, rfl, (Option.some.inj hv).symm⟩
      have hil := (List.getElem?_eq_some_iff.mp hp').1
      refine ⟨rfl, ?_⟩
      refine yes2 ?_
      refine ⟨_, rfl, _, ⟨kvs, p.2, p.1, hD, rfl, sm _ _ (hp p (List.mem_of_getElem? hp')), ?_, rfl⟩, fun b o e => ?_, _, upd_same, ?_⟩
      · have := congrArg List.length he
        have h2 := onceL_len ((ps.map (·.2)).take i)
        rw [List.length_map] at this
        rw [List.length_take] at h2
        omega
      · rw [upd_ne (ne_of_none e nD)]
        exact sm b o e
      · rw [putK_keys, he, take_next (xs := ps.map (·.2)) (x := p.2) (by rw [List.getElem?_map, hp']; rfl), onceL_snoc]
    · rintro H1 ⟨sm, kvs, hD, he⟩
      rw [List.length_map, show ps.length = (ps.map (·.2)).length by rw [List.length_map], List.take_length] at he
      refine ⟨D, kvs, rfl, .inl hD, fun r bs nr hk => ?_⟩
      obtain ⟨qs, e1, e2, e3⟩ := isKeys_ak hk
      have s2 := same_upd (o := .lst (bs.map V.ref)) nr
      refine q r qs _ (sm.trans s2) (sm.free nr) (by rw [upd_same, e1]) (fun x hx => s2 _ _ (e2 x hx)) (by rw [e3, he])
end
end Onp
set_option maxHeartbeats 4000000
set_option autoImplicit false
/-! d.update(e), both dicts: the keys ints and texts, or tuples of them -/
namespace Onp
open PySem PySem.Spec PyProof.Rows L2
def mergeT (kvs more : List (List L2.Key × V)) : List (List L2.Key × V) := more.foldl (fun acc kv => putK acc kv.1 kv.2) kvs
theorem mergeT_len : ∀ (more kvs : List (List L2.Key × V)), (mergeT kvs more).length ≤ kvs.length + more.length
  | [], _ => Nat.le_refl _
  | p :: r, kvs => by
    have h1 := mergeT_len r (putK kvs p.1 p.2)
    have h2 := length_putK kvs p.1 p.2
    show (mergeT (putK kvs p.1 p.2) r).length ≤ _
    rw [List.length_cons]
    omega
theorem kt_merge {H : Hp} : ∀ {more kvs : List (List L2.Key × V)} {rs xs : List (List L2.Key × Addr × Value)}, KT H more rs → KT H kvs xs → KT H (mergeT kvs more) (storedAllH xs rs) := by
  intro more kvs rs xs r
  unfold KT at r
  induction r generalizing kvs xs with
  | nil => intro q; exact q
  | @cons p q ps qs h t ih =>
    intro x
    obtain ⟨e, hb, hv⟩ := h
    have h2 := x.put p.1 (b := q.2.1) (y := p.2) (u := q.2.2) hb hv
    have h3 := ih h2
    show KT H (mergeT (putK kvs p.1 p.2) ps) (storedAllH (storedH xs q.1 q.2.1 q.2.2) qs)
    rw [← e]
    exact h3
section
variable {X : Cx} {pins : List (Addr × Obj)} {σ : L2.St} {H : Hp} {s : Shared} {a b : Addr} {A : Around} {E : Value → Shared → Prop}
theorem d_updK {kvs more : List (Key × V)} {Q : Value → Shared → Prop} (I : Inv X pins σ H s) (ea : H a = some (.dK kvs)) (eb : H b = some (.dK more)) (hne : a ≠ b) (hz : kvs.length + more.length ≤ sizeLine)
    (h : ∀ s', Inv X pins σ (upd H a (.dK (mergeK kvs more))) s' → Q .none s') : wpAny (model X.prog X.w) A (call (.builtin "dict.update") [.ref a, .ref b]) Q E s := by
  obtain ⟨z, hd, vs, rel, dd⟩ := dk_of I.hok ea
  obtain ⟨z2, hd2, ws, rel2, dd2⟩ := dk_of I.hok eb
  have l1 := rel.length
  have l2 := rel2.length
  refine call_meetsIn PySem.F.slot_dict_update dd.typeIs PySem.F.entry_dict_update (PySem.F.args_dict_update_2 _ _) (meets_dict_update (mixKind X.prog X.w) a b hne hd2) ⟨vs, ws, dd, dd2, by omega, fun h' dd' _ hs => h _ ?_⟩
  have hl : (mergeK kvs more).length ≤ sizeLine := Nat.le_trans (length_mergeK more kvs) hz
  have q : ∃ q, h'.get? a = some q := by
    obtain ⟨o, es, ep, ho, _⟩ := dd'
    exact ⟨o, ho⟩
  exact d_write I (by rw [ea]; exact True.intro) hs q (dk_new hl hd (KV.merge rel2 rel) dd')
theorem d_updT {kvs more : List (List L2.Key × V)} {Q : Value → Shared → Prop} (hu : A.units + 1 < cLine) (I : Inv X pins σ H s) (ea : H a = some (.dT kvs)) (eb : H b = some (.dT more)) (hne : a ≠ b) (h0 : kvs ≠ []) (hz : kvs.length + more.length ≤ sizeLine)
    (h : ∀ s', Inv X pins σ (upd H a (.dT (mergeT kvs more))) s' → Q .none s') : wpAny (model X.prog X.w) A (call (.builtin "dict.update") [.ref a, .ref b]) Q E s := by
  obtain ⟨z, hd, xs, rel, dd⟩ := dt_of I.hok ea
  obtain ⟨z2, hd2, ys, rel2, dd2⟩ := dt_of I.hok eb
  have l1 : kvs.length = xs.length := Paired.length rel
  have l2 : more.length = ys.length := Paired.length rel2
  refine call_update_dictH (tupleKind_room_in1 hu) hne hd2 dd dd2 (.inl fun e => h0 (List.length_eq_zero_iff.mp (by rw [l1, e]; rfl))) (by omega) fun h' dd' _ hs => h _ ?_
  have hl : (mergeT kvs more).length ≤ sizeLine := Nat.le_trans (mergeT_len more kvs) hz
  obtain ⟨q, es, ep, hq, c2, c3, c4, _, c5⟩ := dd'
  refine d_write I (by rw [ea]; exact True.intro) hs ⟨q, hq⟩ ⟨hl, hd, _, (kt_merge rel2 rel).keeps fun c zs ec => ?_, q, es, ep, hq, c2, c3, c4, c5⟩
  rw [upd_ne (ne_of ec ea (fun z => nomatch z))]
  exact ec
end
def tDUpK (td ty : TE) : TE := fun σ H Q => td σ H fun x H1 => ∃ a, x = .ref a ∧ IsD H1 a ∧ ty σ H1 fun y H2 => ∃ (b : Addr) (kvs more : List (Key × V)), y = .ref b ∧ H2 a = some (.dK kvs) ∧ H2 b = some (.dK more) ∧ a ≠ b ∧ kvs.length + more.length ≤ sizeLine ∧ Q .non (upd H2 a (.dK (mergeK kvs more)))
def tDUpT (td ty : TE) : TE := fun σ H Q => td σ H fun x H1 => ∃ a, x = .ref a ∧ IsD H1 a ∧ ty σ H1 fun y H2 => ∃ (b : Addr) (kvs more : List (List L2.Key × V)), y = .ref b ∧ H2 a = some (.dT kvs) ∧ H2 b = some (.dT more) ∧ a ≠ b ∧ kvs ≠ [] ∧ kvs.length + more.length ≤ sizeLine ∧ Q .non (upd H2 a (.dT (mergeT kvs more)))
section
variable {X : Cx} {o e : Expr} {apos cpos : Pos} {td ty : TE}
theorem pe_dupdK (hu : X.A.units + 64 < cLine) (ho : PE X o td) (he : PE X e ty) (m : M1 X o "update" apos e cpos) : PE X (.Call (.Attribute o "update" apos) [e] [] cpos) (tDUpK td ty) := by
  refine ⟨fun pins s σ H Q I h => ?_⟩
  refine wpAny_Call_method m.base m.few m.line PySem.F.plainAttrs_dict PySem.F.slot_dict_update PySem.F.type_dict_update (thn (ho.run pins s σ H _ I h) fun u s1 ⟨x, H1, I1, rx, a, ex, d, q1⟩ => ?_)
  subst ex
  obtain rfl : u = Value.ref a := rx
  obtain ⟨t1, t2, _⟩ := isD_at I1 d
  refine ⟨t1, t2, ?_⟩
  rw [m.trees]
  refine Calls.callWith_builtin rfl (Calls.evalArgs_plain (Calls.spliced_cons (thn (he.run pins s1 σ H1 _ I1 q1) fun iv s2 ⟨y, H2, I2, ry, b, kvs, more, ey, ea, eb, hne, hz, q2⟩ => Calls.spliced_nil ?_)))
  subst ey
  obtain rfl : iv = Value.ref b := ry
  exact d_updK I2 ea eb hne hz fun s3 I3 => ⟨.non, _, I3, rfl, q2⟩
theorem pe_dupdT (hu : X.A.units + 64 < cLine) (ho : PE X o td) (he : PE X e ty) (m : M1 X o "update" apos e cpos) : PE X (.Call (.Attribute o "update" apos) [e] [] cpos) (tDUpT td ty) := by
  refine ⟨fun pins s σ H Q I h => ?_⟩
  refine wpAny_Call_method m.base m.few m.line PySem.F.plainAttrs_dict PySem.F.slot_dict_update PySem.F.type_dict_update (thn (ho.run pins s σ H _ I h) fun u s1 ⟨x, H1, I1, rx, a, ex, d, q1⟩ => ?_)
  subst ex
  obtain rfl : u = Value.ref a := rx
  obtain ⟨t1, t2, _⟩ := isD_at I1 d
  refine ⟨t1, t2, ?_⟩
  rw [m.trees]
  refine Calls.callWith_builtin rfl (Calls.evalArgs_plain (Calls.spliced_cons (thn (he.run pins s1 σ H1 _ I1 q1) fun iv s2 ⟨y, H2, I2, ry, b, kvs, more, ey, ea, eb, hne, h0, hz, q2⟩ => Calls.spliced_nil ?_)))
  subst ey
  obtain rfl : iv = Value.ref b := ry
  exact d_updT (by omega) I2 ea eb hne h0 hz fun s3 I3 => ⟨.non, _, I3, rfl, q2⟩
end
/-! ### ints and texts as keys, for the same comprehension -/
def PutI : PutR := fun H D y v H' => ∃ (kvs : List (Key × V)) (k : Key), H D = some (.dK kvs) ∧ y = kV k ∧ kvs.length < sizeLine ∧ H' = upd H D (.dK (putK kvs k v))
theorem putI_ok (P : Program) (w : World) : PutOk P w PutI := by
  intro X pins σ H H' s E D y v u r Q e1 e2 hu I hp ry rv h
  obtain ⟨kvs, k, hD, rfl, hz, rfl⟩ := hp
  exact d_dictSet I hD hz ry rv h
theorem newI_ok (P : Program) (w : World) : NewOk P w (.dK []) := fun _ h hb => dk_empty h hb
/-- a dict whose keys are these ints -/
def dI (ks : List Int) : List (Key × V) := ks.map fun i => (Sum.inl i, V.bl true)
theorem dI_len (ks : List Int) : (dI ks).length = ks.length := List.length_map ..
theorem dI_val (ks : List Int) (i : Int) : (valV (dI ks) (Sum.inl i)).isSome = decide (i ∈ ks) := by
  rw [← valV_any, Bool.eq_iff_iff, List.any_eq_true, decide_eq_true_eq]
  constructor
  · rintro ⟨x, hx, e⟩
    obtain ⟨j, hj, rfl⟩ := List.mem_map.mp hx
    have := Sum.inl.inj (of_decide_eq_true e)
    exact this ▸ hj
  · exact fun h => ⟨(Sum.inl i, V.bl true), List.mem_map.mpr ⟨i, h, rfl⟩, decide_eq_true rfl⟩
theorem dI_put (ks : List Int) (i : Int) : putK (dI ks) (Sum.inl i) (.bl true) = dI (if i ∈ ks then ks else ks ++ [i]) := by
  have e : ((dI ks).any fun kv => decide (kv.1 = Sum.inl i)) = decide (i ∈ ks) := by rw [valV_any, dI_val]
  unfold putK
  rw [e]
  by_cases h : i ∈ ks
  · rw [decide_eq_true h, if_pos rfl, if_pos h]
    unfold dI
    rw [List.map_map]
    refine List.map_congr_left fun x _ => ?_
    show (if (Sum.inl x : Key) = Sum.inl i then ((Sum.inl x : Key), V.bl true) else (Sum.inl x, V.bl true)) = _
    by_cases c : (Sum.inl x : Key) = Sum.inl i
    · rw [if_pos c]
    · rw [if_neg c]
  · rw [decide_eq_false h, if_neg Bool.false_ne_true, if_neg h]
    unfold dI
    rw [List.map_append]
    rfl
theorem dI_merge (ks : List Int) : ∀ (ns : List Int), mergeK (dI ks) (dI ns) = dI (ns.foldl (fun a i => if i ∈ a then a else a ++ [i]) ks) := by
  intro ns
  induction ns generalizing ks with
  | nil => rfl
  | cons i r ih =>
    show mergeK (putK (dI ks) (Sum.inl i) (.bl true)) (dI r) = _
    rw [dI_put, ih]
    rfl
theorem dI_keys (ks : List Int) : (dI ks).map (fun kv => kV kv.1) = ks.map V.int := by
  unfold dI
  rw [List.map_map]
  rfl
end Onp
set_option autoImplicit false
namespace Onp
open PySem PySem.Spec PyProof.Rows L2
theorem inV_ints (z : Int) : ∀ ns : List Int, inV (.int z) (ns.map V.int) = decide (z ∈ ns)
  | [] => by rfl
  | y :: r => by
    have ih := inV_ints z r
    unfold inV at ih ⊢
    rw [List.map_cons, List.any_cons, ih]
    have e1 : eqV (.int y) (.int z) = decide (y = z) := by
      show (y == z) = _
      rw [Bool.eq_iff_iff, beq_iff_eq, decide_eq_true_eq]
    first
      | rw [e1]
      | skip
    by_cases e : y = z
    · subst e
      rw [decide_eq_true rfl, decide_eq_true List.mem_cons_self]
      rfl
    · rw [decide_eq_false e]
      by_cases h : z ∈ r
      · rw [decide_eq_true h, decide_eq_true (List.mem_cons_of_mem _ h)]
        rfl
      · rw [decide_eq_false h, decide_eq_false (fun q => (List.mem_cons.mp q).elim (fun z => e z.symm) h)]
        rfl
theorem flatInts (ns : List Int) : (ns.map V.int).all flatV = true := by
  rw [List.all_map]
  exact List.all_eq_true.mpr fun _ _ => rfl
end Onp
set_option maxHeartbeats 8000000
set_option autoImplicit false
namespace Onp
open PySem PySem.Spec PyProof.Rows L2
section
variable {P : Program} {w : World} {K : PySem.W.Frag} {mg : Str → Option Value} {base : Heap}
/-! ### once_each of ints -/
def spOnceI (K : PySem.W.Frag) : Sp := fun vs H Q _ => ∃ (l : Addr) (ns : List Int), vs = [.ref l] ∧ SqL K H l (ns.map V.int) ∧ ns.length ≤ 5000 ∧ ∀ (r : Addr) H', Same H H' → H r = none → H' r = some (.lst ((onceL ns).map V.int)) → Q (.ref r) H'
theorem ok_onceI {f : Addr} {fd : FuncData} {k : Nat} (F : Fun K "once_each" "once_each" sOnce f fd) (ml : mg "list" = none) : FnOk P w K mg base CX0 (k + 1) f fd ["things"] (spOnceI K) := by
  refine F.ok scOnce (fun vs H Q E h => ?_) (fun cdv A outer s H vs Q E hr h => ?_)
  · obtain ⟨l, ns, rfl, _⟩ := h
    rfl
  · obtain ⟨l, ns, rfl, hl, hn, q⟩ := h
    have hu : (cxOf CX0 P w K mg base NOn "once_each" (defScope sOnce) f cdv A outer s H E).nox.A.units + 64 < cLine := hr.units
    refine ⟨_, (pss_one (ps_ret (pe_callTy (call_listD rfl) (by rfl) ml (by decide +kernel) (pa_cons (pe_dcG (own := [("thing", 1)]) (g := (gName 1)) (tt := tYes) (tk := (tVar 1)) (tv := (tC (.bl true))) (newI_ok _ _) (putI_ok _ _) hu rfl scOnce.nd
          (pi_list (pv 0)) (blkOk_by (own := [("thing", 1)]) (N := NOn) (sc := defScope sOnce) (by decide +kernel)) (fun _ _ _ _ _ => (pg_name (i := 1) scOnce.nd rfl (.inl rfl)))
          (fun _ _ _ _ _ => pts_nil) (fun _ _ _ _ _ => (pv 1)) (fun _ _ _ _ _ => pe_bl)) pa_nil)))), ?_⟩
    have hbig : 5000 < sizeLine := by decide
    refine ⟨_, rfl, l, rfl, ⟨_, hl⟩, fun D nD => ?_⟩
    refine lcG walk_list (fun i H' => Same H H' ∧ H' D = some (.dK (dI (onceL (ns.take i))))) ⟨same_upd nD, upd_same⟩ (fun i H' _ ⟨sm, _⟩ => sm.seq hl) ?_ ?_
    · rintro i v H1 H2 hi ⟨sm, hD⟩ ⟨rfl, hv⟩
      rw [List.getElem?_map] at hv
      obtain ⟨p, hp', rfl⟩ : ∃ p, ns[i]? = some p ∧ v = .int p := by
        cases e : ns[i]? with
        | none => rw [e] at hv; cases hv
        | some p => rw [e] at hv; exact ⟨p, rfl, (Option.some.inj hv).symm⟩
      have hil := (List.getElem?_eq_some_iff.mp hp').1
      refine ⟨rfl, ?_⟩
      refine yes2 ?_
      refine ⟨_, rfl, _, ⟨_, Sum.inl p, hD, rfl, ?_, rfl⟩, fun b o e => ?_, ?_⟩
      · have h2 := onceL_len (ns.take i)
        rw [dI_len]
        rw [List.length_take] at h2
        omega
      · rw [upd_ne (ne_of_none e nD)]
        exact sm b o e
      · rw [upd_same, dI_put, take_next hp', onceL_snoc]
        rfl
    · rintro H1 ⟨sm, hD⟩
      rw [List.length_map, List.take_length] at hD
      refine ⟨D, _, rfl, .inl hD, fun r nr => ?_⟩
      have s2 := same_upd (o := .lst ((dI (onceL ns)).map fun kv => kV kv.1)) nr
      exact q r _ (sm.trans s2) (sm.free nr) (by rw [upd_same, dI_keys])
end
end Onp
set_option autoImplicit false
namespace L2
open PySem PySem.Spec PyProof.Rows
section
variable {X : Cx}
/-- a statement, then the rest, with a word between them -/
def tCutM (t u : TS) : TS := fun D σ H => ∃ Mid : L2.St → Hp → Prop, t { D with nx := Mid } σ H ∧ ∀ σ' H', Mid σ' H' → u D σ' H'
theorem pss_cutM {st : Stmt} {rest : List Stmt} {t u : TS} (h1 : PS X st t) (h2 : PSs X rest u) : PSs X (st :: rest) (tCutM t u) := by
  refine ⟨fun pins s σ H D I h => ?_⟩
  obtain ⟨Mid, hm, hu⟩ := h
  refine wpAny_execs_cons (thn (h1.run pins s σ H { D with nx := Mid } I hm) fun f s1 q => ?_)
  cases f with
  | next =>
    obtain ⟨σ', H', I', q⟩ := q
    exact h2.run pins s1 σ' H' D I' (hu σ' H' q)
  | ret v => exact q
  | brk => exact q
  | cont => exact q
end
end L2
set_option autoImplicit false
/-! what steps lead to -/
namespace Onp
inductive Rch {κ : Type} (S : List κ) (E : List (κ × κ)) : κ → Prop where
  | start {x : κ} : x ∈ S → Rch S E x
  | step {x y : κ} : Rch S E x → (x, y) ∈ E → Rch S E y
theorem Rch.into {κ : Type} {S : List κ} {E : List (κ × κ)} {F : List κ} (h0 : ∀ x ∈ S, x ∈ F) (h1 : ∀ x y, (x, y) ∈ E → x ∈ F → y ∈ F) : ∀ {x}, Rch S E x → x ∈ F := by
  intro x h
  induction h with
  | start h => exact h0 _ h
  | step _ e ih => exact h1 _ _ e ih
theorem Rch.all {κ : Type} {S : List κ} {E : List (κ × κ)} {x : κ} (h : Rch S E x) : x ∈ S ++ E.map (·.2) := by
  cases h with
  | start h => exact List.mem_append_left _ h
  | step _ e => exact List.mem_append_right _ (List.mem_map.mpr ⟨_, e, rfl⟩)
theorem Rch.mono {κ : Type} {S S' : List κ} {E E' : List (κ × κ)} (h0 : ∀ x ∈ S, x ∈ S') (h1 : ∀ e ∈ E, e ∈ E') : ∀ {x}, Rch S E x → Rch S' E' x := by
  intro x h
  induction h with
  | start h => exact .start (h0 _ h)
  | step _ e ih => exact .step ih (h1 _ e)
theorem Rch.congr {κ : Type} {S S' : List κ} {E E' : List (κ × κ)} (h0 : ∀ x, x ∈ S ↔ x ∈ S') (h1 : ∀ e, e ∈ E ↔ e ∈ E') (x : κ) : Rch S E x ↔ Rch S' E' x :=
  ⟨Rch.mono (fun x h => (h0 x).mp h) (fun e h => (h1 e).mp h), Rch.mono (fun x h => (h0 x).mpr h) (fun e h => (h1 e).mpr h)⟩
theorem filt_snocG {κ ι : Type} {c : κ → Bool} {f : κ → ι} {xs : List κ} {i : Nat} {x : κ} (h : xs[i]? = some x) : ((xs.take (i + 1)).filter c).map f = ((xs.take i).filter c).map f ++ (if c x = true then [f x] else []) := by
  have e : xs.take (i + 1) = xs.take i ++ [x] := by rw [List.take_add_one, h]; rfl
  rw [e, List.filter_append, List.map_append]
  congr 1
  by_cases e : c x = true
  · rw [if_pos e, List.filter_cons_of_pos e]
    rfl
  · rw [if_neg e, List.filter_cons_of_neg e]
    rfl
theorem hu1 {n c : Nat} (h : n + 64 < c) : n + 1 < c := by omega
end Onp
set_option maxHeartbeats 8000000
set_option autoImplicit false
namespace Onp
open PySem PySem.Spec PyProof.Rows L2
abbrev sCome : Stmt := topS 25
section
variable {P : Program} {w : World} {K : PySem.W.Frag} {mg : Str → Option Value} {base : Heap}
/-! ### come_to, the starts ints -/
theorem ints_at {ns : List Int} {i : Nat} {v : V} (h : (ns.map V.int)[i]? = some v) : ∃ p, ns[i]? = some p ∧ v = .int p := by
  rw [List.getElem?_map] at h
  cases e : ns[i]? with
  | none => rw [e] at h; cases h
  | some p => rw [e] at h; exact ⟨p, rfl, (Option.some.inj h).symm⟩
theorem rfs_at {ps : List AR} {i : Nat} {v : V} (h : (rfs ps)[i]? = some v) : ∃ p : AR, ps[i]? = some p ∧ v = .ref p.1 := by
  unfold rfs at h
  rw [List.getElem?_map] at h
  cases e : ps[i]? with
  | none => rw [e] at h; cases h
  | some p => rw [e] at h; exact ⟨p, rfl, (Option.some.inj h).symm⟩
theorem fold_once_app {κ : Type} [DecidableEq κ] : ∀ (fr fk : List κ), fr.Nodup → (∀ x ∈ fr, x ∉ fk) → fr.foldl onceS fk = fk ++ fr
  | [], fk, _, _ => by rw [List.append_nil]; rfl
  | x :: r, fk, hn, hd => by
    obtain ⟨h1, h2⟩ := List.nodup_cons.mp hn
    have e : onceS fk x = fk ++ [x] := by unfold onceS; rw [if_neg (hd x List.mem_cons_self)]
    rw [List.foldl_cons, e, fold_once_app r (fk ++ [x]) h2 fun y hy hm => ?_, List.append_assoc]
    · rfl
    · rcases List.mem_append.mp hm with h | h
      · exact hd y (List.mem_cons_of_mem _ hy) h
      · exact h1 (List.mem_singleton.mp h ▸ hy)
def NCo : List Str := ["starts", "arrows", "found", "newest", "fresh", "room", "arrow"]
theorem scCome : FnScope NCo ["starts", "arrows"] (defScope sCome) := ⟨rfl, rfl, rfl, by decide +kernel, rfl, by decide +kernel, by decide +kernel⟩
def edA (as : List Arw) : List (Int × Int) := as.map fun a => (a.1, a.2.2.2)
def spComeI (K : PySem.W.Frag) : Sp := fun vs H Q _ => ∃ (ls la : Addr) (S : List Int) (ps : List AR), vs = [.ref ls, .ref la] ∧ SqL K H ls (S.map V.int) ∧ SqL K H la (rfs ps) ∧ RowAt K H ps ∧ S.length ≤ 1000 ∧ ps.length ≤ 1000 ∧
  ∀ (r : Addr) (fk : List Int) H', Same H H' → H r = none → H' r = some (.lst (fk.map V.int)) → fk.Nodup → (∀ x, x ∈ fk ↔ Rch S (edA (ps.map (·.2))) x) → Q (.ref r) H'
theorem ok_comeI {f fOn : Addr} {fd fdOn : FuncData} {k : Nat} (F : Fun K "come_to" "come_to" sCome f fd) (On : FnM K mg fOn fdOn "once_each" sOnce ["things"]) (ml : mg "list" = none) : FnOk P w K mg base CX0 (k + 2) f fd ["starts", "arrows"] (spComeI K) := by
  have GO : FnOk P w K mg base CX0 (k + 1) fOn fdOn ["things"] (spOnceI K) := ok_onceI On.F ml
  refine F.ok scCome (fun vs H Q E h => ?_) (fun cdv A outer s H vs Q E hr h => ?_)
  · obtain ⟨ls, la, S, ps, rfl, _⟩ := h
    rfl
  · obtain ⟨ls, la, S, ps, rfl, hls, hla, hR, hS, hP, q⟩ := h
    have hu : (cxOf CX0 P w K mg base NCo "come_to" (defScope sCome) f cdv A outer s H E).nox.A.units + 64 < cLine := hr.units
    refine ⟨_, (pss_cutM (ps_set (i := 2) scCome.nd rfl (.inr rfl) (pe_dcG (own := [("room", 5)]) (g := (gName 5)) (tt := tYes) (tk := (tVar 5)) (tv := (tC (.bl true))) (newI_ok _ _) (putI_ok _ _) hu rfl scCome.nd
          (pi_list (pv 0)) (blkOk_by (own := [("room", 5)]) (N := NCo) (sc := defScope sCome) (by decide +kernel)) (fun _ _ _ _ _ => (pg_name (i := 5) scCome.nd rfl (.inl rfl)))
          (fun _ _ _ _ _ => pts_nil) (fun _ _ _ _ _ => (pv 5)) (fun _ _ _ _ _ => pe_bl)))
      (pss_cutM (ps_set (i := 3) scCome.nd rfl (.inr rfl) (pe_callTy (call_listD rfl) (by rfl) ml (by decide +kernel) (pa_cons (pv 2) pa_nil)))
      (pss_cons (ps_while PassesOwn.never (pt_truth (pv 3) (fun _ => rfl)) (pss_cutM (ps_set (i := 4) scCome.nd rfl (.inl rfl) (pe_call GO hr (by rfl) On.g On.F.kp On.b .nil pass0 (pa_cons (pe_lc (own := [("arrow", 6)]) (g := (gName 6)) (tt := (tAnd (tTest (tOp (rIn K false) (tOp (rIxT K) (tVar 6) (tC (.int 0))) (tVar 3))) (tB (tDNotIn (tOp (rIxT K) (tVar 6) (tC (.int 3))) (tVar 2))))) (te := (tOp (rIxT K) (tVar 6) (tC (.int 3)))) rfl scCome.nd
          (pi_list (pv 1)) (blkOk_by (own := [("arrow", 6)]) (N := NCo) (sc := defScope sCome) (by decide +kernel)) (fun _ _ _ _ _ => (pg_name (i := 6) scCome.nd rfl (.inl rfl)))
          (fun _ _ _ _ _ => (pts_one (PW.pt (pw_and (pt_cmpR op_in_seq (pe_ix ix_tup (pv 6) pe_int (fun _ _ => rfl)) (pv 3) (by rfl)) (pw_and1 (pt_cmp (pc_dnotin (hu1 hu) (pe_ix ix_tup (pv 6) pe_int (fun _ _ => rfl)) (pv 2)))))))) (fun _ _ _ _ _ => (pe_ix ix_tup (pv 6) pe_int (fun _ _ => rfl)))) pa_nil)))
      (pss_cutM (ps_expr (pe_dupdK hu (pv 2) (pe_dcG (own := [("room", 5)]) (g := (gName 5)) (tt := tYes) (tk := (tVar 5)) (tv := (tC (.bl true))) (newI_ok _ _) (putI_ok _ _) hu rfl scCome.nd
          (pi_list (pv 4)) (blkOk_by (own := [("room", 5)]) (N := NCo) (sc := defScope sCome) (by decide +kernel)) (fun _ _ _ _ _ => (pg_name (i := 5) scCome.nd rfl (.inl rfl)))
          (fun _ _ _ _ _ => pts_nil) (fun _ _ _ _ _ => (pv 5)) (fun _ _ _ _ _ => pe_bl)) ⟨rfl, rfl, rfl, rfl⟩))
      (pss_one (ps_set (i := 3) scCome.nd rfl (.inr rfl) (pv 4))))))
      (pss_one (ps_ret (pe_callTy (call_listD rfl) (by rfl) ml (by decide +kernel) (pa_cons (pv 2) pa_nil))))))), ?_⟩
    have hbig : 10000 < sizeLine := by decide
    -- found
    refine ⟨fun σ' H' => ∃ D : Addr, σ' = [some (.ref ls), some (.ref la), some (.ref D), none, none, none, none] ∧ Same H H' ∧ H D = none ∧ H' D = some (.dK (dI (onceL S))), ?_, ?_⟩
    · refine ⟨_, rfl, ls, rfl, ⟨_, hls⟩, fun D nD => ?_⟩
      refine lcG walk_list (fun i H' => Same H H' ∧ H' D = some (.dK (dI (onceL (S.take i))))) ⟨same_upd nD, upd_same⟩ (fun i H' _ ⟨sm, _⟩ => sm.seq hls) ?_ ?_
      · rintro i v H1 H2 hi ⟨sm, hD⟩ ⟨rfl, hv⟩
        obtain ⟨p, hp', rfl⟩ := ints_at hv
        have hil := (List.getElem?_eq_some_iff.mp hp').1
        refine ⟨rfl, ?_⟩
        refine yes2 ?_
        refine ⟨_, rfl, _, ⟨_, Sum.inl p, hD, rfl, ?_, rfl⟩, fun b o e => ?_, ?_⟩
        · have h2 := onceL_len (S.take i)
          rw [dI_len]
          rw [List.length_take] at h2
          omega
        · rw [upd_ne (ne_of_none e nD)]
          exact sm b o e
        · rw [upd_same, dI_put, take_next hp', onceL_snoc]
          rfl
      · rintro H1 ⟨sm, hD⟩
        rw [List.length_map, List.take_length] at hD
        exact ⟨D, rfl, sm, nD, hD⟩
    rintro σ H1 ⟨D, rfl, s1, nD, hD⟩
    -- the newest ones
    refine ⟨fun σ' H' => ∃ N : Addr, σ' = [some (.ref ls), some (.ref la), some (.ref D), some (.ref N), none, none, none] ∧ Same H1 H' ∧ H' N = some (.lst ((onceL S).map V.int)), ?_, ?_⟩
    · exact ⟨_, rfl, D, _, rfl, .inl hD, fun N nN => ⟨N, rfl, same_upd nN, by rw [upd_same, dI_keys]⟩⟩
    rintro σ H2 ⟨N, rfl, s2, hN⟩
    have hle : ∀ fk : List Int, fk.Nodup → (∀ x ∈ fk, Rch S (edA (ps.map (·.2))) x) → fk.length ≤ 2000 := fun fk h1 h2 => by
      have h3 := nd_le fk _ h1 fun x hx => (h2 x hx).all
      have h4 : (edA (ps.map (·.2))).length = ps.length := by unfold edA; rw [List.length_map, List.length_map]
      rw [List.length_append, List.length_map, h4] at h3
      omega
    refine ⟨fun m σ' H' => ∃ (N : Addr) (fk nk : List Int) (y4 : Option V), σ' = [some (.ref ls), some (.ref la), some (.ref D), some (.ref N), y4, none, none] ∧ Same H H' ∧ H' D = some (.dK (dI fk)) ∧ H' N = some (.lst (nk.map V.int)) ∧ fk.Nodup ∧ (∀ x ∈ S, x ∈ fk) ∧ (∀ x ∈ fk, Rch S (edA (ps.map (·.2))) x) ∧ (∀ x ∈ nk, x ∈ fk) ∧ (∀ x y, (x, y) ∈ edA (ps.map (·.2)) → x ∈ fk → x ∉ nk → y ∈ fk) ∧ m = 2 * (2000 - fk.length) + (if nk = [] then 0 else 1),
      ⟨_, N, onceL S, onceL S, none, rfl, s1.trans s2, s2 _ _ hD, hN, onceL_nd _, fun x hx => onceL_mem.mpr hx, fun x hx => .start (onceL_mem.mp hx), fun _ h => h, fun x y _ h1 h2 => absurd h1 h2, rfl⟩, ?_⟩
    clear s1 s2 hD hN N
    rintro m σ H3 ⟨N, fk, nk, y4, rfl, s3, hD, hN, hnd, hSf, hRc, hnk, hcl, rfl⟩
    refine ⟨_, rfl, _, .inl ⟨_, SqL.of hN, rfl⟩, ?_⟩
    by_cases hn : nk = []
    · subst hn
      refine iteF ?_
      refine ⟨_, rfl, D, _, rfl, .inl hD, fun r nr => ?_⟩
      have s4 := same_upd (o := .lst ((dI fk).map fun kv => kV kv.1)) nr
      refine q r fk _ (s3.trans s4) (s3.free nr) (by rw [upd_same, dI_keys]) hnd fun x => ⟨hRc x, fun h => h.into hSf (fun a b e ha => hcl a b e ha (fun z => nomatch z))⟩
    have hne : (!(nk.map V.int).isEmpty) = true := by
      cases nk with
      | nil => exact absurd rfl hn
      | cons _ _ => rfl
    rw [hne, if_neg hn]
    refine iteT ⟨fun σ' H' => ∃ m', m' < 2 * (2000 - fk.length) + 1 ∧ ∃ (N : Addr) (fk nk : List Int) (y4 : Option V), σ' = [some (.ref ls), some (.ref la), some (.ref D), some (.ref N), y4, none, none] ∧ Same H H' ∧ H' D = some (.dK (dI fk)) ∧ H' N = some (.lst (nk.map V.int)) ∧ fk.Nodup ∧ (∀ x ∈ S, x ∈ fk) ∧ (∀ x ∈ fk, Rch S (edA (ps.map (·.2))) x) ∧ (∀ x ∈ nk, x ∈ fk) ∧ (∀ x y, (x, y) ∈ edA (ps.map (·.2)) → x ∈ fk → x ∉ nk → y ∈ fk) ∧ m' = 2 * (2000 - fk.length) + (if nk = [] then 0 else 1), fun _ _ h => h, ?_⟩
    have hfl := hle fk hnd hRc
    -- the fresh ones
    refine ⟨fun σ' H' => ∃ (L : Addr) (fr : List Int), σ' = [some (.ref ls), some (.ref la), some (.ref D), some (.ref N), some (.ref L), none, none] ∧ Same H3 H' ∧ H' L = some (.lst (fr.map V.int)) ∧ fr.Nodup ∧ (∀ y, y ∈ fr ↔ ∃ x, (x, y) ∈ edA (ps.map (·.2)) ∧ x ∈ nk ∧ y ∉ fk), ?_, ?_⟩
    · refine ⟨_, rfl, la, rfl, ⟨_, s3.seq hla⟩, fun C nC => ?_⟩
      refine lc_list (K := K) (a := la) (xs := rfs ps) (fun i H' => Same H3 H' ∧ H' C = some (.lst (((((ps.map (·.2)).take i).filter fun a : Arw => decide (a.1 ∈ nk) && !decide (a.2.2.2 ∈ fk)).map fun a => a.2.2.2).map V.int))) ⟨same_upd nC, upd_same⟩ (fun i H' _ ⟨sm, _⟩ => sm.seq (s3.seq hla)) (fun i x H' hx ⟨sm, hC⟩ => ?_) (fun H4 ⟨s4, hC⟩ => ?_)
      · obtain ⟨p, hp, rfl⟩ := rfs_at hx
        have hil := (List.getElem?_eq_some_iff.mp hp).1
        have hpT := sameT (s3.trans sm) (hR p (List.mem_of_getElem? hp))
        have hsn := filt_snocG (c := fun a : Arw => decide (a.1 ∈ nk) && !decide (a.2.2.2 ∈ fk)) (f := fun a => a.2.2.2) (xs := ps.map (·.2)) (i := i) (x := p.2) (by rw [List.getElem?_map, hp]; rfl)
        refine ⟨rfl, ?_⟩
        refine ⟨_, rfl, p.1, _, 0, _, rfl, rfl, hpT, rfl, _, rfl, N, nk.map V.int, rfl, .inl (SqL.of (sm _ _ hN)), rfl, flatInts _, _, rfl, ?_⟩
        rw [if_neg Bool.false_ne_true, inV_ints]
        by_cases c : p.2.1 ∈ nk
        · rw [decide_eq_true c]
          refine iteT ?_
          refine ⟨_, rfl, p.1, _, 3, _, rfl, rfl, hpT, rfl, _, rfl, D, _, rfl, DGet.k (k := Sum.inl p.2.2.2.2) (sm _ _ hD), _, rfl, ?_⟩
          rw [dI_val]
          by_cases c2 : p.2.2.2.2 ∈ fk
          · rw [decide_eq_true c2]
            exact iteF ⟨sm, by rw [hC, hsn, if_neg (by rw [decide_eq_true c, decide_eq_true c2]; exact Bool.false_ne_true), List.append_nil]⟩
          · rw [decide_eq_false c2]
            refine iteT ⟨_, rfl, p.1, _, 3, _, rfl, rfl, hpT, rfl, _, hC, ?_, fun b o e => ?_, ?_⟩
            · rw [List.length_map, List.length_map]
              have := List.length_filter_le (fun a : Arw => decide (a.1 ∈ nk) && !decide (a.2.2.2 ∈ fk)) ((ps.map (·.2)).take i)
              rw [List.length_take, List.length_map] at this
              omega
            · rw [upd_ne (ne_of_none e nC)]
              exact sm b o e
            · rw [upd_same, hsn, if_pos (by rw [decide_eq_true c, decide_eq_false c2]; rfl), List.map_append]
              rfl
        · rw [decide_eq_false c]
          exact iteF ⟨sm, by rw [hC, hsn, if_neg (by rw [decide_eq_false c]; exact Bool.false_ne_true), List.append_nil]⟩
      rw [show (rfs ps).length = (ps.map (·.2)).length by rw [List.length_map]; exact List.length_map .., List.take_length] at hC
      refine ⟨C, _, rfl, SqL.of hC, ?_, fun L H5 s5 nL hL => ⟨L, _, rfl, s4.trans s5, hL, onceL_nd _, fun y => ?_⟩⟩
      · rw [List.length_map]
        have := List.length_filter_le (fun a : Arw => decide (a.1 ∈ nk) && !decide (a.2.2.2 ∈ fk)) (ps.map (·.2))
        rw [List.length_map] at this
        omega
      · rw [onceL_mem, List.mem_map]
        constructor
        · rintro ⟨a, ha, rfl⟩
          obtain ⟨h1, h2⟩ := List.mem_filter.mp ha
          rw [Bool.and_eq_true, decide_eq_true_eq, Bool.not_eq_true', decide_eq_false_iff_not] at h2
          exact ⟨a.1, List.mem_map.mpr ⟨a, h1, rfl⟩, h2.1, h2.2⟩
        · rintro ⟨x, hx, h1, h2⟩
          obtain ⟨a, ha, e⟩ := List.mem_map.mp hx
          have e1 : a.1 = x := congrArg (·.1) e
          have e2 : a.2.2.2 = y := congrArg (·.2) e
          refine ⟨a, List.mem_filter.mpr ⟨ha, ?_⟩, e2⟩
          rw [e1, e2, Bool.and_eq_true, decide_eq_true_eq, Bool.not_eq_true', decide_eq_false_iff_not]
          exact ⟨h1, h2⟩
    rintro σ H4 ⟨L, fr, rfl, s4, hL, hfn, hfr⟩
    have hdis : ∀ x ∈ fr, x ∉ fk := fun x hx => by
      obtain ⟨_, _, _, h⟩ := (hfr x).mp hx
      exact h
    have hRc' : ∀ x ∈ fk ++ fr, Rch S (edA (ps.map (·.2))) x := fun x hx => by
      rcases List.mem_append.mp hx with h | h
      · exact hRc x h
      · obtain ⟨a, h1, h2, _⟩ := (hfr x).mp h
        exact (hRc a (hnk a h2)).step h1
    have hnd' : (fk ++ fr).Nodup := List.nodup_append.mpr ⟨hnd, hfn, fun a ha b hb e => hdis b hb (e ▸ ha)⟩
    have hle' := hle _ hnd' hRc'
    rw [List.length_append] at hle'
    -- they are found
    refine ⟨fun σ' H' => σ' = [some (.ref ls), some (.ref la), some (.ref D), some (.ref N), some (.ref L), none, none] ∧ Same H H' ∧ H' D = some (.dK (dI (fk ++ fr))) ∧ H' L = some (.lst (fr.map V.int)), ?_, ?_⟩
    · have hD4 := s4 _ _ hD
      refine ⟨_, rfl, D, rfl, .inl ⟨_, .inl hD4⟩, _, rfl, L, rfl, ⟨_, SqL.of hL⟩, fun C nC => ?_⟩
      refine lcG walk_list (fun i H' => Same H4 H' ∧ H' C = some (.dK (dI (fr.take i)))) ⟨same_upd nC, upd_same⟩ (fun i H' _ ⟨sm, _⟩ => SqL.of (sm _ _ hL)) ?_ ?_
      · rintro i v H5 H6 hi ⟨sm, hC⟩ ⟨rfl, hv⟩
        obtain ⟨p, hp', rfl⟩ := ints_at hv
        have hil := (List.getElem?_eq_some_iff.mp hp').1
        have hni : p ∉ fr.take i := fun h => by
          have e : fr.take (i + 1) = fr.take i ++ [p] := take_next hp'
          have h2 : (fr.take (i + 1)).Nodup := hfn.sublist (List.take_sublist _ _)
          rw [e, List.nodup_append] at h2
          exact h2.2.2 p h p List.mem_cons_self rfl
        refine ⟨rfl, ?_⟩
        refine yes2 ?_
        refine ⟨_, rfl, _, ⟨_, Sum.inl p, hC, rfl, ?_, rfl⟩, fun b o e => ?_, ?_⟩
        · rw [dI_len, List.length_take]
          omega
        · rw [upd_ne (ne_of_none e nC)]
          exact sm b o e
        · rw [upd_same, dI_put, if_neg hni, take_next hp']
      · rintro H5 ⟨sm, hC⟩
        rw [List.length_map, List.take_length] at hC
        have hD5 := sm _ _ hD4
        refine ⟨C, _, _, rfl, hD5, hC, fun e => ?_, ?_, rfl, fun b o e => ?_, ?_, ?_⟩
        · rw [← e, hD4] at nC
          cases nC
        · rw [dI_len, dI_len]
          omega
        · rw [upd_ne (ne_of_none e nD)]
          exact sm _ _ (s4 _ _ (s3 _ _ e))
        · rw [upd_same, dI_merge]
          congr 3
          exact fold_once_app fr fk hfn hdis
        · rw [upd_ne (ne_of (sm _ _ hL) hD5 (fun z => nomatch z))]
          exact sm _ _ hL
    rintro σ H5 ⟨rfl, s5, hD5, hL5⟩
    refine ⟨_, rfl, _, ?_, L, fk ++ fr, fr, _, rfl, s5, hD5, hL5, hnd', fun x hx => List.mem_append_left _ (hSf x hx), hRc', fun x hx => List.mem_append_right _ hx, fun x y e hx hxn => ?_, rfl⟩
    · rw [List.length_append]
      by_cases hf : fr = []
      · subst hf
        rw [if_pos rfl, List.length_nil]
        omega
      · rw [if_neg hf]
        have : 0 < fr.length := List.length_pos_iff.mpr hf
        omega
    · rcases List.mem_append.mp hx with h | h
      · by_cases hxk : x ∈ nk
        · by_cases hy : y ∈ fk
          · exact List.mem_append_left _ hy
          · exact List.mem_append_right _ ((hfr y).mpr ⟨x, e, hxk, hy⟩)
        · exact List.mem_append_left _ (hcl x y e h hxk)
      · exact absurd h hxn
end
end Onp
set_option maxHeartbeats 4000000
set_option autoImplicit false
/-! rows of arrows that lie in the heap -/
namespace Onp
open PySem PySem.Spec PyProof.Rows L2
def aks (xs : List AR) : List V := xs.map fun p => V.ref p.1
def AkAt (H : Hp) (xs : List AR) : Prop := ∀ p ∈ xs, H p.1 = some (.tup (aV p.2))
theorem AkAt.same {H H' : Hp} {xs : List AR} (x : AkAt H xs) (s : Same H H') : AkAt H' xs := fun p hp => s _ _ (x p hp)
theorem AkAt.row {K : PySem.W.Frag} {H : Hp} {xs : List AR} (x : AkAt H xs) : RowAt K H xs := fun p hp => SqT.of (x p hp)
theorem AkAt.put {H : Hp} {xs : List AR} {D : Addr} {ys zs : List V} (x : AkAt H xs) (h : H D = some (.lst ys)) : AkAt (upd H D (.lst zs)) xs := fun p hp => by
  rw [upd_ne (ne_of (x p hp) h (fun z => nomatch z))]
  exact x p hp
theorem aks_len (xs : List AR) : (aks xs).length = xs.length := by unfold aks; rw [List.length_map]
theorem aks_app (a b : List AR) : aks (a ++ b) = aks a ++ aks b := by unfold aks; rw [List.map_append]
theorem aks_ref {xs : List AR} : ∀ x ∈ aks xs, ∃ p, x = .ref p := fun x hx => by
  obtain ⟨b, _, rfl⟩ := List.mem_map.mp hx
  exact ⟨_, rfl⟩
theorem aks_at {xs : List AR} {i : Nat} {v : V} (h : (aks xs)[i]? = some v) : ∃ p : AR, xs[i]? = some p ∧ v = .ref p.1 := by
  unfold aks at h
  rw [List.getElem?_map] at h
  cases e : xs[i]? with
  | none => rw [e] at h; cases h
  | some p => rw [e] at h; exact ⟨p, rfl, (Option.some.inj h).symm⟩
/-- one more of them -/
theorem grow_ak {H2 H' : Hp} {D t : Addr} {ps : List AR} {x : Arw} (nD : H2 D = none) (sm : Same H2 H') (hD : H' D = some (.lst (aks ps))) (hR : AkAt H' ps) (hl : ps.length ≤ 5000) (nt : H' t = none) :
    ∃ acc, (upd H' t (.tup (aV x))) D = some (.lst acc) ∧ acc.length < sizeLine ∧ Same H2 (upd (upd H' t (.tup (aV x))) D (.lst (acc ++ [.ref t]))) ∧ (upd (upd H' t (.tup (aV x))) D (.lst (acc ++ [.ref t]))) D = some (.lst (aks (ps ++ [(t, x)]))) ∧ AkAt (upd (upd H' t (.tup (aV x))) D (.lst (acc ++ [.ref t]))) (ps ++ [(t, x)]) := by
  have st : Same H' (upd H' t (.tup (aV x))) := fun b o e => by rw [upd_ne (ne_of_none e nt)]; exact e
  have hD' := st _ _ hD
  refine ⟨_, hD', by rw [aks_len]; exact Nat.lt_of_le_of_lt hl (by decide), fun b o e => ?_, by rw [upd_same, aks_app]; rfl, fun p hp => ?_⟩
  · rw [upd_ne (ne_of_none e nD)]
    exact st _ _ (sm b o e)
  · have ht : (upd H' t (.tup (aV x))) p.1 = some (.tup (aV p.2)) := by
      rcases List.mem_append.mp hp with h | h
      · exact st _ _ (hR p h)
      · rw [List.mem_singleton.mp h]
        exact upd_same
    rw [upd_ne (ne_of ht hD' (fun z => nomatch z))]
    exact ht
/-- as keys -/
def akK (ps : List AR) : List AK := ps.map fun p => (p.1, akey p.2)
theorem akK_ref (ps : List AR) : (akK ps).map (fun p => V.ref p.1) = aks ps := by
  unfold akK aks
  rw [List.map_map]
  rfl
theorem akK_at {H : Hp} {ps : List AR} (x : AkAt H ps) : ∀ p ∈ akK ps, H p.1 = some (.tup (p.2.map kV)) := fun p hp => by
  obtain ⟨q, hq, rfl⟩ := List.mem_map.mp hp
  exact x q hq
theorem akK_keys (ps : List AR) : (akK ps).map (·.2) = (ps.map (·.2)).map akey := by
  unfold akK
  rw [List.map_map, List.map_map]
  rfl
/-- and back: keys that are arrows' -/
theorem ak_back {H : Hp} : ∀ {qs : List AK} {as : List Arw}, (∀ q ∈ qs, H q.1 = some (.tup (q.2.map kV))) → qs.map (·.2) = as.map akey → ∃ ps : List AR, qs.map (fun p => V.ref p.1) = aks ps ∧ AkAt H ps ∧ ps.map (·.2) = as
  | [], [], _, _ => ⟨[], rfl, (fun _ h => nomatch h), rfl⟩
  | [], _ :: _, _, h => nomatch h
  | _ :: _, [], _, h => nomatch h
  | q :: qs, a :: as, hq, h => by
    obtain ⟨h1, h2⟩ := List.cons.inj h
    obtain ⟨ps, e1, e2, e3⟩ := ak_back (fun x hx => hq x (List.mem_cons_of_mem _ hx)) h2
    refine ⟨(q.1, a) :: ps, by rw [List.map_cons, e1]; rfl, fun p hp => ?_, by rw [List.map_cons, e3]⟩
    rcases List.mem_cons.mp hp with rfl | hp
    · have := hq q List.mem_cons_self
      rw [show q.2 = akey a from h1] at this
      exact this
    · exact e2 p hp
end Onp
set_option maxHeartbeats 8000000
set_option autoImplicit false
namespace Onp
open PySem PySem.Spec PyProof.Rows L2
abbrev sWithK : Stmt := topS 27
def keepA (a : Arw) : Arw := (a.1, a.2.1, "keep", a.2.2.2)
section
variable {P : Program} {w : World} {K : PySem.W.Frag} {mg : Str → Option Value} {base : Heap}
/-! ### once_each of arrows -/
theorem once_arws {K : PySem.W.Frag} {H : Hp} {l : Addr} {ps : List AR} {Q : VK} {E : XK} (hl : SqL K H l (aks ps)) (hp : AkAt H ps) (hn : ps.length ≤ 5000) (q : ∀ (r : Addr) (qs : List AR) H', Same H H' → H r = none → H' r = some (.lst (aks qs)) → AkAt H' qs → qs.map (·.2) = onceL (ps.map (·.2)) → Q (.ref r) H') : spOnceT K [.ref l] H Q E := by
  refine ⟨l, akK ps, rfl, by rw [akK_ref]; exact hl, akK_at hp, by unfold akK; rw [List.length_map]; exact hn, fun r qs H' s nr hr hq he => ?_⟩
  rw [akK_keys, onceL_map (fun _ _ => akey_inj)] at he
  obtain ⟨bs, e1, e2, e3⟩ := ak_back hq he
  exact q r bs H' s nr (by rw [hr, e1]) e2 e3
/-! ### with_keep -/
def spWithK (K : PySem.W.Frag) (C : Addr) : Sp := fun vs H Q _ => ∃ (a : Addr) (M : AM), vs = [.ref a] ∧ MachAt K C H a M ∧ M.as.length ≤ 1000 ∧ ∀ (l : Addr) (ps : List AR) H', Same H H' → H l = none → H' l = some (.lst (aks ps)) → AkAt H' ps → ps.map (·.2) = onceL (M.as.map keepA) → Q (.ref l) H'
def NWk : List Str := ["machine", "start", "letter", "deed", "end"]
theorem scWithK : FnScope NWk ["machine"] (defScope sWithK) := ⟨rfl, rfl, rfl, by decide +kernel, rfl, by decide +kernel, by decide +kernel⟩
theorem ok_withK {f C fAr fOn : Addr} {fd fdAr fdOn : FuncData} {k : Nat} (F : Fun K "with_keep" "with_keep" sWithK f fd) (T : ClsM K C) (On : FnM K mg fOn fdOn "once_each" sOnce ["things"]) (FAr : Fun K "arrows" "Machine.arrows" sMArrs fAr fdAr) (bAr : Binds K fdAr ["self"] []) (mAr : Meth K C "arrows" fAr) (ml : mg "list" = none) : FnOk P w K mg base CX0 (k + 2) f fd ["machine"] (spWithK K C) := by
  have G3 : FnOk P w K mg base CX0 (k + 1) fAr fdAr ["self"] (spMArrs K C) := ok_marrs FAr T ml
  have GO : FnOk P w K mg base CX0 (k + 1) fOn fdOn ["things"] (spOnceT K) := ok_onceT On.F ml
  refine F.ok scWithK (fun vs H Q E h => ?_) (fun cdv A outer s H vs Q E hr h => ?_)
  · obtain ⟨a, M, rfl, _⟩ := h
    rfl
  · obtain ⟨a, M, rfl, mA, hl100, q⟩ := h
    obtain ⟨dx, ta, tf, tg, D0, ps0, h1, hrest⟩ := id mA
    refine ⟨_, pss_one (ps_ret (pe_call GO hr (by rfl) On.g On.F.kp On.b .nil pass0 (pa_cons (pe_lc (own := [("start", 1), ("letter", 2), ("deed", 3), ("end", 4)]) (g := gTup K 4 (gCons (gName 1) (gCons (gName 2) (gCons (gName 3) (gCons (gName 4) gNil))))) (tt := tYes) (te := tTup (tCons (tVar 1) (tCons (tVar 2) (tCons (tC (.str "keep")) (tCons (tVar 4) tNil))))) rfl scWithK.nd
        (pi_list (pe_meth0 (pv 0) T.cl mAr G3 hr bAr .nil pass0)) (blkOk_by (own := [("start", 1), ("letter", 2), ("deed", 3), ("end", 4)]) (N := NWk) (sc := defScope sWithK) (by decide +kernel))
        (fun _ _ _ _ _ => pg_tup rfl (pgs_cons (pg_name (i := 1) scWithK.nd rfl (.inl rfl)) (pgs_cons (pg_name (i := 2) scWithK.nd rfl (.inl rfl)) (pgs_cons (pg_name (i := 3) scWithK.nd rfl (.inl rfl)) (pgs_cons (pg_name (i := 4) scWithK.nd rfl (.inl rfl)) pgs_nil)))))
        (fun _ _ _ _ _ => pts_nil) (fun _ _ _ _ _ => pe_tup (pa_cons (pv 1) (pa_cons (pv 2) (pa_cons pe_str (pa_cons (pv 4) pa_nil)))))) pa_nil))), ?_⟩
    refine ⟨_, rfl, a, dx, _, rfl, h1, mfl_none (by decide +kernel), a, M, rfl, mA, fun l1 ps nl1 hR he => ?_⟩
    have s1 := same_upd (o := .lst (rfs ps)) nl1
    have hl1 : (upd H l1 (.lst (rfs ps))) l1 = some (.lst (rfs ps)) := upd_same
    have hR1 := hR.same s1
    generalize upd H l1 (.lst (rfs ps)) = H1 at s1 hl1 hR1
    have hpl : ps.length = M.as.length := by
      have := congrArg List.length he
      rw [List.length_map] at this
      exact this
    refine ⟨l1, rfl, ⟨_, SqL.of hl1⟩, fun D nD => ?_⟩
    refine lc_list (K := K) (a := l1) (xs := rfs ps) (fun i H' => Same H1 H' ∧ ∃ qs : List AR, H' D = some (.lst (aks qs)) ∧ AkAt H' qs ∧ qs.map (·.2) = ((ps.map (·.2)).take i).map keepA) ⟨same_upd nD, [], upd_same, (fun _ h => nomatch h), rfl⟩ (fun i H' _ ⟨sm, _⟩ => SqL.of (sm _ _ hl1)) (fun i x H' hx ⟨sm, qs, hD, hQ, hqe⟩ => ?_) (fun H2 ⟨s2, qs, hD, hQ, hqe⟩ => ?_)
    · obtain ⟨p, hp, rfl⟩ := aks_at (xs := ps) hx
      have hpT := sameT sm (hR1 p (List.mem_of_getElem? hp))
      have hql : qs.length ≤ 5000 := by
        have := congrArg List.length hqe
        rw [List.length_map, List.length_map, List.length_take, List.length_map] at this
        omega
      refine ⟨p.1, _, rfl, hpT, rfl, _, _, rfl, _, _, rfl, _, _, rfl, _, _, rfl, rfl, ?_⟩
      refine ⟨rfl, ?_⟩
      refine yes2 ?_
      refine ⟨_, rfl, _, rfl, _, rfl, (by decide : 4 ≤ sizeLine), fun t nt => ?_⟩
      obtain ⟨acc, a1, a2, a3, a4, a5⟩ := grow_ak (x := keepA p.2) nD sm hD hQ hql nt
      exact ⟨acc, a1, a2, a3, _, a4, a5, by rw [List.map_append, hqe, take_next (xs := ps.map (·.2)) (x := p.2) (by rw [List.getElem?_map, hp]; rfl), List.map_append]; rfl⟩
    rw [show (rfs ps).length = (ps.map (·.2)).length by rw [List.length_map]; exact List.length_map .., List.take_length, he] at hqe
    have hql : qs.length ≤ 5000 := by
      have := congrArg List.length hqe
      rw [List.length_map, List.length_map] at this
      omega
    refine once_arws (E := fun _ _ _ => True) (SqL.of hD) hQ hql fun r rs H3 s3 nr hr hrs hre => ?_
    have s02 := s1.trans s2
    exact q r rs H3 (s02.trans s3) (s02.free nr) hr hrs (by rw [hre, hqe])
end
end Onp
set_option maxHeartbeats 8000000
set_option autoImplicit false
namespace Onp
open PySem PySem.Spec PyProof.Rows L2
abbrev sNumd : Stmt := topS 24
/-! ### rooms numbered anew -/
def num (rs : List Int) (r : Int) : Int := ((rs.idxOf r : Nat) : Int)
def dNk (k : Nat) (rs : List Int) : List (Key × V) := (rs.zipIdx k).map fun p => (Sum.inl p.1, V.int (p.2 : Nat))
def dN (rs : List Int) : List (Key × V) := dNk 0 rs
theorem dN_len (rs : List Int) : (dN rs).length = rs.length := by
  unfold dN dNk
  rw [List.length_map, List.length_zipIdx]
theorem dNk_val : ∀ (rs : List Int) (k : Nat) (r : Int), valV (dNk k rs) (Sum.inl r) = if r ∈ rs then some (V.int ((k + rs.idxOf r : Nat) : Int)) else none
  | [], _, _ => rfl
  | x :: xs, k, r => by
    have e : dNk k (x :: xs) = (Sum.inl x, V.int (k : Nat)) :: dNk (k + 1) xs := by
      unfold dNk
      rw [List.zipIdx_cons, List.map_cons]
    rw [e]
    by_cases h : x = r
    · subst h
      rw [valV_pos rfl, if_pos List.mem_cons_self, List.idxOf_cons_self]
      rfl
    · rw [valV_neg (fun z => h (Sum.inl.inj z)), dNk_val xs (k + 1) r]
      by_cases hm : r ∈ xs
      · rw [if_pos hm, if_pos (List.mem_cons_of_mem _ hm), List.idxOf_cons, show (x == r) = false from beq_eq_false_iff_ne.mpr h, cond_false]
        congr 2
        omega
      · rw [if_neg hm, if_neg (fun z => (List.mem_cons.mp z).elim (fun z => h z.symm) hm)]
theorem dN_val (rs : List Int) (r : Int) : valV (dN rs) (Sum.inl r) = if r ∈ rs then some (V.int (num rs r)) else none := by
  have := dNk_val rs 0 r
  rw [Nat.zero_add] at this
  exact this
theorem dN_put {rs : List Int} {i : Nat} {r : Int} (hn : rs.Nodup) (h : rs[i]? = some r) : putK (dN (rs.take i)) (Sum.inl r) (.int (i : Nat)) = dN (rs.take (i + 1)) := by
  have e : rs.take (i + 1) = rs.take i ++ [r] := take_next h
  have hil := (List.getElem?_eq_some_iff.mp h).1
  have hni : r ∉ rs.take i := fun hm => by
    have h2 : (rs.take (i + 1)).Nodup := hn.sublist (List.take_sublist _ _)
    rw [e, List.nodup_append] at h2
    exact h2.2.2 r hm r List.mem_cons_self rfl
  rw [putK_new _ (by rw [dN_val, if_neg hni]), e]
  unfold dN dNk
  rw [List.zipIdx_append, List.map_append, List.length_take, Nat.min_eq_left (by omega), Nat.zero_add]
  rfl
def numA (rs : List Int) (a : Arw) : Arw := (num rs a.1, a.2.1, a.2.2.1, num rs a.2.2.2)
def numAs (rs : List Int) (as : List Arw) : List Arw := (as.filter fun a => decide (a.1 ∈ rs) && decide (a.2.2.2 ∈ rs)).map (numA rs)
def numI (rs fs : List Int) : List Int := (fs.filter fun r => decide (r ∈ rs)).map (num rs)
def numM (rs : List Int) (ls : List Nat) (as : List Arw) (fs gs : List Int) : AM := ⟨(rs.length : Nat), ls, onceL (numAs rs as), numI rs fs, numI rs gs⟩
section
variable {P : Program} {w : World} {K : PySem.W.Frag} {mg : Str → Option Value} {base : Heap}
def NNu : List Str := ["rooms", "letters", "arrows", "firsts", "lasts", "number", "kept", "starts", "ends", "at", "room", "start", "letter", "deed", "end"]
def psNu : List Str := ["rooms", "letters", "arrows", "firsts", "lasts"]
theorem scNumd : FnScope NNu psNu (defScope sNumd) := ⟨rfl, rfl, rfl, by decide +kernel, rfl, by decide +kernel, by decide +kernel⟩
def spNumI (K : PySem.W.Frag) (C : Addr) : Sp := fun vs H Q _ => ∃ (lr la lf lg : Addr) (rs : List Int) (ls : List Nat) (ps : List AR) (fs gs : List Int), vs = [.ref lr, .str (Sx ls), .ref la, .ref lf, .ref lg] ∧ SqL K H lr (rs.map V.int) ∧ rs.Nodup ∧ rs.length ≤ 1000 ∧ SqL K H la (rfs ps) ∧ RowAt K H ps ∧ ps.length ≤ 1000 ∧ SqL K H lf (fs.map V.int) ∧ fs.length ≤ 1000 ∧ SqL K H lg (gs.map V.int) ∧ gs.length ≤ 1000 ∧ letB ls = true ∧ (rs ≠ [] → (numM rs ls (ps.map (·.2)) fs gs).ok) ∧
  ∀ (m : Addr) H', H m = none → Same H H' → MachAt K C H' m (if rs = [] then idleM ls else numM rs ls (ps.map (·.2)) fs gs).srt → Q (.ref m) H'
theorem ok_numI {f C fMp fOn : Addr} {fd fdMp fdOn : FuncData} {k : Nat} (F : Fun K "numbered" "numbered" sNumd f fd) (Mp : FnM K mg fMp fdMp "made" sMadeP psMp) (GMp : FnOk P w K mg base CX0 (k + 1) fMp fdMp psMp (spMadeO K C)) (On : FnM K mg fOn fdOn "once_each" sOnce ["things"]) (ml : mg "list" = none) (mlen : mg "len" = none) (me : mg "enumerate" = none) : FnOk P w K mg base CX0 (k + 2) f fd psNu (spNumI K C) := by
  have GO : FnOk P w K mg base CX0 (k + 1) fOn fdOn ["things"] (spOnceT K) := ok_onceT On.F ml
  refine F.ok scNumd (fun vs H Q E h => ?_) (fun cdv A outer s H vs Q E hr h => ?_)
  · obtain ⟨lr, la, lf, lg, rs, ls, ps, fs, gs, rfl, _⟩ := h
    rfl
  · obtain ⟨lr, la, lf, lg, rs, ls, ps, fs, gs, rfl, hlr, hrn, hrl, hla, hR, hpl, hlf, hfl, hlg, hgl, hls, hok, q⟩ := h
    have hu : (cxOf CX0 P w K mg base NNu "numbered" (defScope sNumd) f cdv A outer s H E).nox.A.units + 64 < cLine := hr.units
    refine ⟨_, (pss_cutM (ps_set (i := 5) scNumd.nd rfl (.inr rfl) (pe_dcG (own := [("at", 9), ("room", 10)]) (g := (gTup K 2 (gCons (gName 9) (gCons (gName 10) gNil)))) (tt := tYes) (tk := (tVar 10)) (tv := (tVar 9)) (newI_ok _ _) (putI_ok _ _) hu rfl scNumd.nd
          (pi_enum (by rfl) me (pa_cons (pv 0) pa_nil)) (blkOk_by (own := [("at", 9), ("room", 10)]) (N := NNu) (sc := defScope sNumd) (by decide +kernel)) (fun _ _ _ _ _ => (pg_tup rfl (pgs_cons (pg_name (i := 9) scNumd.nd rfl (.inl rfl)) (pgs_cons (pg_name (i := 10) scNumd.nd rfl (.inl rfl)) pgs_nil))))
          (fun _ _ _ _ _ => pts_nil) (fun _ _ _ _ _ => (pv 10)) (fun _ _ _ _ _ => (pv 9))))
      (pss_cutM (ps_setLc (i := 6) (own := [("start", 11), ("letter", 12), ("deed", 13), ("end", 14)]) (g := (gTup K 4 (gCons (gName 11) (gCons (gName 12) (gCons (gName 13) (gCons (gName 14) gNil)))))) (tt := (tAnd (tB (tDIn (tVar 11) (tVar 5))) (tB (tDIn (tVar 14) (tVar 5))))) (te := (tTup (tCons (tDGet (tVar 5) (tVar 11)) (tCons (tVar 12) (tCons (tVar 13) (tCons (tDGet (tVar 5) (tVar 14)) tNil)))))) rfl scNumd.nd rfl rfl (sw_true rfl rfl rfl (by decide +kernel))
          (pi_list (pv 2)) (blkOk_by (own := [("start", 11), ("letter", 12), ("deed", 13), ("end", 14)]) (N := NNu) (sc := defScope sNumd) (by decide +kernel)) (fun _ _ _ _ _ => (pg_tup rfl (pgs_cons (pg_name (i := 11) scNumd.nd rfl (.inl rfl)) (pgs_cons (pg_name (i := 12) scNumd.nd rfl (.inl rfl)) (pgs_cons (pg_name (i := 13) scNumd.nd rfl (.inl rfl)) (pgs_cons (pg_name (i := 14) scNumd.nd rfl (.inl rfl)) pgs_nil))))))
          (fun _ _ _ _ _ => (pts_one (PW.pt (pw_and (pt_cmp (pc_din (hu1 hu) (pv 11) (pv 5))) (pw_and1 (pt_cmp (pc_din (hu1 hu) (pv 14) (pv 5)))))))) (fun _ _ _ _ _ => (pe_tup (pa_cons (pe_dget (hu1 hu) (pv 5) (pv 11) (fun _ _ => rfl)) (pa_cons (pv 12) (pa_cons (pv 13) (pa_cons (pe_dget (hu1 hu) (pv 5) (pv 14) (fun _ _ => rfl)) pa_nil)))))))
      (pss_cutM (ps_setLc (i := 7) (own := [("room", 10)]) (g := (gName 10)) (tt := (tB (tDIn (tVar 10) (tVar 5)))) (te := (tDGet (tVar 5) (tVar 10))) rfl scNumd.nd rfl rfl (sw_true rfl rfl rfl (by decide +kernel))
          (pi_list (pv 3)) (blkOk_by (own := [("room", 10)]) (N := NNu) (sc := defScope sNumd) (by decide +kernel)) (fun _ _ _ _ _ => (pg_name (i := 10) scNumd.nd rfl (.inl rfl)))
          (fun _ _ _ _ _ => (pts_one (pt_cmp (pc_din (hu1 hu) (pv 10) (pv 5))))) (fun _ _ _ _ _ => (pe_dget (hu1 hu) (pv 5) (pv 10) (fun _ _ => rfl))))
      (pss_cutM (ps_setLc (i := 8) (own := [("room", 10)]) (g := (gName 10)) (tt := (tB (tDIn (tVar 10) (tVar 5)))) (te := (tDGet (tVar 5) (tVar 10))) rfl scNumd.nd rfl rfl (sw_true rfl rfl rfl (by decide +kernel))
          (pi_list (pv 4)) (blkOk_by (own := [("room", 10)]) (N := NNu) (sc := defScope sNumd) (by decide +kernel)) (fun _ _ _ _ _ => (pg_name (i := 10) scNumd.nd rfl (.inl rfl)))
          (fun _ _ _ _ _ => (pts_one (pt_cmp (pc_din (hu1 hu) (pv 10) (pv 5))))) (fun _ _ _ _ _ => (pe_dget (hu1 hu) (pv 5) (pv 10) (fun _ _ => rfl))))
      (pss_one (ps_ret (pe_call GMp hr (by rfl) Mp.g Mp.F.kp Mp.b .nil pass0 (pa_cons (pe_callB call_len_seq (by rfl) mlen PySem.boot_len (pa_cons (pv 0) pa_nil)) (pa_cons (pv 1) (pa_cons (pe_call GO hr (by rfl) On.g On.F.kp On.b .nil pass0 (pa_cons (pv 6) pa_nil)) (pa_cons (pv 7) (pa_cons (pv 8) pa_nil)))))))))))), ?_⟩
    have hbig : 10000 < sizeLine := by decide
    -- the numbers
    refine ⟨fun σ' H' => ∃ D : Addr, σ' = [some (.ref lr), some (.str (Sx ls)), some (.ref la), some (.ref lf), some (.ref lg), some (.ref D), none, none, none, none, none, none, none, none, none] ∧ Same H H' ∧ H' D = some (.dK (dN rs)), ?_, ?_⟩
    · refine ⟨_, rfl, lr, rs.map V.int, rfl, hlr, fun D nD => ?_⟩
      refine lcG walk_enum (fun i H' => Same H H' ∧ H' D = some (.dK (dN (rs.take i)))) ⟨same_upd nD, upd_same⟩ (fun i H' _ ⟨sm, _⟩ => sm.seq hlr) ?_ ?_
      · rintro i v H4 H5 hi ⟨sm, hD⟩ ⟨T, x, y, rfl, nT, rfl, ex, ey⟩
        obtain rfl := Option.some.inj ex
        obtain ⟨r, hr', rfl⟩ := ints_at ey
        have hil := (List.getElem?_eq_some_iff.mp hr').1
        have s5 := same_upd (o := .tup [.int (i : Nat), .int r]) nT
        refine ⟨T, [.int (i : Nat), .int r], rfl, SqT.of upd_same, rfl, _, _, rfl, _, _, rfl, rfl, rfl, ?_⟩
        refine yes2 ?_
        refine ⟨_, rfl, _, rfl, _, ⟨_, Sum.inl r, s5 _ _ hD, rfl, ?_, rfl⟩, fun b o e => ?_, ?_⟩
        · rw [dN_len, List.length_take]
          omega
        · rw [upd_ne (ne_of_none e nD)]
          exact s5 _ _ (sm b o e)
        · rw [upd_same, dN_put hrn hr']
      · rintro H1 ⟨sm, hD⟩
        rw [List.length_map, List.take_length] at hD
        exact ⟨D, rfl, sm, hD⟩
    rintro σ H1 ⟨D, rfl, s1, hD⟩
    -- the arrows that are kept
    refine ⟨fun σ' H' => ∃ (L : Addr) (qs : List AR), σ' = [some (.ref lr), some (.str (Sx ls)), some (.ref la), some (.ref lf), some (.ref lg), some (.ref D), some (.ref L), none, none, none, none, none, none, none, none] ∧ Same H1 H' ∧ H' L = some (.lst (aks qs)) ∧ AkAt H' qs ∧ qs.length ≤ ps.length ∧ qs.map (·.2) = numAs rs (ps.map (·.2)), ?_, ?_⟩
    · refine ⟨_, rfl, la, rfl, ⟨_, s1.seq hla⟩, fun C nC => ?_⟩
      refine lc_list (K := K) (a := la) (xs := rfs ps) (fun i H' => Same H1 H' ∧ ∃ qs : List AR, H' C = some (.lst (aks qs)) ∧ AkAt H' qs ∧ qs.length ≤ i ∧ qs.map (·.2) = ((((ps.map (·.2)).take i).filter fun a => decide (a.1 ∈ rs) && decide (a.2.2.2 ∈ rs)).map (numA rs))) ⟨same_upd nC, [], upd_same, (fun _ h => nomatch h), Nat.le_refl _, rfl⟩ (fun i H' _ ⟨sm, _⟩ => sm.seq (s1.seq hla)) (fun i x H' hx ⟨sm, qs, hC, hQ, hql, hqe⟩ => ?_) (fun H2 ⟨s2, qs, hC, hQ, hql, hqe⟩ => ?_)
      · obtain ⟨p, hp, rfl⟩ := rfs_at hx
        have hil := (List.getElem?_eq_some_iff.mp hp).1
        have hsn := filt_snocG (c := fun a : Arw => decide (a.1 ∈ rs) && decide (a.2.2.2 ∈ rs)) (f := numA rs) (xs := ps.map (·.2)) (i := i) (x := p.2) (by rw [List.getElem?_map, hp]; rfl)
        have hpT := sameT (s1.trans sm) (hR p (List.mem_of_getElem? hp))
        have hDs := sm _ _ hD
        have gd : ∀ r : Int, DGet H' D (.int r) (valV (dN rs) (Sum.inl r)) := fun r => DGet.k (k := Sum.inl r) hDs
        refine ⟨p.1, _, rfl, hpT, rfl, _, _, rfl, _, _, rfl, _, _, rfl, _, _, rfl, rfl, ?_⟩
        refine ⟨rfl, ?_⟩
        refine ⟨_, rfl, _, rfl, D, _, rfl, gd _, _, rfl, ?_⟩
        rw [dN_val]
        by_cases c : p.2.1 ∈ rs
        · rw [if_pos c]
          refine iteT ?_
          refine ⟨_, rfl, _, rfl, D, _, rfl, gd _, _, rfl, ?_⟩
          rw [dN_val]
          by_cases c2 : p.2.2.2.2 ∈ rs
          · rw [if_pos c2]
            refine iteT ?_
            refine ⟨_, rfl, _, rfl, D, _, rfl, by have := gd p.2.1; rw [dN_val, if_pos c] at this; exact this, ?_⟩
            refine ⟨_, rfl, _, rfl, _, rfl, _, rfl, D, _, rfl, by have := gd p.2.2.2.2; rw [dN_val, if_pos c2] at this; exact this, ?_⟩
            refine ⟨(by decide : 4 ≤ sizeLine), fun t nt => ?_⟩
            obtain ⟨acc, a1, a2, a3, a4, a5⟩ := grow_ak (x := numA rs p.2) nC sm hC hQ (by omega) nt
            exact ⟨acc, a1, a2, a3, _, a4, a5, by rw [List.length_append]; exact Nat.succ_le_succ hql, by rw [hsn, List.map_append, hqe, if_pos (by rw [decide_eq_true c, decide_eq_true c2]; rfl)]; rfl⟩
          · rw [if_neg c2]
            exact iteF ⟨sm, qs, hC, hQ, by omega, by rw [hsn, hqe, if_neg (by rw [decide_eq_true c, decide_eq_false c2]; exact Bool.false_ne_true), List.append_nil]⟩
        · rw [if_neg c]
          exact iteF ⟨sm, qs, hC, hQ, by omega, by rw [hsn, hqe, if_neg (by rw [decide_eq_false c]; exact Bool.false_ne_true), List.append_nil]⟩
      rw [show (rfs ps).length = ps.length from List.length_map ..] at hql
      rw [show (rfs ps).length = (ps.map (·.2)).length by rw [List.length_map]; exact List.length_map .., List.take_length] at hqe
      exact ⟨C, qs, rfl, s2, hC, hQ, hql, hqe⟩
    rintro σ H2 ⟨L, qs, rfl, s2, hL, hQ, hql, hqe⟩
    have someI : ∀ {Hx : Hp} {l C : Addr} {ns : List Int}, SqL K Hx l (ns.map V.int) → Hx D = some (.dK (dN rs)) → Hx C = none → ns.length ≤ 1000 → ∀ (i : Nat) (v : V) (H' : Hp), (ns.map V.int)[i]? = some v → Same Hx H' → H' C = some (.lst ((((ns.take i).filter fun r => decide (r ∈ rs)).map (num rs)).map V.int)) →
        ∃ r, v = .int r ∧ ns[i]? = some r ∧ DGet H' D (.int r) (valV (dN rs) (Sum.inl r)) ∧ (r ∉ rs → H' C = some (.lst ((((ns.take (i + 1)).filter fun r => decide (r ∈ rs)).map (num rs)).map V.int))) ∧ (r ∈ rs → ∃ acc, H' C = some (.lst acc) ∧ acc.length < sizeLine ∧ Same Hx (upd H' C (.lst (acc ++ [V.int (num rs r)]))) ∧ (upd H' C (.lst (acc ++ [V.int (num rs r)]))) C = some (.lst ((((ns.take (i + 1)).filter fun r => decide (r ∈ rs)).map (num rs)).map V.int))) := fun {Hx l C ns} hl hDx nC hnl i v H' hv sm hC => by
      obtain ⟨r, hr', rfl⟩ := ints_at hv
      have hsn := filt_snocG (c := fun r : Int => decide (r ∈ rs)) (f := num rs) (xs := ns) hr'
      refine ⟨r, rfl, hr', DGet.k (k := Sum.inl r) (sm _ _ hDx), fun c => ?_, fun c => ⟨_, hC, ?_, fun b o e => ?_, ?_⟩⟩
      · rw [hC, hsn, if_neg (by rw [decide_eq_false c]; exact Bool.false_ne_true), List.append_nil]
      · rw [List.length_map, List.length_map]
        have := List.length_filter_le (fun r : Int => decide (r ∈ rs)) (ns.take i)
        rw [List.length_take] at this
        omega
      · rw [upd_ne (ne_of_none e nC)]
        exact sm b o e
      · rw [upd_same, hsn, if_pos (decide_eq_true c), List.map_append]
        rfl
    -- first rooms
    refine ⟨fun σ' H' => ∃ (S : Addr), σ' = [some (.ref lr), some (.str (Sx ls)), some (.ref la), some (.ref lf), some (.ref lg), some (.ref D), some (.ref L), some (.ref S), none, none, none, none, none, none, none] ∧ Same H2 H' ∧ H' S = some (.lst ((numI rs fs).map V.int)), ?_, ?_⟩
    · have hlf2 := (s1.trans s2).seq hlf
      refine ⟨_, rfl, lf, rfl, ⟨_, hlf2⟩, fun C nC => ?_⟩
      refine lc_list (K := K) (a := lf) (xs := fs.map V.int) (fun i H' => Same H2 H' ∧ H' C = some (.lst ((((fs.take i).filter fun r => decide (r ∈ rs)).map (num rs)).map V.int))) ⟨same_upd nC, upd_same⟩ (fun i H' _ ⟨sm, _⟩ => sm.seq hlf2) (fun i x H' hx ⟨sm, hC⟩ => ?_) (fun H3 ⟨s3, hC⟩ => ?_)
      · obtain ⟨r, rfl, hr', gd, hno, hyes⟩ := someI hlf2 (s2 _ _ hD) nC hfl i x H' hx sm hC
        refine ⟨rfl, ?_⟩
        refine ⟨_, rfl, _, rfl, D, _, rfl, gd, _, rfl, ?_⟩
        rw [dN_val] at gd ⊢
        by_cases c : r ∈ rs
        · rw [if_pos c] at gd ⊢
          obtain ⟨acc, a1, a2, a3, a4⟩ := hyes c
          exact iteT ⟨_, rfl, _, rfl, D, _, rfl, gd, acc, a1, a2, a3, a4⟩
        · rw [if_neg c]
          exact iteF ⟨sm, hno c⟩
      rw [List.length_map, List.take_length] at hC
      exact ⟨C, rfl, s3, hC⟩
    rintro σ H3 ⟨S, rfl, s3, hS⟩
    -- last rooms
    refine ⟨fun σ' H' => ∃ (G : Addr), σ' = [some (.ref lr), some (.str (Sx ls)), some (.ref la), some (.ref lf), some (.ref lg), some (.ref D), some (.ref L), some (.ref S), some (.ref G), none, none, none, none, none, none] ∧ Same H3 H' ∧ H' G = some (.lst ((numI rs gs).map V.int)), ?_, ?_⟩
    · have hlg3 := (s1.trans (s2.trans s3)).seq hlg
      refine ⟨_, rfl, lg, rfl, ⟨_, hlg3⟩, fun C nC => ?_⟩
      refine lc_list (K := K) (a := lg) (xs := gs.map V.int) (fun i H' => Same H3 H' ∧ H' C = some (.lst ((((gs.take i).filter fun r => decide (r ∈ rs)).map (num rs)).map V.int))) ⟨same_upd nC, upd_same⟩ (fun i H' _ ⟨sm, _⟩ => sm.seq hlg3) (fun i x H' hx ⟨sm, hC⟩ => ?_) (fun H4 ⟨s4, hC⟩ => ?_)
      · obtain ⟨r, rfl, hr', gd, hno, hyes⟩ := someI hlg3 (s3 _ _ (s2 _ _ hD)) nC hgl i x H' hx sm hC
        refine ⟨rfl, ?_⟩
        refine ⟨_, rfl, _, rfl, D, _, rfl, gd, _, rfl, ?_⟩
        rw [dN_val] at gd ⊢
        by_cases c : r ∈ rs
        · rw [if_pos c] at gd ⊢
          obtain ⟨acc, a1, a2, a3, a4⟩ := hyes c
          exact iteT ⟨_, rfl, _, rfl, D, _, rfl, gd, acc, a1, a2, a3, a4⟩
        · rw [if_neg c]
          exact iteF ⟨sm, hno c⟩
      rw [List.length_map, List.take_length] at hC
      exact ⟨C, rfl, s4, hC⟩
    rintro σ H4 ⟨G, rfl, s4, hG⟩
    -- the machine
    have s04 := s1.trans (s2.trans (s3.trans s4))
    have s24 := s3.trans s4
    refine ⟨_, rfl, lr, rs.map V.int, rfl, .inl (s04.seq hlr), ?_⟩
    refine ⟨_, rfl, _, rfl, ?_⟩
    dsimp only [tNil]
    refine once_arws (E := E0) (SqL.of (s24 _ _ hL)) (hQ.same s24) (by omega) fun lo os H5 s5 nlo hlo hos hoe => ?_
    refine ⟨_, rfl, _, rfl, ?_⟩
    have s05 := s04.trans s5
    have hone : os.map (·.2) = onceL (numAs rs (ps.map (·.2))) := by rw [hoe, hqe]
    refine ⟨lo, S, G, _, ls, rfl, ?_⟩
    rw [List.length_map]
    by_cases hrs : rs = []
    · rw [if_pos hrs] at q
      exact .inl ⟨by rw [hrs]; rfl, hls, fun m H6 nm s6 mm => q m H6 (s05.free nm) (s05.trans s6) mm⟩
    · rw [if_neg hrs] at q
      refine .inr ⟨os, numM rs ls (ps.map fun p : AR => p.2) fs gs, rfl, rfl, .inl (SqL.of hlo), hos.row, hone, .inl (SqL.of (s5 _ _ (s4 _ _ hS))), .inl (SqL.of (s5 _ _ hG)), hok hrs, fun m H6 nm s6 mm => q m H6 (s05.free nm) (s05.trans s6) mm⟩
end
end Onp
set_option maxHeartbeats 8000000
set_option autoImplicit false
namespace Onp
open PySem PySem.Spec PyProof.Rows L2
abbrev sTurnA : Stmt := topS 26
theorem sqT_put {K : PySem.W.Frag} {H : Hp} {D a : Addr} {xs ys zs : List V} (h : H D = some (.lst xs)) (x : SqT K H a zs) : SqT K (upd H D (.lst ys)) a zs := by
  rcases x with (h' | ⟨o, h'⟩) | h'
  · refine .inl (.inl ?_)
    have n3 : a ≠ D := fun z => by rw [z, h] at h'; cases h'
    show upd H D (.lst ys) a = _
    rw [upd_ne n3]
    exact h'
  · refine .inl (.inr ⟨o, ?_⟩)
    have n3 : a ≠ D := fun z => by rw [z, h] at h'; cases h'
    show upd H D (.lst ys) a = _
    rw [upd_ne n3]
    exact h'
  · exact .inr h'
/-- arrows that are made one by one -/
theorem grow_row {K : PySem.W.Frag} {H2 H' : Hp} {D t : Addr} {ps : List AR} {x : Arw} (nD : H2 D = none) (sm : Same H2 H') (hD : H' D = some (.lst (rfs ps))) (hR : RowAt K H' ps) (hl : ps.length ≤ 1000) (nt : H' t = none) :
    ∃ acc, (upd H' t (.tup (aV x))) D = some (.lst acc) ∧ acc.length < sizeLine ∧ Same H2 (upd (upd H' t (.tup (aV x))) D (.lst (acc ++ [.ref t]))) ∧ (upd (upd H' t (.tup (aV x))) D (.lst (acc ++ [.ref t]))) D = some (.lst (rfs (ps ++ [(t, x)]))) ∧ RowAt K (upd (upd H' t (.tup (aV x))) D (.lst (acc ++ [.ref t]))) (ps ++ [(t, x)]) := by
  have st := same_upd (o := .tup (aV x)) nt
  have hD' := st _ _ hD
  refine ⟨_, hD', by unfold rfs; rw [List.length_map]; exact Nat.lt_of_le_of_lt hl (by decide), fun b o e => ?_, ?_, fun p hp => ?_⟩
  · rw [upd_ne (ne_of_none e nD)]
    exact st _ _ (sm b o e)
  · rw [upd_same]
    unfold rfs
    rw [List.map_append]
    rfl
  · refine sqT_put hD' ?_
    rcases List.mem_append.mp hp with h | h
    · exact same_seqT st (hR p h)
    · rw [List.mem_singleton.mp h]
      exact SqT.of upd_same
def swA (a : Arw) : Arw := (a.2.2.2, a.2.1, a.2.2.1, a.1)
def sftA (k : Int) (a : Arw) : Arw := (a.1 + k, a.2.1, a.2.2.1, a.2.2.2 + k)
def turnM (M : AM) : AM := ⟨M.n, M.ls, M.as.map swA, M.gs, M.fs⟩
def bothM (M N : AM) : AM := ⟨M.n + N.n, M.ls, M.as ++ N.as.map (sftA M.n), M.fs ++ N.fs.map (· + M.n), M.gs ++ N.gs.map (· + M.n)⟩
theorem swA_inj {a b : Arw} (h : swA a = swA b) : a = b := by
  obtain ⟨a1, a2, a3, a4⟩ := a
  obtain ⟨b1, b2, b3, b4⟩ := b
  unfold swA at h
  simp only [Prod.mk.injEq] at h ⊢
  exact ⟨h.2.2.2, h.2.1, h.2.2.1, h.1⟩
theorem swA_ok {n : Int} {ls : List Nat} {a : Arw} (h : arrB n ls a = true) : arrB n ls (swA a) = true := by
  unfold arrB at h ⊢
  unfold swA
  simp only [Bool.and_eq_true] at h ⊢
  exact ⟨⟨⟨h.1.1.2, h.1.1.1⟩, h.1.2⟩, h.2⟩
theorem turnM_ok {M : AM} (h : M.ok) : (turnM M).ok := by
  obtain ⟨h1, h2, h3, h4, h5, h6, h7, h8, h9, h10, h11, h12⟩ := h
  refine ⟨h1, h2, h3, fun a ha => ?_, nodup_map_inj (fun _ _ => swA_inj) h5, by show (M.as.map swA).length ≤ 40; rw [List.length_map]; exact h6, h9, h10, h7, h8, h12, h11⟩
  obtain ⟨b, hb, rfl⟩ := List.mem_map.mp ha
  exact swA_ok (h4 b hb)
section
variable {P : Program} {w : World} {K : PySem.W.Frag} {mg : Str → Option Value} {base : Heap}
/-! ### turned_arrows -/
def spTurnA (K : PySem.W.Frag) (C : Addr) : Sp := fun vs H Q _ => ∃ (a : Addr) (M : AM), vs = [.ref a] ∧ MachAt K C H a M ∧ M.as.length ≤ 100 ∧ ∀ (l : Addr) (ps : List AR) H', Same H H' → H' l = some (.lst (rfs ps)) → RowAt K H' ps → ps.map (·.2) = M.as.map swA → Q (.ref l) H'
def NTa : List Str := ["machine", "start", "letter", "deed", "end"]
theorem scTurnA : FnScope NTa ["machine"] (defScope sTurnA) := ⟨rfl, rfl, rfl, by decide +kernel, rfl, by decide +kernel, by decide +kernel⟩
theorem ok_turnA {f C fAr : Addr} {fd fdAr : FuncData} {k : Nat} (F : Fun K "turned_arrows" "turned_arrows" sTurnA f fd) (T : ClsM K C) (FAr : Fun K "arrows" "Machine.arrows" sMArrs fAr fdAr) (bAr : Binds K fdAr ["self"] []) (mAr : Meth K C "arrows" fAr) (ml : mg "list" = none) : FnOk P w K mg base CX0 (k + 2) f fd ["machine"] (spTurnA K C) := by
  have G3 : FnOk P w K mg base CX0 (k + 1) fAr fdAr ["self"] (spMArrs K C) := ok_marrs FAr T ml
  refine F.ok scTurnA (fun vs H Q E h => ?_) (fun cdv A outer s H vs Q E hr h => ?_)
  · obtain ⟨a, M, rfl, _⟩ := h
    rfl
  · obtain ⟨a, M, rfl, mA, hl100, q⟩ := h
    obtain ⟨dx, ta, tf, tg, D0, ps0, h1, hrest⟩ := id mA
    refine ⟨_, pss_one (ps_ret (pe_lc (own := [("start", 1), ("letter", 2), ("deed", 3), ("end", 4)]) (g := gTup K 4 (gCons (gName 1) (gCons (gName 2) (gCons (gName 3) (gCons (gName 4) gNil))))) (tt := tYes) (te := tTup (tCons (tVar 4) (tCons (tVar 2) (tCons (tVar 3) (tCons (tVar 1) tNil))))) rfl scTurnA.nd
        (pi_list (pe_meth0 (pv 0) T.cl mAr G3 hr bAr .nil pass0)) (blkOk_by (own := [("start", 1), ("letter", 2), ("deed", 3), ("end", 4)]) (N := NTa) (sc := defScope sTurnA) (by decide +kernel))
        (fun _ _ _ _ _ => pg_tup rfl (pgs_cons (pg_name (i := 1) scTurnA.nd rfl (.inl rfl)) (pgs_cons (pg_name (i := 2) scTurnA.nd rfl (.inl rfl)) (pgs_cons (pg_name (i := 3) scTurnA.nd rfl (.inl rfl)) (pgs_cons (pg_name (i := 4) scTurnA.nd rfl (.inl rfl)) pgs_nil)))))
        (fun _ _ _ _ _ => pts_nil) (fun _ _ _ _ _ => pe_tup (pa_cons (pv 4) (pa_cons (pv 2) (pa_cons (pv 3) (pa_cons (pv 1) pa_nil))))))), ?_⟩
    refine ⟨_, rfl, a, dx, _, rfl, h1, mfl_none (by decide +kernel), a, M, rfl, mA, fun l1 ps nl1 hR he => ?_⟩
    have s1 := same_upd (o := .lst (rfs ps)) nl1
    have hl1 : (upd H l1 (.lst (rfs ps))) l1 = some (.lst (rfs ps)) := upd_same
    have hR1 := hR.same s1
    generalize upd H l1 (.lst (rfs ps)) = H1 at s1 hl1 hR1
    have hpl : ps.length ≤ 100 := by
      have := congrArg List.length he
      rw [List.length_map] at this
      omega
    refine ⟨l1, rfl, ⟨_, SqL.of hl1⟩, fun D nD => ?_⟩
    refine lc_list (K := K) (a := l1) (xs := rfs ps) (fun i H' => Same H1 H' ∧ ∃ qs : List AR, H' D = some (.lst (rfs qs)) ∧ RowAt K H' qs ∧ qs.map (·.2) = ((ps.map (·.2)).take i).map swA) ⟨same_upd nD, [], upd_same, (fun _ h => nomatch h), rfl⟩ (fun i H' _ ⟨sm, _⟩ => SqL.of (sm _ _ hl1)) (fun i x H' hx ⟨sm, qs, hD, hQ, hqe⟩ => ?_) (fun H2 ⟨s2, qs, hD, hQ, hqe⟩ => ?_)
    · obtain ⟨p, hp, rfl⟩ : ∃ p : AR, ps[i]? = some p ∧ x = .ref p.1 := by
        unfold rfs at hx
        rw [List.getElem?_map] at hx
        cases e : ps[i]? with
        | none => rw [e] at hx; cases hx
        | some p => rw [e] at hx; exact ⟨p, rfl, (Option.some.inj hx).symm⟩
      have hpT := sameT sm (hR1 p (List.mem_of_getElem? hp))
      have hql : qs.length ≤ 1000 := by
        have := congrArg List.length hqe
        rw [List.length_map, List.length_map, List.length_take, List.length_map] at this
        omega
      refine ⟨p.1, _, rfl, hpT, rfl, _, _, rfl, _, _, rfl, _, _, rfl, _, _, rfl, rfl, ?_⟩
      refine ⟨rfl, ?_⟩
      refine yes2 ?_
      refine ⟨_, rfl, _, rfl, _, rfl, _, rfl, (by decide : 4 ≤ sizeLine), fun t nt => ?_⟩
      obtain ⟨acc, a1, a2, a3, a4, a5⟩ := grow_row (x := swA p.2) nD sm hD hQ hql nt
      exact ⟨acc, a1, a2, a3, _, a4, a5, by rw [List.map_append, hqe, take_next (xs := ps.map (·.2)) (x := p.2) (by rw [List.getElem?_map, hp]; rfl), List.map_append]; rfl⟩
    · rw [show (rfs ps).length = (ps.map (·.2)).length by rw [List.length_map]; exact List.length_map .., List.take_length, he] at hqe
      exact q D qs H2 (s1.trans s2) hD hQ hqe
end
end Onp
set_option maxHeartbeats 8000000
set_option autoImplicit false
namespace Onp
open PySem PySem.Spec PyProof.Rows L2
abbrev sBare : Stmt := topS 28
abbrev sTrim : Stmt := topS 29
def bareM (M : AM) : AM := ⟨M.n, M.ls, onceL (M.as.map keepA), M.fs, M.gs⟩
theorem bareM_ok {M : AM} (h : M.ok) : (bareM M).ok := by
  obtain ⟨h1, h2, h3, h4, h5, h6, h7, h8, h9, h10, h11, h12⟩ := h
  refine ⟨h1, h2, h3, fun a ha => ?_, onceL_nd _, ?_, h7, h8, h9, h10, h11, h12⟩
  · obtain ⟨b, hb, rfl⟩ := List.mem_map.mp (onceL_mem.mp ha)
    have z := h4 b hb
    unfold arrB at z ⊢
    simp only [Bool.and_eq_true] at z ⊢
    exact ⟨z.1, (by decide +kernel : decide (("keep" : Str) ∈ deedsL) = true)⟩
  · have := onceL_len (M.as.map keepA)
    rw [List.length_map] at this
    show (onceL (M.as.map keepA)).length ≤ 40
    omega
/-- the rooms of so many -/
def roomL (n : Int) : List Int := (List.range n.toNat).map fun i => ((i : Nat) : Int)
theorem roomL_mem {n r : Int} : r ∈ roomL n ↔ 0 ≤ r ∧ r < n := by
  unfold roomL
  rw [List.mem_map]
  constructor
  · rintro ⟨i, hi, rfl⟩
    have := List.mem_range.mp hi
    omega
  · rintro ⟨h1, h2⟩
    exact ⟨r.toNat, List.mem_range.mpr (by omega), by omega⟩
theorem roomL_nd (n : Int) : (roomL n).Nodup := nodup_map_inj (fun a b e => by omega) List.nodup_range
theorem roomL_len (n : Int) : (roomL n).length = n.toNat := by
  unfold roomL
  rw [List.length_map, List.length_range]
/-- the rooms that some way may use, by a test that tells them -/
def leftT (M : AM) (p : Int → Bool) : Prop := ∀ r, 0 ≤ r → r < M.n → (p r = true ↔ Rch M.fs (edA M.as) r ∧ Rch M.gs (edA (M.as.map swA)) r)
def trimM (M : AM) (rs : List Int) : AM := if rs = [] then idleM M.ls else numM rs M.ls M.as M.fs M.gs
theorem left_eq {M : AM} {p q : Int → Bool} (hp : leftT M p) (hq : leftT M q) : (roomL M.n).filter p = (roomL M.n).filter q := by
  refine List.filter_congr fun r hr => ?_
  obtain ⟨h1, h2⟩ := roomL_mem.mp hr
  rw [Bool.eq_iff_iff, hp r h1 h2, hq r h1 h2]
theorem num_lt {rs : List Int} {r : Int} (h : r ∈ rs) : 0 ≤ num rs r ∧ num rs r < (rs.length : Nat) := by
  have := List.idxOf_lt_length_of_mem h
  unfold num
  omega
theorem num_at {rs : List Int} {r : Int} (h : r ∈ rs) : rs[rs.idxOf r]? = some r := by
  have := List.idxOf_lt_length_of_mem h
  rw [List.getElem?_eq_getElem this, List.getElem_idxOf]
theorem num_inj {rs : List Int} {a b : Int} (ha : a ∈ rs) (hb : b ∈ rs) (e : num rs a = num rs b) : a = b := by
  have e2 : rs.idxOf a = rs.idxOf b := by unfold num at e; omega
  have h1 := num_at ha
  rw [e2, num_at hb] at h1
  exact (Option.some.inj h1).symm
theorem numI_mem {rs fs : List Int} {x : Int} : x ∈ numI rs fs ↔ ∃ r ∈ fs, r ∈ rs ∧ num rs r = x := by
  unfold numI
  rw [List.mem_map]
  constructor
  · rintro ⟨r, hr, e⟩
    obtain ⟨h1, h2⟩ := List.mem_filter.mp hr
    exact ⟨r, h1, of_decide_eq_true h2, e⟩
  · rintro ⟨r, h1, h2, e⟩
    exact ⟨r, List.mem_filter.mpr ⟨h1, decide_eq_true h2⟩, e⟩
theorem numAs_mem {rs : List Int} {as : List Arw} {x : Arw} : x ∈ numAs rs as ↔ ∃ a ∈ as, a.1 ∈ rs ∧ a.2.2.2 ∈ rs ∧ numA rs a = x := by
  unfold numAs
  rw [List.mem_map]
  constructor
  · rintro ⟨r, hr, e⟩
    obtain ⟨h1, h2⟩ := List.mem_filter.mp hr
    rw [Bool.and_eq_true, decide_eq_true_eq, decide_eq_true_eq] at h2
    exact ⟨r, h1, h2.1, h2.2, e⟩
  · rintro ⟨r, h1, h2, h3, e⟩
    exact ⟨r, List.mem_filter.mpr ⟨h1, by rw [Bool.and_eq_true, decide_eq_true_eq, decide_eq_true_eq]; exact ⟨h2, h3⟩⟩, e⟩
theorem numI_nd {rs fs : List Int} (h : fs.Nodup) : (numI rs fs).Nodup := by
  unfold numI
  refine List.pairwise_map.mpr (List.Pairwise.imp_of_mem (fun {a b} ha hb n e => n ?_) (List.Nodup.sublist (List.filter_sublist ..) h))
  exact num_inj (of_decide_eq_true (List.mem_filter.mp ha).2) (of_decide_eq_true (List.mem_filter.mp hb).2) e
theorem numM_ok {rs : List Int} {M : AM} (h : M.ok) (h0 : rs ≠ []) (h8 : rs.length ≤ 8) : (numM rs M.ls M.as M.fs M.gs).ok := by
  obtain ⟨h1, h2, h3, h4, h5, h6, h7, h8', h9, h10, h11, h12⟩ := h
  have hp : 0 < rs.length := List.length_pos_iff.mpr h0
  have roo : ∀ (l : List Int), ∀ r ∈ numI rs l, rooB ((rs.length : Nat) : Int) r = true := fun l r hr => by
    obtain ⟨x, _, hx, rfl⟩ := numI_mem.mp hr
    have := num_lt hx
    unfold rooB
    rw [Bool.and_eq_true, decide_eq_true_eq, decide_eq_true_eq]
    exact this
  have len : ∀ (l : List Int), (numI rs l).length ≤ l.length := fun l => by
    unfold numI
    rw [List.length_map]
    exact List.length_filter_le ..
  refine ⟨show (1 : Int) ≤ ((rs.length : Nat) : Int) by omega, show ((rs.length : Nat) : Int) ≤ 8 by omega, h3, fun a ha => ?_, onceL_nd _, ?_, roo _, numI_nd h8', roo _, numI_nd h10, Nat.le_trans (len _) h11, Nat.le_trans (len _) h12⟩
  · obtain ⟨b, hb, e1, e2, rfl⟩ := numAs_mem.mp (onceL_mem.mp ha)
    have z := h4 b hb
    have n1 := num_lt e1
    have n2 := num_lt e2
    unfold arrB at z ⊢
    simp only [Bool.and_eq_true, decide_eq_true_eq] at z ⊢
    exact ⟨⟨⟨n1, n2⟩, z.1.2⟩, z.2⟩
  · have e1 := onceL_len (numAs rs M.as)
    have e2 : (numAs rs M.as).length ≤ M.as.length := by
      unfold numAs
      rw [List.length_map]
      exact List.length_filter_le ..
    show (onceL (numAs rs M.as)).length ≤ 40
    omega
section
variable {P : Program} {w : World} {K : PySem.W.Frag} {mg : Str → Option Value} {base : Heap}
/-! ### bare -/
theorem scBare : FnScope ["machine"] ["machine"] (defScope sBare) := ⟨rfl, rfl, rfl, by decide +kernel, rfl, by decide +kernel, by decide +kernel⟩
def spBare (K : PySem.W.Frag) (C : Addr) : Sp := fun vs H Q _ => ∃ (a : Addr) (M : AM), vs = [.ref a] ∧ MachAt K C H a M ∧ M.ok ∧ ∀ (m : Addr) H', H m = none → Same H H' → MachAt K C H' m (bareM M).srt → Q (.ref m) H'
theorem ok_bare {f C fI fWk fRm fLt fAw fFs fLs : Addr} {fd fdI fdWk fdRm fdLt fdAw fdFs fdLs : FuncData} {k : Nat} {dvs : List V} {kws : List (Str × V)} (F : Fun K "bare" "bare" sBare f fd) (T : MkM K mg C fdI fI dvs kws) (GI : FnOk P w K mg base CX0 (k + 1) fI fdI psMI (spMInit K C)) (Wk : FnM K mg fWk fdWk "with_keep" sWithK ["machine"]) (GWk : FnOk P w K mg base CX0 (k + 2) fWk fdWk ["machine"] (spWithK K C))
    (FRm : Fun K "rooms" "Machine.rooms" sMRooms fRm fdRm) (bRm : Binds K fdRm ["self"] []) (mRm : Meth K C "rooms" fRm) (FLt : Fun K "letters" "Machine.letters" sMLets fLt fdLt) (bLt : Binds K fdLt ["self"] []) (mLt : Meth K C "letters" fLt) (FAw : Fun K "arrows" "Machine.arrows" sMArrs fAw fdAw) (bAw : Binds K fdAw ["self"] []) (mAw : Meth K C "arrows" fAw)
    (FFs : Fun K "firsts" "Machine.firsts" sMFsts fFs fdFs) (bFs : Binds K fdFs ["self"] []) (mFs : Meth K C "firsts" fFs) (FLs : Fun K "lasts" "Machine.lasts" sMLsts fLs fdLs) (bLs : Binds K fdLs ["self"] []) (mLs : Meth K C "lasts" fLs) (ml : mg "list" = none) : FnOk P w K mg base CX0 (k + 3) f fd ["machine"] (spBare K C) := by
  obtain ⟨gg, KB⟩ := kb_made T.F T.nd T.one
  have GRm : FnOk P w K mg base CX0 (k + 2) fRm fdRm ["self"] (spMRooms K C) := ok_mrooms FRm T.cl
  have GLt : FnOk P w K mg base CX0 (k + 2) fLt fdLt ["self"] (spMLets K C) := ok_mlets FLt T.cl
  have GAw : FnOk P w K mg base CX0 (k + 2) fAw fdAw ["self"] (spMArrs K C) := ok_marrs FAw T.cl ml
  have GFs : FnOk P w K mg base CX0 (k + 2) fFs fdFs ["self"] (spMFsts K C) := ok_mfsts FFs T.cl ml
  have GLs : FnOk P w K mg base CX0 (k + 2) fLs fdLs ["self"] (spMLsts K C) := ok_mlsts FLs T.cl ml
  refine F.ok scBare (fun vs H Q E h => ?_) (fun cdv A outer s H vs Q E hr h => ?_)
  · obtain ⟨a, M, rfl, _⟩ := h
    rfl
  · obtain ⟨a, M, rfl, mA, ok, q⟩ := h
    obtain ⟨dx, ta, tf, tg, D0, ps0, h1, _⟩ := id mA
    refine ⟨_, pss_one (ps_ret (pe_makeN (n := 3) (ks := ["firsts", "lasts"]) T.mak GI hr (by rfl) T.g KB pass0 (pa_cons (pe_meth0 (pv 0) T.cl.cl mRm GRm hr bRm .nil pass0) (pa_cons (pe_meth0 (pv 0) T.cl.cl mLt GLt hr bLt .nil pass0) (pa_cons (pe_call GWk hr (by rfl) Wk.g Wk.F.kp Wk.b .nil pass0 (pa_cons (pv 0) pa_nil)) pa_nil))) (pk_cons (pe_meth0 (pv 0) T.cl.cl mFs GFs hr bFs .nil pass0) (pk_cons (pe_meth0 (pv 0) T.cl.cl mLs GLs hr bLs .nil pass0) pk_nil)))), ?_⟩
    refine ⟨_, rfl, a, dx, _, rfl, h1, mfl_none (by decide +kernel), a, M, rfl, mA, ?_⟩
    refine ⟨_, rfl, a, dx, _, rfl, h1, mfl_none (by decide +kernel), a, M, rfl, mA, ?_⟩
    have h40 := ok.2.2.2.2.2.1
    refine ⟨_, rfl, a, M, rfl, mA, by omega, fun l ps H1 s1 nl hl hps hpe => ?_⟩
    refine ⟨_, rfl, a, dx, _, rfl, s1 _ _ h1, mfl_none (by decide +kernel), a, M, rfl, mA.same s1, fun l1 nl1 => ?_⟩
    have s2 := same_upd (o := .lst (M.fs.map V.int)) nl1
    have e1 : (upd H1 l1 (.lst (M.fs.map V.int))) l1 = some (.lst (M.fs.map V.int)) := upd_same
    generalize upd H1 l1 (.lst (M.fs.map V.int)) = H2 at s2 e1
    have s12 := s1.trans s2
    refine ⟨_, rfl, a, dx, _, rfl, s12 _ _ h1, mfl_none (by decide +kernel), a, M, rfl, mA.same s12, fun l2 nl2 => ?_⟩
    have s3 := same_upd (o := .lst (M.gs.map V.int)) nl2
    have e2 : (upd H2 l2 (.lst (M.gs.map V.int))) l2 = some (.lst (M.gs.map V.int)) := upd_same
    generalize upd H2 l2 (.lst (M.gs.map V.int)) = H3 at s3 e2
    have s13 := s12.trans s3
    refine ⟨rfl, rfl, fun x dx nx ndx ne => ?_⟩
    have sx : Same H3 (upd (upd H3 dx (.own x)) x (.ins C dx [])) := fun b o hb => by
      rw [upd_ne (ne_of_none hb nx), upd_ne (ne_of_none hb ndx)]
      exact hb
    refine ⟨x, dx, l, l1, l2, ps, bareM M, rfl, upd_same, .inl (SqL.of (sx _ _ (s3 _ _ (s2 _ _ hl)))), ((hps.same (s2.trans s3)).same sx).row, hpe, .inl (SqL.of (sx _ _ (s3 _ _ e1))), .inl (SqL.of (sx _ _ e2)), bareM_ok ok, fun H' k' mm => ⟨rfl, q x H' (s13.free nx) (fun b o hb => ?_) mm⟩⟩
    have hb3 := s13 _ _ hb
    exact k' _ _ (ne_of_none hb3 nx) (sx _ _ hb3)
/-! ### trimmed -/
def NTm : List Str := ["machine", "ahead", "back", "rooms", "room"]
theorem scTrim : FnScope NTm ["machine"] (defScope sTrim) := ⟨rfl, rfl, rfl, by decide +kernel, rfl, by decide +kernel, by decide +kernel⟩
def spTrim (K : PySem.W.Frag) (C : Addr) : Sp := fun vs H Q _ => ∃ (a : Addr) (M : AM), vs = [.ref a] ∧ MachAt K C H a M ∧ M.ok ∧ ∀ (m : Addr) (p : Int → Bool) H', H m = none → Same H H' → leftT M p → MachAt K C H' m (trimM M ((roomL M.n).filter p)).srt → Q (.ref m) H'
theorem ok_trim {f C fCo fTa fNu fRm fLt fAw fFs fLs : Addr} {fd fdCo fdTa fdNu fdRm fdLt fdAw fdFs fdLs : FuncData} {k : Nat} (F : Fun K "trimmed" "trimmed" sTrim f fd) (T : ClsM K C) (Co : FnM K mg fCo fdCo "come_to" sCome ["starts", "arrows"]) (GCo : FnOk P w K mg base CX0 (k + 1) fCo fdCo ["starts", "arrows"] (spComeI K)) (Ta : FnM K mg fTa fdTa "turned_arrows" sTurnA ["machine"]) (GTa : FnOk P w K mg base CX0 (k + 1) fTa fdTa ["machine"] (spTurnA K C)) (Nu : FnM K mg fNu fdNu "numbered" sNumd psNu) (GNu : FnOk P w K mg base CX0 (k + 1) fNu fdNu psNu (spNumI K C))
    (FRm : Fun K "rooms" "Machine.rooms" sMRooms fRm fdRm) (bRm : Binds K fdRm ["self"] []) (mRm : Meth K C "rooms" fRm) (FLt : Fun K "letters" "Machine.letters" sMLets fLt fdLt) (bLt : Binds K fdLt ["self"] []) (mLt : Meth K C "letters" fLt) (FAw : Fun K "arrows" "Machine.arrows" sMArrs fAw fdAw) (bAw : Binds K fdAw ["self"] []) (mAw : Meth K C "arrows" fAw)
    (FFs : Fun K "firsts" "Machine.firsts" sMFsts fFs fdFs) (bFs : Binds K fdFs ["self"] []) (mFs : Meth K C "firsts" fFs) (FLs : Fun K "lasts" "Machine.lasts" sMLsts fLs fdLs) (bLs : Binds K fdLs ["self"] []) (mLs : Meth K C "lasts" fLs) (ml : mg "list" = none) (mr : mg "range" = none) : FnOk P w K mg base CX0 (k + 2) f fd ["machine"] (spTrim K C) := by
  have GRm : FnOk P w K mg base CX0 (k + 1) fRm fdRm ["self"] (spMRooms K C) := ok_mrooms FRm T
  have GLt : FnOk P w K mg base CX0 (k + 1) fLt fdLt ["self"] (spMLets K C) := ok_mlets FLt T
  have GAw : FnOk P w K mg base CX0 (k + 1) fAw fdAw ["self"] (spMArrs K C) := ok_marrs FAw T ml
  have GFs : FnOk P w K mg base CX0 (k + 1) fFs fdFs ["self"] (spMFsts K C) := ok_mfsts FFs T ml
  have GLs : FnOk P w K mg base CX0 (k + 1) fLs fdLs ["self"] (spMLsts K C) := ok_mlsts FLs T ml
  refine F.ok scTrim (fun vs H Q E h => ?_) (fun cdv A outer s H vs Q E hr h => ?_)
  · obtain ⟨a, M, rfl, _⟩ := h
    rfl
  · obtain ⟨a, M, rfl, mA, ok, q⟩ := h
    obtain ⟨dx, ta, tf, tg, D0, ps0, h1, _⟩ := id mA
    have h40 := ok.2.2.2.2.2.1
    have hf100 := ok.2.2.2.2.2.2.2.2.2.2.1
    have hg100 := ok.2.2.2.2.2.2.2.2.2.2.2
    refine ⟨_, (pss_cutM (ps_set (i := 1) scTrim.nd rfl (.inr rfl) (pe_call GCo hr (by rfl) Co.g Co.F.kp Co.b .nil pass0 (pa_cons (pe_meth0 (pv 0) T.cl mFs GFs hr bFs .nil pass0) (pa_cons (pe_meth0 (pv 0) T.cl mAw GAw hr bAw .nil pass0) pa_nil))))
      (pss_cutM (ps_set (i := 2) scTrim.nd rfl (.inr rfl) (pe_call GCo hr (by rfl) Co.g Co.F.kp Co.b .nil pass0 (pa_cons (pe_meth0 (pv 0) T.cl mLs GLs hr bLs .nil pass0) (pa_cons (pe_call GTa hr (by rfl) Ta.g Ta.F.kp Ta.b .nil pass0 (pa_cons (pv 0) pa_nil)) pa_nil))))
      (pss_cutM (ps_setLc (i := 3) (own := [("room", 4)]) (g := (gName 4)) (tt := (tAnd (tTest (tOp (rIn K false) (tVar 4) (tVar 1))) (tTest (tOp (rIn K false) (tVar 4) (tVar 2))))) (te := (tVar 4)) rfl scTrim.nd rfl rfl (sw_true rfl rfl rfl (by decide +kernel))
          (pi_range1 (by rfl) mr (pa_cons (pe_meth0 (pv 0) T.cl mRm GRm hr bRm .nil pass0) pa_nil)) (blkOk_by (own := [("room", 4)]) (N := NTm) (sc := defScope sTrim) (by decide +kernel)) (fun _ _ _ _ _ => (pg_name (i := 4) scTrim.nd rfl (.inl rfl)))
          (fun _ _ _ _ _ => (pts_one (PW.pt (pw_and (pt_cmpR op_in_seq (pv 4) (pv 1) (by rfl)) (pw_and1 (pt_cmpR op_in_seq (pv 4) (pv 2) (by rfl))))))) (fun _ _ _ _ _ => (pv 4)))
      (pss_one (ps_ret (pe_call GNu hr (by rfl) Nu.g Nu.F.kp Nu.b .nil pass0 (pa_cons (pv 3) (pa_cons (pe_meth0 (pv 0) T.cl mLt GLt hr bLt .nil pass0) (pa_cons (pe_meth0 (pv 0) T.cl mAw GAw hr bAw .nil pass0) (pa_cons (pe_meth0 (pv 0) T.cl mFs GFs hr bFs .nil pass0) (pa_cons (pe_meth0 (pv 0) T.cl mLs GLs hr bLs .nil pass0) pa_nil))))))))))), ?_⟩
    have hbig : 10000 < sizeLine := by decide
    -- ahead
    refine ⟨fun σ' H' => ∃ (A : Addr) (fk : List Int), σ' = [some (.ref a), some (.ref A), none, none, none] ∧ Same H H' ∧ H' A = some (.lst (fk.map V.int)) ∧ fk.Nodup ∧ (∀ x, x ∈ fk ↔ Rch M.fs (edA M.as) x), ?_, ?_⟩
    · refine ⟨_, rfl, a, dx, _, rfl, h1, mfl_none (by decide +kernel), a, M, rfl, mA, fun l1 nl1 => ?_⟩
      have s1 := same_upd (o := .lst (M.fs.map V.int)) nl1
      have e1 : (upd H l1 (.lst (M.fs.map V.int))) l1 = some (.lst (M.fs.map V.int)) := upd_same
      generalize upd H l1 (.lst (M.fs.map V.int)) = H1 at s1 e1
      refine ⟨_, rfl, a, dx, _, rfl, s1 _ _ h1, mfl_none (by decide +kernel), a, M, rfl, mA.same s1, fun l2 ps nl2 hR he => ?_⟩
      have s2 := same_upd (o := .lst (rfs ps)) nl2
      have e2 : (upd H1 l2 (.lst (rfs ps))) l2 = some (.lst (rfs ps)) := upd_same
      have hR2 := hR.same s2
      generalize upd H1 l2 (.lst (rfs ps)) = H2 at s2 e2 hR2
      have hpl : ps.length ≤ 40 := by
        have := congrArg List.length he
        rw [List.length_map] at this
        omega
      refine ⟨l1, l2, M.fs, ps, rfl, SqL.of (s2 _ _ e1), SqL.of e2, hR2, by omega, by omega, fun r fk H3 s3 nr hr' hnd hrc => ?_⟩
      exact ⟨r, fk, rfl, s1.trans (s2.trans s3), hr', hnd, by rw [he] at hrc; exact hrc⟩
    rintro σ H1 ⟨A, fk, rfl, s1, hA, hfn, hfr⟩
    -- back
    refine ⟨fun σ' H' => ∃ (B : Addr) (gk : List Int), σ' = [some (.ref a), some (.ref A), some (.ref B), none, none] ∧ Same H1 H' ∧ H' B = some (.lst (gk.map V.int)) ∧ gk.Nodup ∧ (∀ x, x ∈ gk ↔ Rch M.gs (edA (M.as.map swA)) x), ?_, ?_⟩
    · refine ⟨_, rfl, a, dx, _, rfl, s1 _ _ h1, mfl_none (by decide +kernel), a, M, rfl, mA.same s1, fun l1 nl1 => ?_⟩
      have s2 := same_upd (o := .lst (M.gs.map V.int)) nl1
      have e1 : (upd H1 l1 (.lst (M.gs.map V.int))) l1 = some (.lst (M.gs.map V.int)) := upd_same
      generalize upd H1 l1 (.lst (M.gs.map V.int)) = H2 at s2 e1
      refine ⟨_, rfl, a, M, rfl, (mA.same s1).same s2, by omega, fun l2 ps H3 s3 hl2 hR he => ?_⟩
      have hpl : ps.length ≤ 40 := by
        have := congrArg List.length he
        rw [List.length_map, List.length_map] at this
        omega
      refine ⟨l1, l2, M.gs, ps, rfl, SqL.of (s3 _ _ e1), SqL.of hl2, hR, by omega, by omega, fun r gk H4 s4 nr hr' hnd hrc => ?_⟩
      exact ⟨r, gk, rfl, s2.trans (s3.trans s4), hr', hnd, by rw [he] at hrc; exact hrc⟩
    rintro σ H2 ⟨B, gk, rfl, s2, hB, hgn, hgr⟩
    have s12 := s1.trans s2
    -- the rooms that are left
    refine ⟨fun σ' H' => ∃ (R : Addr), σ' = [some (.ref a), some (.ref A), some (.ref B), some (.ref R), none] ∧ Same H2 H' ∧ H' R = some (.lst (((roomL M.n).filter fun r => decide (r ∈ fk) && decide (r ∈ gk)).map V.int)), ?_, ?_⟩
    · have hn1 := ok.1
      have hn8 := ok.2.1
      refine ⟨_, rfl, a, dx, _, rfl, s12 _ _ h1, mfl_none (by decide +kernel), a, M, rfl, mA.same s12, ?_⟩
      refine ⟨M.n, rfl, by omega, by omega, fun C nC => ?_⟩
      refine lc_range (lo := 0) (n := M.n.toNat) (fun i H' => Same H2 H' ∧ H' C = some (.lst ((((roomL M.n).take i).filter fun r => decide (r ∈ fk) && decide (r ∈ gk)).map V.int))) ⟨same_upd nC, upd_same⟩ (fun j H' hj hI => ?_) (fun H5 hI => ?_)
      · obtain ⟨sm, hC⟩ := hI
        have hrj : (roomL M.n)[j]? = some ((j : Nat) : Int) := by
          unfold roomL
          rw [List.getElem?_map, List.getElem?_range hj]
          rfl
        have hsn := filt_snocG (c := fun r : Int => decide (r ∈ fk) && decide (r ∈ gk)) (f := fun r => r) (xs := roomL M.n) hrj
        rw [List.map_id', List.map_id'] at hsn
        refine ⟨rfl, ?_⟩
        refine ⟨_, rfl, _, rfl, A, fk.map V.int, rfl, .inl (SqL.of (sm _ _ (s2 _ _ hA))), rfl, flatInts _, _, rfl, ?_⟩
        rw [if_neg Bool.false_ne_true, inV_ints, Int.zero_add]
        by_cases c : ((j : Nat) : Int) ∈ fk
        · rw [decide_eq_true c]
          refine iteT ?_
          refine ⟨_, rfl, _, rfl, B, gk.map V.int, rfl, .inl (SqL.of (sm _ _ hB)), rfl, flatInts _, _, rfl, ?_⟩
          rw [if_neg Bool.false_ne_true, inV_ints]
          by_cases c2 : ((j : Nat) : Int) ∈ gk
          · rw [decide_eq_true c2]
            refine iteT ⟨_, rfl, _, hC, ?_, fun b o e => ?_, ?_⟩
            · rw [List.length_map]
              have := List.length_filter_le (fun r : Int => decide (r ∈ fk) && decide (r ∈ gk)) ((roomL M.n).take j)
              rw [List.length_take] at this
              omega
            · rw [upd_ne (ne_of_none e nC)]
              exact sm b o e
            · rw [upd_same, hsn, if_pos (by rw [decide_eq_true c, decide_eq_true c2]; rfl), List.map_append]
              rfl
          · rw [decide_eq_false c2]
            exact iteF ⟨sm, by rw [hC, hsn, if_neg (by rw [decide_eq_true c, decide_eq_false c2]; exact Bool.false_ne_true), List.append_nil]⟩
        · rw [decide_eq_false c]
          exact iteF ⟨sm, by rw [hC, hsn, if_neg (by rw [decide_eq_false c]; exact Bool.false_ne_true), List.append_nil]⟩
      · obtain ⟨sm, hC⟩ := hI
        rw [← roomL_len, List.take_length] at hC
        exact ⟨C, rfl, sm, hC⟩
    rintro σ H3 ⟨R, rfl, s3, hR⟩
    have s13 := s12.trans s3
    have hleft : leftT M (fun r => decide (r ∈ fk) && decide (r ∈ gk)) := fun r _ _ => by
      rw [Bool.and_eq_true, decide_eq_true_eq, decide_eq_true_eq, hfr, hgr]
    generalize (fun r => decide (r ∈ fk) && decide (r ∈ gk)) = p at hR hleft
    have hrn : ((roomL M.n).filter p).Nodup := List.Nodup.sublist (List.filter_sublist ..) (roomL_nd _)
    have hrl : ((roomL M.n).filter p).length ≤ 8 := by
      have h1 := List.length_filter_le p (roomL M.n)
      rw [roomL_len] at h1
      have := ok.2.1
      omega
    -- numbered
    refine ⟨_, rfl, _, rfl, a, dx, _, rfl, s13 _ _ h1, mfl_none (by decide +kernel), a, M, rfl, mA.same s13, ?_⟩
    refine ⟨_, rfl, a, dx, _, rfl, s13 _ _ h1, mfl_none (by decide +kernel), a, M, rfl, mA.same s13, fun l2 ps nl2 hPs he => ?_⟩
    have s4 := same_upd (o := .lst (rfs ps)) nl2
    have e2 : (upd H3 l2 (.lst (rfs ps))) l2 = some (.lst (rfs ps)) := upd_same
    have hP4 := hPs.same s4
    generalize upd H3 l2 (.lst (rfs ps)) = H4 at s4 e2 hP4
    have s14 := s13.trans s4
    refine ⟨_, rfl, a, dx, _, rfl, s14 _ _ h1, mfl_none (by decide +kernel), a, M, rfl, mA.same s14, fun l3 nl3 => ?_⟩
    have s5 := same_upd (o := .lst (M.fs.map V.int)) nl3
    have e3 : (upd H4 l3 (.lst (M.fs.map V.int))) l3 = some (.lst (M.fs.map V.int)) := upd_same
    generalize upd H4 l3 (.lst (M.fs.map V.int)) = H5 at s5 e3
    have s15 := s14.trans s5
    refine ⟨_, rfl, a, dx, _, rfl, s15 _ _ h1, mfl_none (by decide +kernel), a, M, rfl, mA.same s15, fun l4 nl4 => ?_⟩
    have s6 := same_upd (o := .lst (M.gs.map V.int)) nl4
    have e4 : (upd H5 l4 (.lst (M.gs.map V.int))) l4 = some (.lst (M.gs.map V.int)) := upd_same
    generalize upd H5 l4 (.lst (M.gs.map V.int)) = H6 at s6 e4
    have s16 := s15.trans s6
    have hpl : ps.length ≤ 40 := by
      have := congrArg List.length he
      rw [List.length_map] at this
      omega
    have s46 := s5.trans s6
    refine ⟨R, l2, l3, l4, (roomL M.n).filter p, M.ls, ps, M.fs, M.gs, rfl, SqL.of ((s4.trans s46) _ _ hR), hrn, by omega, SqL.of (s46 _ _ e2), hP4.same s46, by omega, SqL.of (s6 _ _ e3), by omega, SqL.of e4, by omega, ok.2.2.1, fun h0 => ?_, fun m H7 nm s7 mm => q m p H7 (s16.free nm) (s16.trans s7) hleft ?_⟩
    · rw [he]
      exact numM_ok ok h0 hrl
    · rw [he] at mm
      exact mm
end
end Onp
set_option maxHeartbeats 4000000
set_option autoImplicit false
namespace PySem.W
open PySem PySem.Calls PyProof.Rows Builtin
section
variable {prog : Program} {w : World} {A : Around} {E : Value → Shared → Prop} {s : Shared} {K : Frag} {x C L f : Addr} {h₀ : Heap} {m : Str → Option Value} {ox : Obj} {od : Option Obj} {b tb : Value} {name : Str}
/-- a dunder that is the built-in one, asked for by name -/
theorem ifBound_B {M : Model} {id : String} {args : List Value} {Q : Option Value → Shared → Prop} (X : K.In s.heap) (I : InstAt s.heap x ox C od) (hs : findIn K (.ref C) name = some (some (.builtin id))) (hb : ∀ self, bindSpecial (.builtin id) self = pure (.builtin id, [self]))
    (h : wpAny M A (call (.builtin id) (.ref x :: args)) (fun v => Q (some v)) E s) : wpAny M A (callSpecialIfBound? (.ref x) name args) Q E s := by
  simp only [callSpecialIfBound?, bindSpecialIfBound?]
  refine wpAny_holding (wpAny_bind (wpAny_bind (wpAny_bind (I.type.here ((looks_findIn X hs).here ?_)))))
  refine wpAny_bind (wpAny_askSetting (wpAny_ite ?_))
  have fin : wpAny M A (call (.builtin id) ([.ref x] ++ args) >>= fun v => pure (some v)) Q E s := wpAny_bind (wpAny_mono h (fun v s' h' => wpAny_pure h') fun _ _ h' => h')
  split
  · exact wpAny_bind ((Looks.of_pure (hb _)).here (wpAny_pure (by exact fin)))
  · exact wpAny_tryCatch (wpAny_bind ((Looks.of_pure (hb _)).here (wpAny_pure (by exact fin))))
/-- object.__ne__ asks the own __eq__ -/
theorem one_call {Q : Value → Shared → Prop} (X : K.In s.heap) (I : InstAt s.heap x ox C od) (hm : mroIn K C (.type "object") = some true) (hu : A.in1.units < cLine) (hs : findIn K (.ref C) "__eq__" = some (some (.ref f))) (hf : isFn K (.ref f) = true)
    (h : wpAny (model prog w) A.in1 (call (.ref f) [.ref x, b]) (BoolBack fun r s' => Q (.bool (!r)) s') E s) : wpAny (model prog w) A (call (.builtin "object.__ne__") [.ref x, b]) Q E s := by
  refine wpAny_call (codeAny_call_builtin PySem.F.slot_object_ne.plain PySem.F.entry_object_ne (check_slot (i := "object.__ne__") (owner := "object") (n := "__ne__") (by decide +kernel) (by decide +kernel) (I.type.andThen (looks_mroIn X hm)) (PySem.F.args_object_ne_2 _ _) ?_))
  unfold Builtin.«object.__ne__»
  refine wpAny_bind (m := slotArgs "__ne__" 1 _) (wpAny_pure ?_)
  refine wpAny_bind (m := cRoomFor _ _) (wpAny_cRoomFor hu ?_)
  refine wpAny_bind (m := callSpecialIfBound? (.ref x) (Str.ofString "__eq__") _) (ifBound_K X I hs hf (wpAny_mono h (fun r s' hq => ?_) fun _ _ y => y))
  cases r <;> first | exact hq.elim | skip
  exact wpAny_bind (wpAny_pure (wpAny_pure hq))
theorem ne_K {Q : Value → Shared → Prop} (hu0 : A.units < cLine) (hu : A.in1.units < cLine) (X : K.In s.heap) (I : InstAt s.heap x ox C od) (hb : Looks (model prog w) s.heap (typeOf b) tb) (hn : notFirst K C tb = true) (hm : mroIn K C (.type "object") = some true)
    (hs : findIn K (.ref C) "__ne__" = some (some (.builtin "object.__ne__"))) (he : findIn K (.ref C) "__eq__" = some (some (.ref f))) (hf : isFn K (.ref f) = true)
    (h : wpAny (model prog w) A.in1 (call (.ref f) [.ref x, b]) (BoolBack fun r s' => Q (.bool (!r)) s') E s) : wpAny (model prog w) A (richCompare .NotEq (.ref x) b) Q E s := by
  have one : wpAny (model prog w) A (tryCompare (.ref x) (cmpInfo .NotEq).2.1 b) (fun r s' => ∃ v, r = some v ∧ Q v s') E s := by
    unfold tryCompare
    refine wpAny_bind (ifBound_B X I hs PySem.F.slot_object_ne.bind (one_call X I hm hu he hf (wpAny_mono h (fun v s' hv => ?_) fun _ _ e => e)))
    cases v <;> first | exact hv.elim | exact wpAny_pure ⟨_, rfl, hv⟩
  unfold richCompare
  simp only [oneThing_ref]
  refine wpAny_holding (wpAny_bind (wpAny_cRoomFor hu0 ?_))
  refine wpAny_bind (I.type.here (wpAny_bind (hb.here ?_)))
  split
  · rename_i q
    have e : subIn K tb (.ref C) = some false := by
      rcases Bool.or_eq_true_iff.mp hn with e | e
      · rw [beq_iff_eq.mp e] at q; simp at q
      · exact beq_iff_eq.mp e
    refine wpAny_bind ((looks_subIn X e).here ?_)
    simp only [Bool.false_eq_true, if_false]
    refine wpAny_bind (wpAny_mono one (fun r s' z => ?_) fun _ _ e => e)
    obtain ⟨v, rfl, hq⟩ := z
    exact wpAny_pure hq
  · refine wpAny_bind (wpAny_pure ?_)
    simp only [Bool.false_eq_true, if_false]
    refine wpAny_bind (wpAny_mono one (fun r s' z => ?_) fun _ _ e => e)
    obtain ⟨v, rfl, hq⟩ := z
    exact wpAny_pure hq
end
end PySem.W
namespace L2
open PySem PySem.Spec PyProof.Rows
section
variable {X : Cx} {CX : CXT} {n : Nat} {C f : Addr} {fd : FuncData} {ps : List Str} {sp : Sp} {E : XK}
/-- an own function called anywhere below the running body -/
theorem run_at {A : Around} {pins : List (Addr × Obj)} {σ : St} {H : Hp} {s : Shared} {Q : VK} {us : List Value} {vs : List V} (F : FnOk X.prog X.w X.K X.mg X.base CX n f fd ps sp) (hb : Binds X.K fd ps []) (hx : Passes CX X E) (sb : Sub X n A)
    (I : Inv X pins σ H s) (r : Vals vs us) (h : sp vs H Q E) : wpAny (model X.prog X.w) A (call (.ref f) us) (EP X pins σ Q) X.xe s := by
  have e0 : Env0 X.prog X.w X.K X.mg X.base A X.stack s H := by
    have e := I.env0
    exact ⟨by rw [sb.fr]; exact e.frames, e.mod, e.bs, e.bsz, e.funs, e.frf, e.hok, e.bare⟩
  have hl : us.length = ps.length := by rw [← r.length]; exact F.len _ _ _ _ h
  refine wpAny_call (codeAny_mono (F.run A X.stack s H ⟨us, []⟩ us vs _ E sb.room e0 (by
    have := hb s us I.kIn (by simpa using hl)
    simpa using this) r h) fun r s' hq => ?_)
  cases r with
  | error e => exact hx pins σ H s e s' I hq
  | ok fl =>
    cases fl with
    | ret w => exact I.after hq
    | next => exact False.elim hq
    | brk => exact False.elim hq
    | cont => exact False.elim hq
/-- what == and != of an own class with an own __eq__ ask -/
structure OwnE (K : PySem.W.Frag) (C f : Addr) : Prop where
  eq : PySem.W.findIn K (.ref C) "__eq__" = some (some (.ref f))
  fn : PySem.W.isFn K (.ref f) = true
  ne : PySem.W.findIn K (.ref C) "__ne__" = some (some (.builtin "object.__ne__"))
  ob : PySem.W.mroIn K C (.type "object") = some true
/-- instance == y -/
def rOwn (K : PySem.W.Frag) (C : Addr) (sp : Sp) (E : XK) (neg : Bool) : R2 := fun x y H Q => ∃ a dx fs t, x = .ref a ∧ H a = some (.ins C dx fs) ∧ TyX K H y t ∧ PySem.W.notFirst K C t = true ∧ sp [x, y] H (fun v H' => ∃ b, v = .bl b ∧ Q (.bl (neg != b)) H') E
theorem rc_own {A : Around} {pins : List (Addr × Obj)} {σ : St} {H : Hp} {s : Shared} {x y : V} {u v : Value} {Q : VK} (F : FnOk X.prog X.w X.K X.mg X.base CX n f fd ps sp) (hb : Binds X.K fd ps []) (hx : Passes CX X E) (O : OwnE X.K C f) (sb : Sub X n A)
    (I : Inv X pins σ H s) (rx : RelV x u) (ry : RelV y v) (h : rOwn X.K C sp E false x y H Q) : wpAny (model X.prog X.w) A (richCompare .Eq u v) (EP X pins σ Q) X.xe s := by
  obtain ⟨a, dx, fs, t, rfl, ha, ty, hn, q⟩ := h
  cases rx
  obtain ⟨mA, J, _⟩ := ins_get I.hok ha
  obtain ⟨od, J, _⟩ := J.look
  obtain ⟨m, hF⟩ := I.fr
  obtain ⟨P, Z, p, _⟩ := kit_of I ry ty
  refine PySem.W.cmp_K (op := .Eq) (tb := t) sb.room.units0 hF I.ok.mod.kin J (Z.ty _ _ I.kIn p) hn O.eq O.fn ?_
  refine wpAny_mono (run_at F hb hx sb I (show Vals [V.ref a, y] [Value.ref a, v] from .cons rfl (.cons ry .nil)) q) (fun r s' z => ?_) fun _ _ z => z
  obtain ⟨v', H', I', rv, b, rfl, q'⟩ := z
  cases rv
  exact ⟨.bl b, H', I', rfl, by simpa using q'⟩
theorem op_eqOwn (F : FnOk X.prog X.w X.K X.mg X.base CX n f fd ps sp) (hb : Binds X.K fd ps []) (hx : Passes CX X E) (O : OwnE X.K C f) (hr : Room n X.A) : OpR X (compareOp .Eq) (rOwn X.K C sp E false) := fun pins s σ H x y v u Q I rx ry h =>
  show wpAny (model X.prog X.w) X.A (richCompare .Eq v u) (EP X pins σ Q) X.xe s from rc_own F hb hx O ⟨hr, rfl⟩ I rx ry h
theorem op_neOwn (F : FnOk X.prog X.w X.K X.mg X.base CX n f fd ps sp) (hb : Binds X.K fd ps []) (hx : Passes CX X E) (O : OwnE X.K C f) (hr : Room (n + 1) X.A) : OpR X (compareOp .NotEq) (rOwn X.K C sp E true) := by
  intro pins s σ H x y u v Q I rx ry h
  show wpAny (model X.prog X.w) X.A (richCompare .NotEq u v) (EP X pins σ Q) X.xe s
  obtain ⟨a, dx, fs, t, rfl, ha, ty, hn, q⟩ := h
  cases rx
  obtain ⟨mA, J, _⟩ := ins_get I.hok ha
  obtain ⟨od, J, _⟩ := J.look
  obtain ⟨P, Z, p, _⟩ := kit_of I ry ty
  refine PySem.W.ne_K (tb := t) hr.units0 hr.in1.units0 I.kIn J (Z.ty _ _ I.kIn p) hn O.ob O.ne O.eq O.fn ?_
  refine wpAny_mono (run_at F hb hx (Sub.in1 ⟨hr, rfl⟩) I (show Vals [V.ref a, y] [Value.ref a, v] from .cons rfl (.cons ry .nil)) q) (fun r s' z => ?_) fun _ _ z => z
  obtain ⟨v', H', I', rv, b, rfl, q'⟩ := z
  cases rv
  exact ⟨.bl (!b), H', I', rfl, by simpa using q'⟩
/-- len(instance), repr(instance) -/
def rLenOwn (C : Addr) (sp : Sp) (E : XK) : List V → Hp → VK → Prop := fun xs H Q => ∃ a dx fs, xs = [.ref a] ∧ H a = some (.ins C dx fs) ∧ sp xs H (fun v H' => ∃ i : Int, v = .int i ∧ 0 ≤ i ∧ i < 2 ^ 63 ∧ Q (.int i) H') E
theorem call_lenOwn (F : FnOk X.prog X.w X.K X.mg X.base CX n f fd ps sp) (hb : Binds X.K fd ps []) (hx : Passes CX X E) (hs : PySem.W.findIn X.K (.ref C) "__len__" = some (some (.ref f))) (hf : PySem.W.isFn X.K (.ref f) = true) (hr : Room (n + 1) X.A) : CallR X (.builtin "len") (rLenOwn C sp E) := by
  intro pins s σ H xs us Q I r h
  obtain ⟨a, dx, fs, rfl, ha, q⟩ := h
  cases r with
  | cons r1 r2 =>
    cases r1
    cases r2
    obtain ⟨mA, J, _⟩ := ins_get I.hok ha
    obtain ⟨od, J, _⟩ := J.look
    obtain ⟨m, hF⟩ := I.fr
    refine PySem.W.len_K hF I.ok.mod.kin J hs hf ?_
    refine wpAny_mono (run_at F hb hx (Sub.in1 ⟨hr, rfl⟩) I (show Vals [V.ref a] [Value.ref a] from .cons rfl .nil) q) (fun r s' z => ?_) fun _ _ z => z
    obtain ⟨v', H', I', rv, i, rfl, h0, h1, q'⟩ := z
    obtain ⟨tk, rfl⟩ := rv
    exact ⟨⟨h0, h1⟩, .int i, H', I'.tok _, ⟨_, rfl⟩, q'⟩
def rRepOwn (C : Addr) (sp : Sp) (E : XK) : List V → Hp → VK → Prop := fun xs H Q => ∃ a dx fs, xs = [.ref a] ∧ H a = some (.ins C dx fs) ∧ sp xs H (fun v H' => ∃ z : Str, v = .str z ∧ Q (.str z) H') E
theorem call_repOwn (F : FnOk X.prog X.w X.K X.mg X.base CX n f fd ps sp) (hb : Binds X.K fd ps []) (hx : Passes CX X E) (hs : PySem.W.findIn X.K (.ref C) "__repr__" = some (some (.ref f))) (hf : PySem.W.isFn X.K (.ref f) = true) (hr : Room (n + 1) X.A) : CallR X (.builtin "repr") (rRepOwn C sp E) := by
  intro pins s σ H xs us Q I r h
  obtain ⟨a, dx, fs, rfl, ha, q⟩ := h
  cases r with
  | cons r1 r2 =>
    cases r1
    cases r2
    obtain ⟨mA, J, _⟩ := ins_get I.hok ha
    obtain ⟨od, J, _⟩ := J.look
    obtain ⟨m, hF⟩ := I.fr
    refine PySem.W.repr_K hr.in1.units0 hF I.ok.mod.kin J hs hf ?_
    refine wpAny_mono (run_at F hb hx (Sub.in1 ⟨hr, rfl⟩) I (show Vals [V.ref a] [Value.ref a] from .cons rfl .nil) q) (fun r s' z => ?_) fun _ _ z => z
    obtain ⟨v', H', I', rv, y, rfl, q'⟩ := z
    obtain ⟨tk, rfl⟩ := rv
    exact ⟨.str y, H', I', ⟨_, rfl⟩, q'⟩
end
end L2
set_option maxHeartbeats 4000000
set_option autoImplicit false
namespace PySem.W
open PySem PySem.Calls PyProof.Rows Builtin
section
variable {prog : Program} {w : World} {A : Around} {E : Value → Shared → Prop} {s : Shared} {K : Frag} {x C L f : Addr} {h₀ : Heap} {m : Str → Option Value} {ox : Obj} {od : Option Obj} {b tb : Value} {name : Str}
theorem len_bodyO {Q : Value → Shared → Prop} (X : K.In s.heap) (I : InstAt s.heap x ox C od) (hs : findIn K (.ref C) "__len__" = some (some (.ref f))) (hf : isFn K (.ref f) = true)
    (h : wpAny (model prog w) A (call (.ref f) [.ref x]) (LenBack Q) E s) : wpAny (model prog w) A (Builtin.«len» ⟨[.ref x], []⟩) (fun fin s' => ∃ r, fin = .done (.ret r) ∧ Q r s') E s := by
  unfold Builtin.«len»
  refine wpAny_bind (m := oneArg "len" _) (wpAny_pure ?_)
  refine wpAny_bind (m := callSpecial? (.ref x) (Str.ofString "__len__")) (special_fn X I hs (beq_iff_eq.mp hf) (wpAny_mono h (fun r s' hr => ?_) fun _ _ y => y))
  cases r <;> first | exact hr.elim | skip
  rename_i n u
  obtain ⟨⟨h0, h1⟩, hq⟩ := hr
  refine wpAny_bind (wpAny_holding (wpAny_pure ?_))
  refine wpAny_bind (wpAny_letGo ?_)
  show wpAny _ _ (if n < 0 then _ else _) _ _ _
  rw [if_neg (by omega)]
  show wpAny _ _ (if n ≥ 2 ^ 63 then _ else _) _ _ _
  rw [if_neg (by omega)]
  exact wpAny_bind (wpAny_mkInt (wpAny_pure ⟨_, rfl, hq⟩))
/-- truth by an own __len__ -/
theorem truthy_L {Q : Bool → Shared → Prop} (X : K.In s.heap) (I : InstAt s.heap x ox C od) (hb : findIn K (.ref C) "__bool__" = some none) (hs : findIn K (.ref C) "__len__" = some (some (.ref f))) (hf : isFn K (.ref f) = true)
    (h : wpAny (model prog w) A.in1 (call (.ref f) [.ref x]) (LenBack fun v s' => ∃ (n : Int) (t : Tok), v = .int n t ∧ Q (n != 0) s') E s) : wpAny (model prog w) A (truthy (.ref x)) Q E s := by
  have key : wpAny (model prog w) A (runValue (.builtin "len" ⟨[.ref x], []⟩)) (fun r s' => ∃ (n : Int) (t : Tok), r = .int n t ∧ Q (n != 0) s') E s := by
    refine wpAny_runValue (codeAny_builtin entry_len ?_)
    rw [Around.under_plainId plain_len _]
    exact wpAny_mono (len_bodyO X I hs hf h) (fun fin s' h' => by obtain ⟨r, rfl, hq⟩ := h'; exact hq) fun _ _ e => e
  have hsp : ∀ {Q' : Option Value → Shared → Prop}, Q' (some (.ref f)) s → wpAny (model prog w) A (specialOf (.ref x) "__len__") Q' E s := fun q => by
    unfold specialOf
    exact wpAny_bind (I.type.here ((looks_findIn X hs).here q))
  unfold truthy
  first
    | refine wpAny_bind (DSub.special_no (name := Str.ofString "__bool__") X I hb ?_)
    | refine wpAny_bind (wpAny_pure (wpAny_bind (DSub.special_no (name := Str.ofString "__bool__") X I hb ?_)))
  first
    | refine wpAny_bind (hsp ?_)
    | refine wpAny_bind (wpAny_pure (wpAny_bind (hsp ?_)))
  first
    | exact wpAny_bind (wpAny_mono key (fun r s' h' => by obtain ⟨n, t, rfl, hq⟩ := h'; exact wpAny_pure hq) fun _ _ e => e)
    | exact wpAny_bind (wpAny_pure (wpAny_bind (wpAny_mono key (fun r s' h' => by obtain ⟨n, t, rfl, hq⟩ := h'; exact wpAny_pure hq) fun _ _ e => e)))
theorem meets_boolO (v : Value) : MeetsIn prog w (Builtin.«bool.__new__» ⟨[.type "bool", v], []⟩) (fun A R s => wpAny (model prog w) A.in1 (truthy v) (fun b s' => R (.ok (.ret (.bool b))) s') (fun e s' => R (.error e) s') s) := fun A R s hs => by
  obtain ⟨hp, g, d, tk, os⟩ := s
  have f1 := F.conv_sub_bool
  unfold Builtin.«bool.__new__»
  repeat (any_goals (first | assumption | (with_reducible refine wpAny_bind (m := truthy v) (wpAny_mono hs (fun r s' h' => ?_) fun _ _ e => e)) | wp_step))
  all_goals first | exact ⟨_, rfl, ‹_›⟩ | exact ‹_› | skip
theorem call_boolO {v : Value} {Q : Value → Shared → Prop} (h : wpAny (model prog w) A.in1.in1 (truthy v) (fun b s' => Q (.bool b) s') E s) : wpAny (model prog w) A (call (.type "bool") [v]) Q E s :=
  callType_newIn F.called_bool F.newNe_bool (F.typeCall_bool_1 v) (F.newCall_bool_1 v) (fun obj => F.args_object_init_2 obj v) F.entry_bool_new (meets_boolO v) (wpAny_mono h (fun b s' q => ⟨rfl, q⟩) fun _ _ e => e)
end
end PySem.W
namespace GQ
open PySem PySem.SeqAt
open AutoSeq1 (wpAny_loadPart')
open MeetsSeq MeetsSeq2 MeetsSeq3 SeqRoads2
section
variable {prog : Program} {w : World} {A : Around} {R : Result → Shared → Prop} {s : Shared}
def lstO (its : Array Value) (n : Nat) : Obj := { cls := .type "list", data := .seq its n }
/-- x in [y] -/
theorem contains1_end (l : Addr) (its : Array Value) (x : Value) (n : Nat) (h1 : its[1]? = none) (hl : s.heap.get? l = some (lstO its n)) (h : R (.ok (.ret (.bool false))) s) :
    wpAny (model prog w) A.in1 (Builtin.«list.__contains__.loop» ⟨[.ref l, x, rawInt 1], []⟩) (FinOf prog w A R) (fun e s' => R (.error e) s') s := by
  unfold lstO at hl
  obtain ⟨hp, g, d, tk, os⟩ := s
  wp_walk using wpAny_loadPart' hl
  have h1' : its[((1 : Nat) : Int).toNat]? = none := h1
  rw [show Int.toNat 1 = 1 from rfl, h1]
  wp_walk
  exact h
theorem contains1 (l : Addr) (its : Array Value) (y x : Value) (n : Nat) (h0 : its[0]? = some y) (h1 : its[1]? = none) (hl : s.heap.get? l = some (lstO its n))
    (h : wpAny (model prog w) A.in1 (eqBool y x) (fun r s' => (r = true → R (.ok (.ret (.bool true))) s') ∧ (r = false → (∃ its' n', its'[1]? = none ∧ s'.heap.get? l = some (lstO its' n')) ∧ R (.ok (.ret (.bool false))) s')) (fun e s' => R (.error e) s') s) :
    wpAny (model prog w) A.in1 (Builtin.«list.__contains__» ⟨[.ref l, x], []⟩) (FinOf prog w A R) (fun e s' => R (.error e) s') s := by
  have loop : wpAny (model prog w) A.in1 (Builtin.«list.__contains__.loop» ⟨[.ref l, x, rawInt 0], []⟩) (FinOf prog w A R) (fun e s' => R (.error e) s') s := by
    unfold lstO at hl
    obtain ⟨hp, g, d, tk, os⟩ := s
    wp_walk using wpAny_loadPart' hl
    rw [show Int.toNat 0 = 0 from rfl, h0]
    refine wpAny_bind (wpAny_mono h (fun r s2 h2 => ?_) fun _ _ x => x)
    cases r with
    | true =>
      have h3 := h2.1 rfl
      obtain ⟨hp2, g2, d2, tk2, os2⟩ := s2
      wp_walk
      exact h3
    | false =>
      obtain ⟨⟨its', n', h1', hl'⟩, h3⟩ := h2.2 rfl
      have he := contains1_end (prog := prog) (w := w) (A := A) (R := R) l its' x n' h1' hl' h3
      obtain ⟨hp2, g2, d2, tk2, os2⟩ := s2
      wp_walk
      exact ⟨plainId_quiet plain_contains_loop _, codeAny_builtin entry_contains_loop (by
        rw [Around.under_plainId plain_contains_loop _]
        exact he)⟩
  obtain ⟨hp, g, d, tk, os⟩ := s
  wp_walk
  exact ⟨plainId_quiet plain_contains_loop _, codeAny_builtin entry_contains_loop (by
    rw [Around.under_plainId plain_contains_loop _]
    exact loop)⟩
end
section
variable {prog : Program} {w : World} {A : Around} {E : Value → Shared → Prop} {s : Shared}
theorem in_list1 {l : Addr} {its : Array Value} {y x : Value} {n : Nat} {Q : Value → Shared → Prop} (h0 : its[0]? = some y) (h1 : its[1]? = none) (hl : s.heap.get? l = some (lstO its n))
    (h : wpAny (model prog w) A.in1 (eqBool y x) (fun r s' => (r = true → Q (.bool true) s') ∧ (r = false → (∃ its' n', its'[1]? = none ∧ s'.heap.get? l = some (lstO its' n')) ∧ Q (.bool false) s')) E s) :
    wpAny (model prog w) A (compareOp .In x (.ref l)) Q E s := by
  show wpAny _ A (do return .bool (← contains (.ref l) x)) Q E s
  have hT : s.TypeIs (.ref l) "list" := ⟨_, hl, rfl⟩
  refine wpAny_bind (wpAny_contains_slot hT F.slot_list_contains (wpAny_mono (call_here (Q := fun v s' => ∃ b, v = .bool b ∧ Q (.bool b) s') F.slot_list_contains hT F.entry_list_contains (F.args_list_contains_2 _ _) (contains1 (R := wants (fun v s' => ∃ b, v = .bool b ∧ Q (.bool b) s') E) l its y x n h0 h1 hl (wpAny_mono h (fun r s' q => ⟨fun e => ⟨_, rfl, q.1 e⟩, fun e => ⟨(q.2 e).1, _, rfl, (q.2 e).2⟩⟩) fun _ _ e => e))) (fun v s' hv => ?_) fun _ _ e => e))
  obtain ⟨b, rfl, hq⟩ := hv
  exact wpAny_truthy_bool (wpAny_pure hq)
end
end GQ
namespace L2
open PySem PySem.Spec PyProof.Rows
section
variable {X : Cx} {CX : CXT} {n : Nat} {C f : Addr} {fd : FuncData} {ps : List Str} {sp : Sp} {E : XK}
/-- bool(instance), by its own __len__ -/
def rBoolOwn (C : Addr) (sp : Sp) (E : XK) : List V → Hp → VK → Prop := fun xs H Q => ∃ a dx fs, xs = [.ref a] ∧ H a = some (.ins C dx fs) ∧ sp xs H (fun v H' => ∃ i : Int, v = .int i ∧ 0 ≤ i ∧ i < 2 ^ 63 ∧ Q (.bl (i != 0)) H') E
theorem call_boolOwn (F : FnOk X.prog X.w X.K X.mg X.base CX n f fd ps sp) (hb : Binds X.K fd ps []) (hx : Passes CX X E) (h0 : PySem.W.findIn X.K (.ref C) "__bool__" = some none) (hs : PySem.W.findIn X.K (.ref C) "__len__" = some (some (.ref f))) (hf : PySem.W.isFn X.K (.ref f) = true) (hr : Room (n + 3) X.A) : CallR X (.type "bool") (rBoolOwn C sp E) := by
  intro pins s σ H xs us Q I r h
  obtain ⟨a, dx, fs, rfl, ha, q⟩ := h
  cases r with
  | cons r1 r2 =>
    cases r1
    cases r2
    obtain ⟨mA, J, _⟩ := ins_get I.hok ha
    obtain ⟨od, J, _⟩ := J.look
    refine PySem.W.call_boolO (PySem.W.truthy_L I.kIn J h0 hs hf ?_)
    refine wpAny_mono (run_at F hb hx (Sub.in1 (Sub.in1 (Sub.in1 ⟨hr, rfl⟩))) I (show Vals [V.ref a] [Value.ref a] from .cons rfl .nil) q) (fun r s' z => ?_) fun _ _ z => z
    obtain ⟨v', H', I', rv, i, rfl, h0, h1, q'⟩ := z
    obtain ⟨tk, rfl⟩ := rv
    exact ⟨⟨h0, h1⟩, i, _, rfl, .bl (i != 0), H', I'.tok _, rfl, q'⟩
/-- instance in [instance] -/
def rInOwn (K : PySem.W.Frag) (C : Addr) (sp : Sp) (E : XK) : R2 := fun x y H Q => ∃ a b l, x = .ref a ∧ y = .ref l ∧ H l = some (.lst [.ref b]) ∧ ((b = a ∧ Q (.bl true) H) ∨ (b ≠ a ∧ rOwn K C sp E false (.ref b) (.ref a) H (fun v H' => ∃ r, v = .bl r ∧ H' l = some (.lst [.ref b]) ∧ Q v H')))
theorem op_inOwn (F : FnOk X.prog X.w X.K X.mg X.base CX n f fd ps sp) (hb : Binds X.K fd ps []) (hx : Passes CX X E) (O : OwnE X.K C f) (hr : Room (n + 1) X.A) : OpR X (compareOp .In) (rInOwn X.K C sp E) := by
  intro pins s σ H x y u v Q I rx ry h
  obtain ⟨a, b, l, rfl, rfl, hl, hq⟩ := h
  cases rx
  cases ry
  obtain ⟨z, its, m, r, hlen, e⟩ := I.lstM hl
  cases r with
  | cons r1 r2 =>
    cases r1
    cases r2
    refine GQ.in_list1 (y := .ref b) (n := m) rfl rfl e ?_
    rcases hq with ⟨rfl, q⟩ | ⟨hab, hq⟩
    · exact SeqAt.EqAt.same (A := X.A.in1) (s := s) (.ref b) X.prog X.w X.xe _ ⟨fun _ => ⟨.bl true, H, I, rfl, q⟩, fun z => nomatch z⟩
    · refine GQ.eqBool_refG hab (wpAny_mono (rc_own F hb hx O (Sub.in1 ⟨hr, rfl⟩) I (show RelV (.ref b) (.ref b) from rfl) (show RelV (.ref a) (.ref a) from rfl) hq) (fun r s' q => ?_) fun _ _ x => x)
      obtain ⟨v', H', I', rv, r', rfl, hl', q'⟩ := q
      cases rv
      refine ⟨r', rfl, fun e => ?_, fun e => ?_⟩
      · subst e
        exact ⟨.bl true, H', I', rfl, q'⟩
      · subst e
        obtain ⟨z2, its2, m2, rr, hlen2, e2⟩ := I'.lstM hl'
        refine ⟨⟨its2.toArray, m2, ?_, e2⟩, .bl false, H', I', rfl, q'⟩
        cases rr with
        | cons r1 r2 =>
          cases r2
          rfl
end
end L2
set_option maxHeartbeats 8000000
set_option autoImplicit false
namespace Onp
open PySem PySem.Spec PyProof.Rows L2
abbrev sMEq : Stmt := inClass sMach 16
abbrev sMLen : Stmt := inClass sMach 17
abbrev sMRep : Stmt := inClass sMach 18
theorem eqvAll_A : ∀ as bs : List Arw, PyData.eqvAll (as.map adat) (bs.map adat) = decide (as = bs)
  | [], [] => by simp [PyData.eqvAll]
  | [], _ :: _ => by simp [PyData.eqvAll]
  | _ :: _, [] => by simp [PyData.eqvAll]
  | a :: r, b :: t => by
    show PyData.eqvAll (adat a :: r.map adat) (adat b :: t.map adat) = _
    rw [PyData.eqvAll, eqv_adat, eqvAll_A r t, Bool.eq_iff_iff]
    simp only [Bool.and_eq_true, decide_eq_true_eq, List.cons.injEq]
theorem eqvAll_I : ∀ as bs : List Int, PyData.eqvAll (as.map PyData.int) (bs.map PyData.int) = decide (as = bs)
  | [], [] => by simp [PyData.eqvAll]
  | [], _ :: _ => by simp [PyData.eqvAll]
  | _ :: _, [] => by simp [PyData.eqvAll]
  | a :: r, b :: t => by
    show PyData.eqvAll (.int a :: r.map .int) (.int b :: t.map .int) = _
    rw [PyData.eqvAll, eqvAll_I r t, Bool.eq_iff_iff]
    simp only [Bool.and_eq_true, decide_eq_true_eq, List.cons.injEq, PyData.eqv, beq_iff_eq]
theorem shTR {as : List Arw} (h : ∀ a ∈ as, okS a) : SeqAt.shaped (.tuple (as.map adat)) = true := by
  unfold SeqAt.shaped
  have h1 : (PyData.tuple (as.map adat)).canLay0 = true := by rw [PyData.canLay0]; exact lay_row h
  have h2 : (PyData.tuple (as.map adat)).depth ≤ 64 := by
    rw [PyData.depth]
    have := dep_row as
    omega
  rw [h1, decide_eq_true h2]
  rfl
theorem shTI (ns : List Int) : SeqAt.shaped (.tuple (ns.map .int)) = true := by
  unfold SeqAt.shaped
  have h1 : (PyData.tuple (ns.map .int)).canLay0 = true := by rw [PyData.canLay0]; exact lay_ints ns
  have h2 : (PyData.tuple (ns.map .int)).depth ≤ 64 := by
    rw [PyData.depth, PySem.W.depth_ints]
    decide
  rw [h1, decide_eq_true h2]
  rfl
/-- whether two machines are the same -/
def eqM (M N : AM) : Bool := decide (M.n = N.n) && (decide (M.ls = N.ls) && (decide (M.as = N.as) && (decide (M.fs = N.fs) && decide (M.gs = N.gs))))
def AM.okS (M : AM) : Prop := ∀ a ∈ M.as, Onp.okS a
/-- what isinstance asks of the class -/
structure InsM (K : PySem.W.Frag) (C : Addr) : Prop where
  cl : Cls K C
  ha : PySem.W.findIn K (.ref C) "__class__" = some (some (.builtin "object.__class__"))
  hn : PySem.W.specialIn K (.builtin "object.__class__") "__get__" = some (some (.builtin "getset_descriptor.__get__"))
  htk : PySem.W.takesIn K (.builtin "object.__class__") = some true
  hm : PySem.W.mroIn K C (.type "object") = some true
  me : PySem.W.kitOne K (.ref C) (.ref C) = some true
section
variable {P : Program} {w : World} {K : PySem.W.Frag} {mg : Str → Option Value} {base : Heap}
/-! ### Machine.__eq__ -/
theorem scMEq : FnScope ["self", "other"] ["self", "other"] (defScope sMEq) := ⟨rfl, rfl, rfl, by decide +kernel, rfl, by decide +kernel, by decide +kernel⟩
def spMEq (K : PySem.W.Frag) (C : Addr) : Sp := fun vs H Q _ => ∃ (a : Addr) (y : V) (M : AM), vs = [.ref a, y] ∧ MachAt K C H a M ∧ M.okS ∧
  ((∃ (b : Addr) (N : AM), y = .ref b ∧ MachAt K C H b N ∧ N.okS ∧ Q (.bl (eqM M N)) H) ∨ (∃ t, TyX K H y t ∧ PySem.W.kitOne K t (.ref C) = some false ∧ Q (.bl false) H))
theorem ok_meq {f C : Addr} {fd : FuncData} {k : Nat} (F : Fun K "__eq__" "Machine.__eq__" sMEq f fd) (T : ClsM K C) (IC : InsM K C) (gM : mg "Machine" = some (.ref C)) (mi : mg "isinstance" = none) : FnOk P w K mg base CX0 (k + 1) f fd ["self", "other"] (spMEq K C) := by
  refine F.ok scMEq (fun vs H Q E h => ?_) (fun cdv A outer s H vs Q E hr h => ?_)
  · obtain ⟨a, y, M, rfl, _⟩ := h
    rfl
  · obtain ⟨a, y, M, rfl, hM, oM, h⟩ := h
    refine ⟨_, pss_one (ps_ret (pe_and (pe_callB call_isi (by rfl) mi (by decide +kernel) (pa_cons (pv 1) (pa_cons (pe_glob (v := .ref C) rfl gM rfl) pa_nil)))
      (pe_and (pe_cmpR op_eq (pe_fld (pv 0) rfl) (pe_fld (pv 1) rfl) (nomark _))
      (pe_and (pe_cmpR op_eq (pe_fld (pv 0) rfl) (pe_fld (pv 1) rfl) (nomark _))
      (pe_and (pe_cmpR (op_eqD hr.units) (pe_fld (pv 0) rfl) (pe_fld (pv 1) rfl) (nomark _))
      (pe_and (pe_cmpR (op_eqD hr.units) (pe_fld (pv 0) rfl) (pe_fld (pv 1) rfl) (nomark _))
      (pe_one (pe_cmpR (op_eqD hr.units) (pe_fld (pv 0) rfl) (pe_fld (pv 1) rfl) (nomark _))))))))), ?_⟩
    rcases h with ⟨b, N, rfl, hN, oN, q⟩ | ⟨t, ty, kt, q⟩
    · obtain ⟨dx, ta, tf, tg, D, ps, h1, h2, h3, h4, h5, h6, h7⟩ := hM
      obtain ⟨dx', ta', tf', tg', D', ps', g1, g2, g3, g4, g5, g6, g7⟩ := hN
      refine ⟨_, rfl, .ref b, .ref C, .ref C, .ref C, true, rfl, .own C, .base (TyOf.ins g1 IC.cl IC.ha IC.hn IC.htk IC.hm), IC.me, true, rfl, iteT ?_⟩
      refine ⟨_, rfl, a, C, dx, _, _, rfl, h1, T.cl, T.n1, mfl_rooms, _, rfl, b, C, dx', _, _, rfl, g1, T.cl, T.n1, mfl_rooms, rfl, _, rfl, ?_⟩
      unfold eqM at q
      by_cases e1 : M.n = N.n
      · rw [decide_eq_true e1, Bool.true_and] at q
        refine itT (congrArg V.int e1) ⟨_, rfl, a, C, dx, _, _, rfl, h1, T.cl, T.n2, mfl_letters, _, rfl, b, C, dx', _, _, rfl, g1, T.cl, T.n2, mfl_letters, rfl, _, rfl, ?_⟩
        by_cases e2 : M.ls = N.ls
        · rw [decide_eq_true e2, Bool.true_and] at q
          refine itT (congrArg (fun l => V.str (Sx l)) e2) ⟨_, rfl, a, C, dx, _, _, rfl, h1, T.cl, T.n3, mfl_arrows, _, rfl, b, C, dx', _, _, rfl, g1, T.cl, T.n3, mfl_arrows, .tuple (M.as.map adat), .tuple (N.as.map adat), .tup (SqT.of h2) ?_, .tup (SqT.of g2) ?_, shTR oM, shTR oN, _, rfl, ?_⟩
          · rw [← h4]
            exact dpRow h3
          · rw [← g4]
            exact dpRow g3
          · have ee : PyData.eqv (.tuple (M.as.map adat)) (.tuple (N.as.map adat)) = decide (M.as = N.as) := by rw [PyData.eqv, eqvAll_A]
            rw [ee]
            by_cases e3 : M.as = N.as
            · rw [decide_eq_true e3, Bool.true_and] at q
              refine itT e3 ⟨_, rfl, a, C, dx, _, _, rfl, h1, T.cl, T.n4, mfl_firsts, _, rfl, b, C, dx', _, _, rfl, g1, T.cl, T.n4, mfl_firsts, .tuple (M.fs.map .int), .tuple (N.fs.map .int), .tup (SqT.of h5) (dpInts _), .tup (SqT.of g5) (dpInts _), shTI _, shTI _, _, rfl, ?_⟩
              have ef : PyData.eqv (.tuple (M.fs.map .int)) (.tuple (N.fs.map .int)) = decide (M.fs = N.fs) := by rw [PyData.eqv, eqvAll_I]
              rw [ef]
              by_cases e4 : M.fs = N.fs
              · rw [decide_eq_true e4, Bool.true_and] at q
                refine itT e4 ⟨_, rfl, a, C, dx, _, _, rfl, h1, T.cl, T.n5, mfl_lasts, _, rfl, b, C, dx', _, _, rfl, g1, T.cl, T.n5, mfl_lasts, .tuple (M.gs.map .int), .tuple (N.gs.map .int), .tup (SqT.of h6) (dpInts _), .tup (SqT.of g6) (dpInts _), shTI _, shTI _, ?_⟩
                have eg : PyData.eqv (.tuple (M.gs.map .int)) (.tuple (N.gs.map .int)) = decide (M.gs = N.gs) := by rw [PyData.eqv, eqvAll_I]
                rw [eg]
                exact q
              · rw [decide_eq_false e4, Bool.false_and] at q
                exact itF e4 q
            · rw [decide_eq_false e3, Bool.false_and] at q
              exact itF e3 q
        · rw [decide_eq_false e2, Bool.false_and] at q
          exact itF (fun e => e2 (sx_inj (V.str.inj e))) q
      · rw [decide_eq_false e1, Bool.false_and] at q
        exact itF (fun e => e1 (V.int.inj e)) q
    · refine ⟨_, rfl, y, .ref C, t, .ref C, false, rfl, .own C, ty, kt, false, rfl, iteF q⟩
/-! ### Machine.__len__, Machine.__repr__ -/
theorem scMLen : FnScope ["self"] ["self"] (defScope sMLen) := ⟨rfl, rfl, rfl, by decide +kernel, rfl, by decide +kernel, by decide +kernel⟩
def spMLen (K : PySem.W.Frag) (C : Addr) : Sp := fun vs H Q _ => ∃ (a : Addr) (M : AM), vs = [.ref a] ∧ MachAt K C H a M ∧ Q (.int M.as.length) H
theorem ok_mlen {f C : Addr} {fd : FuncData} {k : Nat} (F : Fun K "__len__" "Machine.__len__" sMLen f fd) (T : ClsM K C) (ml : mg "len" = none) : FnOk P w K mg base CX0 (k + 1) f fd ["self"] (spMLen K C) := by
  refine F.ok scMLen (fun vs H Q E h => ?_) (fun cdv A outer s H vs Q E hr h => ?_)
  · obtain ⟨a, M, rfl, _⟩ := h
    rfl
  · obtain ⟨a, M, rfl, hM, q⟩ := h
    refine ⟨_, pss_one (ps_ret (pe_callB call_len_seq (by rfl) ml PySem.boot_len (pa_cons (pe_fld (pv 0) rfl) pa_nil))), ?_⟩
    obtain ⟨dx, ta, tf, tg, D, ps, h1, h2, h3, h4, h5, h6, h7⟩ := hM
    refine ⟨_, rfl, a, C, dx, _, _, rfl, h1, T.cl, T.n3, mfl_arrows, ta, rfs ps, rfl, .inr (SqT.of h2), ?_⟩
    rw [← h4, List.length_map] at q
    unfold rfs
    rw [List.length_map]
    exact q
/-- what repr tells -/
def mtext (M : AM) : Str := ("Machine(" : Str) ++ (toString M.n : String) ++ (" rooms, " : Str) ++ Sx M.ls ++ (", " : Str) ++ (toString (M.as.length : Int) : String) ++ (" arrows)" : Str)
theorem digits_few : ∀ k : Fin 41, (Str.ofString (toString (k.val : Int))).length ≤ 2 := by decide +kernel
theorem digits_few' {i : Int} (h0 : 0 ≤ i) (h1 : i ≤ 40) : (Str.ofString (toString i)).length ≤ 2 := by
  obtain ⟨n, rfl⟩ : ∃ n : Nat, i = (n : Int) := ⟨i.toNat, by omega⟩
  exact digits_few ⟨n, by omega⟩
theorem log_few {i : Int} (h0 : 0 ≤ i) (h1 : i ≤ 40) : i.natAbs.log2 < 1920 := by
  have : i.natAbs ≤ 40 := by omega
  have h2 : i.natAbs.log2 ≤ i.natAbs := Nat.log2_le_self _
  omega
theorem scMRep : FnScope ["self"] ["self"] (defScope sMRep) := ⟨rfl, rfl, rfl, by decide +kernel, rfl, by decide +kernel, by decide +kernel⟩
def spMRep (K : PySem.W.Frag) (C : Addr) : Sp := fun vs H Q _ => ∃ (a : Addr) (M : AM), vs = [.ref a] ∧ MachAt K C H a M ∧ 0 ≤ M.n ∧ M.n ≤ 8 ∧ M.ls.length ≤ 3 ∧ M.as.length ≤ 40 ∧ Q (.str (mtext M)) H
theorem ok_mrep {f C : Addr} {fd : FuncData} {k : Nat} (F : Fun K "__repr__" "Machine.__repr__" sMRep f fd) (T : ClsM K C) (ml : mg "len" = none) : FnOk P w K mg base CX0 (k + 1) f fd ["self"] (spMRep K C) := by
  refine F.ok scMRep (fun vs H Q E h => ?_) (fun cdv A outer s H vs Q E hr h => ?_)
  · obtain ⟨a, M, rfl, _⟩ := h
    rfl
  · obtain ⟨a, M, rfl, hM, n0, n8, l3, a40, q⟩ := h
    refine ⟨_, pss_one (ps_ret (pe_joined (.cons pe_str (.cons (pe_fmt (pe_fld (pv 0) rfl)) (.cons pe_str (.cons (pe_fmt (pe_fld (pv 0) rfl)) (.cons pe_str (.cons (pe_fmt (pe_callB call_len_seq (by rfl) ml PySem.boot_len (pa_cons (pe_fld (pv 0) rfl) pa_nil))) (.cons pe_str .nil))))))))), ?_⟩
    obtain ⟨dx, ta, tf, tg, D, ps, h1, h2, h3, h4, h5, h6, h7⟩ := hM
    have hln : (rfs ps).length = M.as.length := by
      unfold rfs
      rw [List.length_map, ← h4, List.length_map]
    have hbig : 5000 ≤ sizeLine := by decide
    have d1 := digits_few' (i := M.n) (by omega) (by omega)
    have d2 := digits_few' (i := (M.as.length : Int)) (by omega) (by omega)
    have dl : (Sx M.ls).length ≤ 3 := by rw [sx_len]; exact l3
    refine ⟨_, rfl, ?_, _, rfl, a, C, dx, _, _, rfl, h1, T.cl, T.n1, mfl_rooms, .inr ⟨M.n, rfl, log_few (by omega) (by omega), _, rfl, ?_, _, rfl, ?_, _, rfl, a, C, dx, _, _, rfl, h1, T.cl, T.n2, mfl_letters, .inl ⟨_, rfl, ?_, _, rfl, ?_, _, rfl, ?_, ?_⟩⟩⟩
    · have : (Str.empty ++ ("Machine(" : Str)).length = 8 := by decide +kernel
      omega
    · have : (Str.empty ++ ("Machine(" : Str)).length = 8 := by decide +kernel
      rw [Str.length_append, this]
      omega
    · have : (Str.empty ++ ("Machine(" : Str)).length = 8 := by decide +kernel
      rw [Str.length_append, Str.length_append, this, show ((" rooms, " : Str)).length = 8 by decide +kernel]
      omega
    · omega
    · have : (Str.empty ++ ("Machine(" : Str)).length = 8 := by decide +kernel
      rw [Str.length_append, Str.length_append, Str.length_append, this, show ((" rooms, " : Str)).length = 8 by decide +kernel]
      omega
    · have : (Str.empty ++ ("Machine(" : Str)).length = 8 := by decide +kernel
      rw [Str.length_append, Str.length_append, Str.length_append, Str.length_append, this, show ((" rooms, " : Str)).length = 8 by decide +kernel, show ((", " : Str)).length = 2 by decide +kernel]
      omega
    · refine ⟨_, rfl, a, C, dx, _, _, rfl, h1, T.cl, T.n3, mfl_arrows, ta, rfs ps, rfl, .inr (SqT.of h2), .inr ⟨((rfs ps).length : Int), rfl, ?_, _, rfl, ?_, _, rfl, ?_, ?_⟩⟩
      · rw [hln]
        exact log_few (by omega) (by omega)
      · have : (Str.empty ++ ("Machine(" : Str)).length = 8 := by decide +kernel
        rw [hln, Str.length_append, Str.length_append, Str.length_append, Str.length_append, Str.length_append, this, show ((" rooms, " : Str)).length = 8 by decide +kernel, show ((", " : Str)).length = 2 by decide +kernel]
        omega
      · have : (Str.empty ++ ("Machine(" : Str)).length = 8 := by decide +kernel
        rw [hln, Str.length_append, Str.length_append, Str.length_append, Str.length_append, Str.length_append, Str.length_append, this, show ((" rooms, " : Str)).length = 8 by decide +kernel, show ((", " : Str)).length = 2 by decide +kernel, show ((" arrows)" : Str)).length = 8 by decide +kernel]
        omega
      · show Q (.str _) H
        rw [hln, show Str.empty ++ ("Machine(" : Str) = ("Machine(" : Str) by decide +kernel]
        exact q
end
end Onp
set_option maxHeartbeats 8000000
set_option autoImplicit false
namespace Onp
open PySem PySem.Spec PyProof.Rows L2
abbrev sSame : Stmt := topS 34
/-! ### data -/
def Lvl : Nat → PyData → Prop
  | _, .none => True
  | _, .bool _ => True
  | _, .int _ => True
  | _, .str _ => True
  | n + 1, .list ds => ds.length ≤ 1000 ∧ ∀ d ∈ ds, Lvl n d
  | n + 1, .tuple ds => ds.length ≤ 1000 ∧ ∀ d ∈ ds, Lvl n d
  | _, _ => False
mutual
theorem dpSame {K : PySem.W.Frag} {H H' : Hp} (e : Same H H') : ∀ {v : V} {d : PyData}, Dp K H v d → Dp K H' v d
  | _, _, .non => .non
  | _, _, .bl b => .bl b
  | _, _, .int i => .int i
  | _, _, .str x => .str x
  | _, _, .lst h a => .lst (e.seq h) (dpAllSame e a)
  | _, _, .tup h a => .tup (same_seqT e h) (dpAllSame e a)
theorem dpAllSame {K : PySem.W.Frag} {H H' : Hp} (e : Same H H') : ∀ {vs : List V} {ds : List PyData}, DpAll K H vs ds → DpAll K H' vs ds
  | _, _, .nil => .nil
  | _, _, .cons a b => .cons (dpSame e a) (dpAllSame e b)
end
theorem dpLen {K : PySem.W.Frag} {H : Hp} : ∀ {vs : List V} {ds : List PyData}, DpAll K H vs ds → vs.length = ds.length
  | _, _, .nil => rfl
  | _, _, .cons _ b => by rw [List.length_cons, List.length_cons, dpLen b]
theorem dpAt {K : PySem.W.Frag} {H : Hp} : ∀ {vs : List V} {ds : List PyData} {i : Nat} {v : V}, DpAll K H vs ds → vs[i]? = some v → ∃ d, ds[i]? = some d ∧ Dp K H v d
  | _, _, _, _, .nil, h => by simp at h
  | _, _, 0, _, .cons a _, h => by simp at h; subst h; exact ⟨_, rfl, a⟩
  | _, _, i + 1, _, .cons _ b, h => by
    obtain ⟨d, h1, h2⟩ := dpAt (i := i) b (by simpa using h)
    exact ⟨d, by simpa using h1, h2⟩
theorem tyL {K : PySem.W.Frag} {H : Hp} {a : Addr} {xs : List V} (h : SqL K H a xs) : TyX K H (.ref a) (.type "list") := by
  rcases h with (h | ⟨o, h⟩) | ⟨o, its, n, h, c, _⟩
  · exact .base (.lst h)
  · exact .base (.frz h)
  · exact .kList h c
theorem tyT {K : PySem.W.Frag} {H : Hp} {a : Addr} {xs : List V} (h : SqT K H a xs) : TyX K H (.ref a) (.type "tuple") := by
  rcases h with (h | ⟨o, h⟩) | ⟨o, its, n, h, c, _⟩
  · exact .base (.tup h)
  · exact .fTuple h
  · exact .kTuple h c
theorem kitAny2 {K : PySem.W.Frag} {t c1 c2 : Value} {b1 b2 : Bool} (h1 : PySem.W.kitOne K t c1 = some b1) (h2 : PySem.W.kitOne K t c2 = some b2) : PySem.W.kitAny K t [c1, c2] = some (b1 || b2) := by
  unfold PySem.W.kitAny
  rw [h1]
  cases b1 with
  | true => rfl
  | false =>
    show PySem.W.kitAny K t [c2] = _
    unfold PySem.W.kitAny
    rw [h2]
    cases b2 <;> rfl
theorem qT {Q : VK} {H : Hp} {c : Prop} [Decidable c] (hc : c) (h : Q (.bl true) H) : Q (.bl (decide c)) H := by
  rw [decide_eq_true hc]
  exact h
theorem qB {Q : VK} {H : Hp} {b : Bool} (hb : b = true) (h : Q (.bl true) H) : Q (.bl b) H := by
  rw [hb]
  exact h
theorem pe_no {X : Cx} {e : Expr} : PE X e (fun _ _ _ => False) := ⟨fun _ _ _ _ _ _ h => h.elim⟩
/-! ### a comprehension over zip of two of one length -/
def ItzG (S : Hp → Addr → List V → Prop) (a b : Addr) : It :=
  ⟨fun i H => ∃ (xs ys : List V) (x y : V), S H a xs ∧ S H b ys ∧ xs[i]? = some x ∧ ys[i]? = some y,
    fun i H v H' => ∃ T x y, v = .ref T ∧ H T = none ∧ H' = upd H T (.tup [x, y]) ∧ (∀ xs, S H a xs → xs[i]? = some x) ∧ ∀ ys, S H b ys → ys[i]? = some y,
    fun i H => ∃ xs ys : List V, S H a xs ∧ S H b ys ∧ (xs.length ≤ i ∨ ys.length ≤ i)⟩
theorem lc_zipG {S : Hp → Addr → List V → Prop} {a b : Addr} {xs ys : List V} {g : TG} {tt : TT} {te : TE} {vs : List Nat} {σ : L2.St} {H1 : Hp} {D : Addr} {Qd : Hp → Prop} (hl : xs.length = ys.length) (Pv : Nat → Hp → Prop) (h0 : Pv 0 (upd H1 D (.lst []))) (hq : ∀ i H, Pv i H → S H a xs ∧ S H b ys)
    (hs : ∀ i x y T H, xs[i]? = some x → ys[i]? = some y → Pv i H → H T = none → g (.ref T) (wipe σ vs) (upd H T (.tup [x, y])) fun σ2 H2 => wipe σ2 vs = wipe σ vs ∧ tt σ2 H2 fun b H3 =>
      if b = true then te σ2 H3 fun y H4 => ∃ acc, H4 D = some (.lst acc) ∧ acc.length < sizeLine ∧ Pv (i + 1) (upd H4 D (.lst (acc ++ [y]))) else Pv (i + 1) H3) (hd : ∀ H, Pv xs.length H → Qd H) :
    ∃ W : Nat → Nat → Hp → Prop, (∃ m, W 0 m (upd H1 D (.lst []))) ∧ ∀ i m H, W i m H → ((ItzG S a b).stop i H ∧ Qd H) ∨ ((ItzG S a b).go i H ∧ ∃ Nx : Hp → Prop, (∀ H', Nx H' → ∃ m', m' < m ∧ W (i + 1) m' H') ∧
      ∀ x H', (ItzG S a b).yld i H x H' → g x (wipe σ vs) H' fun σ2 H2 => wipe σ2 vs = wipe σ vs ∧ tt σ2 H2 fun b H3 => if b = true then te σ2 H3 fun y H4 => ∃ acc, H4 D = some (.lst acc) ∧ acc.length < sizeLine ∧ Nx (upd H4 D (.lst (acc ++ [y]))) else Nx H3) := by
  refine ⟨fun i m H => m = xs.length - i ∧ i ≤ xs.length ∧ Pv i H, ⟨xs.length, by simp, Nat.zero_le _, h0⟩, fun i m H ⟨em, hi, p⟩ => ?_⟩
  obtain ⟨qa, qb⟩ := hq i H p
  by_cases lt : i < xs.length
  · have lt2 : i < ys.length := by omega
    refine .inr ⟨⟨xs, ys, xs[i], ys[i], qa, qb, List.getElem?_eq_getElem lt, List.getElem?_eq_getElem lt2⟩, Pv (i + 1), fun H' p' => ⟨xs.length - (i + 1), by omega, rfl, lt, p'⟩, fun x H' hy => ?_⟩
    obtain ⟨T, x1, x2, rfl, nT, rfl, e1, e2⟩ := hy
    exact hs i x1 x2 T H (e1 _ qa) (e2 _ qb) p nT
  · have e : i = xs.length := by omega
    subst e
    exact .inl ⟨⟨xs, ys, qa, qb, .inl (Nat.le_refl _)⟩, hd H p⟩
def NS : List Str := ["_law_found", "_law_due", "_law_a", "_law_b"]
theorem scSame : FnScope NS ["_law_found", "_law_due"] (defScope sSame) := ⟨rfl, rfl, rfl, by decide +kernel, rfl, by decide +kernel, by decide +kernel⟩
def spSame (K : PySem.W.Frag) (n : Nat) : Sp := fun vs H Q _ => ∃ (x y : V) (d : PyData), vs = [x, y] ∧ Dp K H x d ∧ Dp K H y d ∧ Lvl n d ∧ ∀ H', Same H H' → Q (.bl true) H'
structure Blt (mg : Str → Option Value) : Prop where
  isi : mg "isinstance" = none
  list : mg "list" = none
  tuple : mg "tuple" = none
  bool : mg "bool" = none
  int : mg "int" = none
  str : mg "str" = none
  len : mg "len" = none
  all : mg "all" = none
  zip : mg "zip" = none
section
variable {P : Program} {w : World} {K : PySem.W.Frag} {mg : Str → Option Value} {base : Heap}
theorem ok_same {f : Addr} {fd : FuncData} (F : Fun K "_law_same" "_law_same" sSame f fd) (bS : Binds K fd ["_law_found", "_law_due"] []) (gS : mg "_law_same" = some (.ref f)) (B : Blt mg) : ∀ (n k : Nat), FnOk P w K mg base CX0 (k + n + 1) f fd ["_law_found", "_law_due"] (spSame K n) := by
  intro n
  induction n with
  | zero =>
    intro k
    refine F.ok scSame (fun vs H Q E h => ?_) (fun cdv A outer s H vs Q E hr h => ?_)
    · obtain ⟨x, y, d, rfl, _⟩ := h
      rfl
    · obtain ⟨x, y, d, rfl, hx, hy, hl, q⟩ := h
      refine ⟨_, pss_cons (ps_if (pt_val (pe_callB call_isiT (by rfl) B.isi (by decide +kernel) (pa_cons (pv 1) (pa_cons (pe_tup (pa_cons (pe_bltn (v := .ty "list") (by rfl) B.list (by decide +kernel) rfl) (pa_cons (pe_bltn (v := .ty "tuple") (by rfl) B.tuple (by decide +kernel) rfl) pa_nil))) pa_nil)))) pss_never pss_nil)
      (pss_cons (ps_if (PW.pt (pw_or (pt_cmp (pc_isN (pv 1))) (pw_or1 (pt_cmp (pc_isN (pv 0)))))) (pss_one (ps_ret (pe_and (pe_cmp (pc_isN (pv 0)) rfl) (pe_one (pe_cmp (pc_isN (pv 1)) rfl))))) pss_nil)
      (pss_cons (ps_if (PW.pt (pw_or (pt_cmpR op_ne (pe_callB call_isi (by rfl) B.isi (by decide +kernel) (pa_cons (pv 0) (pa_cons (pe_bltn (v := .ty "bool") (by rfl) B.bool (by decide +kernel) rfl) pa_nil))) (pe_callB call_isi (by rfl) B.isi (by decide +kernel) (pa_cons (pv 1) (pa_cons (pe_bltn (v := .ty "bool") (by rfl) B.bool (by decide +kernel) rfl) pa_nil))) (nomark _)) (pw_or1 (pt_cmpR op_ne (pe_callB call_isi (by rfl) B.isi (by decide +kernel) (pa_cons (pv 0) (pa_cons (pe_bltn (v := .ty "int") (by rfl) B.int (by decide +kernel) rfl) pa_nil))) (pe_callB call_isi (by rfl) B.isi (by decide +kernel) (pa_cons (pv 1) (pa_cons (pe_bltn (v := .ty "int") (by rfl) B.int (by decide +kernel) rfl) pa_nil))) (nomark _))))) pss_never pss_nil)
      (pss_one (ps_ret (pe_and (pe_cmpR op_eq (pe_callB call_isi (by rfl) B.isi (by decide +kernel) (pa_cons (pv 0) (pa_cons (pe_bltn (v := .ty "str") (by rfl) B.str (by decide +kernel) rfl) pa_nil))) (pe_callB call_isi (by rfl) B.isi (by decide +kernel) (pa_cons (pv 1) (pa_cons (pe_bltn (v := .ty "str") (by rfl) B.str (by decide +kernel) rfl) pa_nil))) (nomark _)) (pe_one (pe_cmpR op_eq (pv 0) (pv 1) (nomark _)))))))), ?_⟩
      cases hx with
      | lst h a => exact hl.elim
      | tup h a => exact hl.elim
      | non =>
        cases hy
        refine ⟨_, rfl, (by decide : 2 ≤ sizeLine), fun tp ntp => ?_⟩
        have s1 := same_upd (o := .tup [.ty "list", .ty "tuple"]) ntp
        refine ⟨.non, tp, _, _, _, _, rfl, upd_same, .cons (.ty _) (.cons (.ty _) .nil), .base .non, kitAny2 (b1 := false) (b2 := false) (kit_ty (by decide +kernel)) (kit_ty (by decide +kernel)), _, rfl, iteF ?_⟩
        refine ⟨_, rfl, _, rfl, itT rfl (iteT ?_)⟩
        refine ⟨_, rfl, _, rfl, itT rfl ⟨_, rfl, ?_⟩⟩
        exact qT (Q := Q) rfl (q _ s1)
      | bl b =>
        cases hy
        refine ⟨_, rfl, (by decide : 2 ≤ sizeLine), fun tp ntp => ?_⟩
        have s1 := same_upd (o := .tup [.ty "list", .ty "tuple"]) ntp
        refine ⟨(.bl b), tp, _, _, _, _, rfl, upd_same, .cons (.ty _) (.cons (.ty _) .nil), .base (.bl _), kitAny2 (b1 := false) (b2 := false) (kit_ty (by decide +kernel)) (kit_ty (by decide +kernel)), _, rfl, iteF ?_⟩
        refine ⟨_, rfl, _, rfl, itF (fun h => nomatch h) ⟨_, rfl, _, rfl, itF (fun h => nomatch h) ?_⟩⟩
        refine ⟨_, rfl, (.bl b), .ty "bool", .type "bool", .type "bool", true, rfl, .ty _, .base (.bl _), kit_ty (by decide +kernel), _, rfl, (.bl b), .ty "bool", .type "bool", .type "bool", true, rfl, .ty _, .base (.bl _), kit_ty (by decide +kernel), rfl, _, rfl, iteNS rfl ⟨_, rfl, (.bl b), .ty "int", .type "bool", .type "int", true, rfl, .ty _, .base (.bl _), kit_ty (by decide +kernel), _, rfl, (.bl b), .ty "int", .type "bool", .type "int", true, rfl, .ty _, .base (.bl _), kit_ty (by decide +kernel), rfl, _, rfl, iteNS rfl ?_⟩⟩
        refine ⟨_, rfl, (.bl b), .ty "str", .type "bool", .type "str", false, rfl, .ty _, .base (.bl _), kit_ty (by decide +kernel), _, rfl, (.bl b), .ty "str", .type "bool", .type "str", false, rfl, .ty _, .base (.bl _), kit_ty (by decide +kernel), rfl, _, rfl, itT rfl ⟨_, rfl, _, rfl, rfl, ?_⟩⟩
        exact qT (Q := Q) rfl (q _ s1)
      | int i =>
        cases hy
        refine ⟨_, rfl, (by decide : 2 ≤ sizeLine), fun tp ntp => ?_⟩
        have s1 := same_upd (o := .tup [.ty "list", .ty "tuple"]) ntp
        refine ⟨(.int i), tp, _, _, _, _, rfl, upd_same, .cons (.ty _) (.cons (.ty _) .nil), .base (.int _), kitAny2 (b1 := false) (b2 := false) (kit_ty (by decide +kernel)) (kit_ty (by decide +kernel)), _, rfl, iteF ?_⟩
        refine ⟨_, rfl, _, rfl, itF (fun h => nomatch h) ⟨_, rfl, _, rfl, itF (fun h => nomatch h) ?_⟩⟩
        refine ⟨_, rfl, (.int i), .ty "bool", .type "int", .type "bool", false, rfl, .ty _, .base (.int _), kit_ty (by decide +kernel), _, rfl, (.int i), .ty "bool", .type "int", .type "bool", false, rfl, .ty _, .base (.int _), kit_ty (by decide +kernel), rfl, _, rfl, iteNS rfl ⟨_, rfl, (.int i), .ty "int", .type "int", .type "int", true, rfl, .ty _, .base (.int _), kit_ty (by decide +kernel), _, rfl, (.int i), .ty "int", .type "int", .type "int", true, rfl, .ty _, .base (.int _), kit_ty (by decide +kernel), rfl, _, rfl, iteNS rfl ?_⟩⟩
        refine ⟨_, rfl, (.int i), .ty "str", .type "int", .type "str", false, rfl, .ty _, .base (.int _), kit_ty (by decide +kernel), _, rfl, (.int i), .ty "str", .type "int", .type "str", false, rfl, .ty _, .base (.int _), kit_ty (by decide +kernel), rfl, _, rfl, itT rfl ⟨_, rfl, _, rfl, rfl, ?_⟩⟩
        exact qT (Q := Q) rfl (q _ s1)
      | str z =>
        cases hy
        refine ⟨_, rfl, (by decide : 2 ≤ sizeLine), fun tp ntp => ?_⟩
        have s1 := same_upd (o := .tup [.ty "list", .ty "tuple"]) ntp
        refine ⟨(.str z), tp, _, _, _, _, rfl, upd_same, .cons (.ty _) (.cons (.ty _) .nil), .base (.str _), kitAny2 (b1 := false) (b2 := false) (kit_ty (by decide +kernel)) (kit_ty (by decide +kernel)), _, rfl, iteF ?_⟩
        refine ⟨_, rfl, _, rfl, itF (fun h => nomatch h) ⟨_, rfl, _, rfl, itF (fun h => nomatch h) ?_⟩⟩
        refine ⟨_, rfl, (.str z), .ty "bool", .type "str", .type "bool", false, rfl, .ty _, .base (.str _), kit_ty (by decide +kernel), _, rfl, (.str z), .ty "bool", .type "str", .type "bool", false, rfl, .ty _, .base (.str _), kit_ty (by decide +kernel), rfl, _, rfl, iteNS rfl ⟨_, rfl, (.str z), .ty "int", .type "str", .type "int", false, rfl, .ty _, .base (.str _), kit_ty (by decide +kernel), _, rfl, (.str z), .ty "int", .type "str", .type "int", false, rfl, .ty _, .base (.str _), kit_ty (by decide +kernel), rfl, _, rfl, iteNS rfl ?_⟩⟩
        refine ⟨_, rfl, (.str z), .ty "str", .type "str", .type "str", true, rfl, .ty _, .base (.str _), kit_ty (by decide +kernel), _, rfl, (.str z), .ty "str", .type "str", .type "str", true, rfl, .ty _, .base (.str _), kit_ty (by decide +kernel), rfl, _, rfl, itT rfl ⟨_, rfl, _, rfl, rfl, ?_⟩⟩
        exact qT (Q := Q) rfl (q _ s1)
  | succ n ih =>
    intro k
    have G : FnOk P w K mg base CX0 (k + n + 1) f fd ["_law_found", "_law_due"] (spSame K n) := ih k
    refine F.ok scSame (fun vs H Q E h => ?_) (fun cdv A outer s H vs Q E hr h => ?_)
    · obtain ⟨x, y, d, rfl, _⟩ := h
      rfl
    · obtain ⟨x, y, d, rfl, hx, hy, hl, q⟩ := h
      refine ⟨_, pss_cons (ps_if (pt_val (pe_callB call_isiT (by rfl) B.isi (by decide +kernel) (pa_cons (pv 1) (pa_cons (pe_tup (pa_cons (pe_bltn (v := .ty "list") (by rfl) B.list (by decide +kernel) rfl) (pa_cons (pe_bltn (v := .ty "tuple") (by rfl) B.tuple (by decide +kernel) rfl) pa_nil))) pa_nil))))
          (pss_cons (ps_if (PW.pt (pw_or (pt_cmpR op_ne (pe_callB call_isi (by rfl) B.isi (by decide +kernel) (pa_cons (pv 0) (pa_cons (pe_bltn (v := .ty "list") (by rfl) B.list (by decide +kernel) rfl) pa_nil))) (pe_callB call_isi (by rfl) B.isi (by decide +kernel) (pa_cons (pv 1) (pa_cons (pe_bltn (v := .ty "list") (by rfl) B.list (by decide +kernel) rfl) pa_nil))) (nomark _)) (pw_or1 (pt_cmpR op_ne (pe_callB call_isi (by rfl) B.isi (by decide +kernel) (pa_cons (pv 0) (pa_cons (pe_bltn (v := .ty "tuple") (by rfl) B.tuple (by decide +kernel) rfl) pa_nil))) (pe_callB call_isi (by rfl) B.isi (by decide +kernel) (pa_cons (pv 1) (pa_cons (pe_bltn (v := .ty "tuple") (by rfl) B.tuple (by decide +kernel) rfl) pa_nil))) (nomark _))))) pss_never pss_nil)
          (pss_one (ps_ret (pe_and (pe_cmpR op_eq (pe_callB call_len_seq (by rfl) B.len PySem.boot_len (pa_cons (pv 0) pa_nil)) (pe_callB call_len_seq (by rfl) B.len PySem.boot_len (pa_cons (pv 1) pa_nil)) (nomark _))
            (pe_one (pe_callB (cr_all rfl) (by rfl) B.all (by decide +kernel) (pa_cons (pe_lc (own := [("_law_a", 2), ("_law_b", 3)]) (g := gTup K 2 (gCons (gName 2) (gCons (gName 3) gNil))) (tt := tYes) rfl scSame.nd
              (RZ.pi_zipA (by rfl) B.zip (pa_cons (pv 0) (pa_cons (pv 1) pa_nil))) (blkOk_by (own := [("_law_a", 2), ("_law_b", 3)]) (N := NS) (sc := defScope sSame) (by decide +kernel))
              (fun _ _ _ _ _ => pg_tup (n := 2) rfl (pgs_cons (pg_name (i := 2) scSame.nd rfl (.inl rfl) (.inr rfl)) (pgs_cons (pg_name (i := 3) scSame.nd rfl (.inl rfl) (.inr rfl)) pgs_nil))) (fun _ _ _ _ _ => pts_nil)
              (fun _ _ _ _ _ => pe_call G hr (by rfl) gS F.kp bS .nil pass0 (pa_cons (pv 2) (pa_cons (pv 3) pa_nil)))) pa_nil))))))) pss_nil)
      (pss_cons (ps_if (PW.pt (pw_or (pt_cmp (pc_isN (pv 1))) (pw_or1 (pt_cmp (pc_isN (pv 0)))))) (pss_one (ps_ret (pe_and (pe_cmp (pc_isN (pv 0)) rfl) (pe_one (pe_cmp (pc_isN (pv 1)) rfl))))) pss_nil)
      (pss_cons (ps_if (PW.pt (pw_or (pt_cmpR op_ne (pe_callB call_isi (by rfl) B.isi (by decide +kernel) (pa_cons (pv 0) (pa_cons (pe_bltn (v := .ty "bool") (by rfl) B.bool (by decide +kernel) rfl) pa_nil))) (pe_callB call_isi (by rfl) B.isi (by decide +kernel) (pa_cons (pv 1) (pa_cons (pe_bltn (v := .ty "bool") (by rfl) B.bool (by decide +kernel) rfl) pa_nil))) (nomark _)) (pw_or1 (pt_cmpR op_ne (pe_callB call_isi (by rfl) B.isi (by decide +kernel) (pa_cons (pv 0) (pa_cons (pe_bltn (v := .ty "int") (by rfl) B.int (by decide +kernel) rfl) pa_nil))) (pe_callB call_isi (by rfl) B.isi (by decide +kernel) (pa_cons (pv 1) (pa_cons (pe_bltn (v := .ty "int") (by rfl) B.int (by decide +kernel) rfl) pa_nil))) (nomark _))))) pss_never pss_nil)
      (pss_one (ps_ret (pe_and (pe_cmpR op_eq (pe_callB call_isi (by rfl) B.isi (by decide +kernel) (pa_cons (pv 0) (pa_cons (pe_bltn (v := .ty "str") (by rfl) B.str (by decide +kernel) rfl) pa_nil))) (pe_callB call_isi (by rfl) B.isi (by decide +kernel) (pa_cons (pv 1) (pa_cons (pe_bltn (v := .ty "str") (by rfl) B.str (by decide +kernel) rfl) pa_nil))) (nomark _)) (pe_one (pe_cmpR op_eq (pv 0) (pv 1) (nomark _)))))))), ?_⟩
      cases hx with
      | @lst pa xs ds h a =>
        cases hy with
        | @lst pb ys _ h2 a2 =>
          refine ⟨_, rfl, (by decide : 2 ≤ sizeLine), fun tp ntp => ?_⟩
          have s1 := same_upd (o := .tup [.ty "list", .ty "tuple"]) ntp
          refine ⟨(.ref pb), tp, _, _, _, _, rfl, upd_same, .cons (.ty _) (.cons (.ty _) .nil), tyL (s1.seq h2), kitAny2 (b1 := true) (b2 := false) (kit_ty (by decide +kernel)) (kit_ty (by decide +kernel)), _, rfl, iteT ?_⟩
          refine ⟨_, rfl, .ref pa, .ty "list", .type "list", .type "list", true, rfl, .ty _, tyL (s1.seq h), kit_ty (by decide +kernel), _, rfl, .ref pb, .ty "list", .type "list", .type "list", true, rfl, .ty _, tyL (s1.seq h2), kit_ty (by decide +kernel), rfl, _, rfl, iteNS rfl ⟨_, rfl, .ref pa, .ty "tuple", .type "list", .type "tuple", false, rfl, .ty _, tyL (s1.seq h), kit_ty (by decide +kernel), _, rfl, .ref pb, .ty "tuple", .type "list", .type "tuple", false, rfl, .ty _, tyL (s1.seq h2), kit_ty (by decide +kernel), rfl, _, rfl, iteNS rfl ?_⟩⟩
          have lx := dpLen a
          have ly := dpLen a2
          have hlz : ds.length ≤ 1000 := hl.1
          have eI : V.int ((xs.length : Nat) : Int) = V.int ((ys.length : Nat) : Int) := by rw [lx, ly]
          refine ⟨_, rfl, pa, xs, rfl, .inl (s1.seq h), _, rfl, pb, ys, rfl, .inl (s1.seq h2), rfl, _, rfl, itT eI ?_⟩
          refine ⟨_, rfl, _, rfl, pa, pb, xs, ys, rfl, .inl ⟨(s1.seq h), (s1.seq h2), fun D nD => ?_⟩⟩
          refine lc_zipG (S := SqL K) (xs := xs) (ys := ys) (by omega) (fun i H' => Same H H' ∧ H D = none ∧ H' D = some (.lst (List.replicate i (.bl true)))) ⟨s1.trans (same_upd nD), s1.free nD, upd_same⟩ (fun i H' ⟨sm, _, _⟩ => ⟨(sm.seq h), (sm.seq h2)⟩) ?_ ?_
          · rintro i x y t Hx hx hy ⟨sm, fD, hD⟩ nt
            obtain ⟨d, hd, dx⟩ := dpAt a hx
            obtain ⟨d', hd', dy⟩ := dpAt a2 hy
            rw [hd] at hd'
            cases hd'
            have st : Same Hx (upd Hx t (.tup [x, y])) := same_upd nt
            refine ⟨t, _, rfl, SqT.of upd_same, rfl, _, _, rfl, _, _, rfl, rfl, rfl, ?_⟩
            unfold tYes
            dsimp only
            rw [if_pos rfl]
            refine ⟨_, rfl, _, rfl, x, y, d, rfl, dpSame (sm.trans st) dx, dpSame (sm.trans st) dy, hl.2 d (List.mem_of_getElem? hd), fun H4 s4 => ?_⟩
            have lt : i < xs.length := (List.getElem?_eq_some_iff.mp hx).1
            refine ⟨_, s4 _ _ (st _ _ hD), by rw [List.length_replicate]; exact small1000 (by omega), fun b o e => ?_, fD, ?_⟩
            · rw [upd_ne (ne_of_none e fD)]
              exact s4 _ _ (st _ _ (sm _ _ e))
            · rw [upd_same, List.replicate_succ']
          · rintro Hx ⟨sm, fD, hD⟩
            refine ⟨D, List.replicate xs.length true, rfl, SqL.of (by rw [hD, List.map_replicate]), ?_⟩
            have ea : (List.replicate xs.length true).all id = true := List.all_eq_true.mpr fun b hb => by rw [(List.mem_replicate.mp hb).2]; rfl
            exact qB (Q := Q) ea (q _ sm)
      | @tup pa xs ds h a =>
        cases hy with
        | @tup pb ys _ h2 a2 =>
          refine ⟨_, rfl, (by decide : 2 ≤ sizeLine), fun tp ntp => ?_⟩
          have s1 := same_upd (o := .tup [.ty "list", .ty "tuple"]) ntp
          refine ⟨(.ref pb), tp, _, _, _, _, rfl, upd_same, .cons (.ty _) (.cons (.ty _) .nil), tyT (same_seqT s1 h2), kitAny2 (b1 := false) (b2 := true) (kit_ty (by decide +kernel)) (kit_ty (by decide +kernel)), _, rfl, iteT ?_⟩
          refine ⟨_, rfl, .ref pa, .ty "list", .type "tuple", .type "list", false, rfl, .ty _, tyT (same_seqT s1 h), kit_ty (by decide +kernel), _, rfl, .ref pb, .ty "list", .type "tuple", .type "list", false, rfl, .ty _, tyT (same_seqT s1 h2), kit_ty (by decide +kernel), rfl, _, rfl, iteNS rfl ⟨_, rfl, .ref pa, .ty "tuple", .type "tuple", .type "tuple", true, rfl, .ty _, tyT (same_seqT s1 h), kit_ty (by decide +kernel), _, rfl, .ref pb, .ty "tuple", .type "tuple", .type "tuple", true, rfl, .ty _, tyT (same_seqT s1 h2), kit_ty (by decide +kernel), rfl, _, rfl, iteNS rfl ?_⟩⟩
          have lx := dpLen a
          have ly := dpLen a2
          have hlz : ds.length ≤ 1000 := hl.1
          have eI : V.int ((xs.length : Nat) : Int) = V.int ((ys.length : Nat) : Int) := by rw [lx, ly]
          refine ⟨_, rfl, pa, xs, rfl, .inr (same_seqT s1 h), _, rfl, pb, ys, rfl, .inr (same_seqT s1 h2), rfl, _, rfl, itT eI ?_⟩
          refine ⟨_, rfl, _, rfl, pa, pb, xs, ys, rfl, .inr ⟨(same_seqT s1 h), (same_seqT s1 h2), fun D nD => ?_⟩⟩
          refine lc_zipG (S := SqT K) (xs := xs) (ys := ys) (by omega) (fun i H' => Same H H' ∧ H D = none ∧ H' D = some (.lst (List.replicate i (.bl true)))) ⟨s1.trans (same_upd nD), s1.free nD, upd_same⟩ (fun i H' ⟨sm, _, _⟩ => ⟨(same_seqT sm h), (same_seqT sm h2)⟩) ?_ ?_
          · rintro i x y t Hx hx hy ⟨sm, fD, hD⟩ nt
            obtain ⟨d, hd, dx⟩ := dpAt a hx
            obtain ⟨d', hd', dy⟩ := dpAt a2 hy
            rw [hd] at hd'
            cases hd'
            have st : Same Hx (upd Hx t (.tup [x, y])) := same_upd nt
            refine ⟨t, _, rfl, SqT.of upd_same, rfl, _, _, rfl, _, _, rfl, rfl, rfl, ?_⟩
            unfold tYes
            dsimp only
            rw [if_pos rfl]
            refine ⟨_, rfl, _, rfl, x, y, d, rfl, dpSame (sm.trans st) dx, dpSame (sm.trans st) dy, hl.2 d (List.mem_of_getElem? hd), fun H4 s4 => ?_⟩
            have lt : i < xs.length := (List.getElem?_eq_some_iff.mp hx).1
            refine ⟨_, s4 _ _ (st _ _ hD), by rw [List.length_replicate]; exact small1000 (by omega), fun b o e => ?_, fD, ?_⟩
            · rw [upd_ne (ne_of_none e fD)]
              exact s4 _ _ (st _ _ (sm _ _ e))
            · rw [upd_same, List.replicate_succ']
          · rintro Hx ⟨sm, fD, hD⟩
            refine ⟨D, List.replicate xs.length true, rfl, SqL.of (by rw [hD, List.map_replicate]), ?_⟩
            have ea : (List.replicate xs.length true).all id = true := List.all_eq_true.mpr fun b hb => by rw [(List.mem_replicate.mp hb).2]; rfl
            exact qB (Q := Q) ea (q _ sm)
      | non =>
        cases hy
        refine ⟨_, rfl, (by decide : 2 ≤ sizeLine), fun tp ntp => ?_⟩
        have s1 := same_upd (o := .tup [.ty "list", .ty "tuple"]) ntp
        refine ⟨.non, tp, _, _, _, _, rfl, upd_same, .cons (.ty _) (.cons (.ty _) .nil), .base .non, kitAny2 (b1 := false) (b2 := false) (kit_ty (by decide +kernel)) (kit_ty (by decide +kernel)), _, rfl, iteF ?_⟩
        refine ⟨_, rfl, _, rfl, itT rfl (iteT ?_)⟩
        refine ⟨_, rfl, _, rfl, itT rfl ⟨_, rfl, ?_⟩⟩
        exact qT (Q := Q) rfl (q _ s1)
      | bl b =>
        cases hy
        refine ⟨_, rfl, (by decide : 2 ≤ sizeLine), fun tp ntp => ?_⟩
        have s1 := same_upd (o := .tup [.ty "list", .ty "tuple"]) ntp
        refine ⟨(.bl b), tp, _, _, _, _, rfl, upd_same, .cons (.ty _) (.cons (.ty _) .nil), .base (.bl _), kitAny2 (b1 := false) (b2 := false) (kit_ty (by decide +kernel)) (kit_ty (by decide +kernel)), _, rfl, iteF ?_⟩
        refine ⟨_, rfl, _, rfl, itF (fun h => nomatch h) ⟨_, rfl, _, rfl, itF (fun h => nomatch h) ?_⟩⟩
        refine ⟨_, rfl, (.bl b), .ty "bool", .type "bool", .type "bool", true, rfl, .ty _, .base (.bl _), kit_ty (by decide +kernel), _, rfl, (.bl b), .ty "bool", .type "bool", .type "bool", true, rfl, .ty _, .base (.bl _), kit_ty (by decide +kernel), rfl, _, rfl, iteNS rfl ⟨_, rfl, (.bl b), .ty "int", .type "bool", .type "int", true, rfl, .ty _, .base (.bl _), kit_ty (by decide +kernel), _, rfl, (.bl b), .ty "int", .type "bool", .type "int", true, rfl, .ty _, .base (.bl _), kit_ty (by decide +kernel), rfl, _, rfl, iteNS rfl ?_⟩⟩
        refine ⟨_, rfl, (.bl b), .ty "str", .type "bool", .type "str", false, rfl, .ty _, .base (.bl _), kit_ty (by decide +kernel), _, rfl, (.bl b), .ty "str", .type "bool", .type "str", false, rfl, .ty _, .base (.bl _), kit_ty (by decide +kernel), rfl, _, rfl, itT rfl ⟨_, rfl, _, rfl, rfl, ?_⟩⟩
        exact qT (Q := Q) rfl (q _ s1)
      | int i =>
        cases hy
        refine ⟨_, rfl, (by decide : 2 ≤ sizeLine), fun tp ntp => ?_⟩
        have s1 := same_upd (o := .tup [.ty "list", .ty "tuple"]) ntp
        refine ⟨(.int i), tp, _, _, _, _, rfl, upd_same, .cons (.ty _) (.cons (.ty _) .nil), .base (.int _), kitAny2 (b1 := false) (b2 := false) (kit_ty (by decide +kernel)) (kit_ty (by decide +kernel)), _, rfl, iteF ?_⟩
        refine ⟨_, rfl, _, rfl, itF (fun h => nomatch h) ⟨_, rfl, _, rfl, itF (fun h => nomatch h) ?_⟩⟩
        refine ⟨_, rfl, (.int i), .ty "bool", .type "int", .type "bool", false, rfl, .ty _, .base (.int _), kit_ty (by decide +kernel), _, rfl, (.int i), .ty "bool", .type "int", .type "bool", false, rfl, .ty _, .base (.int _), kit_ty (by decide +kernel), rfl, _, rfl, iteNS rfl ⟨_, rfl, (.int i), .ty "int", .type "int", .type "int", true, rfl, .ty _, .base (.int _), kit_ty (by decide +kernel), _, rfl, (.int i), .ty "int", .type "int", .type "int", true, rfl, .ty _, .base (.int _), kit_ty (by decide +kernel), rfl, _, rfl, iteNS rfl ?_⟩⟩
        refine ⟨_, rfl, (.int i), .ty "str", .type "int", .type "str", false, rfl, .ty _, .base (.int _), kit_ty (by decide +kernel), _, rfl, (.int i), .ty "str", .type "int", .type "str", false, rfl, .ty _, .base (.int _), kit_ty (by decide +kernel), rfl, _, rfl, itT rfl ⟨_, rfl, _, rfl, rfl, ?_⟩⟩
        exact qT (Q := Q) rfl (q _ s1)
      | str z =>
        cases hy
        refine ⟨_, rfl, (by decide : 2 ≤ sizeLine), fun tp ntp => ?_⟩
        have s1 := same_upd (o := .tup [.ty "list", .ty "tuple"]) ntp
        refine ⟨(.str z), tp, _, _, _, _, rfl, upd_same, .cons (.ty _) (.cons (.ty _) .nil), .base (.str _), kitAny2 (b1 := false) (b2 := false) (kit_ty (by decide +kernel)) (kit_ty (by decide +kernel)), _, rfl, iteF ?_⟩
        refine ⟨_, rfl, _, rfl, itF (fun h => nomatch h) ⟨_, rfl, _, rfl, itF (fun h => nomatch h) ?_⟩⟩
        refine ⟨_, rfl, (.str z), .ty "bool", .type "str", .type "bool", false, rfl, .ty _, .base (.str _), kit_ty (by decide +kernel), _, rfl, (.str z), .ty "bool", .type "str", .type "bool", false, rfl, .ty _, .base (.str _), kit_ty (by decide +kernel), rfl, _, rfl, iteNS rfl ⟨_, rfl, (.str z), .ty "int", .type "str", .type "int", false, rfl, .ty _, .base (.str _), kit_ty (by decide +kernel), _, rfl, (.str z), .ty "int", .type "str", .type "int", false, rfl, .ty _, .base (.str _), kit_ty (by decide +kernel), rfl, _, rfl, iteNS rfl ?_⟩⟩
        refine ⟨_, rfl, (.str z), .ty "str", .type "str", .type "str", true, rfl, .ty _, .base (.str _), kit_ty (by decide +kernel), _, rfl, (.str z), .ty "str", .type "str", .type "str", true, rfl, .ty _, .base (.str _), kit_ty (by decide +kernel), rfl, _, rfl, itT rfl ⟨_, rfl, _, rfl, rfl, ?_⟩⟩
        exact qT (Q := Q) rfl (q _ s1)
end
end Onp
set_option maxHeartbeats 8000000
set_option autoImplicit false
namespace Onp
open PySem PySem.Spec PyProof.Rows L2
abbrev sLTells : Stmt := topS 44
/-- a drawn machine as data -/
def ddat (M : AM) : PyData := .tuple [.int M.n, .str (Sx M.ls), .list (M.as.map adat), .list (M.fs.map .int), .list (M.gs.map .int)]
theorem dp_drawn {K : PySem.W.Frag} {H : Hp} {t : Addr} {M : AM} (h : DrawnAt K H t M) : Dp K H (.ref t) (ddat M) := by
  obtain ⟨la, lf, lg, ps, h1, h2, h3, h4, h5, h6⟩ := h
  refine .tup (SqT.of h1) (.cons (.int _) (.cons (.str _) (.cons (.lst (SqL.of h2) ?_) (.cons (.lst (SqL.of h5) (dpInts _)) (.cons (.lst (SqL.of h6) (dpInts _)) .nil)))))
  rw [← h4]
  exact dpRow h3
theorem eqv_ddat (M N : AM) : PyData.eqv (ddat M) (ddat N) = eqM M N := by
  unfold ddat eqM
  simp only [PyData.eqv, PyData.eqvAll, eqvAll_A, eqvAll_I, Bool.and_true]
  congr 1
  congr 1
  rw [Bool.eq_iff_iff, beq_iff_eq, decide_eq_true_eq]
  exact ⟨sx_inj, fun e => by rw [e]⟩
theorem small_lt : ∀ c ∈ smallL, c < 0x110000 := by decide
theorem sx_ok {ls : List Nat} (h : letB ls = true) : PyData.strOk (Sx ls) = true := by
  unfold PyData.strOk
  rw [← Array.all_toList, sx_cps, List.all_eq_true]
  exact fun c hc => decide_eq_true (small_lt c (letB_small h c hc))
theorem sh_ddat {M : AM} (h : M.okS) (hl : letB M.ls = true) : SeqAt.shaped (ddat M) = true := by
  unfold SeqAt.shaped
  have h1 : (ddat M).canLay0 = true := by
    unfold ddat
    simp only [PyData.canLay0, PyData.canLayAll0, lay_row h, lay_ints, sx_ok hl, Bool.and_true]
  have h2 : (ddat M).depth ≤ 64 := by
    unfold ddat
    simp only [PyData.depth, PyData.depthAll, PySem.W.depth_ints]
    have := dep_row M.as
    omega
  rw [h1, decide_eq_true h2]
  rfl
theorem mem_sortA {as : List Arw} {a : Arw} : a ∈ sortA as ↔ a ∈ as := by
  unfold sortA
  exact (List.mergeSort_perm as _).mem_iff
theorem ok_okS {M : AM} (h : M.ok) : M.okS := fun a ha => arrB_okS h.2.2.1 (h.2.2.2.1 a ha)
theorem ok_okS' {M : AM} (h : M.ok) : M.srt.okS := fun a ha => ok_okS h a (mem_sortA.mp ha)
theorem sortA_len (as : List Arw) : (sortA as).length = as.length := by
  unfold sortA
  exact List.length_mergeSort ..
theorem lvl_ddat {M : AM} (h1 : M.as.length ≤ 1000) (h2 : M.fs.length ≤ 1000) (h3 : M.gs.length ≤ 1000) : Lvl 3 (ddat M) := by
  refine ⟨by show 5 ≤ 1000; decide, fun d hd => ?_⟩
  simp only [List.mem_cons, List.not_mem_nil, or_false] at hd
  rcases hd with rfl | rfl | rfl | rfl | rfl
  · exact True.intro
  · exact True.intro
  · refine ⟨by rw [List.length_map]; exact h1, fun d hd => ?_⟩
    obtain ⟨a, _, rfl⟩ := List.mem_map.mp hd
    refine ⟨by show 4 ≤ 1000; decide, fun d hd => ?_⟩
    simp only [List.mem_cons, List.not_mem_nil, or_false] at hd
    rcases hd with rfl | rfl | rfl | rfl <;> exact True.intro
  · refine ⟨by rw [List.length_map]; exact h2, fun d hd => ?_⟩
    obtain ⟨a, _, rfl⟩ := List.mem_map.mp hd
    exact True.intro
  · refine ⟨by rw [List.length_map]; exact h3, fun d hd => ?_⟩
    obtain ⟨a, _, rfl⟩ := List.mem_map.mp hd
    exact True.intro
section
variable {P : Program} {w : World} {K : PySem.W.Frag} {mg : Str → Option Value} {base : Heap}
/-! ### _law_tells -/
theorem scLTells : FnScope ["_law_made_here"] ["_law_made_here"] (defScope sLTells) := ⟨rfl, rfl, rfl, by decide +kernel, rfl, by decide +kernel, by decide +kernel⟩
def spLTells (K : PySem.W.Frag) (C : Addr) : Sp := fun vs H Q _ => ∃ (a : Addr) (M : AM), vs = [.ref a] ∧ MachAt K C H a M ∧ ∀ (t : Addr) H', Same H H' → DrawnAt K H' t M → Q (.ref t) H'
theorem ok_ltells {f C fRm fLt fAr fFs fLs : Addr} {fd fdRm fdLt fdAr fdFs fdLs : FuncData} {k : Nat} (F : Fun K "_law_tells" "_law_tells" sLTells f fd) (T : ClsM K C)
    (FRm : Fun K "rooms" "Machine.rooms" sMRooms fRm fdRm) (bRm : Binds K fdRm ["self"] []) (mRm : Meth K C "rooms" fRm) (FLt : Fun K "letters" "Machine.letters" sMLets fLt fdLt) (bLt : Binds K fdLt ["self"] []) (mLt : Meth K C "letters" fLt) (FAr : Fun K "arrows" "Machine.arrows" sMArrs fAr fdAr) (bAr : Binds K fdAr ["self"] []) (mAr : Meth K C "arrows" fAr)
    (FFs : Fun K "firsts" "Machine.firsts" sMFsts fFs fdFs) (bFs : Binds K fdFs ["self"] []) (mFs : Meth K C "firsts" fFs) (FLs : Fun K "lasts" "Machine.lasts" sMLsts fLs fdLs) (bLs : Binds K fdLs ["self"] []) (mLs : Meth K C "lasts" fLs) (ml : mg "list" = none) : FnOk P w K mg base CX0 (k + 2) f fd ["_law_made_here"] (spLTells K C) := by
  have G1 : FnOk P w K mg base CX0 (k + 1) fRm fdRm ["self"] (spMRooms K C) := ok_mrooms FRm T
  have G2 : FnOk P w K mg base CX0 (k + 1) fLt fdLt ["self"] (spMLets K C) := ok_mlets FLt T
  have G3 : FnOk P w K mg base CX0 (k + 1) fAr fdAr ["self"] (spMArrs K C) := ok_marrs FAr T ml
  have G4 : FnOk P w K mg base CX0 (k + 1) fFs fdFs ["self"] (spMFsts K C) := ok_mfsts FFs T ml
  have G5 : FnOk P w K mg base CX0 (k + 1) fLs fdLs ["self"] (spMLsts K C) := ok_mlsts FLs T ml
  refine F.ok scLTells (fun vs H Q E h => ?_) (fun cdv A outer s H vs Q E hr h => ?_)
  · obtain ⟨a, M, rfl, _⟩ := h
    rfl
  · obtain ⟨a, M, rfl, mA, q⟩ := h
    obtain ⟨dx, ta, tf, tg, D0, ps0, h1, hrest⟩ := id mA
    refine ⟨_, pss_one (ps_ret (pe_tup (pa_cons (pe_meth0 (pv 0) T.cl mRm G1 hr bRm .nil pass0) (pa_cons (pe_meth0 (pv 0) T.cl mLt G2 hr bLt .nil pass0) (pa_cons (pe_meth0 (pv 0) T.cl mAr G3 hr bAr .nil pass0) (pa_cons (pe_meth0 (pv 0) T.cl mFs G4 hr bFs .nil pass0) (pa_cons (pe_meth0 (pv 0) T.cl mLs G5 hr bLs .nil pass0) pa_nil))))))), ?_⟩
    refine ⟨_, rfl, a, dx, _, rfl, h1, mfl_none (by decide +kernel), a, M, rfl, mA, ?_⟩
    refine ⟨_, rfl, a, dx, _, rfl, h1, mfl_none (by decide +kernel), a, M, rfl, mA, ?_⟩
    refine ⟨_, rfl, a, dx, _, rfl, h1, mfl_none (by decide +kernel), a, M, rfl, mA, fun l1 ps nl1 hR he => ?_⟩
    have s1 := same_upd (o := .lst (rfs ps)) nl1
    refine ⟨_, rfl, a, dx, _, rfl, s1 _ _ h1, mfl_none (by decide +kernel), a, M, rfl, mA.same s1, fun l2 nl2 => ?_⟩
    have s2 := same_upd (o := .lst (M.fs.map V.int)) nl2
    refine ⟨_, rfl, a, dx, _, rfl, s2 _ _ (s1 _ _ h1), mfl_none (by decide +kernel), a, M, rfl, (mA.same s1).same s2, fun l3 nl3 => ?_⟩
    have s3 := same_upd (o := .lst (M.gs.map V.int)) nl3
    refine ⟨(by decide : 5 ≤ sizeLine), fun t nt => ?_⟩
    have s4 := same_upd (o := .tup [.int M.n, .str (Sx M.ls), .ref l1, .ref l2, .ref l3]) nt
    have sS := s1.trans (s2.trans (s3.trans s4))
    exact q t _ sS ⟨l1, l2, l3, ps, upd_same, s4 _ _ (s3 _ _ (s2 _ _ upd_same)), hR.same sS, he, s4 _ _ (s3 _ _ upd_same), s4 _ _ upd_same⟩
end
end Onp
set_option maxHeartbeats 8000000
set_option autoImplicit false
namespace Onp
open PySem PySem.Spec PyProof.Rows L2
abbrev sSprd : Stmt := topS 46
abbrev sLLeft : Stmt := topS 47
/-! ### steps, so often that nothing new comes -/
def clE (E : List (Int × Int)) (F : List Int) : Prop := ∀ x y, (x, y) ∈ E → x ∈ F → y ∈ F
theorem idx_facts {ns : List Int} {r : Int} (h : r ∈ ns) : (ns.map V.int)[ns.idxOf r]? = some (V.int r) ∧ eqV (V.int r) (V.int r) = true ∧ ∀ (m : Nat) (z' : V), m < ns.idxOf r → (ns.map V.int)[m]? = some z' → eqV z' (V.int r) = false := by
  refine ⟨by rw [List.getElem?_map, num_at h]; rfl, by show (r == r) = true; exact beq_self_eq_true r, fun m z' hm hz => ?_⟩
  obtain ⟨x, hx, rfl⟩ := ints_at hz
  obtain ⟨hl, e⟩ := List.getElem?_eq_some_iff.mp hx
  have := List.not_of_lt_findIdx (xs := ns) (p := (· == r)) hm
  rw [e] at this
  exact this
section
variable {P : Program} {w : World} {K : PySem.W.Frag} {mg : Str → Option Value} {base : Heap}
def NSp : List Str := ["_law_begins", "_law_arrows", "_law_found", "_law_turn", "_law_room", "_law_letter", "_law_deed_here", "_law_to"]
theorem scSprd : FnScope NSp ["_law_begins", "_law_arrows"] (defScope sSprd) := ⟨rfl, rfl, rfl, by decide +kernel, rfl, by decide +kernel, by decide +kernel⟩
def spSprd (K : PySem.W.Frag) : Sp := fun vs H Q _ => ∃ (lb la : Addr) (S : List Int) (ps : List AR), vs = [.ref lb, .ref la] ∧ SqL K H lb (S.map V.int) ∧ SqL K H la (rfs ps) ∧ RowAt K H ps ∧ S.Nodup ∧ S.length ≤ 100 ∧ ps.length ≤ 1000 ∧ (∀ x ∈ S, 0 ≤ x ∧ x < 8) ∧ (∀ p ∈ ps, 0 ≤ p.2.2.2.2 ∧ p.2.2.2.2 < 8) ∧
  ∀ (r : Addr) (fk : List Int) H', Same H H' → H' r = some (.lst (fk.map V.int)) → (∀ x, x ∈ fk ↔ Rch S (edA (ps.map (·.2))) x) → Q (.ref r) H'
theorem ok_sprd {f : Addr} {fd : FuncData} {k : Nat} (F : Fun K "_law_spread" "_law_spread" sSprd f fd) (ml : mg "list" = none) (mr : mg "range" = none) : FnOk P w K mg base CX0 (k + 1) f fd ["_law_begins", "_law_arrows"] (spSprd K) := by
  refine F.ok scSprd (fun vs H Q E h => ?_) (fun cdv A outer s H vs Q E hr h => ?_)
  · obtain ⟨lb, la, S, ps, rfl, _⟩ := h
    rfl
  · obtain ⟨lb, la, S, ps, rfl, hlb, hla, hR, hSn, hSl, hpl, hS8, hP8, q⟩ := h
    refine ⟨_, (pss_cons (ps_set (i := 2) scSprd.nd rfl (.inl rfl) (pe_callTy call_list_of (by rfl) ml (by decide +kernel) (pa_cons (pv 0) pa_nil)))
      (pss_cons (ps_for PassesOwn.never rfl (pi_range1 (by rfl) mr (pa_cons pe_int pa_nil)) (pg_name (i := 3) scSprd.nd rfl (.inl rfl))
        (pss_one (ps_for PassesOwn.never rfl (pi_list (pv 1)) (pg_tup rfl (pgs_cons (pg_name (i := 4) scSprd.nd rfl (.inl rfl)) (pgs_cons (pg_name (i := 5) scSprd.nd rfl (.inl rfl)) (pgs_cons (pg_name (i := 6) scSprd.nd rfl (.inl rfl)) (pgs_cons (pg_name (i := 7) scSprd.nd rfl (.inl rfl)) pgs_nil)))))
        (pss_one (ps_if (PW.pt (pw_and (pt_cmpR op_in_seq (pv 4) (pv 2) (by rfl)) (pw_and1 (pt_cmpR op_notIn_seq (pv 7) (pv 2) (by rfl))))) (pss_one (ps_expr (pe_bm PySem.F.plainAttrs_list PySem.F.slot_list_append PySem.F.type_list_append mt_append (pv 2) (pa_cons (pv 7) pa_nil)))) pss_nil)))))
      (pss_one (ps_ret (pv 2))))), ?_⟩
    have hbig : 10000 < sizeLine := by decide
    refine ⟨_, rfl, lb, _, rfl, .inl hlb, fun L nL => ?_⟩
    have s1 := same_upd (o := .lst (S.map V.int)) nL
    have hL : (upd H L (.lst (S.map V.int))) L = some (.lst (S.map V.int)) := upd_same
    generalize upd H L (.lst (S.map V.int)) = H1 at s1 hL
    have h8 : ∀ F : List Int, F.Nodup → (∀ x ∈ F, 0 ≤ x ∧ x < 8) → F.length ≤ 8 ∧ (8 ≤ F.length → ∀ x, 0 ≤ x → x < 8 → x ∈ F) := fun F hn hb => by
      have hsub : ∀ x ∈ F, x ∈ roomL 8 := fun x hx => roomL_mem.mpr (hb x hx)
      have hle := nd_le F (roomL 8) hn hsub
      rw [roomL_len] at hle
      refine ⟨hle, fun h x x0 x8 => ?_⟩
      by_cases hx : x ∈ F
      · exact hx
      · have h2 := nd_le (x :: F) (roomL 8) (List.nodup_cons.mpr ⟨hx, hn⟩) fun y hy => by
          rcases List.mem_cons.mp hy with rfl | hy
          · exact roomL_mem.mpr ⟨x0, x8⟩
          · exact hsub y hy
        rw [roomL_len, List.length_cons] at h2
        have e8 : (8 : Int).toNat = 8 := rfl
        omega
    have hed : ∀ x y, (x, y) ∈ edA (ps.map (·.2)) → 0 ≤ y ∧ y < 8 := fun x y h => by
      obtain ⟨a, ha, e⟩ := List.mem_map.mp h
      obtain ⟨p, hp, rfl⟩ := List.mem_map.mp ha
      have e2 : p.2.2.2.2 = y := congrArg (·.2) e
      rw [← e2]
      exact hP8 p hp
    refine ⟨8, rfl, by decide, by decide, for_range (lo := 0) (n := 8) (fun i σ H' => ∃ (F : List Int) (y3 y4 y5 y6 y7 : Option V), σ = [some (.ref lb), some (.ref la), some (.ref L), y3, y4, y5, y6, y7] ∧ Same H H' ∧ H' L = some (.lst (F.map V.int)) ∧ F.Nodup ∧ (∀ x ∈ S, x ∈ F) ∧ (∀ x ∈ F, Rch S (edA (ps.map (·.2))) x) ∧ (∀ x ∈ F, 0 ≤ x ∧ x < 8) ∧ (clE (edA (ps.map (·.2))) F ∨ i ≤ F.length))
      ⟨S, _, _, _, _, _, rfl, s1, hL, hSn, fun _ h => h, fun x h => .start h, hS8, .inr (Nat.zero_le _)⟩ ?_ ?_⟩
    rotate_left
    · rintro σ H2 ⟨F, y3, y4, y5, y6, y7, rfl, s2, hL2, hFn, hFS, hFr, hF8, hcl⟩
      refine ⟨_, rfl, q L F H2 s2 hL2 fun x => ⟨hFr x, fun h => h.into hFS fun a b e ha => ?_⟩⟩
      rcases hcl with c | c
      · exact c a b e ha
      · obtain ⟨b0, b8⟩ := hed a b e
        exact (h8 F hFn hF8).2 c b b0 b8
    rintro i σ H2 hi ⟨F0, y3, y4, y5, y6, y7, rfl, s2, hL2, hFn0, hFS0, hFr0, hF80, hcl0⟩
    have hla2 := s2.seq hla
    refine ⟨_, rfl, la, rfl, ⟨_, hla2⟩, for_list (K := K) (a := la) (xs := rfs ps)
      (fun j σ H' => ∃ (F : List Int) (y4 y5 y6 y7 : Option V), σ = [some (.ref lb), some (.ref la), some (.ref L), some (.int (0 + (i : Int))), y4, y5, y6, y7] ∧ Same H H' ∧ H' L = some (.lst (F.map V.int)) ∧ F.Nodup ∧ (∀ x ∈ F0, x ∈ F) ∧ (∀ x ∈ F, Rch S (edA (ps.map (·.2))) x) ∧ (∀ x ∈ F, 0 ≤ x ∧ x < 8) ∧ F0.length ≤ F.length ∧ ((F = F0 ∧ ∀ p ∈ ps.take j, p.2.1 ∈ F0 → p.2.2.2.2 ∈ F0) ∨ (F0.length < F.length ∧ ¬ clE (edA (ps.map (·.2))) F0)))
      ⟨F0, _, _, _, _, rfl, s2, hL2, hFn0, fun _ h => h, hFr0, hF80, Nat.le_refl _, .inl ⟨rfl, fun _ h => nomatch h⟩⟩ (fun j σ H' _ ⟨_, _, _, _, _, _, sm, _⟩ => sm.seq hla) (fun j x σ H' hx hI => ?_) (fun σ H' hI => ?_)⟩
    · obtain ⟨F, y4, y5, y6, y7, rfl, sm, hLF, hFn, hF0, hFr, hF8, hlen, hch⟩ := hI
      obtain ⟨p, hp, rfl⟩ := rfs_at hx
      have hpm := List.mem_of_getElem? hp
      have hpT := sameT sm (hR p hpm)
      have htk := take_next hp
      refine ⟨p.1, _, rfl, hpT, rfl, _, _, rfl, _, _, rfl, _, _, rfl, _, _, rfl, rfl, ?_⟩
      refine ⟨_, rfl, _, rfl, L, F.map V.int, rfl, .inl (SqL.of hLF), rfl, flatInts _, _, rfl, ?_⟩
      rw [if_neg Bool.false_ne_true, inV_ints]
      by_cases c : p.2.1 ∈ F
      · rw [decide_eq_true c]
        refine iteT ?_
        refine ⟨_, rfl, _, rfl, L, F.map V.int, rfl, .inl (SqL.of hLF), rfl, flatInts _, _, rfl, ?_⟩
        rw [if_pos rfl, inV_ints]
        by_cases c2 : p.2.2.2.2 ∈ F
        · rw [decide_eq_true c2]
          refine iteF ⟨F, _, _, _, _, rfl, sm, hLF, hFn, hF0, hFr, hF8, hlen, ?_⟩
          rcases hch with ⟨rfl, h⟩ | h
          · refine .inl ⟨rfl, fun p' hp' h1 => ?_⟩
            rw [htk] at hp'
            rcases List.mem_append.mp hp' with h2 | h2
            · exact h p' h2 h1
            · rw [List.mem_singleton.mp h2]
              exact c2
          · exact .inr h
        · rw [decide_eq_false c2]
          have hb := h8 F hFn hF8
          refine iteT ⟨_, rfl, .inl ⟨rfl, _, SqL.of hLF⟩, _, rfl, L, _, _, rfl, rfl, hLF, by rw [List.length_map]; omega, F ++ [p.2.2.2.2], _, _, _, _, rfl, fun b o e => ?_, by rw [upd_same, List.map_append]; rfl, ?_, fun x hx => List.mem_append_left _ (hF0 x hx), fun x hx => ?_, fun x hx => ?_, by rw [List.length_append]; omega, ?_⟩
          · rw [upd_ne (ne_of_none e nL)]
            exact sm b o e
          · rw [List.nodup_append]
            exact ⟨hFn, by simp, fun a ha b hb' e => c2 (by rw [← List.mem_singleton.mp hb', ← e]; exact ha)⟩
          · rcases List.mem_append.mp hx with h | h
            · exact hFr x h
            · rw [List.mem_singleton.mp h]
              exact (hFr _ c).step (List.mem_map.mpr ⟨p.2, List.mem_map_of_mem hpm, rfl⟩)
          · rcases List.mem_append.mp hx with h | h
            · exact hF8 x h
            · rw [List.mem_singleton.mp h]
              exact hP8 p hpm
          · refine .inr ⟨by rw [List.length_append]; show F0.length < F.length + 1; omega, ?_⟩
            rcases hch with ⟨rfl, _⟩ | h
            · exact fun z => c2 (z _ _ (List.mem_map.mpr ⟨p.2, List.mem_map_of_mem hpm, rfl⟩) c)
            · exact h.2
      · rw [decide_eq_false c]
        refine iteF (iteF ⟨F, _, _, _, _, rfl, sm, hLF, hFn, hF0, hFr, hF8, hlen, ?_⟩)
        rcases hch with ⟨rfl, h⟩ | h
        · refine .inl ⟨rfl, fun p' hp' h1 => ?_⟩
          rw [htk] at hp'
          rcases List.mem_append.mp hp' with h2 | h2
          · exact h p' h2 h1
          · rw [List.mem_singleton.mp h2] at h1
            exact absurd h1 c
        · exact .inr h
    · obtain ⟨F, y4, y5, y6, y7, rfl, sm, hLF, hFn, hF0, hFr, hF8, hlen, hch⟩ := hI
      refine ⟨F, _, _, _, _, _, rfl, sm, hLF, hFn, fun x hx => hF0 x (hFS0 x hx), hFr, hF8, ?_⟩
      rw [show (rfs ps).length = ps.length from List.length_map .., List.take_length] at hch
      rcases hch with ⟨rfl, h⟩ | ⟨h1, h2⟩
      · refine .inl fun x y e hx => ?_
        obtain ⟨a, ha, e⟩ := List.mem_map.mp e
        obtain ⟨p, hp, rfl⟩ := List.mem_map.mp ha
        have e1 : p.2.1 = x := congrArg (·.1) e
        have e2 : p.2.2.2.2 = y := congrArg (·.2) e
        rw [← e2]
        exact h p hp (by rw [e1]; exact hx)
      · rcases hcl0 with c | c
        · exact absurd c h2
        · exact .inr (by omega)
/-! ### the rooms that are left, as the law has it -/
def leftD (M : AM) (rs : List Int) : AM := if rs = [] then idleM M.ls else ⟨(rs.length : Nat), M.ls, numAs rs M.as, numI rs M.fs, numI rs M.gs⟩
def NLl : List Str := ["_law_m", "_law_ahead", "_law_room", "_law_letter", "_law_deed_here", "_law_to", "_law_back", "_law_rooms", "_law_arrows", "_law_opens"]
theorem scLLeft : FnScope NLl ["_law_m"] (defScope sLLeft) := ⟨rfl, rfl, rfl, by decide +kernel, rfl, by decide +kernel, by decide +kernel⟩
def spLLeft (K : PySem.W.Frag) : Sp := fun vs H Q _ => ∃ (t : Addr) (M : AM), vs = [.ref t] ∧ DrawnAt K H t M ∧ M.ok ∧ ∀ (r : Addr) (p : Int → Bool) H', Same H H' → leftT M p → DrawnAt K H' r (leftD M ((roomL M.n).filter p)) → Q (.ref r) H'
theorem ok_lleft {f fSp : Addr} {fd fdSp : FuncData} {k : Nat} (F : Fun K "_law_left" "_law_left" sLLeft f fd) (Sp : FnM K mg fSp fdSp "_law_spread" sSprd ["_law_begins", "_law_arrows"]) (ml : mg "list" = none) (mr : mg "range" = none) (mlen : mg "len" = none) : FnOk P w K mg base CX0 (k + 2) f fd ["_law_m"] (spLLeft K) := by
  have GSp : FnOk P w K mg base CX0 (k + 1) fSp fdSp ["_law_begins", "_law_arrows"] (spSprd K) := ok_sprd Sp.F ml mr
  refine F.ok scLLeft (fun vs H Q E h => ?_) (fun cdv A outer s H vs Q E hr h => ?_)
  · obtain ⟨t, M, rfl, _⟩ := h
    rfl
  · obtain ⟨t, M, rfl, dM, ok, q⟩ := h
    refine ⟨_, (pss_cutM (ps_set (i := 1) scLLeft.nd rfl (.inr rfl) (pe_call GSp hr (by rfl) Sp.g Sp.F.kp Sp.b .nil pass0 (pa_cons (pe_ix ix_tup (pv 0) pe_int (fun _ _ => rfl)) (pa_cons (pe_ix ix_tup (pv 0) pe_int (fun _ _ => rfl)) pa_nil))))
      (pss_cutM (ps_set (i := 6) scLLeft.nd rfl (.inr rfl) (pe_call GSp hr (by rfl) Sp.g Sp.F.kp Sp.b .nil pass0 (pa_cons (pe_ix ix_tup (pv 0) pe_int (fun _ _ => rfl)) (pa_cons (pe_lc (own := [("_law_room", 2), ("_law_letter", 3), ("_law_deed_here", 4), ("_law_to", 5)]) (g := (gTup K 4 (gCons (gName 2) (gCons (gName 3) (gCons (gName 4) (gCons (gName 5) gNil)))))) (tt := tYes) (te := (tTup (tCons (tVar 5) (tCons (tVar 3) (tCons (tVar 4) (tCons (tVar 2) tNil)))))) rfl scLLeft.nd
          (pi_list (pe_ix ix_tup (pv 0) pe_int (fun _ _ => rfl))) (blkOk_by (own := [("_law_room", 2), ("_law_letter", 3), ("_law_deed_here", 4), ("_law_to", 5)]) (N := NLl) (sc := defScope sLLeft) (by decide +kernel)) (fun _ _ _ _ _ => (pg_tup rfl (pgs_cons (pg_name (i := 2) scLLeft.nd rfl (.inl rfl)) (pgs_cons (pg_name (i := 3) scLLeft.nd rfl (.inl rfl)) (pgs_cons (pg_name (i := 4) scLLeft.nd rfl (.inl rfl)) (pgs_cons (pg_name (i := 5) scLLeft.nd rfl (.inl rfl)) pgs_nil))))))
          (fun _ _ _ _ _ => pts_nil) (fun _ _ _ _ _ => (pe_tup (pa_cons (pv 5) (pa_cons (pv 3) (pa_cons (pv 4) (pa_cons (pv 2) pa_nil))))))) pa_nil))))
      (pss_cutM (ps_set (i := 7) scLLeft.nd rfl (.inr rfl) (pe_lc (own := [("_law_room", 2)]) (g := (gName 2)) (tt := (tAnd (tTest (tOp (rIn K false) (tVar 2) (tVar 1))) (tTest (tOp (rIn K false) (tVar 2) (tVar 6))))) (te := (tVar 2)) rfl scLLeft.nd
          (pi_range1 (by rfl) mr (pa_cons (pe_ix ix_tup (pv 0) pe_int (fun _ _ => rfl)) pa_nil)) (blkOk_by (own := [("_law_room", 2)]) (N := NLl) (sc := defScope sLLeft) (by decide +kernel)) (fun _ _ _ _ _ => (pg_name (i := 2) scLLeft.nd rfl (.inl rfl)))
          (fun _ _ _ _ _ => (pts_one (PW.pt (pw_and (pt_cmpR op_in_seq (pv 2) (pv 1) (by rfl)) (pw_and1 (pt_cmpR op_in_seq (pv 2) (pv 6) (by rfl))))))) (fun _ _ _ _ _ => (pv 2))))
      (pss_cutM (ps_if (pt_cmpR (op_eqD hr.units) (pv 7) (pe_lst pa_nil) (nomark _)) (pss_one (ps_ret (pe_tup (pa_cons pe_int (pa_cons (pe_ix ix_tup (pv 0) pe_int (fun _ _ => rfl)) (pa_cons (pe_lst pa_nil) (pa_cons (pe_lst pa_nil) (pa_cons (pe_lst pa_nil) pa_nil)))))))) pss_nil)
      (pss_cons (ps_set (i := 8) scLLeft.nd rfl (.inl rfl) (pe_lst pa_nil))
      (pss_cutM (ps_for PassesOwn.never rfl (pi_list (pe_ix ix_tup (pv 0) pe_int (fun _ _ => rfl))) (pg_tup rfl (pgs_cons (pg_name (i := 2) scLLeft.nd rfl (.inl rfl)) (pgs_cons (pg_name (i := 3) scLLeft.nd rfl (.inl rfl)) (pgs_cons (pg_name (i := 4) scLLeft.nd rfl (.inl rfl)) (pgs_cons (pg_name (i := 5) scLLeft.nd rfl (.inl rfl)) pgs_nil)))))
        (pss_one (ps_if (PW.pt (pw_and (pt_cmpR op_in_seq (pv 2) (pv 7) (by rfl)) (pw_and1 (pt_cmpR op_in_seq (pv 5) (pv 7) (by rfl))))) (pss_one (ps_expr (pe_bm PySem.F.plainAttrs_list PySem.F.slot_list_append PySem.F.type_list_append mt_append (pv 8) (pa_cons (pe_tup (pa_cons (pe_bm PySem.F.plainAttrs_list PySem.F.slot_list_index PySem.F.type_list_index mt_index (pv 7) (pa_cons (pv 2) pa_nil)) (pa_cons (pv 3) (pa_cons (pv 4) (pa_cons (pe_bm PySem.F.plainAttrs_list PySem.F.slot_list_index PySem.F.type_list_index mt_index (pv 7) (pa_cons (pv 5) pa_nil)) pa_nil))))) pa_nil)))) pss_nil)))
      (pss_cutM (ps_setLc (i := 9) (own := [("_law_room", 2)]) (g := (gName 2)) (tt := (tTest (tOp (rIn K false) (tVar 2) (tVar 7)))) (te := (tBM K "list" (rIndex K) (tVar 7) (tCons (tVar 2) tNil))) rfl scLLeft.nd rfl rfl (sw_true rfl rfl rfl (by decide +kernel))
          (pi_list (pe_ix ix_tup (pv 0) pe_int (fun _ _ => rfl))) (blkOk_by (own := [("_law_room", 2)]) (N := NLl) (sc := defScope sLLeft) (by decide +kernel)) (fun _ _ _ _ _ => (pg_name (i := 2) scLLeft.nd rfl (.inl rfl)))
          (fun _ _ _ _ _ => (pts_one (pt_cmpR op_in_seq (pv 2) (pv 7) (by rfl)))) (fun _ _ _ _ _ => (pe_bm PySem.F.plainAttrs_list PySem.F.slot_list_index PySem.F.type_list_index mt_index (pv 7) (pa_cons (pv 2) pa_nil))))
      (pss_one (ps_ret (pe_tup (pa_cons (pe_callB call_len_seq (by rfl) mlen PySem.boot_len (pa_cons (pv 7) pa_nil)) (pa_cons (pe_ix ix_tup (pv 0) pe_int (fun _ _ => rfl)) (pa_cons (pv 8) (pa_cons (pv 9) (pa_cons (pe_lc (own := [("_law_room", 2)]) (g := (gName 2)) (tt := (tTest (tOp (rIn K false) (tVar 2) (tVar 7)))) (te := (tBM K "list" (rIndex K) (tVar 7) (tCons (tVar 2) tNil))) rfl scLLeft.nd
          (pi_list (pe_ix ix_tup (pv 0) pe_int (fun _ _ => rfl))) (blkOk_by (own := [("_law_room", 2)]) (N := NLl) (sc := defScope sLLeft) (by decide +kernel)) (fun _ _ _ _ _ => (pg_name (i := 2) scLLeft.nd rfl (.inl rfl)))
          (fun _ _ _ _ _ => (pts_one (pt_cmpR op_in_seq (pv 2) (pv 7) (by rfl)))) (fun _ _ _ _ _ => (pe_bm PySem.F.plainAttrs_list PySem.F.slot_list_index PySem.F.type_list_index mt_index (pv 7) (pa_cons (pv 2) pa_nil)))) pa_nil))))))))))))))), ?_⟩
    have hbig : 10000 < sizeLine := by decide
    obtain ⟨la, lf, lg, ps, d1, d2, d3, d4, d5, d6⟩ := dM
    have hpl : ps.length ≤ 40 := by
      have := congrArg List.length d4
      rw [List.length_map] at this
      have := ok.2.2.2.2.2.1
      omega
    have hroo : ∀ l : List Int, (∀ r ∈ l, rooB M.n r = true) → ∀ x ∈ l, 0 ≤ x ∧ x < 8 := fun l h x hx => by
      have h1 := h x hx
      unfold rooB at h1
      rw [Bool.and_eq_true, decide_eq_true_eq, decide_eq_true_eq] at h1
      have := ok.2.1
      omega
    have hend : ∀ p ∈ ps, (0 ≤ p.2.1 ∧ p.2.1 < 8) ∧ 0 ≤ p.2.2.2.2 ∧ p.2.2.2.2 < 8 := fun p hp => by
      have h1 := ok.2.2.2.1 p.2 (by rw [← d4]; exact List.mem_map_of_mem hp)
      unfold arrB at h1
      simp only [Bool.and_eq_true, decide_eq_true_eq] at h1
      have := ok.2.1
      omega
    have hf100 := ok.2.2.2.2.2.2.2.2.2.2.1
    have hg100 := ok.2.2.2.2.2.2.2.2.2.2.2
    -- ahead
    refine ⟨fun σ' H' => ∃ (A : Addr) (fk : List Int), σ' = [some (.ref t), some (.ref A), none, none, none, none, none, none, none, none] ∧ Same H H' ∧ H' A = some (.lst (fk.map V.int)) ∧ (∀ x, x ∈ fk ↔ Rch M.fs (edA M.as) x), ?_, ?_⟩
    · refine ⟨_, rfl, t, _, 3, _, rfl, rfl, SqT.of d1, rfl, _, rfl, t, _, 2, _, rfl, rfl, SqT.of d1, rfl, lf, la, M.fs, ps, rfl, SqL.of d5, SqL.of d2, d3, ok.2.2.2.2.2.2.2.1, by omega, by omega, hroo _ ok.2.2.2.2.2.2.1, fun p hp => (hend p hp).2, fun r fk H1 s1 hr' hfr => ⟨r, fk, rfl, s1, hr', ?_⟩⟩
      rw [d4] at hfr
      exact hfr
    rintro σ H1 ⟨A, fk, rfl, s1, hA, hfr⟩
    -- back
    refine ⟨fun σ' H' => ∃ (B : Addr) (gk : List Int), σ' = [some (.ref t), some (.ref A), none, none, none, none, some (.ref B), none, none, none] ∧ Same H1 H' ∧ H' B = some (.lst (gk.map V.int)) ∧ (∀ x, x ∈ gk ↔ Rch M.gs (edA (M.as.map swA)) x), ?_, ?_⟩
    · refine ⟨_, rfl, t, _, 4, _, rfl, rfl, SqT.of (s1 _ _ d1), rfl, ?_⟩
      have d21 := s1 _ _ d2
      refine ⟨_, rfl, t, _, 2, _, rfl, rfl, SqT.of (s1 _ _ d1), rfl, la, rfl, ⟨_, SqL.of d21⟩, fun C nC => ?_⟩
      refine lc_list (K := K) (a := la) (xs := rfs ps) (fun i H' => Same H1 H' ∧ ∃ qs : List AR, H' C = some (.lst (rfs qs)) ∧ RowAt K H' qs ∧ qs.map (·.2) = ((ps.map (·.2)).take i).map swA) ⟨same_upd nC, [], upd_same, (fun _ h => nomatch h), rfl⟩ (fun i H' _ ⟨sm, _⟩ => SqL.of (sm _ _ d21)) (fun i x H' hx ⟨sm, qs, hD, hQ, hqe⟩ => ?_) (fun H2 ⟨s2, qs, hD, hQ, hqe⟩ => ?_)
      · obtain ⟨p, hp, rfl⟩ := rfs_at hx
        have hpT := sameT (s1.trans sm) (d3 p (List.mem_of_getElem? hp))
        have hql : qs.length ≤ 1000 := by
          have := congrArg List.length hqe
          rw [List.length_map, List.length_map, List.length_take, List.length_map] at this
          omega
        refine ⟨p.1, _, rfl, hpT, rfl, _, _, rfl, _, _, rfl, _, _, rfl, _, _, rfl, rfl, ?_⟩
        refine ⟨rfl, ?_⟩
        refine yes2 ?_
        refine ⟨_, rfl, _, rfl, _, rfl, _, rfl, (by decide : 4 ≤ sizeLine), fun t nt => ?_⟩
        obtain ⟨acc, a1, a2, a3, a4, a5⟩ := grow_row (x := swA p.2) nC sm hD hQ hql nt
        exact ⟨acc, a1, a2, a3, _, a4, a5, by rw [List.map_append, hqe, take_next (xs := ps.map (·.2)) (x := p.2) (by rw [List.getElem?_map, hp]; rfl), List.map_append]; rfl⟩
      · rw [show (rfs ps).length = (ps.map (·.2)).length by rw [List.length_map]; exact List.length_map .., List.take_length, d4] at hqe
        have hql : qs.length ≤ 40 := by
          have := congrArg List.length hqe
          rw [List.length_map, List.length_map] at this
          have := ok.2.2.2.2.2.1
          omega
        refine ⟨lg, C, M.gs, qs, rfl, SqL.of (s2 _ _ (s1 _ _ d6)), SqL.of hD, hQ, ok.2.2.2.2.2.2.2.2.2.1, by omega, by omega, hroo _ ok.2.2.2.2.2.2.2.2.1, fun p hp => ?_, fun r gk H3 s3 hr' hgr => ⟨r, gk, rfl, s2.trans s3, hr', by rw [hqe] at hgr; exact hgr⟩⟩
        have hm : p.2 ∈ M.as.map swA := by rw [← hqe]; exact List.mem_map_of_mem hp
        obtain ⟨b, hb, e⟩ := List.mem_map.mp hm
        rw [← d4] at hb
        obtain ⟨p0, hp0, rfl⟩ := List.mem_map.mp hb
        rw [← e]
        exact (hend p0 hp0).1
    rintro σ H2 ⟨B, gk, rfl, s2, hB, hgr⟩
    have s12 := s1.trans s2
    -- the rooms
    refine ⟨fun σ' H' => ∃ (R : Addr), σ' = [some (.ref t), some (.ref A), none, none, none, none, some (.ref B), some (.ref R), none, none] ∧ Same H2 H' ∧ H' R = some (.lst (((roomL M.n).filter fun r => decide (r ∈ fk) && decide (r ∈ gk)).map V.int)), ?_, ?_⟩
    · have hn1 := ok.1
      have hn8 := ok.2.1
      refine ⟨_, rfl, t, _, 0, _, rfl, rfl, SqT.of (s12 _ _ d1), rfl, ?_⟩
      refine ⟨M.n, rfl, by omega, by omega, fun C nC => ?_⟩
      refine lc_range (lo := 0) (n := M.n.toNat) (fun i H' => Same H2 H' ∧ H' C = some (.lst ((((roomL M.n).take i).filter fun r => decide (r ∈ fk) && decide (r ∈ gk)).map V.int))) ⟨same_upd nC, upd_same⟩ (fun j H' hj hI => ?_) (fun H5 hI => ?_)
      · obtain ⟨sm, hC⟩ := hI
        have hrj : (roomL M.n)[j]? = some ((j : Nat) : Int) := by
          unfold roomL
          rw [List.getElem?_map, List.getElem?_range hj]
          rfl
        have hsn := filt_snocG (c := fun r : Int => decide (r ∈ fk) && decide (r ∈ gk)) (f := fun r => r) (xs := roomL M.n) hrj
        rw [List.map_id', List.map_id'] at hsn
        refine ⟨rfl, ?_⟩
        refine ⟨_, rfl, _, rfl, A, fk.map V.int, rfl, .inl (SqL.of (sm _ _ (s2 _ _ hA))), rfl, flatInts _, _, rfl, ?_⟩
        rw [if_neg Bool.false_ne_true, inV_ints, Int.zero_add]
        by_cases c : ((j : Nat) : Int) ∈ fk
        · rw [decide_eq_true c]
          refine iteT ?_
          refine ⟨_, rfl, _, rfl, B, gk.map V.int, rfl, .inl (SqL.of (sm _ _ hB)), rfl, flatInts _, _, rfl, ?_⟩
          rw [if_neg Bool.false_ne_true, inV_ints]
          by_cases c2 : ((j : Nat) : Int) ∈ gk
          · rw [decide_eq_true c2]
            refine iteT ⟨_, rfl, _, hC, ?_, fun b o e => ?_, ?_⟩
            · rw [List.length_map]
              have := List.length_filter_le (fun r : Int => decide (r ∈ fk) && decide (r ∈ gk)) ((roomL M.n).take j)
              rw [List.length_take] at this
              omega
            · rw [upd_ne (ne_of_none e nC)]
              exact sm b o e
            · rw [upd_same, hsn, if_pos (by rw [decide_eq_true c, decide_eq_true c2]; rfl), List.map_append]
              rfl
          · rw [decide_eq_false c2]
            exact iteF ⟨sm, by rw [hC, hsn, if_neg (by rw [decide_eq_true c, decide_eq_false c2]; exact Bool.false_ne_true), List.append_nil]⟩
        · rw [decide_eq_false c]
          exact iteF ⟨sm, by rw [hC, hsn, if_neg (by rw [decide_eq_false c]; exact Bool.false_ne_true), List.append_nil]⟩
      · obtain ⟨sm, hC⟩ := hI
        rw [← roomL_len, List.take_length] at hC
        exact ⟨C, rfl, sm, hC⟩
    rintro σ H3 ⟨R, rfl, s3, hR⟩
    have hleft : leftT M (fun r => decide (r ∈ fk) && decide (r ∈ gk)) := fun r _ _ => by
      rw [Bool.and_eq_true, decide_eq_true_eq, decide_eq_true_eq, hfr, hgr]
    generalize (fun r => decide (r ∈ fk) && decide (r ∈ gk)) = p at hR hleft
    have hrl : ((roomL M.n).filter p).length ≤ 8 := by
      have h1 := List.length_filter_le p (roomL M.n)
      rw [roomL_len] at h1
      have := ok.2.1
      omega
    have qq : ∀ (r : Addr) H', Same H H' → DrawnAt K H' r (leftD M ((roomL M.n).filter p)) → Q (.ref r) H' := fun r H' s' d' => q r p H' s' hleft d'
    clear q
    generalize (roomL M.n).filter p = rs at hR hrl qq
    have s13 := s12.trans s3
    -- none
    refine ⟨fun σ' H' => σ' = [some (.ref t), some (.ref A), none, none, none, none, some (.ref B), some (.ref R), none, none] ∧ Same H3 H' ∧ rs ≠ [], ?_, ?_⟩
    · refine ⟨_, rfl, (by decide : 0 ≤ sizeLine), fun z nz => ?_⟩
      have s4 := same_upd (o := .lst []) nz
      refine ⟨.list (rs.map .int), .list [], .lst (SqL.of (s4 _ _ hR)) (dpInts rs), .lst (SqL.of upd_same) .nil, shI rs, by decide +kernel, _, rfl, ?_⟩
      rw [eqv_nil]
      generalize upd H3 z (.lst []) = H4 at s4
      by_cases hn : rs = []
      · subst hn
        rw [List.map_nil, decide_eq_true rfl]
        have s14 := s13.trans s4
        refine iteT ?_
        refine ⟨_, rfl, t, _, 1, _, rfl, rfl, SqT.of (s14 _ _ d1), rfl, (by decide : 0 ≤ sizeLine), fun l1 n1 => ?_⟩
        have s5 := same_upd (o := .lst []) n1
        have e1 : (upd H4 l1 (.lst [])) l1 = some (.lst []) := upd_same
        generalize upd H4 l1 (.lst []) = H5 at s5 e1
        refine ⟨(by decide : 0 ≤ sizeLine), fun l2 n2 => ?_⟩
        have s6 := same_upd (o := .lst []) n2
        have e2 : (upd H5 l2 (.lst [])) l2 = some (.lst []) := upd_same
        generalize upd H5 l2 (.lst []) = H6 at s6 e2
        refine ⟨(by decide : 0 ≤ sizeLine), fun l3 n3 => ?_⟩
        have s7 := same_upd (o := .lst []) n3
        have e3 : (upd H6 l3 (.lst [])) l3 = some (.lst []) := upd_same
        generalize upd H6 l3 (.lst []) = H7 at s7 e3
        refine ⟨(by decide : 5 ≤ sizeLine), fun tp ntp => ?_⟩
        have s8 := same_upd (o := .tup [.int 1, .str (Sx M.ls), .ref l1, .ref l2, .ref l3]) ntp
        have s78 := s7.trans s8
        refine qq tp _ (s14.trans (s5.trans (s6.trans s78))) ?_
        rw [show leftD M [] = idleM M.ls from if_pos rfl]
        exact ⟨l1, l2, l3, [], upd_same, (s6.trans s78) _ _ e1, (fun _ z => nomatch z), rfl, s78 _ _ e2, s8 _ _ e3⟩
      · rw [decide_eq_false (fun e => hn (List.map_eq_nil_iff.mp e))]
        exact iteF ⟨rfl, s4, hn⟩
    rintro σ H4 ⟨rfl, s4, hn⟩
    have s14 := s13.trans s4
    have hR4 := s4 _ _ hR
    -- arrows
    refine ⟨(by decide : 0 ≤ sizeLine), fun L nL => ?_⟩
    have s5 := same_upd (o := .lst []) nL
    have hL5 : (upd H4 L (.lst [])) L = some (.lst (aks [])) := upd_same
    generalize upd H4 L (.lst []) = H5 at s5 hL5
    refine ⟨fun σ' H' => ∃ (y2 y3 y4 y5 : Option V) (qs : List AR), σ' = [some (.ref t), some (.ref A), y2, y3, y4, y5, some (.ref B), some (.ref R), some (.ref L), none] ∧ Same H4 H' ∧ H' L = some (.lst (aks qs)) ∧ AkAt H' qs ∧ qs.map (·.2) = numAs rs M.as, ?_, ?_⟩
    · refine ⟨_, rfl, t, _, 2, _, rfl, rfl, SqT.of (s5 _ _ (s14 _ _ d1)), rfl, la, rfl, ⟨_, SqL.of (s5 _ _ (s14 _ _ d2))⟩, for_list (K := K) (a := la) (xs := rfs ps)
        (fun i σ H' => ∃ (y2 y3 y4 y5 : Option V) (qs : List AR), σ = [some (.ref t), some (.ref A), y2, y3, y4, y5, some (.ref B), some (.ref R), some (.ref L), none] ∧ Same H4 H' ∧ H' L = some (.lst (aks qs)) ∧ AkAt H' qs ∧ qs.length ≤ i ∧ qs.map (·.2) = (((ps.map (·.2)).take i).filter fun a => decide (a.1 ∈ rs) && decide (a.2.2.2 ∈ rs)).map (numA rs))
        ⟨_, _, _, _, [], rfl, s5, hL5, (fun _ h => nomatch h), Nat.le_refl _, rfl⟩ (fun i σ H' _ ⟨_, _, _, _, _, _, sm, _⟩ => SqL.of (sm _ _ (s14 _ _ d2))) (fun i x σ H' hx hI => ?_) (fun σ H' hI => ?_)⟩
      · obtain ⟨y2, y3, y4, y5, qs, rfl, sm, hL, hQ, hql, hqe⟩ := hI
        obtain ⟨p, hp, rfl⟩ := rfs_at hx
        have hil := (List.getElem?_eq_some_iff.mp hp).1
        have hpT := sameT (s14.trans sm) (d3 p (List.mem_of_getElem? hp))
        have hsn := filt_snocG (c := fun a : Arw => decide (a.1 ∈ rs) && decide (a.2.2.2 ∈ rs)) (f := numA rs) (xs := ps.map (·.2)) (i := i) (x := p.2) (by rw [List.getElem?_map, hp]; rfl)
        have hRs := sm _ _ hR4
        refine ⟨p.1, _, rfl, hpT, rfl, _, _, rfl, _, _, rfl, _, _, rfl, _, _, rfl, rfl, ?_⟩
        refine ⟨_, rfl, _, rfl, R, rs.map V.int, rfl, .inl (SqL.of hRs), rfl, flatInts _, _, rfl, ?_⟩
        rw [if_neg Bool.false_ne_true, inV_ints]
        by_cases c : p.2.1 ∈ rs
        · rw [decide_eq_true c]
          refine iteT ?_
          refine ⟨_, rfl, _, rfl, R, rs.map V.int, rfl, .inl (SqL.of hRs), rfl, flatInts _, _, rfl, ?_⟩
          rw [if_neg Bool.false_ne_true, inV_ints]
          by_cases c2 : p.2.2.2.2 ∈ rs
          · rw [decide_eq_true c2]
            obtain ⟨i1, i2, i3⟩ := idx_facts c
            obtain ⟨j1, j2, j3⟩ := idx_facts c2
            refine iteT ⟨_, rfl, .inl ⟨rfl, _, SqL.of hL⟩, _, rfl, .inl ⟨rfl, _, SqL.of hRs⟩, _, rfl, R, rs.map V.int, .int p.2.1, rs.idxOf p.2.1, .int p.2.1, rfl, rfl, SqL.of hRs, rfl, flatInts _, i1, i2, i3, ?_⟩
            refine ⟨_, rfl, _, rfl, _, rfl, .inl ⟨rfl, _, SqL.of hRs⟩, _, rfl, R, rs.map V.int, .int p.2.2.2.2, rs.idxOf p.2.2.2.2, .int p.2.2.2.2, rfl, rfl, SqL.of hRs, rfl, flatInts _, j1, j2, j3, ?_⟩
            refine ⟨(by decide : 4 ≤ sizeLine), fun u nu => ?_⟩
            obtain ⟨acc, a1, a2, a3, a4, a5⟩ := grow_ak (x := numA rs p.2) nL sm hL hQ (by omega) nu
            exact ⟨L, acc, .ref u, rfl, rfl, a1, a2, _, _, _, _, qs ++ [(u, numA rs p.2)], rfl, a3, a4, a5, by rw [List.length_append]; exact Nat.succ_le_succ hql, by rw [hsn, List.map_append, hqe, if_pos (by rw [decide_eq_true c, decide_eq_true c2]; rfl)]; rfl⟩
          · rw [decide_eq_false c2]
            exact iteF ⟨_, _, _, _, qs, rfl, sm, hL, hQ, by omega, by rw [hsn, hqe, if_neg (by rw [decide_eq_true c, decide_eq_false c2]; exact Bool.false_ne_true), List.append_nil]⟩
        · rw [decide_eq_false c]
          exact iteF (iteF ⟨_, _, _, _, qs, rfl, sm, hL, hQ, by omega, by rw [hsn, hqe, if_neg (by rw [decide_eq_false c]; exact Bool.false_ne_true), List.append_nil]⟩)
      · obtain ⟨y2, y3, y4, y5, qs, rfl, sm, hL, hQ, hql, hqe⟩ := hI
        rw [show (rfs ps).length = (ps.map (·.2)).length by rw [List.length_map]; exact List.length_map .., List.take_length, d4] at hqe
        exact ⟨_, _, _, _, qs, rfl, sm, hL, hQ, hqe⟩
    rintro σ H6 ⟨y2, y3, y4, y5, qs, rfl, s6, hL6, hQ6, hqe⟩
    have s16 := s14.trans s6
    have hR6 := s6 _ _ hR4
    have someI : ∀ {Hx : Hp} {l C : Addr} {ns : List Int}, SqL K Hx l (ns.map V.int) → Hx C = none → ns.length ≤ 1000 → ∀ (i : Nat) (v : V) (H' : Hp), (ns.map V.int)[i]? = some v → Same Hx H' → H' C = some (.lst ((((ns.take i).filter fun r => decide (r ∈ rs)).map (num rs)).map V.int)) →
        ∃ r, v = .int r ∧ ns[i]? = some r ∧ (r ∉ rs → H' C = some (.lst ((((ns.take (i + 1)).filter fun r => decide (r ∈ rs)).map (num rs)).map V.int))) ∧ (r ∈ rs → ∃ acc, H' C = some (.lst acc) ∧ acc.length < sizeLine ∧ Same Hx (upd H' C (.lst (acc ++ [V.int (num rs r)]))) ∧ (upd H' C (.lst (acc ++ [V.int (num rs r)]))) C = some (.lst ((((ns.take (i + 1)).filter fun r => decide (r ∈ rs)).map (num rs)).map V.int))) := fun {Hx l C ns} hl nC hnl i v H' hv sm hC => by
      obtain ⟨r, hr', rfl⟩ := ints_at hv
      have hsn := filt_snocG (c := fun r : Int => decide (r ∈ rs)) (f := num rs) (xs := ns) hr'
      refine ⟨r, rfl, hr', fun c => ?_, fun c => ⟨_, hC, ?_, fun b o e => ?_, ?_⟩⟩
      · rw [hC, hsn, if_neg (by rw [decide_eq_false c]; exact Bool.false_ne_true), List.append_nil]
      · rw [List.length_map, List.length_map]
        have := List.length_filter_le (fun r : Int => decide (r ∈ rs)) (ns.take i)
        rw [List.length_take] at this
        omega
      · rw [upd_ne (ne_of_none e nC)]
        exact sm b o e
      · rw [upd_same, hsn, if_pos (decide_eq_true c), List.map_append]
        rfl
    -- first rooms
    refine ⟨fun σ' H' => ∃ (S : Addr), σ' = [some (.ref t), some (.ref A), y2, y3, y4, y5, some (.ref B), some (.ref R), some (.ref L), some (.ref S)] ∧ Same H6 H' ∧ H' S = some (.lst ((numI rs M.fs).map V.int)), ?_, ?_⟩
    · have d56 := s16 _ _ d5
      refine ⟨_, rfl, t, _, 3, _, rfl, rfl, SqT.of (s16 _ _ d1), rfl, lf, rfl, ⟨_, SqL.of d56⟩, fun C nC => ?_⟩
      refine lc_list (K := K) (a := lf) (xs := M.fs.map V.int) (fun i H' => Same H6 H' ∧ H' C = some (.lst ((((M.fs.take i).filter fun r => decide (r ∈ rs)).map (num rs)).map V.int))) ⟨same_upd nC, upd_same⟩ (fun i H' _ ⟨sm, _⟩ => SqL.of (sm _ _ d56)) (fun i x H' hx ⟨sm, hC⟩ => ?_) (fun H7 ⟨s7, hC⟩ => ?_)
      · obtain ⟨r, rfl, hr', hno, hyes⟩ := someI (SqL.of d56) nC (by omega) i x H' hx sm hC
        have hRs := sm _ _ hR6
        refine ⟨rfl, ?_⟩
        refine ⟨_, rfl, _, rfl, R, rs.map V.int, rfl, .inl (SqL.of hRs), rfl, flatInts _, _, rfl, ?_⟩
        rw [if_neg Bool.false_ne_true, inV_ints]
        by_cases c : r ∈ rs
        · rw [decide_eq_true c]
          obtain ⟨acc, a1, a2, a3, a4⟩ := hyes c
          obtain ⟨i1, i2, i3⟩ := idx_facts c
          exact iteT ⟨_, rfl, .inl ⟨rfl, _, SqL.of hRs⟩, _, rfl, R, rs.map V.int, .int r, rs.idxOf r, .int r, rfl, rfl, SqL.of hRs, rfl, flatInts _, i1, i2, i3, acc, a1, a2, a3, a4⟩
        · rw [decide_eq_false c]
          exact iteF ⟨sm, hno c⟩
      rw [List.length_map, List.take_length] at hC
      exact ⟨C, rfl, s7, hC⟩
    rintro σ H7 ⟨S, rfl, s7, hS⟩
    have s17 := s16.trans s7
    have hR7 := s7 _ _ hR6
    -- all of it
    refine ⟨_, rfl, R, rs.map V.int, rfl, .inl (SqL.of hR7), ?_⟩
    refine ⟨_, rfl, t, _, 1, _, rfl, rfl, SqT.of (s17 _ _ d1), rfl, _, rfl, _, rfl, ?_⟩
    have d67 := s17 _ _ d6
    refine ⟨_, rfl, t, _, 4, _, rfl, rfl, SqT.of (s17 _ _ d1), rfl, lg, rfl, ⟨_, SqL.of d67⟩, fun C nC => ?_⟩
    refine lc_list (K := K) (a := lg) (xs := M.gs.map V.int) (fun i H' => Same H7 H' ∧ H' C = some (.lst ((((M.gs.take i).filter fun r => decide (r ∈ rs)).map (num rs)).map V.int))) ⟨same_upd nC, upd_same⟩ (fun i H' _ ⟨sm, _⟩ => SqL.of (sm _ _ d67)) (fun i x H' hx ⟨sm, hC⟩ => ?_) (fun H8 ⟨s8, hC⟩ => ?_)
    · obtain ⟨r, rfl, hr', hno, hyes⟩ := someI (SqL.of d67) nC (by omega) i x H' hx sm hC
      have hRs := sm _ _ hR7
      refine ⟨rfl, ?_⟩
      refine ⟨_, rfl, _, rfl, R, rs.map V.int, rfl, .inl (SqL.of hRs), rfl, flatInts _, _, rfl, ?_⟩
      rw [if_neg Bool.false_ne_true, inV_ints]
      by_cases c : r ∈ rs
      · rw [decide_eq_true c]
        obtain ⟨acc, a1, a2, a3, a4⟩ := hyes c
        obtain ⟨i1, i2, i3⟩ := idx_facts c
        exact iteT ⟨_, rfl, .inl ⟨rfl, _, SqL.of hRs⟩, _, rfl, R, rs.map V.int, .int r, rs.idxOf r, .int r, rfl, rfl, SqL.of hRs, rfl, flatInts _, i1, i2, i3, acc, a1, a2, a3, a4⟩
      · rw [decide_eq_false c]
        exact iteF ⟨sm, hno c⟩
    rw [List.length_map, List.take_length] at hC
    refine ⟨(by decide : 5 ≤ sizeLine), fun tp ntp => ?_⟩
    have s9 := same_upd (o := .tup [.int ((rs.map V.int).length : Nat), .str (Sx M.ls), .ref L, .ref S, .ref C]) ntp
    have h9 : (upd H8 tp (.tup [.int ((rs.map V.int).length : Nat), .str (Sx M.ls), .ref L, .ref S, .ref C])) tp = some (.tup [.int ((rs.length : Nat)), .str (Sx M.ls), .ref L, .ref S, .ref C]) := by rw [upd_same, List.length_map]
    have s89 := s8.trans s9
    refine qq tp _ (s17.trans s89) ?_
    rw [show leftD M rs = ⟨(rs.length : Nat), M.ls, numAs rs M.as, numI rs M.fs, numI rs M.gs⟩ from if_neg hn]
    exact ⟨L, S, C, qs, h9, (s7.trans s89) _ _ hL6, (hQ6.same (s7.trans s89)).row, hqe, s89 _ _ hS, s9 _ _ hC⟩
end
end Onp
set_option autoImplicit false
/-! sorted rows do not ask for the order that they come in -/
namespace Onp
open PySem PySem.Spec PyProof.Rows L2
theorem toks_adat {a b : Arw} (h : PySem.W.keyToks (adat a) = PySem.W.keyToks (adat b)) : a = b := by
  obtain ⟨a1, a2, a3, a4⟩ := a
  obtain ⟨b1, b2, b3, b4⟩ := b
  unfold adat at h
  simp only [PySem.W.keyToks, PySem.W.keyToksAll, List.cons_append, List.nil_append, List.cons.injEq, Sum.inl.injEq, Sum.inr.injEq, and_true, true_and] at h
  obtain ⟨h1, h2, h3, h4⟩ := h
  have e2 : a2 = b2 := by
    obtain ⟨⟨x⟩⟩ := a2
    obtain ⟨⟨y⟩⟩ := b2
    have : x = y := h2
    rw [this]
  have e3 : a3 = b3 := by
    obtain ⟨⟨x⟩⟩ := a3
    obtain ⟨⟨y⟩⟩ := b3
    have : x = y := h3
    rw [this]
  rw [h1, e2, e3, h4]
theorem sortA_eq {as bs : List Arw} (p : as.Perm bs) : sortA as = sortA bs := by
  have tt := PySem.W.sortLe_total (listOrd itemOrd) false (fun a : Arw => PySem.W.keyToks (adat a))
  have tot : ∀ a b : Arw, (PySem.W.dataLe false adat a b || PySem.W.dataLe false adat b a) = true := fun a b => by
    rcases tt.total a b with h | h
    · rw [show PySem.W.dataLe false adat a b = true from h, Bool.true_or]
    · rw [show PySem.W.dataLe false adat b a = true from h, Bool.or_true]
  unfold sortA
  refine PySem.W.Srt.the_of_perm _ (fun a b c => tt.trans a b c) tot (fun x y h1 h2 => ?_) ((List.mergeSort_perm as _).trans p) (List.pairwise_mergeSort (fun a b c => tt.trans a b c) tot as)
  have g1 : (!(listOrd itemOrd).blt (PySem.W.keyToks (adat y)) (PySem.W.keyToks (adat x))) = true := h1
  have g2 : (!(listOrd itemOrd).blt (PySem.W.keyToks (adat x)) (PySem.W.keyToks (adat y))) = true := h2
  rw [Bool.not_eq_true'] at g1 g2
  exact toks_adat ((listOrd itemOrd).total _ _ g2 g1)
theorem sortI_eq {as bs : List Int} (p : as.Perm bs) : sortI as = sortI bs := by
  unfold sortI
  have tot : ∀ a b : Int, (decide (a ≤ b) || decide (b ≤ a)) = true := fun a b => by
    rw [Bool.or_eq_true, decide_eq_true_eq, decide_eq_true_eq]
    omega
  have tr : ∀ a b c : Int, decide (a ≤ b) = true → decide (b ≤ c) = true → decide (a ≤ c) = true := fun a b c h1 h2 => by
    rw [decide_eq_true_eq] at *
    omega
  refine PySem.W.Srt.the_of_perm _ tr tot (fun x y h1 h2 => ?_) ((List.mergeSort_perm as _).trans p) (List.pairwise_mergeSort tr tot as)
  rw [decide_eq_true_eq] at h1 h2
  omega
end Onp
set_option maxHeartbeats 8000000
set_option autoImplicit false
/-! what laws want of a machine that is drawn: it stays good as it is sorted -/
namespace Onp
open PySem PySem.Spec PyProof.Rows L2
theorem few8 {n : Int} (hn : n ≤ 8) {l : List Int} (h : l.Nodup) (hb : ∀ r ∈ l, rooB n r = true) : l.length ≤ 8 :=
  nd_le l [0, 1, 2, 3, 4, 5, 6, 7] h fun x hx => by
    have h := hb x hx
    unfold rooB at h
    rw [Bool.and_eq_true, decide_eq_true_eq, decide_eq_true_eq] at h
    simp only [List.mem_cons, List.not_mem_nil, or_false]
    omega
theorem srt_ok {M : AM} (h : M.ok) : M.srt.ok := by
  obtain ⟨h1, h2, h3, h4, h5, h6, h7, h8, h9, h10, h11, h12⟩ := h
  have pa : (sortA M.as).Perm M.as := List.mergeSort_perm ..
  have pf : (sortI M.fs).Perm M.fs := List.mergeSort_perm ..
  have pg : (sortI M.gs).Perm M.gs := List.mergeSort_perm ..
  exact ⟨h1, h2, h3, fun a ha => h4 a (pa.mem_iff.mp ha), pa.nodup_iff.mpr h5, by show (sortA M.as).length ≤ 40; rw [pa.length_eq]; exact h6, fun r hr => h7 r (pf.mem_iff.mp hr), pf.nodup_iff.mpr h8, fun r hr => h9 r (pg.mem_iff.mp hr), pg.nodup_iff.mpr h10, by show (sortI M.fs).length ≤ 100; rw [pf.length_eq]; exact h11, by show (sortI M.gs).length ≤ 100; rw [pg.length_eq]; exact h12⟩
theorem am_ext {A B : AM} (h1 : A.n = B.n) (h2 : A.ls = B.ls) (h3 : A.as = B.as) (h4 : A.fs = B.fs) (h5 : A.gs = B.gs) : A = B := by
  cases A
  cases B
  cases h1
  cases h2
  cases h3
  cases h4
  cases h5
  rfl
theorem pA (as : List Arw) : (sortA as).Perm as := List.mergeSort_perm ..
theorem pI (as : List Int) : (sortI as).Perm as := List.mergeSort_perm ..
theorem arrB_iff {n : Int} {ls : List Nat} {a : Arw} : arrB n ls a = true ↔ (((0 ≤ a.1 ∧ a.1 < n) ∧ (0 ≤ a.2.2.2 ∧ a.2.2.2 < n)) ∧ (ls.any fun c => decide (a.2.1 = Sx [c])) = true) ∧ a.2.2.1 ∈ deedsL := by
  unfold arrB
  simp only [Bool.and_eq_true, decide_eq_true_eq]
theorem roo_iff {n r : Int} : rooB n r = true ↔ 0 ≤ r ∧ r < n := by
  unfold rooB
  rw [Bool.and_eq_true, decide_eq_true_eq, decide_eq_true_eq]
theorem iteNF {c A B : Prop} [Decidable c] (hc : ¬ c) (h : A) : if (!decide c) = true then A else B := by
  rw [decide_eq_false hc]
  exact iteT h
theorem lt_srt {M : AM} (ok : M.ok) : ∀ x ∈ M.srt.as, x.2.1.length ≤ sizeLine := fun x hx => by
  have h := (arrB_iff.mp (ok.2.2.2.1 x ((pA M.as).mem_iff.mp hx))).1.2
  obtain ⟨c, _, e⟩ := List.any_eq_true.mp h
  rw [of_decide_eq_true e, sx_len]
  exact (by decide : 1 ≤ sizeLine)
end Onp
set_option maxHeartbeats 16000000
set_option autoImplicit false
namespace Onp
open PySem PySem.Spec PyProof.Rows L2
abbrev sLaw : Stmt := topS 48
def NL : List Str := ["_law_script", "_law_bag_here", "_law_turn", "_law_m", "_law_made_here", "_law_arrows", "_law_room", "_law_letter", "_law_deed_here", "_law_to", "_law_arrow_here", "_law_found"]
theorem scLaw : FnScope NL ["_law_script"] (defScope sLaw) := ⟨rfl, rfl, rfl, by decide +kernel, rfl, by decide +kernel, by decide +kernel⟩
def spLaw (K : PySem.W.Frag) : Sp := fun vs H Q _ => ∃ (a : Addr) (ns : List Int), vs = [.ref a] ∧ SqL K H a (ns.map V.int) ∧ ∀ H', Q (.bl true) H'
theorem onceL_of_nd {κ : Type} [DecidableEq κ] {ks : List κ} (h : ks.Nodup) : onceL ks = ks := by
  have := fold_once_app ks [] h (fun _ _ z => nomatch z)
  rw [List.nil_append] at this
  exact this
theorem once_perm {κ : Type} [DecidableEq κ] {as bs : List κ} (h : ∀ x, x ∈ as ↔ x ∈ bs) : (onceL as).Perm (onceL bs) :=
  (List.perm_ext_iff_of_nodup (onceL_nd _) (onceL_nd _)).mpr fun x => by rw [onceL_mem, onceL_mem]; exact h x
theorem bare_srt (M : AM) : (bareM M.srt).srt = (bareM M).srt := am_ext rfl rfl (sortA_eq (once_perm fun x => by
    rw [List.mem_map, List.mem_map]
    constructor
    · rintro ⟨y, hy, e⟩
      exact ⟨y, (pA _).mem_iff.mp hy, e⟩
    · rintro ⟨y, hy, e⟩
      exact ⟨y, (pA _).mem_iff.mpr hy, e⟩)) (sortI_eq (pI M.fs)) (sortI_eq (pI M.gs))
theorem edA_mem {as : List Arw} {x y : Int} : (x, y) ∈ edA as ↔ ∃ a ∈ as, a.1 = x ∧ a.2.2.2 = y := by
  unfold edA
  rw [List.mem_map]
  constructor
  · rintro ⟨a, ha, e⟩
    exact ⟨a, ha, congrArg (·.1) e, congrArg (·.2) e⟩
  · rintro ⟨a, ha, rfl, rfl⟩
    exact ⟨a, ha, rfl⟩
theorem edS_mem {as : List Arw} {x y : Int} : (x, y) ∈ edA (as.map swA) ↔ ∃ a ∈ as, a.2.2.2 = x ∧ a.1 = y := by
  rw [edA_mem]
  constructor
  · rintro ⟨a, ha, e1, e2⟩
    obtain ⟨b, hb, rfl⟩ := List.mem_map.mp ha
    exact ⟨b, hb, e1, e2⟩
  · rintro ⟨a, ha, e1, e2⟩
    exact ⟨swA a, List.mem_map_of_mem ha, e1, e2⟩
theorem edA_perm {as bs : List Arw} (h : ∀ x, x ∈ as ↔ x ∈ bs) (e : Int × Int) : e ∈ edA as ↔ e ∈ edA bs := by
  obtain ⟨x, y⟩ := e
  rw [edA_mem, edA_mem]
  constructor
  · rintro ⟨a, ha, e⟩
    exact ⟨a, (h a).mp ha, e⟩
  · rintro ⟨a, ha, e⟩
    exact ⟨a, (h a).mpr ha, e⟩
theorem edS_perm {as bs : List Arw} (h : ∀ x, x ∈ as ↔ x ∈ bs) (e : Int × Int) : e ∈ edA (as.map swA) ↔ e ∈ edA (bs.map swA) := by
  obtain ⟨x, y⟩ := e
  rw [edS_mem, edS_mem]
  constructor
  · rintro ⟨a, ha, e⟩
    exact ⟨a, (h a).mp ha, e⟩
  · rintro ⟨a, ha, e⟩
    exact ⟨a, (h a).mpr ha, e⟩
theorem left_srt {M : AM} {p : Int → Bool} : leftT M.srt p ↔ leftT M p := by
  have h1 : ∀ r, Rch M.srt.fs (edA M.srt.as) r ↔ Rch M.fs (edA M.as) r := Rch.congr (fun x => (pI _).mem_iff) (edA_perm fun x => (pA _).mem_iff)
  have h2 : ∀ r, Rch M.srt.gs (edA (M.srt.as.map swA)) r ↔ Rch M.gs (edA (M.as.map swA)) r := Rch.congr (fun x => (pI _).mem_iff) (edS_perm fun x => (pA _).mem_iff)
  constructor
  · exact fun h r r0 rn => by rw [← h1, ← h2]; exact h r r0 rn
  · exact fun h r r0 rn => by rw [h1, h2]; exact h r r0 rn
theorem numAs_nd {rs : List Int} {as : List Arw} (h : as.Nodup) : (numAs rs as).Nodup := by
  unfold numAs
  refine List.pairwise_map.mpr (List.Pairwise.imp_of_mem (fun {a b} ha hb n e => n ?_) (List.Nodup.sublist (List.filter_sublist ..) h))
  have h1 := (List.mem_filter.mp ha).2
  have h2 := (List.mem_filter.mp hb).2
  rw [Bool.and_eq_true, decide_eq_true_eq, decide_eq_true_eq] at h1 h2
  obtain ⟨a1, a2, a3, a4⟩ := a
  obtain ⟨b1, b2, b3, b4⟩ := b
  unfold numA at e
  simp only [Prod.mk.injEq] at e ⊢
  exact ⟨num_inj h1.1 h2.1 e.1, e.2.1, e.2.2.1, num_inj h1.2 h2.2 e.2.2.2⟩
theorem numI_perm (rs : List Int) {as bs : List Int} (h : as.Perm bs) : (numI rs as).Perm (numI rs bs) := (h.filter _).map _
theorem numAs_perm (rs : List Int) {as bs : List Arw} (h : as.Perm bs) : (numAs rs as).Perm (numAs rs bs) := (h.filter _).map _
theorem trim_srt {M : AM} (ok : M.ok) (rs : List Int) : (trimM M.srt rs).srt = (leftD M rs).srt := by
  unfold trimM leftD
  by_cases h : rs = []
  · rw [if_pos h, if_pos h]
    rfl
  · rw [if_neg h, if_neg h]
    refine am_ext rfl rfl (sortA_eq ?_) (sortI_eq (numI_perm rs (pI _))) (sortI_eq (numI_perm rs (pI _)))
    show (onceL (numAs rs (sortA M.as))).Perm (numAs rs M.as)
    rw [onceL_of_nd (numAs_nd ((pA _).nodup_iff.mpr ok.2.2.2.2.1))]
    exact numAs_perm rs (pA _)
theorem num_roomL {n r : Int} (h0 : 0 ≤ r) (hn : r < n) : num (roomL n) r = r := by
  have hm := roomL_mem.mpr ⟨h0, hn⟩
  have h1 := num_at hm
  have h2 := List.idxOf_lt_length_of_mem hm
  rw [roomL_len] at h2
  have e : (roomL n)[(roomL n).idxOf r]? = some (((roomL n).idxOf r : Nat) : Int) := by
    have e2 : ∀ j, j < n.toNat → (roomL n)[j]? = some ((j : Nat) : Int) := fun j hj => by
      unfold roomL
      rw [List.getElem?_map, List.getElem?_range hj]
      rfl
    exact e2 _ h2
  rw [e] at h1
  have := Option.some.inj h1
  unfold num
  exact this
theorem srt_srt (M : AM) : M.srt.srt = M.srt := am_ext rfl rfl (sortA_eq (pA M.as)) (sortI_eq (pI M.fs)) (sortI_eq (pI M.gs))
theorem arr_in {M : AM} (ok : M.ok) {a : Arw} (ha : a ∈ M.as) : (0 ≤ a.1 ∧ a.1 < M.n) ∧ 0 ≤ a.2.2.2 ∧ a.2.2.2 < M.n := (arrB_iff.mp (ok.2.2.2.1 a ha)).1.1
theorem roo_in {n : Int} {l : List Int} (h : ∀ r ∈ l, rooB n r = true) {r : Int} (hr : r ∈ l) : 0 ≤ r ∧ r < n := roo_iff.mp (h r hr)
/-- the machine of all its own rooms is itself -/
theorem num_all {N : AM} (ok : N.ok) : numM (roomL N.n) N.ls N.as N.fs N.gs = N := by
  have hI : ∀ l : List Int, (∀ r ∈ l, rooB N.n r = true) → numI (roomL N.n) l = l := fun l h => by
    unfold numI
    rw [List.filter_eq_self.mpr fun r hr => decide_eq_true (roomL_mem.mpr (roo_in h hr))]
    calc l.map (num (roomL N.n)) = l.map id := List.map_congr_left fun r hr => num_roomL (roo_in h hr).1 (roo_in h hr).2
      _ = l := List.map_id l
  have hA : numAs (roomL N.n) N.as = N.as := by
    unfold numAs
    rw [List.filter_eq_self.mpr fun a ha => by
      obtain ⟨h1, h2⟩ := arr_in ok ha
      rw [decide_eq_true (roomL_mem.mpr h1), decide_eq_true (roomL_mem.mpr h2)]
      rfl]
    calc N.as.map (numA (roomL N.n)) = N.as.map id := List.map_congr_left fun a ha => by
          obtain ⟨h1, h2⟩ := arr_in ok ha
          unfold numA
          rw [num_roomL h1.1 h1.2, num_roomL h2.1 h2.2]
          rfl
      _ = N.as := List.map_id _
  refine am_ext ?_ rfl ?_ (hI _ ok.2.2.2.2.2.2.1) (hI _ ok.2.2.2.2.2.2.2.2.1)
  · show (((roomL N.n).length : Nat) : Int) = N.n
    rw [roomL_len]
    have := ok.1
    omega
  · show onceL (numAs (roomL N.n) N.as) = N.as
    rw [hA, onceL_of_nd ok.2.2.2.2.1]
theorem trim_twice {M : AM} (ok : M.ok) {p q : Int → Bool} (hp : leftT M p) {rs : List Int} (hrs : rs = (roomL M.n).filter p) (hq : leftT (trimM M rs).srt q) : (trimM (trimM M rs).srt ((roomL (trimM M rs).srt.n).filter q)).srt = (trimM M rs).srt := by
  have hm : ∀ r, r ∈ rs ↔ (0 ≤ r ∧ r < M.n) ∧ Rch M.fs (edA M.as) r ∧ Rch M.gs (edA (M.as.map swA)) r := fun r => by
    rw [hrs, List.mem_filter, roomL_mem]
    constructor
    · rintro ⟨h, h2⟩
      exact ⟨h, (hp r h.1 h.2).mp h2⟩
    · rintro ⟨h, h2⟩
      exact ⟨h, (hp r h.1 h.2).mpr h2⟩
  by_cases h0 : rs = []
  · have e : trimM M rs = idleM M.ls := if_pos h0
    rw [e] at hq ⊢
    have hf : (roomL (idleM M.ls).srt.n).filter q = [] := by
      refine List.filter_eq_nil_iff.mpr fun r hr h => ?_
      obtain ⟨r0, rn⟩ := roomL_mem.mp hr
      have h1 := ((hq r r0 rn).mp h).1
      have : r ∈ sortI ([] : List Int) := h1.into (fun _ z => z) (fun x y e => absurd e (by
        show (x, y) ∉ edA (sortA [])
        rw [show sortA [] = [] from (pA []).eq_nil]
        exact fun z => nomatch z))
      rw [show sortI [] = [] from (pI []).eq_nil] at this
      cases this
    rw [hf]
    have e2 : trimM (idleM M.ls).srt [] = idleM M.ls := if_pos rfl
    rw [e2]
  · have e : trimM M rs = numM rs M.ls M.as M.fs M.gs := if_neg h0
    have h8 : rs.length ≤ 8 := by
      have h1 := List.length_filter_le p (roomL M.n)
      rw [roomL_len] at h1
      rw [hrs]
      have := ok.2.1
      omega
    have okN := numM_ok ok h0 h8
    rw [e] at hq ⊢
    have hqN := left_srt.mp hq
    have fwd : ∀ {r}, Rch M.fs (edA M.as) r → r ∈ rs → Rch (numI rs M.fs) (edA (onceL (numAs rs M.as))) (num rs r) := by
      intro r h
      induction h with
      | start h => exact fun hr => .start (numI_mem.mpr ⟨_, h, hr, rfl⟩)
      | @step x y hx e ih =>
        intro hy
        obtain ⟨a, ha, e1, e2⟩ := edA_mem.mp e
        have hxr : x ∈ rs := (hm x).mpr ⟨by rw [← e1]; exact (arr_in ok ha).1, hx, ((hm y).mp hy).2.2.step (edS_mem.mpr ⟨a, ha, e2, e1⟩)⟩
        exact (ih hxr).step (edA_mem.mpr ⟨numA rs a, onceL_mem.mpr (numAs_mem.mpr ⟨a, ha, by rw [e1]; exact hxr, by rw [e2]; exact hy, rfl⟩), by rw [← e1]; rfl, by rw [← e2]; rfl⟩)
    have bwd : ∀ {r}, Rch M.gs (edA (M.as.map swA)) r → r ∈ rs → Rch (numI rs M.gs) (edA ((onceL (numAs rs M.as)).map swA)) (num rs r) := by
      intro r h
      induction h with
      | start h => exact fun hr => .start (numI_mem.mpr ⟨_, h, hr, rfl⟩)
      | @step x y hx e ih =>
        intro hy
        obtain ⟨a, ha, e1, e2⟩ := edS_mem.mp e
        have hxr : x ∈ rs := (hm x).mpr ⟨by rw [← e1]; exact (arr_in ok ha).2, ((hm y).mp hy).2.1.step (edA_mem.mpr ⟨a, ha, e2, e1⟩), hx⟩
        exact (ih hxr).step (edS_mem.mpr ⟨numA rs a, onceL_mem.mpr (numAs_mem.mpr ⟨a, ha, by rw [e2]; exact hy, by rw [e1]; exact hxr, rfl⟩), by rw [← e1]; rfl, by rw [← e2]; rfl⟩)
    have hall : (roomL (numM rs M.ls M.as M.fs M.gs).srt.n).filter q = roomL (numM rs M.ls M.as M.fs M.gs).srt.n := by
      refine List.filter_eq_self.mpr fun i hi => ?_
      obtain ⟨i0, il⟩ := roomL_mem.mp hi
      have il : i < (rs.length : Nat) := il
      have hlt : i.toNat < rs.length := by omega
      have hr : rs[i.toNat] ∈ rs := List.getElem_mem hlt
      have hnd : rs.Nodup := by rw [hrs]; exact List.Nodup.sublist (List.filter_sublist ..) (roomL_nd _)
      have hi' : num rs rs[i.toNat] = i := by
        unfold num
        rw [hnd.idxOf_getElem]
        omega
      obtain ⟨_, h1, h2⟩ := (hm _).mp hr
      refine (hqN i i0 il).mpr ⟨?_, ?_⟩
      · rw [← hi']
        exact fwd h1 hr
      · rw [← hi']
        exact bwd h2 hr
    rw [hall]
    have okS := srt_ok okN
    have hne : roomL (numM rs M.ls M.as M.fs M.gs).srt.n ≠ [] := fun z => by
      have h1 := congrArg List.length z
      rw [roomL_len] at h1
      have h2 : (numM rs M.ls M.as M.fs M.gs).srt.n.toNat = 0 := h1
      have := okS.1
      omega
    rw [show trimM (numM rs M.ls M.as M.fs M.gs).srt (roomL (numM rs M.ls M.as M.fs M.gs).srt.n) = _ from if_neg hne, num_all okS, srt_srt]
theorem trim_ok {M : AM} (ok : M.ok) (p : Int → Bool) : (trimM M ((roomL M.n).filter p)).ok := by
  unfold trimM
  by_cases h : (roomL M.n).filter p = []
  · rw [if_pos h]
    exact idle_ok ok.2.2.1
  · rw [if_neg h]
    refine numM_ok ok h ?_
    have h1 := List.length_filter_le p (roomL M.n)
    rw [roomL_len] at h1
    have := ok.2.1
    omega
theorem left_lvl {M : AM} (ok : M.ok) (rs : List Int) : (leftD M rs).as.length ≤ 100 ∧ (leftD M rs).fs.length ≤ 100 ∧ (leftD M rs).gs.length ≤ 100 := by
  unfold leftD
  have hI : ∀ l : List Int, (numI rs l).length ≤ l.length := fun l => by
    unfold numI
    rw [List.length_map]
    exact List.length_filter_le ..
  have hA : (numAs rs M.as).length ≤ M.as.length := by
    unfold numAs
    rw [List.length_map]
    exact List.length_filter_le ..
  have h1 := ok.2.2.2.2.2.1
  by_cases h : rs = []
  · rw [if_pos h]
    exact ⟨Nat.zero_le _, Nat.zero_le _, Nat.zero_le _⟩
  · rw [if_neg h]
    exact ⟨Nat.le_trans hA (by omega), Nat.le_trans (hI _) ok.2.2.2.2.2.2.2.2.2.2.1, Nat.le_trans (hI _) ok.2.2.2.2.2.2.2.2.2.2.2⟩
theorem eqM_refl (M : AM) : eqM M M = true := by
  unfold eqM
  simp

section
variable {P : Program} {w : World} {K : PySem.W.Frag} {mg : Str → Option Value} {base : Heap}
theorem ok_law {f C fI fE tD D fB fPu fO fSm fDe fLe fRo fAr fDr fFu fKw fMl fMd fTe fSo fSp fLl fAl fIl fIa fNa fNr fSb fMp fOn fWk fCo fNu fTa fBa fTr fRm fLt fAw fFs fLs : Addr} {fd fdI fdE fdB fdPu fdO fdSm fdDe fdLe fdRo fdAr fdDr fdFu fdKw fdMl fdMd fdTe fdSo fdSp fdLl fdAl fdIl fdIa fdNa fdNr fdSb fdMp fdOn fdWk fdCo fdNu fdTa fdBa fdTr fdRm fdLt fdAw fdFs fdLs : FuncData} {kws : List (Str × V)}
    (F : Fun K "law" "law" sLaw f fd)
    (B : FnM K mg fB fdB "_law_bag" sBag ["_law_script"])
    (Pu : FnM K mg fPu fdPu "_law_pull" sPull ["_law_bag_here", "_law_many"])
    (O : FnM K mg fO fdO "_law_of" sOf ["_law_bag_here", "_law_some"])
    (Sm : FnM K mg fSm fdSm "_law_same" sSame ["_law_found", "_law_due"])
    (De : FnM K mg fDe fdDe "_law_deed" sDeed ["_law_bag_here"])
    (Le : FnM K mg fLe fdLe "_law_letters" sLett ["_law_bag_here", "_law_most"])
    (Ro : FnM K mg fRo fdRo "_law_rooms_some" sRooms ["_law_bag_here", "_law_rooms"])
    (Ar : FnM K mg fAr fdAr "_law_arrow" sArrow ["_law_bag_here", "_law_rooms", "_law_letters_here"])
    (Dr : FnM K mg fDr fdDr "_law_drawn" sDrawn psDr)
    (Fu : FnM K mg fFu fdFu "_law_full_one" sFull psFu)
    (Kw : FnM K mg fKw fdKw "_law_known" sKnown ["_law_bag_here"])
    (Ml : FnM K mg fMl fdMl "_law_machine" sMachL ["_law_bag_here"])
    (Md : FnM K mg fMd fdMd "_law_made" sMade ["_law_m"])
    (Te : FnM K mg fTe fdTe "_law_tells" sLTells ["_law_made_here"])
    (So : FnM K mg fSo fdSo "_law_sorted" sSortd ["_law_m"])
    (Sp : FnM K mg fSp fdSp "_law_spread" sSprd ["_law_begins", "_law_arrows"])
    (Ll : FnM K mg fLl fdLl "_law_left" sLLeft ["_law_m"])
    (Al : FnM K mg fAl fdAl "are_letters" sAreL ["text"])
    (Il : FnM K mg fIl fdIl "is_letter" sIsL ["text", "letters"])
    (Ia : FnM K mg fIa fdIa "is_arrow" sIsA ["arrow", "rooms", "letters"])
    (Na : FnM K mg fNa fdNa "need_arrows" sNeedA ["arrows", "rooms", "letters"])
    (Nr : FnM K mg fNr fdNr "need_rooms" sNeedR ["some", "rooms"])
    (Sb : FnM K mg fSb fdSb "steps_by_start" sStepsB ["arrows"])
    (Mp : FnM K mg fMp fdMp "made" sMadeP psMp)
    (On : FnM K mg fOn fdOn "once_each" sOnce ["things"])
    (Wk : FnM K mg fWk fdWk "with_keep" sWithK ["machine"])
    (Co : FnM K mg fCo fdCo "come_to" sCome ["starts", "arrows"])
    (Nu : FnM K mg fNu fdNu "numbered" sNumd psNu)
    (Ta : FnM K mg fTa fdTa "turned_arrows" sTurnA ["machine"])
    (Ba : FnM K mg fBa fdBa "bare" sBare ["machine"])
    (Tr : FnM K mg fTr fdTr "trimmed" sTrim ["machine"])
    (T : MkM K mg C fdI fI [.ref D] kws)
    (FRm : Fun K "rooms" "Machine.rooms" sMRooms fRm fdRm) (bRm : Binds K fdRm ["self"] []) (mRm : Meth K C "rooms" fRm)
    (FLt : Fun K "letters" "Machine.letters" sMLets fLt fdLt) (bLt : Binds K fdLt ["self"] []) (mLt : Meth K C "letters" fLt)
    (FAw : Fun K "arrows" "Machine.arrows" sMArrs fAw fdAw) (bAw : Binds K fdAw ["self"] []) (mAw : Meth K C "arrows" fAw)
    (FFs : Fun K "firsts" "Machine.firsts" sMFsts fFs fdFs) (bFs : Binds K fdFs ["self"] []) (mFs : Meth K C "firsts" fFs)
    (FLs : Fun K "lasts" "Machine.lasts" sMLsts fLs fdLs) (bLs : Binds K fdLs ["self"] []) (mLs : Meth K C "lasts" fLs)
    (IC : InsM K C) (FE : Fun K "__eq__" "Machine.__eq__" sMEq fE fdE) (bE : Binds K fdE ["self", "other"] []) (OE : OwnE K C fE) (hD : ∀ H, SqT K H D [])
    (Cs : CsM K mg tD) (Bl : Blt mg) (B1 : Bl1 mg) (B2 : Bl2 mg) (mr : mg "range" = none) (me : mg "enumerate" = none) :
    FnOk P w K mg base CX0 9 f fd ["_law_script"] (spLaw K) := by
  have GB : FnOk P w K mg base CX0 8 fB fdB ["_law_script"] (spBag K) := ok_bag B.F Bl.list
  have GP : FnOk P w K mg base CX0 8 fPu fdPu ["_law_bag_here", "_law_many"] (spPull K) := ok_pull Pu.F Bl.len
  have GS : FnOk P w K mg base CX0 8 fSm fdSm ["_law_found", "_law_due"] (spSame K 3) := ok_same Sm.F Sm.b Sm.g Bl 3 4
  have GM : FnOk P w K mg base CX0 8 fMl fdMl ["_law_bag_here"] (spMachL K) := ok_machL Ml.F Pu O De Le Ro Ar Dr Fu Kw Bl.len mr Bl.int Bl.list
  have GDr : FnOk P w K mg base CX0 8 fDr fdDr psDr (spDrawn K) := ok_drawn Dr.F Pu O De Le Ro Ar Bl.len mr Bl.int
  have GI : FnOk P w K mg base CX0 6 fI fdI psMI (spMInit K C) := ok_minit T.F Al Il Ia Na Nr Sb B1 B2 Cs T.cl
  have GI4 : FnOk P w K mg base CX0 4 fI fdI psMI (spMInit K C) := ok_minit T.F Al Il Ia Na Nr Sb B1 B2 Cs T.cl
  have GMd : FnOk P w K mg base CX0 8 fMd fdMd ["_law_m"] (spMade K C) := ok_made Md.F T GI Bl.list
  have GT : FnOk P w K mg base CX0 8 fTe fdTe ["_law_made_here"] (spLTells K C) := ok_ltells Te.F T.cl FRm bRm mRm FLt bLt mLt FAw bAw mAw FFs bFs mFs FLs bLs mLs Bl.list
  have GSo : FnOk P w K mg base CX0 8 fSo fdSo ["_law_m"] (spSortd K) := ok_sortd So.F B2.sorted
  have GE : FnOk P w K mg base CX0 4 fE fdE ["self", "other"] (spMEq K C) := ok_meq FE T.cl IC T.g Bl.isi
  obtain ⟨tkR, gR⟩ := Cs.rooms
  have GMp : FnOk P w K mg base CX0 6 fMp fdMp psMp (spMadeO K C) := ok_madeO (k := 4) Mp.F T GI4 hD gR
  have GNu : FnOk P w K mg base CX0 7 fNu fdNu psNu (spNumI K C) := ok_numI (k := 5) Nu.F Mp GMp On Bl.list Bl.len me
  have GCo : FnOk P w K mg base CX0 7 fCo fdCo ["starts", "arrows"] (spComeI K) := ok_comeI (k := 5) Co.F On Bl.list
  have GTa : FnOk P w K mg base CX0 7 fTa fdTa ["machine"] (spTurnA K C) := ok_turnA (k := 5) Ta.F T.cl FAw bAw mAw Bl.list
  have GTr : FnOk P w K mg base CX0 8 fTr fdTr ["machine"] (spTrim K C) := ok_trim (k := 6) Tr.F T.cl Co GCo Ta GTa Nu GNu FRm bRm mRm FLt bLt mLt FAw bAw mAw FFs bFs mFs FLs bLs mLs Bl.list mr
  have GWk : FnOk P w K mg base CX0 7 fWk fdWk ["machine"] (spWithK K C) := ok_withK (k := 5) Wk.F T.cl On FAw bAw mAw Bl.list
  have GBa : FnOk P w K mg base CX0 8 fBa fdBa ["machine"] (spBare K C) := ok_bare (k := 5) Ba.F T GI Wk GWk FRm bRm mRm FLt bLt mLt FAw bAw mAw FFs bFs mFs FLs bLs mLs Bl.list
  have GLl : FnOk P w K mg base CX0 8 fLl fdLl ["_law_m"] (spLLeft K) := ok_lleft (k := 6) Ll.F Sp Bl.list mr Bl.len
  refine F.ok scLaw (fun vs H Q E h => ?_) (fun cdv A outer s H vs Q E hr h => ?_)
  · obtain ⟨a, ns, rfl, _⟩ := h
    rfl
  · obtain ⟨a, ns, rfl, hS, q⟩ := h
    have hr5 := hr.mono (j := 5) (by omega)
    refine ⟨_, (pss_cons (ps_set (i := 1) scLaw.nd rfl (.inl rfl) (pe_call GB hr (by rfl) B.g B.F.kp B.b .nil pass0 (pa_cons (pv 0) pa_nil)))
      (pss_cons (ps_for PassesOwn.never rfl (pi_range1 (by rfl) mr (pa_cons pe_int pa_nil)) (pg_name (i := 2) scLaw.nd rfl (.inl rfl))
        (pss_cutM (ps_set (i := 3) scLaw.nd rfl (.inl rfl) (pe_ifExp (pt_cmpR op_eq (pe_call GP hr (by rfl) Pu.g Pu.F.kp Pu.b .nil pass0 (pa_cons (pv 1) (pa_cons pe_int pa_nil))) pe_int (nomark _)) (pe_call GDr hr (by rfl) Dr.g Dr.F.kp Dr.b .nil pass0 (pa_cons (pv 1) (pa_cons pe_int (pa_cons pe_int (pa_cons pe_int pa_nil))))) (pe_call GM hr (by rfl) Ml.g Ml.F.kp Ml.b .nil pass0 (pa_cons (pv 1) pa_nil))))
      (pss_cutM (ps_if (pt_cmpR op_eq (pe_call GP hr (by rfl) Pu.g Pu.F.kp Pu.b .nil pass0 (pa_cons (pv 1) (pa_cons pe_int pa_nil))) pe_int (nomark _)) (pss_one (ps_set (i := 3) scLaw.nd rfl (.inl rfl) (pe_op op_catT (pe_slice sl_tup (pv 3) po_none (po_some pe_int)) (pe_tup (pa_cons (pe_lst pa_nil) (pa_cons (pe_ix ix_tup (pv 3) pe_int (fun _ _ => rfl)) pa_nil)))))) pss_nil)
      (pss_cons (ps_set (i := 4) scLaw.nd rfl (.inl rfl) (pe_call GMd hr (by rfl) Md.g Md.F.kp Md.b .nil pass0 (pa_cons (pv 3) pa_nil)))
      (pss_cons (ps_set (i := 5) scLaw.nd rfl (.inl rfl) (pe_lst pa_nil))
      (pss_cutM (ps_for PassesOwn.never rfl (pi_list (pe_ix ix_tup (pv 3) pe_int (fun _ _ => rfl))) (pg_tup rfl (pgs_cons (pg_name (i := 6) scLaw.nd rfl (.inl rfl)) (pgs_cons (pg_name (i := 7) scLaw.nd rfl (.inl rfl)) (pgs_cons (pg_name (i := 8) scLaw.nd rfl (.inl rfl)) (pgs_cons (pg_name (i := 9) scLaw.nd rfl (.inl rfl)) pgs_nil)))))
        (pss_cons (ps_set (i := 10) scLaw.nd rfl (.inl rfl) (pe_tup (pa_cons (pv 6) (pa_cons (pv 7) (pa_cons pe_str (pa_cons (pv 9) pa_nil))))))
      (pss_one (ps_set (i := 5) scLaw.nd rfl (.inl rfl) (pe_op op_cat (pv 5) (pe_op op_rep (pe_lst (pa_cons (pv 10) pa_nil)) (pe_callTy call_int1 (by rfl) Bl.int (by decide +kernel) (pa_cons (pe_cmpR (op_notInD (room65 hr)) (pv 10) (pv 5) (by rfl)) pa_nil))))))))
      (pss_cons (ps_if (pt_not (pt_val (pe_call GS hr (by rfl) Sm.g Sm.F.kp Sm.b .nil pass0 (pa_cons (pe_call GT hr (by rfl) Te.g Te.F.kp Te.b .nil pass0 (pa_cons (pe_call GBa hr (by rfl) Ba.g Ba.F.kp Ba.b .nil pass0 (pa_cons (pv 4) pa_nil)) pa_nil)) (pa_cons (pe_call GSo hr (by rfl) So.g So.F.kp So.b .nil pass0 (pa_cons (pe_tup (pa_cons (pe_ix ix_tup (pv 3) pe_int (fun _ _ => rfl)) (pa_cons (pe_ix ix_tup (pv 3) pe_int (fun _ _ => rfl)) (pa_cons (pv 5) (pa_cons (pe_ix ix_tup (pv 3) pe_int (fun _ _ => rfl)) (pa_cons (pe_ix ix_tup (pv 3) pe_int (fun _ _ => rfl)) pa_nil)))))) pa_nil)) pa_nil))))) pss_never pss_nil)
      (pss_cons (ps_set (i := 11) scLaw.nd rfl (.inl rfl) (pe_call GTr hr (by rfl) Tr.g Tr.F.kp Tr.b .nil pass0 (pa_cons (pv 4) pa_nil)))
      (pss_cons (ps_if (PW.pt (pw_or (pt_not (pt_val (pe_call GS hr (by rfl) Sm.g Sm.F.kp Sm.b .nil pass0 (pa_cons (pe_call GT hr (by rfl) Te.g Te.F.kp Te.b .nil pass0 (pa_cons (pv 11) pa_nil)) (pa_cons (pe_call GSo hr (by rfl) So.g So.F.kp So.b .nil pass0 (pa_cons (pe_call GLl hr (by rfl) Ll.g Ll.F.kp Ll.b .nil pass0 (pa_cons (pv 3) pa_nil)) pa_nil)) pa_nil))))) (pw_or1 (pt_cmpR (op_neOwn GE bE pass0 OE hr5) (pe_call GTr hr (by rfl) Tr.g Tr.F.kp Tr.b .nil pass0 (pa_cons (pv 11) pa_nil)) (pv 11) (nomark _))))) pss_never pss_nil)
      (pss_one (ps_if (pt_cmpR (op_neD hr.units) (pe_call GT hr (by rfl) Te.g Te.F.kp Te.b .nil pass0 (pa_cons (pv 4) pa_nil)) (pe_call GSo hr (by rfl) So.g So.F.kp So.b .nil pass0 (pa_cons (pv 3) pa_nil)) (nomark _)) pss_never pss_nil)))))))))))
      (pss_one (ps_ret pe_bl)))), ?_⟩
    have hbig : 10000 ≤ sizeLine := by decide
    refine ⟨_, rfl, a, ns, rfl, hS, fun g H1 nb sm1 Bg1 => ?_⟩
    refine ⟨6, rfl, by decide, by decide, for_range (lo := 0) (n := 6) (fun i σ H' => ∃ y2 y3 y4 y5 y6 y7 y8 y9 y10 y11 : Option V, σ = [some (.ref a), some (.ref g.b), y2, y3, y4, y5, y6, y7, y8, y9, y10, y11] ∧ Bg H' g) ⟨_, _, _, _, _, _, _, _, _, _, rfl, Bg1⟩ ?_ ?_⟩
    · rintro i σ H2 hi ⟨y2, y3, y4, y5, y6, y7, y8, y9, y10, y11, rfl, Bg2⟩
      -- one that is drawn
      refine ⟨fun σ' H' => ∃ (t1 : Addr) (M : AM), σ' = [some (.ref a), some (.ref g.b), some (.int (0 + (i : Int))), some (.ref t1), y4, y5, y6, y7, y8, y9, y10, y11] ∧ M.ok ∧ DrawnAt K H' t1 M ∧ Bg H' g, ?_, ?_⟩
      · refine ⟨_, rfl, g, 2, rfl, by decide, by decide, Bg2, fun r H3 r0 r2 k3 Bg3 => ?_⟩
        refine ⟨rfl, _, rfl, ?_⟩
        refine ite2 (fun _ => ?_) (fun _ => ?_)
        · refine ⟨_, rfl, g, 6, 3, 12, rfl, by decide, by decide, by decide, by decide, by decide, by decide, Bg3, fun t2 N H5 okN h1 h2 h3 h4 dN k5 Bg5 => ?_⟩
          exact ⟨t2, N, rfl, okN, dN, Bg5⟩
        · refine ⟨_, rfl, g, rfl, Bg3, fun t1 M H4 okM hn4 fw dM4 k4 Bg4 => ?_⟩
          exact ⟨t1, M, rfl, okM, dM4, Bg4⟩
      clear Bg2
      rintro σ H2 ⟨t1, M, rfl, okM, dM2, Bg2⟩
      -- without first rooms
      refine ⟨fun σ' H' => ∃ (t1 : Addr) (M : AM), σ' = [some (.ref a), some (.ref g.b), some (.int (0 + (i : Int))), some (.ref t1), y4, y5, y6, y7, y8, y9, y10, y11] ∧ M.ok ∧ DrawnAt K H' t1 M ∧ Bg H' g, ?_, ?_⟩
      · refine ⟨_, rfl, g, 6, rfl, by decide, by decide, Bg2, fun r H4 r0 r2 k4 Bg4 => ?_⟩
        have dM4 := dM2.keep Bg2 k4
        refine ⟨rfl, _, rfl, ?_⟩
        refine ite2 (fun _ => ?_) (fun _ => ?_)
        · obtain ⟨la, lf, lg, ps, d1, d2, d3, d4, d5, d6⟩ := dM4
          refine ⟨_, rfl, 3, rfl, t1, _, rfl, SqT.of d1, (by show ¬ (HT.sIx 5 0 none = 0 ∧ HT.sIx 5 5 (some 3) = 5); decide), fun q2 nq2 => ?_⟩
          have u2 := same_upd (o := .tup (cutV [V.int M.n, .str (Sx M.ls), .ref la, .ref lf, .ref lg] none (some 3))) nq2
          have h2 : (upd H4 q2 (.tup (cutV [V.int M.n, .str (Sx M.ls), .ref la, .ref lf, .ref lg] none (some 3)))) q2 = some (.tup [V.int M.n, .str (Sx M.ls), .ref la]) := by rw [upd_same]; rfl
          generalize upd H4 q2 (.tup (cutV [V.int M.n, .str (Sx M.ls), .ref la, .ref lf, .ref lg] none (some 3))) = H5 at u2 h2
          refine ⟨(by decide : 0 ≤ sizeLine), fun l nl => ?_⟩
          have s6 := same_upd (o := .lst []) nl
          have hl : (upd H5 l (.lst [])) l = some (.lst []) := upd_same
          generalize upd H5 l (.lst []) = H6 at s6 hl
          refine ⟨_, rfl, t1, _, 4, _, rfl, rfl, SqT.of (s6 _ _ (u2 _ _ d1)), rfl, (by decide : 2 ≤ sizeLine), fun q3 nq3 => ?_⟩
          have u3 := same_upd (o := .tup [V.ref l, .ref lg]) nq3
          have h3 : (upd H6 q3 (.tup [V.ref l, .ref lg])) q3 = some (.tup [V.ref l, .ref lg]) := upd_same
          generalize upd H6 q3 (.tup [V.ref l, .ref lg]) = H7 at u3 h3
          have u47 := u2.trans (s6.trans u3)
          refine ⟨q2, q3, _, _, rfl, rfl, SqT.of (u3 _ _ (s6 _ _ h2)), SqT.of h3, by simp, (by decide : 5 ≤ sizeLine), fun e => by simp at e, fun _ q4 nq4 => ?_⟩
          have u4 := same_upd (o := .tup ([V.int M.n, .str (Sx M.ls), .ref la] ++ [V.ref l, .ref lg])) nq4
          have uu := u47.trans u4
          refine ⟨q4, ⟨M.n, M.ls, M.as, [], M.gs⟩, rfl, ⟨okM.1, okM.2.1, okM.2.2.1, okM.2.2.2.1, okM.2.2.2.2.1, okM.2.2.2.2.2.1, (fun _ z => nomatch z), .nil, okM.2.2.2.2.2.2.2.2.1, okM.2.2.2.2.2.2.2.2.2.1, (show 0 ≤ 100 by decide), okM.2.2.2.2.2.2.2.2.2.2.2⟩, ⟨la, l, lg, ps, upd_same, uu _ _ d2, d3.same uu, d4, u4 _ _ (u3 _ _ hl), uu _ _ d6⟩, Bg4.same uu⟩
        · exact ⟨t1, M, rfl, okM, dM4, Bg4⟩
      clear dM2 Bg2 okM
      rintro σ H2 ⟨t1, M, rfl, okM, dM2, Bg2⟩
      have hM40 := okM.2.2.2.2.2.1
      -- made
      refine ⟨_, rfl, t1, M, rfl, dM2, okM, fun m1 H3 nm1 s3 mA3 => ?_⟩
      refine ⟨(by decide : 0 ≤ sizeLine), fun l0 nl0 => ?_⟩
      have s4 := same_upd (o := .lst []) nl0
      have hl0 : (upd H3 l0 (.lst [])) l0 = some (.lst (aks [])) := upd_same
      have mA4 := mA3.same s4
      have dM4 := (dM2.same s3).same s4
      have Bg4 := (Bg2.same s3).same s4
      generalize upd H3 l0 (.lst []) = H4 at hl0 mA4 dM4 Bg4
      clear s4 s3 nm1 nl0 mA3 dM2 Bg2
      obtain ⟨la, lf, lg, ps, d1, d2, d3, d4, d5, d6⟩ := id dM4
      have hpl : ps.length ≤ 40 := by
        have := congrArg List.length d4
        rw [List.length_map] at this
        omega
      have hokA : ∀ a ∈ (ps.map (·.2)).map keepA, okS a := fun a ha => by
        obtain ⟨y, hy, rfl⟩ := List.mem_map.mp ha
        rw [d4] at hy
        exact ⟨(ok_okS okM y hy).1, (by decide +kernel : PyData.strOk ("keep" : Str) = true)⟩
      -- arrows that keep, each once
      refine ⟨fun σ' H' => ∃ (l : Addr) (rs : List AR) (y6 y7 y8 y9 y10 : Option V), σ' = [some (.ref a), some (.ref g.b), some (.int (0 + (i : Int))), some (.ref t1), some (.ref m1), some (.ref l), y6, y7, y8, y9, y10, y11] ∧ Same H4 H' ∧ H' l = some (.lst (aks rs)) ∧ AkAt H' rs ∧ rs.map (·.2) = onceL (M.as.map keepA), ?_, ?_⟩
      · refine ⟨_, rfl, t1, _, 2, _, rfl, rfl, SqT.of d1, rfl, la, rfl, ⟨_, SqL.of d2⟩, for_list (K := K) (a := la) (xs := rfs ps)
          (fun j σ H' => ∃ (l : Addr) (rs : List AR) (y6 y7 y8 y9 y10 : Option V), σ = [some (.ref a), some (.ref g.b), some (.int (0 + (i : Int))), some (.ref t1), some (.ref m1), some (.ref l), y6, y7, y8, y9, y10, y11] ∧ Same H4 H' ∧ H' l = some (.lst (aks rs)) ∧ AkAt H' rs ∧ rs.map (·.2) = onceL (((ps.map (·.2)).map keepA).take j))
          ⟨l0, [], _, _, _, _, _, rfl, fun _ _ h => h, hl0, (fun _ h => nomatch h), rfl⟩ (fun j σ H' _ ⟨_, _, _, _, _, _, _, _, sm, _⟩ => SqL.of (sm _ _ d2)) (fun j x σ H' hx hI => ?_) (fun σ H' hI => ?_)⟩
        · obtain ⟨l, rs, y6, y7, y8, y9, y10, rfl, sm, hl, hR, hre⟩ := hI
          obtain ⟨p, hp, rfl⟩ := rfs_at hx
          have hpT := sameT sm (d3 p (List.mem_of_getElem? hp))
          have hkj : ((ps.map (·.2)).map keepA)[j]? = some (keepA p.2) := by rw [List.getElem?_map, List.getElem?_map, hp]; rfl
          have hsn : onceL (((ps.map (·.2)).map keepA).take (j + 1)) = onceS (rs.map (·.2)) (keepA p.2) := by
            rw [take_next hkj, onceL_snoc, hre]
          have hrl : rs.length ≤ 40 := by
            have h1 := congrArg List.length hre
            have h2 := onceL_len (((ps.map (·.2)).map keepA).take j)
            rw [List.length_map] at h1
            rw [List.length_take, List.length_map, List.length_map] at h2
            omega
          have hokR : ∀ b ∈ rs.map (·.2), okS b := fun b hb => by
            rw [hre] at hb
            exact hokA b (List.mem_of_mem_take (onceL_mem.mp hb))
          refine ⟨p.1, _, rfl, hpT, rfl, _, _, rfl, _, _, rfl, _, _, rfl, _, _, rfl, rfl, ?_⟩
          refine ⟨_, rfl, _, rfl, _, rfl, (by decide : 4 ≤ sizeLine), fun u nu => ?_⟩
          have s6 := same_upd (o := (.tup [.int p.2.1, .str p.2.2.1, .str "keep", .int p.2.2.2.2])) nu
          have hu : upd H' u (.tup [.int p.2.1, .str p.2.2.1, .str "keep", .int p.2.2.2.2]) u = some (.tup (aV (keepA p.2))) := upd_same
          have hl6 := s6 _ _ hl
          have hR6 := hR.same s6
          have sm6 := sm.trans s6
          generalize upd H' u (.tup [.int p.2.1, .str p.2.2.1, .str "keep", .int p.2.2.2.2]) = H6 at s6 hu hl6 hR6 sm6
          refine ⟨_, rfl, _, rfl, (by decide : 1 ≤ sizeLine), fun p7 np7 => ?_⟩
          have s7 := same_upd (o := .lst [.ref u]) np7
          have hp7 : upd H6 p7 (.lst [.ref u]) p7 = some (.lst [.ref u]) := upd_same
          have hl7 := s7 _ _ hl6
          have hR7 := hR6.same s7
          have hu7 := s7 _ _ hu
          have sm7 := sm6.trans s7
          generalize upd H6 p7 (.lst [.ref u]) = H7 at s7 hp7 hl7 hR7 hu7 sm7
          refine ⟨_, rfl, _, rfl, adat (keepA p.2), (rs.map fun p : AR => p.2).map adat, dp_arw (p := (u, keepA p.2)) (SqT.of hu7), .lst (SqL.of hl7) (dpRow hR7.row), shA (hokA _ (List.mem_of_getElem? hkj)), shR hokR, .inr ⟨_, rfl, ?_⟩⟩
          rw [any_adat]
          by_cases hin : keepA p.2 ∈ rs.map (·.2)
          · rw [decide_eq_true hin]
            refine ⟨p7, 0, [.ref u], rfl, rfl, hp7, by decide, by decide, (show 1 * 0 ≤ sizeLine by decide), fun p8 np8 => ?_⟩
            have s8 := same_upd (o := .lst (List.replicate (Int.toNat 0) [V.ref u]).flatten) np8
            refine ⟨l, p8, aks rs, [], rfl, rfl, s8 _ _ hl7, upd_same, ?_, fun p9 np9 => ?_⟩
            · rw [aks_len]
              show rs.length + 0 ≤ sizeLine
              omega
            · have s9 := s8.trans (same_upd (o := .lst (aks rs ++ [])) np9)
              exact ⟨p9, rs, _, _, _, _, _, rfl, sm7.trans s9, by rw [upd_same, List.append_nil], hR7.same s9, by rw [hsn]; unfold onceS; rw [if_pos hin]⟩
          · rw [decide_eq_false hin]
            refine ⟨p7, 1, [.ref u], rfl, rfl, hp7, by decide, by decide, (by decide : 1 ≤ sizeLine), fun p8 np8 => ?_⟩
            have s8 := same_upd (o := .lst (List.replicate (Int.toNat 1) [V.ref u]).flatten) np8
            refine ⟨l, p8, aks rs, [.ref u], rfl, rfl, s8 _ _ hl7, upd_same, ?_, fun p9 np9 => ?_⟩
            · rw [aks_len]
              show rs.length + 1 ≤ sizeLine
              omega
            · have s9 := s8.trans (same_upd (o := .lst (aks rs ++ [.ref u])) np9)
              refine ⟨p9, rs ++ [(u, keepA p.2)], _, _, _, _, _, rfl, sm7.trans s9, by rw [upd_same, aks_app]; rfl, fun p' hp' => ?_, ?_⟩
              · rcases List.mem_append.mp hp' with h | h
                · exact (hR7.same s9) p' h
                · rw [List.mem_singleton.mp h]
                  exact s9 _ _ hu7
              · rw [hsn, List.map_append]
                unfold onceS
                rw [if_neg hin]
                rfl
        · obtain ⟨l, rs, y6, y7, y8, y9, y10, rfl, sm, hl, hR, hre⟩ := hI
          rw [show (rfs ps).length = ((ps.map (·.2)).map keepA).length by rw [List.length_map, List.length_map]; exact List.length_map .., List.take_length, d4] at hre
          exact ⟨l, rs, _, _, _, _, _, rfl, sm, hl, hR, hre⟩
      rintro σ H5 ⟨l, rs, z6, z7, z8, z9, z10, rfl, s5, hl5, hR5, hre⟩
      have mA5 := mA4.same s5
      have dM5 := dM4.same s5
      have Bg5 := Bg4.same s5
      clear mA4 dM4 Bg4 hl0 d1 d2 d3 d5 d6 d4 hpl hokA
      obtain ⟨la, lf, lg, ps, d1, d2, d3, d4, d5, d6⟩ := id dM5
      -- bare
      refine ⟨_, rfl, m1, M.srt, rfl, mA5, srt_ok okM, fun m2 H6 nm2 s6 mB6 => ?_⟩
      rw [bare_srt] at mB6
      refine ⟨m2, _, rfl, mB6, fun u1 H7 s7 du7 => ?_⟩
      have s57 := s6.trans s7
      have d17 := s57 _ _ d1
      refine ⟨_, rfl, t1, _, 0, _, rfl, rfl, SqT.of d17, rfl, _, rfl, t1, _, 1, _, rfl, rfl, SqT.of d17, rfl, _, rfl, _, rfl, t1, _, 3, _, rfl, rfl, SqT.of d17, rfl, _, rfl, t1, _, 4, _, rfl, rfl, SqT.of d17, rfl, ?_⟩
      refine ⟨(by decide : 5 ≤ sizeLine), fun tp ntp => ?_⟩
      have s8 := same_upd (o := .tup [.int M.n, .str (Sx M.ls), .ref l, .ref lf, .ref lg]) ntp
      have h8 : (upd H7 tp (.tup [.int M.n, .str (Sx M.ls), .ref l, .ref lf, .ref lg])) tp = some (.tup [.int M.n, .str (Sx M.ls), .ref l, .ref lf, .ref lg]) := upd_same
      generalize upd H7 tp (.tup [.int M.n, .str (Sx M.ls), .ref l, .ref lf, .ref lg]) = H8 at s8 h8
      have s58 := s57.trans s8
      have dB8 : DrawnAt K H8 tp (bareM M) := ⟨l, lf, lg, rs, h8, s58 _ _ hl5, (hR5.same s58).row, hre, s58 _ _ d5, s58 _ _ d6⟩
      refine ⟨tp, bareM M, rfl, dB8, fun u2 H9 s9 du9 => ?_⟩
      have okB := bareM_ok okM
      refine ⟨_, _, ddat (bareM M).srt, rfl, dp_drawn ((du7.same s8).same s9), dp_drawn du9, lvl_ddat ?_ ?_ ?_, fun H10 s10 => ⟨_, rfl, iteF ?_⟩⟩
      · show (sortA (bareM M).as).length ≤ 1000
        rw [(pA _).length_eq]
        have := okB.2.2.2.2.2.1
        omega
      · show (sortI M.fs).length ≤ 1000
        rw [(pI _).length_eq]
        have := okM.2.2.2.2.2.2.2.2.2.2.1
        omega
      · show (sortI M.gs).length ≤ 1000
        rw [(pI _).length_eq]
        have := okM.2.2.2.2.2.2.2.2.2.2.2
        omega
      have s510 := s58.trans (s9.trans s10)
      have mA10 := mA5.same s510
      have dM10 := dM5.same s510
      have Bg10 := Bg5.same s510
      clear s510 s58 s57 s6 s7 s8 s9 s10 mB6 du7 du9 dB8 h8 d17 mA5 dM5 Bg5 d1 d2 d3 d4 d5 d6 hl5 hR5 hre nm2 ntp
      -- trimmed
      refine ⟨_, rfl, m1, M.srt, rfl, mA10, srt_ok okM, fun m3 p H11 nm3 s11 hp mT11 => ?_⟩
      have okT := trim_ok (srt_ok okM) p
      have mA11 := mA10.same s11
      have dM11 := dM10.same s11
      have Bg11 := Bg10.same s11
      have hp' := left_srt.mp hp
      refine ⟨_, rfl, m3, _, rfl, mT11, fun u1 H12 s12 du12 => ?_⟩
      refine ⟨_, rfl, t1, M, rfl, dM11.same s12, okM, fun tl p2 H13 s13 hp2 dL13 => ?_⟩
      rw [left_eq hp2 hp'] at dL13
      refine ⟨tl, _, rfl, dL13, fun u2 H14 s14 du14 => ?_⟩
      have hlv := left_lvl okM ((roomL M.n).filter p)
      have e1 : (trimM M.srt ((roomL M.srt.n).filter p)).srt = (leftD M ((roomL M.n).filter p)).srt := trim_srt okM _
      have du13 := (du12.same s13).same s14
      rw [e1] at du13
      refine ⟨_, _, ddat (leftD M ((roomL M.n).filter p)).srt, rfl, dp_drawn du13, dp_drawn du14, lvl_ddat ?_ ?_ ?_, fun H15 s15 => ⟨_, rfl, iteF ?_⟩⟩
      · show (sortA (leftD M ((roomL M.n).filter p)).as).length ≤ 1000
        rw [(pA _).length_eq]
        omega
      · show (sortI (leftD M ((roomL M.n).filter p)).fs).length ≤ 1000
        rw [(pI _).length_eq]
        omega
      · show (sortI (leftD M ((roomL M.n).filter p)).gs).length ≤ 1000
        rw [(pI _).length_eq]
        omega
      have s1115 := s12.trans (s13.trans (s14.trans s15))
      have mT15 := mT11.same s1115
      refine ⟨_, rfl, m3, _, rfl, mT15, srt_ok okT, fun m4 q4 H16 nm4 s16 hq4 mU16 => ?_⟩
      rw [trim_twice (srt_ok okM) hp rfl hq4] at mU16
      have mT16 := mT15.same s16
      obtain ⟨dh, ta, tf, tg, Dh, qs, hh, _⟩ := id mU16
      obtain ⟨dt, ta2, tf2, tg2, Dt, qs2, ht, _⟩ := id mT16
      have nf : PySem.W.notFirst K C (.ref C) = true := by
        unfold PySem.W.notFirst
        simp
      refine ⟨_, rfl, m4, dh, _, .ref C, rfl, hh, .base (TyOf.ins ht IC.cl IC.ha IC.hn IC.htk IC.hm), nf, m4, .ref m3, _, rfl, mU16, ok_okS' okT, .inl ⟨m3, _, rfl, mT16, ok_okS' okT, _, rfl, ?_⟩⟩
      rw [eqM_refl]
      refine ⟨_, rfl, iteF ?_⟩
      have s1116 := s1115.trans s16
      have mA16 := mA11.same s1116
      have dM16 := dM11.same s1116
      have Bg16 := Bg11.same s1116
      -- it stays
      refine ⟨_, rfl, m1, _, rfl, mA16, fun u3 H17 s17 d17 => ?_⟩
      refine ⟨_, rfl, t1, M, rfl, dM16.same s17, fun u4 H18 s18 d18 => ?_⟩
      have sh := sh_ddat (ok_okS' okM) okM.2.2.1
      refine ⟨ddat M.srt, ddat M.srt, dp_drawn (d17.same s18), dp_drawn d18, sh, sh, _, rfl, ?_⟩
      rw [eqv_ddat, eqM_refl]
      exact iteF ⟨_, _, _, _, _, _, _, _, _, _, rfl, (Bg16.same s17).same s18⟩
    · rintro σ H2 ⟨y2, y3, y4, y5, y6, y7, y8, y9, y10, y11, rfl, Bg2⟩
      exact q H2
end
end Onp
set_option maxHeartbeats 8000000
namespace Onp
open PySem PySem.Spec PyProof.Rows L2 HotX L2H LamX
theorem all_mk {l : PySem.W.OpenLaw} {w : World} {K : PySem.W.Frag} {h : Heap} {mg : Str → Option Value} {fa : Addr} (X : K.In h) (G : h.Ns mainGlobals mg) (hfa : mg "law" = some (.ref fa)) (c : He.SaysX fas fns [] tfs exK w h K) :
    LamX.LawAtS l w K CX0 9 63 "_law_script" mg fa h := by
  have cd := c.t.d
  obtain ⟨fdB, DB⟩ := cd.def_ 0 (d := d_B) rfl
  have FB : Fun K "_law_bag" "_law_bag" sBag (He.ga K "_law_bag") fdB := fun_of (kws := []) DB
  have bB := FB.binds (ps := ["_law_script"]) fun _ _ _ _ _ _ us hl => match us, hl with | [_], _ => rfl
  have NB := He.glo_ok X G (cd.fact 0 (f := .glo "_law_bag") rfl)
  obtain ⟨fdPu, DPu⟩ := cd.def_ 1 (d := d_Pu) rfl
  have FPu : Fun K "_law_pull" "_law_pull" sPull (He.ga K "_law_pull") fdPu := fun_of (kws := []) DPu
  have bPu := FPu.binds (ps := ["_law_bag_here", "_law_many"]) fun _ _ _ _ _ _ us hl => match us, hl with | [_, _], _ => rfl
  have NPu := He.glo_ok X G (cd.fact 1 (f := .glo "_law_pull") rfl)
  obtain ⟨fdO, DO⟩ := cd.def_ 2 (d := d_O) rfl
  have FO : Fun K "_law_of" "_law_of" sOf (He.ga K "_law_of") fdO := fun_of (kws := []) DO
  have bO := FO.binds (ps := ["_law_bag_here", "_law_some"]) fun _ _ _ _ _ _ us hl => match us, hl with | [_, _], _ => rfl
  have NO := He.glo_ok X G (cd.fact 2 (f := .glo "_law_of") rfl)
  obtain ⟨fdSm, DSm⟩ := cd.def_ 3 (d := d_Sm) rfl
  have FSm : Fun K "_law_same" "_law_same" sSame (He.ga K "_law_same") fdSm := fun_of (kws := []) DSm
  have bSm := FSm.binds (ps := ["_law_found", "_law_due"]) fun _ _ _ _ _ _ us hl => match us, hl with | [_, _], _ => rfl
  have NSm := He.glo_ok X G (cd.fact 3 (f := .glo "_law_same") rfl)
  obtain ⟨fdDe, DDe⟩ := cd.def_ 4 (d := d_De) rfl
  have FDe : Fun K "_law_deed" "_law_deed" sDeed (He.ga K "_law_deed") fdDe := fun_of (kws := []) DDe
  have bDe := FDe.binds (ps := ["_law_bag_here"]) fun _ _ _ _ _ _ us hl => match us, hl with | [_], _ => rfl
  have NDe := He.glo_ok X G (cd.fact 4 (f := .glo "_law_deed") rfl)
  obtain ⟨fdLe, DLe⟩ := cd.def_ 5 (d := d_Le) rfl
  have FLe : Fun K "_law_letters" "_law_letters" sLett (He.ga K "_law_letters") fdLe := fun_of (kws := []) DLe
  have bLe := FLe.binds (ps := ["_law_bag_here", "_law_most"]) fun _ _ _ _ _ _ us hl => match us, hl with | [_, _], _ => rfl
  have NLe := He.glo_ok X G (cd.fact 5 (f := .glo "_law_letters") rfl)
  obtain ⟨fdRo, DRo⟩ := cd.def_ 6 (d := d_Ro) rfl
  have FRo : Fun K "_law_rooms_some" "_law_rooms_some" sRooms (He.ga K "_law_rooms_some") fdRo := fun_of (kws := []) DRo
  have bRo := FRo.binds (ps := ["_law_bag_here", "_law_rooms"]) fun _ _ _ _ _ _ us hl => match us, hl with | [_, _], _ => rfl
  have NRo := He.glo_ok X G (cd.fact 6 (f := .glo "_law_rooms_some") rfl)
  obtain ⟨fdAr, DAr⟩ := cd.def_ 7 (d := d_Ar) rfl
  have FAr : Fun K "_law_arrow" "_law_arrow" sArrow (He.ga K "_law_arrow") fdAr := fun_of (kws := []) DAr
  have bAr := FAr.binds (ps := ["_law_bag_here", "_law_rooms", "_law_letters_here"]) fun _ _ _ _ _ _ us hl => match us, hl with | [_, _, _], _ => rfl
  have NAr := He.glo_ok X G (cd.fact 7 (f := .glo "_law_arrow") rfl)
  obtain ⟨fdDr, DDr⟩ := cd.def_ 8 (d := d_Dr) rfl
  have FDr : Fun K "_law_drawn" "_law_drawn" sDrawn (He.ga K "_law_drawn") fdDr := fun_of (kws := []) DDr
  have bDr := FDr.binds (ps := ["_law_bag_here", "_law_rooms_most", "_law_letters_most", "_law_arrows_most"]) fun _ _ _ _ _ _ us hl => match us, hl with | [_, _, _, _], _ => rfl
  have NDr := He.glo_ok X G (cd.fact 8 (f := .glo "_law_drawn") rfl)
  obtain ⟨fdFu, DFu⟩ := cd.def_ 9 (d := d_Fu) rfl
  have FFu : Fun K "_law_full_one" "_law_full_one" sFull (He.ga K "_law_full_one") fdFu := fun_of (kws := []) DFu
  have bFu := FFu.binds (ps := ["_law_bag_here", "_law_rooms_most", "_law_letters_most"]) fun _ _ _ _ _ _ us hl => match us, hl with | [_, _, _], _ => rfl
  have NFu := He.glo_ok X G (cd.fact 9 (f := .glo "_law_full_one") rfl)
  obtain ⟨fdKw, DKw⟩ := cd.def_ 10 (d := d_Kw) rfl
  have FKw : Fun K "_law_known" "_law_known" sKnown (He.ga K "_law_known") fdKw := fun_of (kws := []) DKw
  have bKw := FKw.binds (ps := ["_law_bag_here"]) fun _ _ _ _ _ _ us hl => match us, hl with | [_], _ => rfl
  have NKw := He.glo_ok X G (cd.fact 10 (f := .glo "_law_known") rfl)
  obtain ⟨fdMl, DMl⟩ := cd.def_ 11 (d := d_Ml) rfl
  have FMl : Fun K "_law_machine" "_law_machine" sMachL (He.ga K "_law_machine") fdMl := fun_of (kws := []) DMl
  have bMl := FMl.binds (ps := ["_law_bag_here"]) fun _ _ _ _ _ _ us hl => match us, hl with | [_], _ => rfl
  have NMl := He.glo_ok X G (cd.fact 11 (f := .glo "_law_machine") rfl)
  obtain ⟨fdMd, DMd⟩ := cd.def_ 12 (d := d_Md) rfl
  have FMd : Fun K "_law_made" "_law_made" sMade (He.ga K "_law_made") fdMd := fun_of (kws := []) DMd
  have bMd := FMd.binds (ps := ["_law_m"]) fun _ _ _ _ _ _ us hl => match us, hl with | [_], _ => rfl
  have NMd := He.glo_ok X G (cd.fact 12 (f := .glo "_law_made") rfl)
  obtain ⟨fdTe, DTe⟩ := cd.def_ 13 (d := d_Te) rfl
  have FTe : Fun K "_law_tells" "_law_tells" sLTells (He.ga K "_law_tells") fdTe := fun_of (kws := []) DTe
  have bTe := FTe.binds (ps := ["_law_made_here"]) fun _ _ _ _ _ _ us hl => match us, hl with | [_], _ => rfl
  have NTe := He.glo_ok X G (cd.fact 13 (f := .glo "_law_tells") rfl)
  obtain ⟨fdSo, DSo⟩ := cd.def_ 14 (d := d_So) rfl
  have FSo : Fun K "_law_sorted" "_law_sorted" sSortd (He.ga K "_law_sorted") fdSo := fun_of (kws := []) DSo
  have bSo := FSo.binds (ps := ["_law_m"]) fun _ _ _ _ _ _ us hl => match us, hl with | [_], _ => rfl
  have NSo := He.glo_ok X G (cd.fact 14 (f := .glo "_law_sorted") rfl)
  obtain ⟨fdSp, DSp⟩ := cd.def_ 15 (d := d_Sp) rfl
  have FSp : Fun K "_law_spread" "_law_spread" sSprd (He.ga K "_law_spread") fdSp := fun_of (kws := []) DSp
  have bSp := FSp.binds (ps := ["_law_begins", "_law_arrows"]) fun _ _ _ _ _ _ us hl => match us, hl with | [_, _], _ => rfl
  have NSp := He.glo_ok X G (cd.fact 15 (f := .glo "_law_spread") rfl)
  obtain ⟨fdLl, DLl⟩ := cd.def_ 16 (d := d_Ll) rfl
  have FLl : Fun K "_law_left" "_law_left" sLLeft (He.ga K "_law_left") fdLl := fun_of (kws := []) DLl
  have bLl := FLl.binds (ps := ["_law_m"]) fun _ _ _ _ _ _ us hl => match us, hl with | [_], _ => rfl
  have NLl := He.glo_ok X G (cd.fact 16 (f := .glo "_law_left") rfl)
  obtain ⟨fdAl, DAl⟩ := cd.def_ 17 (d := d_Al) rfl
  have FAl : Fun K "are_letters" "are_letters" sAreL (He.ga K "are_letters") fdAl := fun_of (kws := []) DAl
  have bAl := FAl.binds (ps := ["text"]) fun _ _ _ _ _ _ us hl => match us, hl with | [_], _ => rfl
  have NAl := He.glo_ok X G (cd.fact 17 (f := .glo "are_letters") rfl)
  obtain ⟨fdIl, DIl⟩ := cd.def_ 18 (d := d_Il) rfl
  have FIl : Fun K "is_letter" "is_letter" sIsL (He.ga K "is_letter") fdIl := fun_of (kws := []) DIl
  have bIl := FIl.binds (ps := ["text", "letters"]) fun _ _ _ _ _ _ us hl => match us, hl with | [_, _], _ => rfl
  have NIl := He.glo_ok X G (cd.fact 18 (f := .glo "is_letter") rfl)
  obtain ⟨fdIa, DIa⟩ := cd.def_ 19 (d := d_Ia) rfl
  have FIa : Fun K "is_arrow" "is_arrow" sIsA (He.ga K "is_arrow") fdIa := fun_of (kws := []) DIa
  have bIa := FIa.binds (ps := ["arrow", "rooms", "letters"]) fun _ _ _ _ _ _ us hl => match us, hl with | [_, _, _], _ => rfl
  have NIa := He.glo_ok X G (cd.fact 19 (f := .glo "is_arrow") rfl)
  obtain ⟨fdNa, DNa⟩ := cd.def_ 20 (d := d_Na) rfl
  have FNa : Fun K "need_arrows" "need_arrows" sNeedA (He.ga K "need_arrows") fdNa := fun_of (kws := []) DNa
  have bNa := FNa.binds (ps := ["arrows", "rooms", "letters"]) fun _ _ _ _ _ _ us hl => match us, hl with | [_, _, _], _ => rfl
  have NNa := He.glo_ok X G (cd.fact 20 (f := .glo "need_arrows") rfl)
  obtain ⟨fdNr, DNr⟩ := cd.def_ 21 (d := d_Nr) rfl
  have FNr : Fun K "need_rooms" "need_rooms" sNeedR (He.ga K "need_rooms") fdNr := fun_of (kws := []) DNr
  have bNr := FNr.binds (ps := ["some", "rooms"]) fun _ _ _ _ _ _ us hl => match us, hl with | [_, _], _ => rfl
  have NNr := He.glo_ok X G (cd.fact 21 (f := .glo "need_rooms") rfl)
  obtain ⟨fdSb, DSb⟩ := cd.def_ 22 (d := d_Sb) rfl
  have FSb : Fun K "steps_by_start" "steps_by_start" sStepsB (He.ga K "steps_by_start") fdSb := fun_of (kws := []) DSb
  have bSb := FSb.binds (ps := ["arrows"]) fun _ _ _ _ _ _ us hl => match us, hl with | [_], _ => rfl
  have NSb := He.glo_ok X G (cd.fact 22 (f := .glo "steps_by_start") rfl)
  obtain ⟨fdMp, DMp⟩ := cd.def_ 23 (d := d_Mp) rfl
  have FMp : Fun K "made" "made" sMadeP (He.ga K "made") fdMp := fun_of (kws := []) DMp
  have bMp := FMp.binds (ps := ["rooms", "letters", "arrows", "firsts", "lasts"]) fun _ _ _ _ _ _ us hl => match us, hl with | [_, _, _, _, _], _ => rfl
  have NMp := He.glo_ok X G (cd.fact 23 (f := .glo "made") rfl)
  obtain ⟨fdOn, DOn⟩ := cd.def_ 24 (d := d_On) rfl
  have FOn : Fun K "once_each" "once_each" sOnce (He.ga K "once_each") fdOn := fun_of (kws := []) DOn
  have bOn := FOn.binds (ps := ["things"]) fun _ _ _ _ _ _ us hl => match us, hl with | [_], _ => rfl
  have NOn := He.glo_ok X G (cd.fact 24 (f := .glo "once_each") rfl)
  obtain ⟨fdWk, DWk⟩ := cd.def_ 25 (d := d_Wk) rfl
  have FWk : Fun K "with_keep" "with_keep" sWithK (He.ga K "with_keep") fdWk := fun_of (kws := []) DWk
  have bWk := FWk.binds (ps := ["machine"]) fun _ _ _ _ _ _ us hl => match us, hl with | [_], _ => rfl
  have NWk := He.glo_ok X G (cd.fact 25 (f := .glo "with_keep") rfl)
  obtain ⟨fdCo, DCo⟩ := cd.def_ 26 (d := d_Co) rfl
  have FCo : Fun K "come_to" "come_to" sCome (He.ga K "come_to") fdCo := fun_of (kws := []) DCo
  have bCo := FCo.binds (ps := ["starts", "arrows"]) fun _ _ _ _ _ _ us hl => match us, hl with | [_, _], _ => rfl
  have NCo := He.glo_ok X G (cd.fact 26 (f := .glo "come_to") rfl)
  obtain ⟨fdNu, DNu⟩ := cd.def_ 27 (d := d_Nu) rfl
  have FNu : Fun K "numbered" "numbered" sNumd (He.ga K "numbered") fdNu := fun_of (kws := []) DNu
  have bNu := FNu.binds (ps := ["rooms", "letters", "arrows", "firsts", "lasts"]) fun _ _ _ _ _ _ us hl => match us, hl with | [_, _, _, _, _], _ => rfl
  have NNu := He.glo_ok X G (cd.fact 27 (f := .glo "numbered") rfl)
  obtain ⟨fdTa, DTa⟩ := cd.def_ 28 (d := d_Ta) rfl
  have FTa : Fun K "turned_arrows" "turned_arrows" sTurnA (He.ga K "turned_arrows") fdTa := fun_of (kws := []) DTa
  have bTa := FTa.binds (ps := ["machine"]) fun _ _ _ _ _ _ us hl => match us, hl with | [_], _ => rfl
  have NTa := He.glo_ok X G (cd.fact 28 (f := .glo "turned_arrows") rfl)
  obtain ⟨fdBa, DBa⟩ := cd.def_ 29 (d := d_Ba) rfl
  have FBa : Fun K "bare" "bare" sBare (He.ga K "bare") fdBa := fun_of (kws := []) DBa
  have bBa := FBa.binds (ps := ["machine"]) fun _ _ _ _ _ _ us hl => match us, hl with | [_], _ => rfl
  have NBa := He.glo_ok X G (cd.fact 29 (f := .glo "bare") rfl)
  obtain ⟨fdTr, DTr⟩ := cd.def_ 30 (d := d_Tr) rfl
  have FTr : Fun K "trimmed" "trimmed" sTrim (He.ga K "trimmed") fdTr := fun_of (kws := []) DTr
  have bTr := FTr.binds (ps := ["machine"]) fun _ _ _ _ _ _ us hl => match us, hl with | [_], _ => rfl
  have NTr := He.glo_ok X G (cd.fact 30 (f := .glo "trimmed") rfl)
  obtain ⟨fdL, DL⟩ := cd.def_ 31 (d := d_L) rfl
  have FL : Fun K "law" "law" sLaw (He.ga K "law") fdL := fun_of (kws := []) DL
  have bL := FL.binds (ps := ["_law_script"]) fun _ _ _ _ _ _ us hl => match us, hl with | [_], _ => rfl
  have NL := He.glo_ok X G (cd.fact 31 (f := .glo "law") rfl)
  have y_isinstance := He.free_ok X G (cd.fact 32 (f := .free "isinstance") rfl)
  have y_list := He.free_ok X G (cd.fact 33 (f := .free "list") rfl)
  have y_tuple := He.free_ok X G (cd.fact 34 (f := .free "tuple") rfl)
  have y_bool := He.free_ok X G (cd.fact 35 (f := .free "bool") rfl)
  have y_int := He.free_ok X G (cd.fact 36 (f := .free "int") rfl)
  have y_str := He.free_ok X G (cd.fact 37 (f := .free "str") rfl)
  have y_len := He.free_ok X G (cd.fact 38 (f := .free "len") rfl)
  have y_all := He.free_ok X G (cd.fact 39 (f := .free "all") rfl)
  have y_zip := He.free_ok X G (cd.fact 40 (f := .free "zip") rfl)
  have y_set := He.free_ok X G (cd.fact 41 (f := .free "set") rfl)
  have y_sorted := He.free_ok X G (cd.fact 42 (f := .free "sorted") rfl)
  have y_range := He.free_ok X G (cd.fact 43 (f := .free "range") rfl)
  have y_enumerate := He.free_ok X G (cd.fact 44 (f := .free "enumerate") rfl)
  obtain ⟨tk0, gk0⟩ := He.str_ok X G (cd.fact 45 (f := .str "SMALL_LETTERS" "abcdefghijklmnopqrstuvwxyz") rfl)
  obtain ⟨tk1, gk1⟩ := He.int_ok X G (cd.fact 46 (f := .int "MOST_LETTERS" 3) rfl)
  obtain ⟨tk2, gk2⟩ := He.int_ok X G (cd.fact 47 (f := .int "MOST_ROOMS" 8) rfl)
  obtain ⟨tk3, gk3⟩ := He.int_ok X G (cd.fact 48 (f := .int "MOST_ARROWS" 40) rfl)
  have gC := He.glo_ok X G (cd.fact 49 (f := .glo "Machine") rfl)
  have clC := He.cls_ok (cd.fact 50 (f := .cls "Machine") rfl)
  have n1C := He.noat_ok (cd.fact 51 (f := .noat "Machine" "room_count") rfl)
  have n2C := He.noat_ok (cd.fact 52 (f := .noat "Machine" "letter_text") rfl)
  have n3C := He.noat_ok (cd.fact 53 (f := .noat "Machine" "arrow_row") rfl)
  have n4C := He.noat_ok (cd.fact 54 (f := .noat "Machine" "first_row") rfl)
  have n5C := He.noat_ok (cd.fact 55 (f := .noat "Machine" "last_row") rfl)
  have n6C := He.noat_ok (cd.fact 56 (f := .noat "Machine" "step_rows") rfl)
  have mkC := He.mkr_ok (cd.fact 57 (f := .mkr "Machine") rfl)
  obtain ⟨fdI, FI⟩ := cd.def_ 32 (d := d_I) rfl
  have CM : ClsM K (He.ga K "Machine") := ⟨clC, n1C, n2C, n3C, n4C, n5C, n6C⟩
  have TC : MkM K mg (He.ga K "Machine") fdI (He.ma K (He.ga K "Machine") "__init__") [.ref (He.dflAt ("Machine", some "__init__") 0 K)] [] := ⟨FI, mkC, gC, CM, (fun z => nomatch z), rfl⟩
  have mRm := He.meth_ok (cd.fact 58 (f := .meth "Machine" "rooms") rfl)
  obtain ⟨fdRm, DRm⟩ := cd.def_ 33 (d := d_Rm) rfl
  have FRm : Fun K "rooms" "Machine.rooms" sMRooms (He.ma K (He.ga K "Machine") "rooms") fdRm := fun_of (kws := []) DRm
  have bRm := FRm.binds (ps := ["self"]) fun _ _ _ _ _ _ us hl => match us, hl with | [_], _ => rfl
  have mLt := He.meth_ok (cd.fact 59 (f := .meth "Machine" "letters") rfl)
  obtain ⟨fdLt, DLt⟩ := cd.def_ 34 (d := d_Lt) rfl
  have FLt : Fun K "letters" "Machine.letters" sMLets (He.ma K (He.ga K "Machine") "letters") fdLt := fun_of (kws := []) DLt
  have bLt := FLt.binds (ps := ["self"]) fun _ _ _ _ _ _ us hl => match us, hl with | [_], _ => rfl
  have mAw := He.meth_ok (cd.fact 60 (f := .meth "Machine" "arrows") rfl)
  obtain ⟨fdAw, DAw⟩ := cd.def_ 35 (d := d_Aw) rfl
  have FAw : Fun K "arrows" "Machine.arrows" sMArrs (He.ma K (He.ga K "Machine") "arrows") fdAw := fun_of (kws := []) DAw
  have bAw := FAw.binds (ps := ["self"]) fun _ _ _ _ _ _ us hl => match us, hl with | [_], _ => rfl
  have mFs := He.meth_ok (cd.fact 61 (f := .meth "Machine" "firsts") rfl)
  obtain ⟨fdFs, DFs⟩ := cd.def_ 36 (d := d_Fs) rfl
  have FFs : Fun K "firsts" "Machine.firsts" sMFsts (He.ma K (He.ga K "Machine") "firsts") fdFs := fun_of (kws := []) DFs
  have bFs := FFs.binds (ps := ["self"]) fun _ _ _ _ _ _ us hl => match us, hl with | [_], _ => rfl
  have mLs := He.meth_ok (cd.fact 62 (f := .meth "Machine" "lasts") rfl)
  obtain ⟨fdLs, DLs⟩ := cd.def_ 37 (d := d_Ls) rfl
  have FLs : Fun K "lasts" "Machine.lasts" sMLsts (He.ma K (He.ga K "Machine") "lasts") fdLs := fun_of (kws := []) DLs
  have bLs := FLs.binds (ps := ["self"]) fun _ _ _ _ _ _ us hl => match us, hl with | [_], _ => rfl
  have mE := He.meth_ok (cd.fact 63 (f := .meth "Machine" "__eq__") rfl)
  obtain ⟨fdE, DE⟩ := cd.def_ 38 (d := d_E) rfl
  have FE : Fun K "__eq__" "Machine.__eq__" sMEq (He.ma K (He.ga K "Machine") "__eq__") fdE := fun_of (kws := []) DE
  have bE := FE.binds (ps := ["self", "other"]) fun _ _ _ _ _ _ us hl => match us, hl with | [_, _], _ => rfl
  have NDEEDS := He.glo_ok X G (cd.fact 64 (f := .glo "DEEDS") rfl)
  have hx := c.more
  obtain ⟨x0, hx⟩ := He.ba hx
  obtain ⟨x1, hx⟩ := He.ba hx
  obtain ⟨x2, hx⟩ := He.ba hx
  obtain ⟨x3, hx⟩ := He.ba hx
  obtain ⟨x4, hx⟩ := He.ba hx
  obtain ⟨x5, hx⟩ := He.ba hx
  obtain ⟨x6, hx⟩ := He.ba hx
  obtain ⟨x7, hx⟩ := He.ba hx
  have x8 := hx
  have SDEEDS : ∀ H, SqT K H (He.ga K "DEEDS") ((["keep", "cent", "fill", "coin", "brim"] : List Str).map V.str) := fun H => He.tupB_ok x1 H
  have hT : ∀ p ∈ tfs.map (He.cT K), h.get? p.2 = some { cls := .none, data := .fields #[] } := fun p hp => by
    obtain ⟨z, hz, rfl⟩ := List.mem_map.mp hp
    exact c.empty z hz
  have hO : ∀ p ∈ tfs.map (He.cT K), K.lookup p.2 = none := fun p hp => by
    obtain ⟨z, hz, rfl⟩ := List.mem_map.mp hp
    exact c.out z hz
  have hC : ∀ p ∈ tfs.map (He.cT K), PySem.W.CodeHd h p.1 p.2 := fun p hp => by
    obtain ⟨z, hz, rfl⟩ := List.mem_map.mp hp
    exact PySem.W.codeHd_of_K X (c.hd z hz)
  have e := hfa.symm.trans NL
  cases e
  obtain ⟨oc_, od_, kV_, doc_, pm_, an_, cdv_, ct_, osl_, rfl, lk_, hcd_⟩ := id FL.ex
  have Cs : CsM K mg (He.ga K "DEEDS") := ⟨⟨_, gk0⟩, ⟨_, gk1⟩, ⟨_, gk2⟩, ⟨_, gk3⟩, NDEEDS, SDEEDS⟩
  have IC : InsM K (He.ga K "Machine") := ⟨clC, He.eqO_ok x2, of_decide_eq_true x6, of_decide_eq_true x7, of_decide_eq_true x3, of_decide_eq_true x4⟩
  have OE : OwnE K (He.ga K "Machine") _ := ⟨mE.at_, mE.fn, He.eqO_ok x5, of_decide_eq_true x3⟩
  refine ⟨_, [], spLaw K, (fun _ z => nomatch z), (fun _ z => nomatch z), (fun _ z => nomatch z), fun s v => .of_eq rfl, fun H a ns hl hb hH hS => ⟨a, ns, rfl, hS, fun _ => rfl⟩, fun base KB GB TB =>
    ok_law FL ⟨FB, bB, NB⟩ ⟨FPu, bPu, NPu⟩ ⟨FO, bO, NO⟩ ⟨FSm, bSm, NSm⟩ ⟨FDe, bDe, NDe⟩ ⟨FLe, bLe, NLe⟩ ⟨FRo, bRo, NRo⟩ ⟨FAr, bAr, NAr⟩ ⟨FDr, bDr, NDr⟩ ⟨FFu, bFu, NFu⟩ ⟨FKw, bKw, NKw⟩ ⟨FMl, bMl, NMl⟩ ⟨FMd, bMd, NMd⟩ ⟨FTe, bTe, NTe⟩ ⟨FSo, bSo, NSo⟩ ⟨FSp, bSp, NSp⟩ ⟨FLl, bLl, NLl⟩ ⟨FAl, bAl, NAl⟩ ⟨FIl, bIl, NIl⟩ ⟨FIa, bIa, NIa⟩ ⟨FNa, bNa, NNa⟩ ⟨FNr, bNr, NNr⟩ ⟨FSb, bSb, NSb⟩ ⟨FMp, bMp, NMp⟩ ⟨FOn, bOn, NOn⟩ ⟨FWk, bWk, NWk⟩ ⟨FCo, bCo, NCo⟩ ⟨FNu, bNu, NNu⟩ ⟨FTa, bTa, NTa⟩ ⟨FBa, bBa, NBa⟩ ⟨FTr, bTr, NTr⟩
      TC FRm bRm mRm FLt bLt mLt FAw bAw mAw FFs bFs mFs FLs bLs mLs
      IC FE bE OE (dflE_ok x8) Cs ⟨y_isinstance, y_list, y_tuple, y_bool, y_int, y_str, y_len, y_all, y_zip⟩ ⟨y_all, y_zip, y_len, y_set⟩ ⟨y_tuple, y_sorted⟩ y_range y_enumerate⟩
end Onp
open PySem PySem.W PySem.Calls PyProof.Rows
set_option maxRecDepth 100000 in
set_option maxHeartbeats 0 in
theorem PySem.Challenge.cw_onepurse_k35_bare_and_trimmed_holds : PySem.Challenge.rw_onepurse_k35_bare_and_trimmed.Holds := by
  w_on; o_law
  refine HandSHeadRun.head_any (r := OpenLaw.row PySem.Challenge.rw_onepurse_k35_bare_and_trimmed) (q := view (OpenLaw.row PySem.Challenge.rw_onepurse_k35_bare_and_trimmed).prog [48]) (H := Onp.hk) (ob := Onp.ob) (M := 9500) (loose := Onp.loose) (d := HandSHeadRun.topDef (OpenLaw.row PySem.Challenge.rw_onepurse_k35_bare_and_trimmed).prog 48) (kwd := []) Onp.ob_eq
    (by kernel_rfl) (fun s => by kernel_rfl) Onp.run (by kernel_rfl) (by kernel_rfl) (by kernel_rfl) (by rfl) (by first | assumption | decide +kernel) (by decide +kernel) ⟨rfl, rfl, rfl, rfl, rfl, by decide +kernel⟩ ?hw ?hc
  case hw => w_witness2
  case hc =>
    refine LamX.walk_ofTsE (l := PySem.Challenge.rw_onepurse_k35_bare_and_trimmed) (n := 63) (k := 9) (x := "_law_script") (CX := fun _ => L2.CX0) rfl (by decide) (by kernel_rfl) ⟨rfl, by decide, by decide⟩ ?F (fun _ _ _ _ _ h => h)
    intro w mg fa h Y G hmg0
    obtain ⟨K, KX, c⟩ := Y
    have en : (HandSHeadRun.topDef (OpenLaw.row PySem.Challenge.rw_onepurse_k35_bare_and_trimmed).prog 48).name = ("law" : PySem.Str) := by kernel_rfl
    rw [en] at hmg0
    exact ⟨K, KX, Onp.all_mk KX G hmg0 c⟩
