import PyProof.Rows.All
import Wide.All
import OpenK.AllK
import Wide.FinOn
import PyProof.MaxThree
import HandS.Base
import HandS.Call
import HandS.List
import HandS.Comp
import HandS.Ends
import HandS.Iter
import HandS.Text
import HandS.Words
import HandS.Wide
import HandS.Codes
import HandS.Strs
import PyProof.ZipIter
import HandS.Exc
import HandS.Hot
import HandS.HotCalls
import KE.KTurns
import HandS.ExcOwn
import HandS.ExcCtx
import HandS.ExcInit
import HandS.ExcIs
import HandS.ExcField
import KE.KExcIs
import HandS.Lambda
import HandS.CallSlots
import HandS.ForMost
import KE.KExcInit
import PyProof.ExcBaseAll.LookupError
import PyProof.ExcBaseAll.IndexError
import HandS.Head0
import HandS.Head1
import HandS.Head2
import HandS.HeadHook1
import HandS.HeadHook2
import HandS.HeadHook3
import HandS.HeadHook4
import KE.KStateDown
import HandS.Defaults
import HandS.HeadEnd
import HandS.HeadWalk
import KE.KNestM
import Wide.Once
import HandS.IsInst
import HandS.Zip
import PyProof.StrOps2
import PyProof.ListStr
import KE.GoesEnum
import HandS.Walk
import HandS.TupSets
import HandS.Dict
import HandS.SetKeys
import KE.SortData
import PyProof.ListCopy
import HandS.SortInts
import PyProof.DictMoreH
import HandS.Deep
import HandS.Style
import KE.KDflt
import HandS.Steps
import HandS.More
import KE.GoesMore
import HandS.Flow
import PySem.Challenge.RW_onepurse_k43_tolls_read
set_option Elab.async false
set_option linter.all false
set_option maxRecDepth 100000
/-! rules of my own: o[i] read by values (for o[i] += e), max of three ints, max of a tuple of ints -/
namespace Onp
open PySem PySem.Spec PyProof.Rows L2
section
variable {X : Cx}
def rGetL (K : PySem.W.Frag) : V → V → Hp → VK → Prop := fun x y H Q => ∃ p xs, ∃ (j : Nat), ∃ v, x = .ref p ∧ y = .int (j : Int) ∧ SqL K H p xs ∧ xs[j]? = some v ∧ Q v H
theorem get_list : PGet X (rGetL X.K) := by
  intro pins s σ H o i ov iv Q I ro ri h
  obtain ⟨p, xs, j, v, rfl, rfl, hq, hx, q⟩ := h
  cases ro
  obtain ⟨t, rfl⟩ := ri
  obtain ⟨its, r, pl, hz⟩ := I.list hq
  obtain ⟨w, ew, rw'⟩ := r.get hx
  have hl := r.length
  have hn := line63
  have hj : j < xs.length := (List.getElem?_eq_some_iff.mp hx).1
  exact wpAny_getItem_list pl.isList (by omega) (by omega) (by simpa using ew) ⟨v, H, I, rw', q⟩
theorem vals3 {x y z : V} {us : List Value} (r : Vals [x, y, z] us) : ∃ u w' v', us = [u, w', v'] ∧ RelV x u ∧ RelV y w' ∧ RelV z v' := by
  cases r with
  | cons r1 r2 =>
    cases r2 with
    | cons r3 r4 =>
      cases r4 with
      | cons r5 r6 =>
        cases r6
        exact ⟨_, _, _, rfl, r1, r3, r5⟩
theorem call_max3 (hc : X.calm = true) : CallR X (.builtin "max") (fun xs H Q => ∃ i j k : Int, xs = [.int i, .int j, .int k] ∧ Q (.int (max (max i j) k)) H) := by
  intro pins s σ H xs us Q I r h
  obtain ⟨i, j, k, rfl, q⟩ := h
  obtain ⟨u, w', v', rfl, ⟨t, rfl⟩, ⟨t', rfl⟩, ⟨t'', rfl⟩⟩ := vals3 r
  refine max_three_ints (I.ok.hd hc) fun h' tk k' => ⟨_, H, I.kept k', ?_, q⟩
  by_cases h1 : j > i
  · rw [if_pos h1]
    by_cases h2 : k > j
    · rw [if_pos h2]
      exact ⟨_, by rw [show max (max i j) k = k by omega]⟩
    · rw [if_neg h2]
      exact ⟨_, by rw [show max (max i j) k = j by omega]⟩
  · rw [if_neg h1]
    by_cases h2 : k > i
    · rw [if_pos h2]
      exact ⟨_, by rw [show max (max i j) k = k by omega]⟩
    · rw [if_neg h2]
      exact ⟨_, by rw [show max (max i j) k = i by omega]⟩
/-- max(t) of a tuple of ints -/
theorem max_tupRaw {prog : Program} {w : World} {A : Around} {E : Value → Shared → Prop} {s : Shared} {l : Addr} {xs : Array (Int × Tok)} {Q : Value → Shared → Prop} (hh : A.handled = none) (hl : s.heap.IsTuple l (intItems xs)) (hne : 0 < xs.size)
    (h : ∀ v h' tk, (intItems xs)[argBest (fun i j => decide (numAt xs i > numAt xs j)) (xs.size - 1)]? = some v → (∀ b o, s.heap.get? b = some o → h'.get? b = some o) → Q v { s with heap := h', toks := tk }) :
    wpAny (model prog w) A (call (.builtin "max") [.ref l]) Q E s := by
  have hlt : l < s.heap.objs.size := by obtain ⟨_, e, _⟩ := hl; exact Heap.lt_size e
  refine call_max_walk (wpAny_pyIter_tuple hl ?_)
  refine ⟨_, [s.heap.objs.size, l], [s.heap.objs.size], _, _, _, _, rfl, Walks.tuple (A := A.in1) hh _ l (Nat.ne_of_lt hlt) (intItems xs), ⟨⟨_, Heap.get?_push_size _ rfl, rfl, rfl⟩, hl.push _⟩, fun b hb => ?_, by simpa [intItems] using hne, CmpOf.ints_gt (numAt xs) (fun _ _ => intItems_at), fun v h' tk hP hk => ?_⟩
  · show b < (s.heap.push _).objs.size
    rw [Heap.size_push]
    rcases List.mem_cons.mp hb with rfl | hb
    · exact Nat.lt_succ_self _
    · rcases List.mem_cons.mp hb with rfl | hb
      · exact Nat.lt_succ_of_lt hlt
      · cases hb
  · refine h v h' tk (by simpa [intItems] using hP) fun b o e => ?_
    refine hk b o (fun hm => ?_) (Heap.get?_push_of_some _ e)
    rcases List.mem_cons.mp hm with e1 | hm
    · exact absurd (e1 ▸ Heap.lt_size e) (Nat.lt_irrefl _)
    · cases hm
def rMaxT (K : PySem.W.Frag) : List V → Hp → VK → Prop := fun vs H Q => ∃ (a : Addr) (ns : List Int), vs = [V.ref a] ∧ SqT K H a (ns.map V.int) ∧ 0 < ns.length ∧ ∀ m, m ∈ ns → (∀ y, y ∈ ns → y ≤ m) → Q (.int m) H
theorem cr_maxT (hc : X.calm = true) : CallR X (.builtin "max") (rMaxT X.K) := by
  intro pins s σ H vs us Q I r h
  obtain ⟨a, ns, rfl, hs, hne, q⟩ := h
  obtain ⟨its, rv, ht, _⟩ := I.tuple hs
  rw [Vals.ref1 r]
  have hi := rv.ints
  obtain ⟨xs, e⟩ := hi.allInts.items
  have hn : numsOf (intItems xs).toList = ns := by rw [← e]; exact hi.numsOf
  rw [nums_intItems] at hn
  subst hn
  have hl : s.heap.IsTuple a its.toArray := ht
  rw [e] at hl
  have hsz : 0 < xs.size := by simpa using hne
  refine max_tupRaw (I.ok.hd hc) hl hsz fun v h' tk hv hk => ?_
  obtain ⟨t, rfl⟩ := intItems_at hv
  obtain ⟨h1, h2⟩ := argBest_gt (numAt xs) (xs.size - 1)
  refine ⟨.int _, H, I.kept hk, ⟨_, rfl⟩, q _ ?_ fun a ha => ?_⟩
  · rw [numAt_eq]; exact PySem.getD_mem (by rw [List.length_map, Array.length_toList]; omega)
  · obtain ⟨j, hj, rfl⟩ := mem_getD ha
    rw [List.length_map, Array.length_toList] at hj
    rw [← numAt_eq]; exact h2 j (by omega)
end
end Onp
set_option maxHeartbeats 4000000
namespace Onp
open PySem PySem.Spec PyProof.Rows L2
def topS (i : Nat) : Stmt := PySem.Challenge.pw_onepurse_k43_tolls_read.main.body.getD i (.Pass ⟨0, 0, 0, 0⟩)
abbrev sBag : Stmt := topS 13
abbrev sPull : Stmt := topS 14
abbrev sOf : Stmt := topS 15
/-! ### heaps: all but b stays -/
def Keep (b : Addr) (H H' : Hp) : Prop := ∀ a o, a ≠ b → H a = some o → H' a = some o
theorem Keep.refl {b : Addr} (H : Hp) : Keep b H H := fun _ _ _ h => h
theorem Keep.trans {b : Addr} {H H1 H2 : Hp} (x : Keep b H H1) (y : Keep b H1 H2) : Keep b H H2 := fun a o n h => y a o n (x a o n h)
theorem Keep.of {b : Addr} {H H' : Hp} (s : Same H H') : Keep b H H' := fun a o _ h => s a o h
theorem Keep.upd {b : Addr} {H : Hp} {o : HO} : Keep b H (upd H b o) := fun a x n h => by rw [upd_ne n]; exact h
theorem same_upd {H : Hp} {p : Addr} {o : HO} (h : H p = none) : Same H (upd H p o) := fun b x e => by
  rw [upd_ne (ne_of_none e h)]
  exact e
theorem Keep.new {b p : Addr} {H : Hp} {o : HO} (h : H p = none) : Keep b H (L2.upd H p o) := .of (same_upd h)
theorem Keep.seqL {K : PySem.W.Frag} {b a : Addr} {H H' : Hp} {xs : List V} (k : Keep b H H') (n : a ≠ b) (h : SqL K H a xs) : SqL K H' a xs := by
  rcases h with (h | ⟨o, h⟩) | h
  · exact .inl (.inl (k _ _ n h))
  · exact .inl (.inr ⟨o, k _ _ n h⟩)
  · exact .inr h
theorem Keep.seqT {K : PySem.W.Frag} {b a : Addr} {H H' : Hp} {xs : List V} (k : Keep b H H') (n : a ≠ b) (h : SqT K H a xs) : SqT K H' a xs := by
  rcases h with (h | ⟨o, h⟩) | h
  · exact .inl (.inl (k _ _ n h))
  · exact .inl (.inr ⟨o, k _ _ n h⟩)
  · exact .inr h
theorem same_seqT {K : PySem.W.Frag} {H H' : Hp} {a : Addr} {xs : List V} (e : Same H H') (h : SqT K H a xs) : SqT K H' a xs := by
  rcases h with (h | ⟨o, h⟩) | h
  · exact .inl (.inl (e _ _ h))
  · exact .inl (.inr ⟨o, e _ _ h⟩)
  · exact .inr h
theorem itT {c A B : Prop} [Decidable c] (hc : c) (h : A) : if decide c = true then A else B := by
  rw [if_pos (decide_eq_true hc)]; exact h
theorem itF {c A B : Prop} [Decidable c] (hc : ¬ c) (h : B) : if decide c = true then A else B := by
  rw [if_neg (by rw [decide_eq_false hc]; decide)]; exact h
/-! ### the bag: where it stands, where its list stands, the list -/
structure Bid where
  b : Addr
  l : Addr
  ns : List Int
def bagV (l : Addr) (i : Nat) (r s c : Int) : HO := .lst [.ref l, .int i, .int r, .int s, .int c]
def Bg (H : Hp) (g : Bid) : Prop := ∃ (i : Nat) (r s c : Int), H g.b = some (bagV g.l i r s c) ∧ H g.l = some (.lst (g.ns.map V.int)) ∧ g.l ≠ g.b
theorem Bg.same {H H' : Hp} {g : Bid} (x : Bg H g) (s : Same H H') : Bg H' g := by
  obtain ⟨i, r, z, c, h1, h2, h3⟩ := x
  exact ⟨i, r, z, c, s _ _ h1, s _ _ h2, h3⟩
theorem Bg.new {H : Hp} {g : Bid} {p : Addr} {o : HO} (x : Bg H g) (h : H p = none) : Bg (upd H p o) g := x.same (same_upd h)
theorem Bg.ne {H : Hp} {g : Bid} {p : Addr} (x : Bg H g) (h : H p = none) : p ≠ g.b := by
  obtain ⟨i, r, z, c, h1, h2, h3⟩ := x
  exact (ne_of_none h1 h).symm
theorem Bg.neL {H : Hp} {g : Bid} {p : Addr} (x : Bg H g) (h : H p = none) : p ≠ g.l := by
  obtain ⟨i, r, z, c, h1, h2, h3⟩ := x
  exact (ne_of_none h2 h).symm
theorem Bg.put {H : Hp} {g : Bid} {p : Addr} {o : HO} (x : Bg H g) (h1 : p ≠ g.b) (h2 : p ≠ g.l) : Bg (upd H p o) g := by
  obtain ⟨i, r, z, c, e1, e2, e3⟩ := x
  exact ⟨i, r, z, c, by rw [upd_ne h1.symm]; exact e1, by rw [upd_ne h2.symm]; exact e2, e3⟩
theorem cut63 (xs : List V) : cutV xs none (some 63) = xs.take 63 := by
  unfold cutV
  rw [HT.sIx_none, show HT.sIx xs.length xs.length (some 63) = min 63 xs.length from HT.sIx_nat xs.length xs.length 63]
  rw [List.drop_zero, Nat.sub_zero]
  by_cases h : xs.length ≤ 63
  · rw [List.take_of_length_le h, List.take_of_length_le (by omega)]
  · rw [show min 63 xs.length = 63 by omega]
section
variable {P : Program} {w : World} {K : PySem.W.Frag} {mg : Str → Option Value} {base : Heap}
def spBag (K : PySem.W.Frag) : Sp := fun vs H Q _ => ∃ (a : Addr) (ns : List Int), vs = [.ref a] ∧ SqL K H a (ns.map V.int) ∧
  ∀ (g : Bid) H', H g.b = none → Same H H' → Bg H' g → Q (.ref g.b) H'
theorem scBag : FnScope ["_law_script", "_law_seed", "_law_cell"] ["_law_script"] (defScope sBag) := ⟨rfl, rfl, rfl, by decide +kernel, rfl, by decide +kernel, by decide +kernel⟩
theorem ok_bag {f : Addr} {fd : FuncData} {k : Nat} (F : Fun K "_law_bag" "_law_bag" sBag f fd) (ml : mg "list" = none) : FnOk P w K mg base CX0 (k + 1) f fd ["_law_script"] (spBag K) := by
  refine F.ok scBag (fun vs H Q E h => ?_) (fun cdv A outer s H vs Q E hr h => ?_)
  · obtain ⟨a, ns, rfl, _⟩ := h
    rfl
  · obtain ⟨a, ns, rfl, hS, q⟩ := h
    refine ⟨_, pss_cons (ps_set (i := 1) scBag.nd rfl (.inl rfl) pe_int)
      (pss_cons (ps_for PassesOwn.never rfl (pi_list (pe_slice sl_list (pv 0) po_none (po_some pe_int))) (pg_name (i := 2) scBag.nd rfl (.inl rfl))
        (pss_one (ps_set (i := 1) scBag.nd rfl (.inl rfl) (pe_op op_mod (pe_op op_add (pe_op op_add (pe_op op_mul (pv 1) pe_int) (pv 2)) pe_int) pe_int))))
      (pss_one (ps_ret (pe_lst (pa_cons (pe_callTy call_list_of (by rfl) ml (by decide +kernel) (pa_cons (pe_slice sl_list (pv 0) po_none (po_some pe_int)) pa_nil))
        (pa_cons pe_int (pa_cons pe_int (pa_cons (pv 1) (pa_cons pe_int pa_nil))))))))), ?_⟩
    refine ⟨.ref a, rfl, 63, rfl, a, ns.map V.int, rfl, hS, fun p np => ?_⟩
    have s1 : Same H (upd H p (.lst (cutV (ns.map V.int) none (some 63)))) := same_upd np
    refine ⟨p, rfl, ⟨_, SqL.of upd_same⟩, for_list (K := K) (a := p) (xs := cutV (ns.map V.int) none (some 63))
      (fun i σ H' => ∃ (z : Int) (y : Option V), σ = [some (.ref a), some (.int z), y] ∧ H' = upd H p (.lst (cutV (ns.map V.int) none (some 63))))
      ⟨37, none, rfl, rfl⟩ (fun i σ H' _ ⟨z, y, _, e⟩ => by rw [e]; exact SqL.of upd_same) ?_ ?_⟩
    · rintro i x σ H' hi ⟨z, y, rfl, rfl⟩
      obtain ⟨n, rfl⟩ : ∃ n, x = V.int n := by
        rw [cut63, ← List.map_take, List.getElem?_map] at hi
        cases e : (ns.take 63)[i]? with
        | none => rw [e] at hi; cases hi
        | some u => rw [e] at hi; exact ⟨u, (Option.some.inj hi).symm⟩
      exact ⟨_, rfl, _, _, rfl, rfl, .inr ⟨by decide, by decide⟩, _, rfl, _, _, rfl, rfl, _, _, rfl, rfl, _, _, rfl, rfl, (by show (0 : Int) < 2147483629; decide), _, _, rfl, rfl⟩
    · rintro σ H' ⟨z, y, rfl, rfl⟩
      refine ⟨.ref a, rfl, 63, rfl, a, ns.map V.int, rfl, s1.seq hS, fun p2 np2 => ?_⟩
      refine ⟨p2, _, rfl, .inl (SqL.of upd_same), fun l nl => ?_⟩
      refine ⟨_, rfl, (by show 5 ≤ sizeLine; decide), fun b nb => ?_⟩
      have s2 := s1.trans (same_upd (o := .lst (cutV (ns.map V.int) none (some 63))) np2)
      have s3 := s2.trans (same_upd (o := .lst (cutV (ns.map V.int) none (some 63))) nl)
      have s4 := s3.trans (same_upd (o := .lst [.ref l, .int 0, .int 0, .int z, .int 0]) nb)
      refine q ⟨b, l, ns.take 63⟩ _ (s3.free nb) s4 ⟨0, 0, z, 0, upd_same, ?_, ?_⟩
      · show upd _ b _ l = _
        rw [upd_ne (ne_of_none upd_same nb), upd_same, cut63, List.map_take]
      · exact ne_of_none upd_same nb
/-! ### pull -/
def spPull (K : PySem.W.Frag) : Sp := fun vs H Q _ => ∃ (g : Bid) (m : Int), vs = [.ref g.b, .int m] ∧ 0 < m ∧ m.natAbs < 2 ^ 200 ∧ Bg H g ∧
  ∀ (z : Int) H', 0 ≤ z → z < m → Keep g.b H H' → Bg H' g → Q (.int z) H'
theorem scPull : FnScope ["_law_bag_here", "_law_many", "_law_rest", "_law_cell", "_law_one", "_law_two"] ["_law_bag_here", "_law_many"] (defScope sPull) := ⟨rfl, rfl, rfl, by decide +kernel, rfl, by decide +kernel, by decide +kernel⟩
theorem upd_bag {H : Hp} {b : Addr} {o o' : HO} : Keep b H (upd (upd H b o) b o') := by
  rw [upd_upd]
  exact Keep.upd
theorem mod_lo {a m : Int} (h : 0 < m) : 0 ≤ a % m := Int.emod_nonneg _ (by omega)
theorem mod_hi {a m : Int} (h : 0 < m) : a % m < m := Int.emod_lt_of_pos _ h
theorem ok_pull {f : Addr} {fd : FuncData} {k : Nat} (F : Fun K "_law_pull" "_law_pull" sPull f fd) (ml : mg "len" = none) : FnOk P w K mg base CX0 (k + 1) f fd ["_law_bag_here", "_law_many"] (spPull K) := by
  refine F.ok scPull (fun vs H Q E h => ?_) (fun cdv A outer s H vs Q E hr h => ?_)
  · obtain ⟨a, ns, rfl, _⟩ := h
    rfl
  · obtain ⟨⟨b, l, ns⟩, m, rfl, m0, m1, ⟨i, r, sd, c, hb, hl0, nlb⟩, q⟩ := h
    have hl : SqL K H l (ns.map V.int) := SqL.of hl0
    refine ⟨_, pss_cons (ps_augS (pv 0) pe_int get_list pe_int ip_add set_list)
      (pss_cons (ps_if (pt_cmpR op_gt (pe_ix ix_list (pv 0) pe_int (fun _ _ => rfl)) pe_int (nomark _))
        (pss_cons (ps_set (i := 2) scPull.nd rfl (.inl rfl) (pe_ix ix_list (pv 0) pe_int (fun _ _ => rfl)))
        (pss_cons (ps_asg (pe_op op_fdivW (pv 2) (pv 1)) (pg_sub (pv 0) pe_int set_list))
        (pss_one (ps_ret (pe_op op_mod (pv 2) (pv 1)))))) pss_nil)
      (pss_cons (ps_set (i := 3) scPull.nd rfl (.inl rfl) (pe_ix ix_list (pv 0) pe_int (fun _ _ => rfl)))
      (C8.pss_cut (ps_if (pt_cmpR op_lt (pe_ix ix_list (pv 0) pe_int (fun _ _ => rfl)) (pe_callB call_len_seq (by rfl) ml PySem.boot_len (pa_cons (pe_ix ix_list (pv 0) pe_int (fun _ _ => rfl)) pa_nil)) (nomark _))
        (pss_cons (ps_set (i := 3) scPull.nd rfl (.inl rfl) (pe_ix ix_list (pe_ix ix_list (pv 0) pe_int (fun _ _ => rfl)) (pe_ix ix_list (pv 0) pe_int (fun _ _ => rfl)) (fun _ _ => rfl)))
        (pss_one (ps_augS (pv 0) pe_int get_list pe_int ip_add set_list))) pss_nil)
      (pss_cons (ps_if (pt_cmpR op_ge (pv 3) (pe_op op_pow pe_int pe_int) (nomark _))
        (pss_cons (ps_asg (pe_op op_fdivW (pv 3) (pv 1)) (pg_sub (pv 0) pe_int set_list))
        (pss_one (ps_ret (pe_op op_mod (pv 3) (pv 1))))) pss_nil)
      (pss_cons (ps_set (i := 4) scPull.nd rfl (.inl rfl) (pe_op op_mod (pe_op op_add (pe_op op_add (pe_op op_add (pe_op op_mul (pv 3) pe_int) (pe_op op_mul (pe_ix ix_list (pv 0) pe_int (fun _ _ => rfl)) pe_int)) (pe_op op_mul (pe_ix ix_list (pv 0) pe_int (fun _ _ => rfl)) pe_int)) pe_int) pe_int))
      (pss_cons (ps_set (i := 5) scPull.nd rfl (.inl rfl) (pe_op op_mod (pe_op op_add (pe_op op_add (pe_op op_mul (pv 4) (pe_op op_add (pe_op op_mod (pv 4) pe_int) pe_int)) (pe_op op_mul (pe_ix ix_list (pv 0) pe_int (fun _ _ => rfl)) pe_int)) (pe_op op_mod (pe_ix ix_list (pv 0) pe_int (fun _ _ => rfl)) pe_int)) pe_int))
      (pss_cons (ps_asg (pe_op op_mod (pe_op op_add (pe_op op_mul (pe_ix ix_list (pv 0) pe_int (fun _ _ => rfl)) pe_int) (pv 5)) pe_int) (pg_sub (pv 0) pe_int set_list))
      (pss_one (ps_ret (pe_op op_mod (pe_op op_fdiv (pv 5) pe_int) (pv 1))))))))))), ?_⟩
    -- bag[4] += 1
    refine ⟨.ref b, rfl, b, _, 4, .int c, rfl, rfl, SqL.of hb, rfl, c, 1, rfl, rfl, b, _, 4, 4, rfl, rfl, hb, rfl, ?_⟩
    -- if bag[2] > 0
    refine ⟨.ref b, rfl, b, _, 2, .int r, rfl, rfl, SqL.of upd_same, rfl, r, 0, rfl, rfl, _, rfl, ite2 (fun _ => ?_) (fun _ => ?_)⟩
    · refine ⟨.ref b, rfl, b, _, 2, .int r, rfl, rfl, SqL.of upd_same, rfl, ?_⟩
      refine ⟨_, rfl, _, rfl, r, m, rfl, rfl, wide_div m0 m1 (by decide) (by decide), .ref b, rfl, b, _, 2, 2, rfl, rfl, upd_same, rfl, ?_⟩
      refine ⟨_, rfl, _, rfl, r, m, rfl, rfl, m0, q _ _ (mod_lo m0) (mod_hi m0) upd_bag ⟨i, r / m, sd, c + 1, upd_same, ?_, nlb⟩⟩
      exact upd_bag _ _ nlb hl0
    · -- cell = bag[3]
      refine ⟨.ref b, rfl, b, _, 3, .int sd, rfl, rfl, SqL.of upd_same, rfl, ?_⟩
      refine ⟨fun σ H1 => ∃ (i' : Nat) (z : Int), σ = [some (.ref b), some (.int m), none, some (.int z), none, none] ∧ H1 = upd H b (bagV l i' r sd (c + 1)), ?_, ?_⟩
      · refine ⟨.ref b, rfl, b, _, 1, .int i, rfl, rfl, SqL.of upd_same, rfl, .ref b, rfl, b, _, 0, .ref l, rfl, rfl, SqL.of upd_same, rfl, l, ns.map V.int, rfl, .inl (Keep.upd.seqL nlb hl), i, ((ns.map V.int).length : Int), rfl, rfl, _, rfl, ite2 (fun hi => ?_) (fun _ => ?_)⟩
        · have hi' : i < ns.length := by
            have := of_decide_eq_true hi
            rw [List.length_map] at this
            omega
          have gi : (ns.map V.int)[i]? = some (.int ns[i]) := by
            rw [List.getElem?_map, List.getElem?_eq_getElem hi']
            rfl
          refine ⟨.ref b, rfl, b, _, 0, .ref l, rfl, rfl, SqL.of upd_same, rfl, .ref b, rfl, b, _, 1, .int i, rfl, rfl, SqL.of upd_same, rfl, l, ns.map V.int, i, .int ns[i], rfl, rfl, Keep.upd.seqL nlb hl, atI_nat gi, ?_⟩
          refine ⟨.ref b, rfl, b, _, 1, .int i, rfl, rfl, SqL.of upd_same, rfl, i, 1, rfl, rfl, b, _, 1, 1, rfl, rfl, upd_same, rfl, i + 1, ns[i], rfl, ?_⟩
          rw [upd_upd]
          rfl
        · exact ⟨i, sd, rfl, rfl⟩
      · rintro σ H1 ⟨i', z, rfl, rfl⟩
        have hb1 : (upd H b (bagV l i' r sd (c + 1))) b = some (bagV l i' r sd (c + 1)) := upd_same
        refine ⟨.int z, rfl, 10, 18, rfl, rfl, ⟨by decide, by decide, by decide⟩, z, _, rfl, rfl, _, rfl, ite2 (fun _ => ?_) (fun _ => ?_)⟩
        · refine ⟨_, rfl, _, rfl, z, m, rfl, rfl, wide_div m0 m1 (by decide) (by decide), .ref b, rfl, b, _, 2, 2, rfl, rfl, upd_same, rfl, ?_⟩
          refine ⟨_, rfl, _, rfl, z, m, rfl, rfl, m0, q _ _ (mod_lo m0) (mod_hi m0) upd_bag ⟨i', z / m, sd, c + 1, upd_same, ?_, nlb⟩⟩
          exact upd_bag _ _ nlb hl0
        · -- one
          refine ⟨_, rfl, _, _, rfl, rfl, .inr ⟨by decide, by decide⟩, .ref b, rfl, b, _, 3, .int sd, rfl, rfl, SqL.of upd_same, rfl, _, _, rfl, rfl, .inr ⟨by decide, by decide⟩, _, _, rfl, rfl, .ref b, rfl, b, _, 4, .int (c + 1), rfl, rfl, SqL.of upd_same, rfl, _, _, rfl, rfl, .inr ⟨by decide, by decide⟩, _, _, rfl, rfl, _, _, rfl, rfl, _, _, rfl, rfl, (by show (0 : Int) < 2147483629; decide), ?_⟩
          have o0 := mod_lo (a := z * 48271 + sd * 40503 + (c + 1) * 69621 + 9176) (m := 2147483629) (by decide)
          have o1 := mod_hi (a := z * 48271 + sd * 40503 + (c + 1) * 69621 + 9176) (m := 2147483629) (by decide)
          generalize hone : (z * 48271 + sd * 40503 + (c + 1) * 69621 + 9176) % 2147483629 = one at o0 o1
          -- two
          refine ⟨_, rfl, _, rfl, _, _, rfl, rfl, (by show (0 : Int) < 65521; decide), _, _, rfl, rfl, _, _, rfl, rfl, .inl ⟨?_, ?_⟩, .ref b, rfl, b, _, 4, .int (c + 1), rfl, rfl, SqL.of upd_same, rfl, _, _, rfl, rfl, .inr ⟨by decide, by decide⟩, _, _, rfl, rfl, .ref b, rfl, b, _, 3, .int sd, rfl, rfl, SqL.of upd_same, rfl, _, _, rfl, rfl, (by show (0 : Int) < 104729; decide), _, _, rfl, rfl, _, _, rfl, rfl, (by show (0 : Int) < 998244353; decide), ?_⟩
          · rw [hone]; omega
          · rw [hone]; omega
          refine ⟨.ref b, rfl, b, _, 3, .int sd, rfl, rfl, SqL.of upd_same, rfl, _, _, rfl, rfl, .inr ⟨by decide, by decide⟩, _, rfl, _, _, rfl, rfl, _, _, rfl, rfl, (by show (0 : Int) < 2147483563; decide), .ref b, rfl, b, _, 3, 3, rfl, rfl, upd_same, rfl, ?_⟩
          refine ⟨_, rfl, _, _, rfl, rfl, ⟨by decide, by decide⟩, _, rfl, _, _, rfl, rfl, m0, q _ _ (mod_lo m0) (mod_hi m0) upd_bag ⟨i', r, _, c + 1, upd_same, ?_, nlb⟩⟩
          exact upd_bag _ _ nlb hl0
/-! ### one of a list -/
def spOf (K : PySem.W.Frag) : Sp := fun vs H Q _ => ∃ (g : Bid) (p : Addr) (xs : List V), vs = [.ref g.b, .ref p] ∧ Bg H g ∧ p ≠ g.b ∧ SqL K H p xs ∧ 0 < xs.length ∧ xs.length < 1000 ∧
  ∀ v H', v ∈ xs → Keep g.b H H' → Bg H' g → Q v H'
theorem scOf : FnScope ["_law_bag_here", "_law_some"] ["_law_bag_here", "_law_some"] (defScope sOf) := ⟨rfl, rfl, rfl, by decide +kernel, rfl, by decide +kernel, by decide +kernel⟩
theorem ok_of {f fP : Addr} {fd fdP : FuncData} {k : Nat} (F : Fun K "_law_of" "_law_of" sOf f fd) (FP : Fun K "_law_pull" "_law_pull" sPull fP fdP) (bP : Binds K fdP ["_law_bag_here", "_law_many"] []) (gP : mg "_law_pull" = some (.ref fP)) (ml : mg "len" = none) : FnOk P w K mg base CX0 (k + 2) f fd ["_law_bag_here", "_law_some"] (spOf K) := by
  have GP : FnOk P w K mg base CX0 (k + 1) fP fdP ["_law_bag_here", "_law_many"] (spPull K) := ok_pull FP ml
  refine F.ok scOf (fun vs H Q E h => ?_) (fun cdv A outer s H vs Q E hr h => ?_)
  · obtain ⟨b, p, xs, rfl, _⟩ := h
    rfl
  · obtain ⟨b, p, xs, rfl, B, npb, hx, h0, hlen, q⟩ := h
    refine ⟨_, pss_one (ps_ret (pe_ix ix_list (pv 1) (pe_call GP hr (by rfl) gP FP.kp bP .nil pass0 (pa_cons (pv 0) (pa_cons (pe_callB call_len_seq (by rfl) ml PySem.boot_len (pa_cons (pv 1) pa_nil)) pa_nil))) (fun _ _ => rfl))), ?_⟩
    refine ⟨.ref p, rfl, .ref b.b, rfl, .ref p, rfl, p, xs, rfl, .inl hx, b, (xs.length : Int), rfl, by omega, ?_, B, fun z H' z0 z1 kp B' => ?_⟩
    · exact Nat.lt_trans (show ((xs.length : Int)).natAbs < 2 ^ 64 by omega) (by decide)
    · have e : z = ((z.toNat : Nat) : Int) := by omega
      have hz1 : z.toNat < xs.length := by omega
      rw [e]
      exact ⟨p, xs, z.toNat, xs[z.toNat], rfl, rfl, kp.seqL npb hx, atI_nat (List.getElem?_eq_getElem hz1), q _ _ (List.getElem_mem hz1) kp B'⟩
end
end Onp
set_option maxHeartbeats 2000000
/-! while an exception is handled: the ends of walks -/
namespace Onp
open PySem PySem.Spec PyProof.Rows L2 HotX L2H
section
variable {prog : Program} {w : World} {A : Around} {E : Value → Shared → Prop} {s : Shared}
/-- a StopIteration raised while x1 is handled -/
theorem stopHot {α : Type} {x1 : Addr} {Q : α → Shared → Prop} (hot : HotAt A x1 s.heap)
    (hE : ∀ h' e, (∀ b o, s.heap.get? b = some o → h'.get? b = some o) → (∃ o, h'.get? e = some o ∧ o.cls = .type "StopIteration") → E (.ref e) { s with heap := h' }) :
    wpAny (model prog w) A ((newExc (.type "StopIteration") [] >>= fun v => raiseNew v) : Sem α) Q E s := by
  obtain ⟨hh, o1, vs1, g1, g2, g3⟩ := hot
  refine wpAny_bind ?_
  simp only [newExc, newTuple]
  refine wpAny_bind (wpAny_newObj_type (wpAny_bind (m := firstArgMember _ _) (wpAny_of_eq (a := Value.none) (by first | rfl | (simp only [firstArgMember]; rfl)) (wpAny_newObj_type ?_ (by size_fits)))) (by size_fits))
  have k1 : (s.heap.push { cls := .type "tuple", data := .seq #[] }).get? x1 = some o1 := Heap.get?_push_of_some _ g1
  refine raiseNew_hot (x1 := x1) ⟨hh, o1, vs1, Heap.get?_push_of_some _ k1, g2, g3⟩ (Nat.ne_of_lt (Heap.lt_size k1)) (Heap.get?_push_size _ rfl) rfl (by first | (simp; done) | (simp; omega)) ?_
  refine hE _ _ (fun b o e => ?_) ⟨_, Heap.get?_update_self _ (Heap.get?_push_size _ rfl) rfl, rfl⟩
  have k2 : (s.heap.push { cls := .type "tuple", data := .seq #[] }).get? b = some o := Heap.get?_push_of_some _ e
  rw [Heap.get?_update_other _ _ (Nat.ne_of_gt (Heap.lt_size k2))]
  exact Heap.get?_push_of_some _ k2
theorem hot_but {x1 a : Addr} {h h' : Heap} (t : HotAt A x1 h) (n : x1 ≠ a) (k : ∀ b o, b ≠ a → h.get? b = some o → h'.get? b = some o) : HotAt A x1 h' := by
  obtain ⟨hh, o1, vs1, g1, g2, g3⟩ := t
  exact ⟨hh, o1, vs1, k _ _ n g1, g2, g3⟩
/-- the end of a list, asked by nextOf -/
theorem listEndHot {x1 it l : Addr} {i : Nat} {items : Array Value} {Q : Value → Shared → Prop} (hot : HotAt A x1 s.heap) (nx : x1 ≠ it) (hit : s.heap.IsListIter it l i) (hl : s.heap.IsList l items) (hx : items[i]? = none)
    (hE : ∀ h' e, Heap.ExtBut it s.heap h' → (∃ o, h'.get? e = some o ∧ o.cls = .type "StopIteration") → E (.ref e) { s with heap := h' }) : wpAny (model prog w) A (Builtin.SmallTypes.nextOf (.ref it)) Q E s := by
  obtain ⟨ob, g1, g2, g3⟩ := id hit
  obtain ⟨lb, k1, _, kn, k3⟩ := hl
  unfold Builtin.SmallTypes.nextOf
  refine wpAny_bind (wpAny_callSpecial?_slot (name := Str.ofString "__next__") hit.typeIs slot_listiter_next (wpAny_call_entry slot_listiter_next hit.typeIs entry_listiter_next ?_ (args_listiter_next _)))
  show wpAny _ _ (field (.ref it) 0 >>= _) _ _ s
  refine wpAny_bind (wpAny_field g1 g3 (x := .ref l) rfl ?_)
  show wpAny _ _ (if (Value.ref l == Value.none) = true then _ else _) _ _ s
  rw [if_neg (by exact Bool.false_ne_true : ¬ ((Value.ref l == Value.none) = true))]
  show wpAny _ _ (field (.ref it) 1 >>= _) _ _ s
  refine wpAny_bind (wpAny_field g1 g3 (x := .int i 0) rfl ?_)
  show wpAny _ _ (seqItems? (.ref l) >>= _) _ _ s
  refine wpAny_bind (wpAny_seqItems k1 k3 ?_)
  simp only [hx, Int.toNat_natCast]
  refine wpAny_bind (wpAny_rule (wpAny_bind (wpAny_setField g1 g3 (by simp) ?_)))
  have sb : Heap.SameBut it s.heap (s.heap.update it (Obj.mapFields (·.setIfInBounds 0 Value.none))) := Heap.SameBut.update ..
  refine stopHot (x1 := x1) (hot_but (A := A.in1) hot nx fun b o n e => sb.extBut b o n e) fun h' e k he => hE h' e (fun b o n q => k b o (sb.extBut b o n q)) he
/-- the end of a tuple -/
theorem tupEndHot {x1 it t : Addr} {i : Nat} {items : Array Value} {Q : Option Value → Shared → Prop} (hot : HotAt A x1 s.heap) (nx : x1 ≠ it) (hit : IsTupIter s.heap it t i) (ht : IsTup s.heap t items) (hx : items[i]? = none)
    (hQ : ∀ h', Heap.ExtBut it s.heap h' → Q none { s with heap := h' }) : wpAny (model prog w) A (pyNext (.ref it)) Q E s := by
  obtain ⟨ob, g1, g2, g3⟩ := id hit
  obtain ⟨lb, k1, _, kn, k3⟩ := ht
  unfold pyNext
  refine wpAny_bind (wpAny_attempt (wpAny_callSpecial?_slot (name := Str.ofString "__next__") hit.typeIs slot_tupleiter_next (wpAny_call_entry slot_tupleiter_next hit.typeIs entry_tupleiter_next ?_ (args_tupleiter_next _))))
  show wpAny _ _ (field (.ref it) 0 >>= _) _ _ s
  refine wpAny_bind (wpAny_field g1 g3 (x := .ref t) rfl ?_)
  show wpAny _ _ (if (Value.ref t == Value.none) = true then _ else _) _ _ s
  rw [if_neg (by exact Bool.false_ne_true : ¬ ((Value.ref t == Value.none) = true))]
  show wpAny _ _ (field (.ref it) 1 >>= _) _ _ s
  refine wpAny_bind (wpAny_field g1 g3 (x := .int i 0) rfl ?_)
  show wpAny _ _ (seqItems? (.ref t) >>= _) _ _ s
  refine wpAny_bind (wpAny_seqItems k1 k3 ?_)
  simp only [hx, Int.toNat_natCast]
  refine wpAny_bind (wpAny_rule (wpAny_bind (wpAny_setField g1 g3 (by simp) ?_)))
  have sb : Heap.SameBut it s.heap (s.heap.update it (Obj.mapFields (·.setIfInBounds 0 Value.none))) := Heap.SameBut.update ..
  refine stopHot (x1 := x1) (hot_but (A := A.in1) hot nx fun b o n e => sb.extBut b o n e) fun h' e k he => ?_
  obtain ⟨oe, q1, q2⟩ := he
  exact wpAny_bind (wpAny_isInstance (T := "StopIteration") (b := true) ⟨oe, q1, q2⟩ isSubtype_stop (wpAny_pure (hQ h' fun b o n q => k b o (sb.extBut b o n q))))
/-- a tuple unpacked -/
theorem unpackHot {x1 t : Addr} {items : Array Value} {Q : List Value → Shared → Prop} (hot : HotAt A x1 s.heap) (ht : IsTup s.heap t items)
    (hQ : ∀ h', Heap.ExtBut s.heap.objs.size s.heap h' → Q items.toList { s with heap := h' }) : wpAny (model prog w) A (unpackItems (.ref t) items.size none) Q E s := by
  have n1 : t ≠ s.heap.objs.size := by
    obtain ⟨o, ho, _⟩ := ht
    exact Nat.ne_of_lt (Heap.lt_size ho)
  have n2 : x1 ≠ s.heap.objs.size := by
    obtain ⟨_, o, _, ho, _⟩ := hot
    exact Nat.ne_of_lt (Heap.lt_size ho)
  unfold unpackItems
  refine wpAny_bind ?_
  unfold notIterableAtAll
  refine wpAny_bind (wpAny_specialOf ht.typeIs slot_tuple_iter.lookup (wpAny_pure ?_))
  simp only [if_false, Bool.false_eq_true]
  refine wpAny_bind (wpAny_holding (iter_tuple ht (wpAny_bind (wpAny_holding (draw_tuple n1 items.size 0 _ _ ⟨_, Heap.get?_push_size _ rfl, rfl, rfl⟩ (ht.push _) (by omega) fun j1 c1 c2 => ?_)))))
  have whole : List.take items.size (List.drop 0 items.toList) = items.toList := by rw [List.drop_zero, List.take_of_length_le (by simp)]
  rw [whole, if_neg (by simp)]
  have tj : IsTup j1 t items := (ht.push _).extBut c2.extBut n1
  have hj : HotAt A x1 j1 := hot_but hot n2 fun b o n e => c2.extBut b o n (Heap.get?_push_of_some _ e)
  refine wpAny_bind (wpAny_holding (tupEndHot hj n2 c1 tj (by simp) fun j2 c3 => ?_))
  simp only [if_false, Option.isSome_none, Bool.false_eq_true]
  exact wpAny_pure (hQ j2 fun b o n e => c3 b o n (c2.extBut b o n (Heap.get?_push_of_some _ e)))
theorem assignTupHot {x1 : Addr} {env : Env} {elts : List Expr} {k} {pos : Pos} {t : Addr} {items : Array Value} {Q : Unit → Shared → Prop} (hot : HotAt A x1 s.heap) (ht : IsTup s.heap t items)
    (hn : (assignEach elts env).length = items.size) (hstar : (assignEach elts env).findIdx? (·.1) = none)
    (h : ∀ h', Heap.ExtBut s.heap.objs.size s.heap h' → wpAny (model prog w) A (assignInOrder ((assignEach elts env).map (·.2)) items.toList) Q E { s with heap := h' }) :
    wpAny (model prog w) A (assign (.Tuple elts k pos) env (.ref t)) Q E s := by
  rw [assign_Tuple]
  refine wpAny_bind (wpAny_standAt ?_)
  unfold unpack
  rw [hn, hstar]
  exact wpAny_bind (wpAny_holding (unpackHot hot ht h))
/-- zip's end: the first list is through -/
theorem zipEndHot {x1 z TI TO i1 i2 l1 l2 : Addr} {k1 : Nat} {xs : Array Value} {a b : Value} {Q : Option Value → Shared → Prop} (hot : HotAt A x1 s.heap) (nx : x1 ≠ z ∧ x1 ≠ i1) (D : ZipApart z TI TO i1 i2 l1 l2)
    (hz : IsZip s.heap z TI TO .none) (hTI : IsPair s.heap TI (.ref i1) (.ref i2)) (hTO : IsPair s.heap TO a b) (h1 : s.heap.IsListIter i1 l1 k1) (hl1 : s.heap.IsList l1 xs) (hx : xs[k1]? = none)
    (hQ : ∀ h', (∀ c o, c ≠ z → c ≠ i1 → s.heap.get? c = some o → h'.get? c = some o) → Q none { s with heap := h' }) : wpAny (model prog w) A (pyNext (.ref z)) Q E s := by
  have hT : s.TypeIs (.ref z) "zip" := ⟨_, hz, rfl⟩
  unfold pyNext
  refine wpAny_bind (wpAny_attempt (wpAny_callSpecial?_slot (name := Str.ofString "__next__") hT F.slot_zip_next (wpAny_call_entry F.slot_zip_next hT F.entry_zip_next ?_ (F.args_zip_next_1 _))))
  show wpAny _ _ (field (.ref z) 2 >>= _) _ _ _
  refine wpAny_bind (wpAny_field hz rfl (x := .bool false) rfl ?_)
  show wpAny _ _ (field (.ref z) 3 >>= _) _ _ _
  refine wpAny_bind (wpAny_field hz rfl (x := .ref TI) rfl (wpAny_bind (wpAny_seqItems hTI rfl ?_)))
  show wpAny _ _ (Builtin.SmallTypes.ownedTupleIsFree (.ref z) >>= _) _ _ _
  refine wpAny_bind ?_
  unfold Builtin.SmallTypes.ownedTupleIsFree
  refine wpAny_bind (wpAny_field hz rfl (x := .none) rfl (wpAny_pure ?_))
  simp only [if_true]
  refine wpAny_bind (wpAny_rule (wpAny_bind (wpAny_field hz rfl (x := .ref TO) rfl (wpAny_bind (wpAny_setField_rec hz (by simp) fun j1 zj sj => ?_)))))
  replace zj : IsZip j1 z TI TO .ellipsis := zj
  refine wpAny_bind ?_
  simp only [List.zipIdx_cons, List.zipIdx_nil, List.forIn_cons, List.forIn_nil]
  refine wpAny_bind (wpAny_bind (wpAny_onRaise ?_))
  show wpAny _ _ (Builtin.SmallTypes.nextOf (.ref i1) >>= _) _ _ _
  refine wpAny_bind (listEndHot (x1 := x1) (hot_but (A := A.in1) hot nx.1 fun b o n e => sj.extBut b o n e) nx.2 (h1.extBut sj.extBut D.i1z) (hl1.extBut sj.extBut D.l1z) hx fun j2 e c2 he => ?_)
  obtain ⟨oe, q1, q2⟩ := he
  have z2 : IsZip j2 z TI TO .ellipsis := c2 _ _ D.i1z.symm zj
  have ez : e ≠ z := fun x => by subst x; rw [z2] at q1; cases q1; simp at q2
  refine wpAny_setField_rec z2 (by simp) fun j3 _ c3 => ?_
  exact wpAny_bind (wpAny_isInstance (T := "StopIteration") (b := true) ⟨oe, c3.extBut _ _ ez q1, q2⟩ isSubtype_stop (wpAny_pure (hQ j3 fun c o n1 n2 q => c3.extBut _ _ n1 (c2 _ _ n2 (sj.extBut _ _ n1 q)))))
end
end Onp
set_option maxHeartbeats 4000000
namespace Onp
open PySem PySem.Spec PyProof.Rows L2 HotX L2H
/-! ### (a, b) = a tuple, while an exception is handled -/
theorem pg_tupH {X : Cx} {es : List Expr} {k : Nat} {t : TGs} {n : Nat} {pos : Pos} (hc : HotC X) (h : PGs X es t) (hn : (assignEach es X.env).length = n := by rfl) (hst : (assignEach es X.env).findIdx? (·.1) = none := by rfl) :
    PG X (.Tuple es k pos) (gTup X.K n t) := by
  refine ⟨fun pins s σ H v u Q I r hw => ?_⟩
  obtain ⟨p, xs, rfl, hq, hl, hw⟩ := hw
  obtain rfl : u = Value.ref p := r
  obtain ⟨its, rv, ht, hz⟩ := I.tuple hq
  obtain ⟨x1, hot⟩ := hc.at I
  refine assignTupHot hot ht (by simp [hn, ← hl, rv.length]) hst fun h' hx => ?_
  exact h.run pins _ σ H xs _ Q (I.kept (t' := s.toks) fun b o e => hx b o (Nat.ne_of_lt (Heap.lt_size e)) e) (by simpa using rv) hw
/-! ### zip of two lists, the first no longer than the second -/
def Itz1 (K : PySem.W.Frag) (a b : Addr) : It := ⟨(Itz K a b).go, (Itz K a b).yld, fun i H => ∃ xs ys : List V, SqL K H a xs ∧ SqL K H b ys ∧ xs.length ≤ i⟩
def zipSt (a b z TI TO i1 i2 : Addr) (i : Nat) (h : Heap) : Prop := IsZip h z TI TO .none ∧ IsPair h TI (.ref i1) (.ref i2) ∧ (∃ x y, IsPair h TO x y) ∧ h.IsListIter i1 a i ∧ h.IsListIter i2 b i
theorem turnZipH {P : Program} {w : World} {K : PySem.W.Frag} {elts : List Expr} {kk : Nat} {tpos : Pos} {a b z TI TO i1 i2 : Addr} (D : ZipApart z TI TO i1 i2 a b) :
    TurnH P w K (.Tuple elts kk tpos) (Itz1 K a b) [z, TI, TO, i1, i2] z (zipSt a b z TI TO i1 i2) where
  mem := List.mem_cons_self
  obj := (turn_zip (P := P) (w := w) (K := K) (elts := elts) (kk := kk) (tpos := tpos) D).obj
  keep := (turn_zip (P := P) (w := w) (K := K) (elts := elts) (kk := kk) (tpos := tpos) D).keep
  self := (turn_zip (P := P) (w := w) (K := K) (elts := elts) (kk := kk) (tpos := tpos) D).self
  item := by
    intro X eP ew eK hc i pins s σ H E I hf st hg
    subst eP ew eK
    obtain ⟨z1, z2, ⟨v1, v2, z3⟩, z4, z5⟩ := st
    obtain ⟨xs, ys, x, y, qx, qy, ex, ey⟩ := hg
    obtain ⟨us, ru, pu, _⟩ := I.list qx
    obtain ⟨ws, rw', pw, _⟩ := I.list qy
    obtain ⟨u1, e1, r1⟩ := ru.get ex
    obtain ⟨u2, e2, r2⟩ := rw'.get ey
    have lz : z < s.heap.objs.size := Heap.lt_size z1
    refine wpAny_pyNext_zip_item D z1 z2 z3 z4 z5 pu.isList pw.isList (x := u1) (y := u2) (by simpa using e1) (by simpa using e2) fun j n1 n2 n3 n4 n5 n6 n7 => ⟨_, rfl, ?_⟩
    refine wpAny_letOwnedTupleGo_zip (s := { s with heap := j }) n1 fun j2 m1 sb => ?_
    have old : ∀ c, c ∈ [z, TI, TO, i1, i2] → c < s.heap.objs.size := fun c hm => by
      have e' : c = z ∨ c = TI ∨ c = TO ∨ c = i1 ∨ c = i2 := by simpa using hm
      obtain ⟨_, q4, _⟩ := z4
      obtain ⟨_, q5, _⟩ := z5
      rcases e' with rfl | rfl | rfl | rfl | rfl
      · exact lz
      · exact Heap.lt_size z2
      · exact Heap.lt_size z3
      · exact Heap.lt_size q4
      · exact Heap.lt_size q5
    have tj : j2.get? s.heap.objs.size = some { cls := .type "tuple", data := .seq #[u1, u2] } := (sb.2 _ (Nat.ne_of_gt lz)).trans n5
    have kp : ∀ c o, c ∉ [z, TI, TO, i1, i2] → s.heap.get? c = some o → j2.get? c = some o := fun c o nm q => by
      have nn : c ≠ z ∧ c ≠ TI ∧ c ≠ TO ∧ c ≠ i1 ∧ c ≠ i2 := by simpa using nm
      exact (sb.2 c nn.1).trans (n7 c o nn.1 nn.2.2.1 nn.2.2.2.1 nn.2.2.2.2 q)
    have J := I.turnedNew (t' := s.toks) (ch := [z, TI, TO, i1, i2]) (ob := .tup [x, y]) kp hf (Nat.le_refl _) ⟨(by decide : 2 ≤ sizeLine), [u1, u2], .cons r1 (.cons r2 .nil), ⟨_, tj, rfl, _, rfl⟩⟩
    refine ⟨.ref s.heap.objs.size, _, J, rfl, ⟨_, x, y, rfl, I.hok.fresh (Nat.le_refl _), rfl, fun l hl => by rw [I.list_inj hl qx]; exact ex, fun l hl => by rw [I.list_inj hl qy]; exact ey⟩, ⟨m1, ?_, ⟨u1, u2, ?_⟩, ?_, ?_⟩, fun c hm => ?_⟩
    · exact (sb.2 _ D.TIz).trans (n7 _ _ D.TIz D.TITO D.TIi1 D.TIi2 z2)
    · exact (sb.2 _ D.TOz).trans n2
    · exact n3.at fun o q => (sb.2 _ D.i1z).trans q
    · exact n4.at fun o q => (sb.2 _ D.i2z).trans q
    · rw [upd_ne (Nat.ne_of_lt (old c hm))]
      exact (hf c hm).1
  done := by
    intro X eP ew eK hc i pins s σ H E I hf st hg
    subst eP ew eK
    obtain ⟨z1, z2, ⟨v1, v2, z3⟩, z4, z5⟩ := st
    obtain ⟨xs, ys, qx, qy, he⟩ := hg
    obtain ⟨us, ru, pu, _⟩ := I.list qx
    have l1 := ru.length
    obtain ⟨p, ⟨hh, v, e1, c1⟩, hp⟩ := hc
    have P1 := (I.pin p (List.mem_append_left _ hp)).1
    have np : ∀ c, c ∈ [z, TI, TO, i1, i2] → p.1 ≠ c := fun c hm => (hf c hm).2.2.2.2.2 p (List.mem_append_left _ hp)
    refine zipEndHot (x1 := p.1) ⟨hh, p.2, v, P1, e1, c1⟩ ⟨np z (by simp), np i1 (by simp)⟩ D z1 z2 z3 z4 pu.isList (by simp; omega) fun j kj => ⟨rfl, I.turnedL (t' := s.toks) (ch := [z, TI, TO, i1, i2]) (fun c o nm q => ?_) hf⟩
    have nn : c ≠ z ∧ c ≠ TI ∧ c ≠ TO ∧ c ≠ i1 ∧ c ≠ i2 := by simpa using nm
    exact kj c o nn.1 nn.2.2.2.1 q
def iZip1 (K : PySem.W.Frag) (ta : TA) : TI := fun σ H R => ta σ H fun vs H1 => ∃ a b xs ys, vs = [.ref a, .ref b] ∧ SqL K H1 a xs ∧ SqL K H1 b ys ∧ R (Itz1 K a b) H1
theorem pi_zipH {X : Cx} {e e2 : Expr} {ta : TA} {p pos tpos : Pos} {elts : List Expr} {kk : Nat} (hg : Gl X "zip") (hm : X.mg "zip" = none) (ha : PA X [e, e2] ta)
    (hs : starEach [e, e2] X.env = (false, eval e X.env) :: starEach [e2] X.env := by rfl) (hpl : (backTo pos (starEach [e2] X.env)).any (·.1) = false := by rfl) : PIH X (.Tuple elts kk tpos) (.Call (.Name "zip" p) [e, e2] [] pos) (iZip1 X.K ta) := by
  refine ⟨fun pins s σ H R I h => Call_ (ld_blt I hg hm PyProof.Rows.boot_zip (PyProof.Rows.callWith_type1 (thn (ha.run pos pins s σ H _ I h) fun us s1 ⟨vs, H1, I1, r1, q1⟩ => ?_) hs hpl))⟩
  obtain ⟨a, b, xs, ys, rfl, qx, qy, q⟩ := q1
  obtain ⟨w1, w2, rfl, ra, rb⟩ := vals2 r1
  cases ra
  cases rb
  obtain ⟨us, ru, pu, _⟩ := I1.list qx
  obtain ⟨ws, rw', pw, _⟩ := I1.list qy
  refine call_zip_2 pu.isList pw.isList fun j y1 y2 y3 y4 y5 y6 y7 => wpAny_pyIter_zip y1 ⟨s1.heap.objs.size + 4, [s1.heap.objs.size + 4, s1.heap.objs.size + 2, s1.heap.objs.size + 3, s1.heap.objs.size, s1.heap.objs.size + 1], _, _, H1, rfl, I1.kept (t' := s1.toks) y7, turnZipH (PySem.W.ktu_apart s1.heap.objs.size a b pu.lt pw.lt), ⟨y1, y2, ⟨_, _, y3⟩, y4, y5⟩, fun c hm => ?_, q⟩
  have hle : s1.heap.objs.size ≤ c := by
    have e' : c = s1.heap.objs.size + 4 ∨ c = s1.heap.objs.size + 2 ∨ c = s1.heap.objs.size + 3 ∨ c = s1.heap.objs.size ∨ c = s1.heap.objs.size + 1 := by simpa using hm
    rcases e' with z | z | z | z | z <;> rw [z] <;> first | exact Nat.le_refl _ | exact Nat.le_add_right _ _
  exact I1.fpOk hle (I1.hok.fresh hle)
/-! ### the block of a comprehension that keeps a pin -/
abbrev blkH (X : Cx) (p : Addr × Obj) (s : Shared) (H : Hp) (scope : Scope) (cenv : Env) (fp : List Addr) : Cx := { X.blk s H scope cenv fp with pn := [p] }
theorem addPn {X : Cx} {p : Addr × Obj} {pins : List (Addr × Obj)} {σ : L2.St} {H : Hp} {s : Shared} (hX : X.pn = []) (I : Inv X pins σ H s) (hp : s.heap.get? p.1 = some p.2 ∧ H p.1 = none ∧ p.1 ≠ X.env.locals ∧ p.1 ∉ X.fs ∧ ∀ v, p.2.data ≠ .cell v) : Inv { X with pn := [p] } pins σ H s := by
  have ok := I.ok
  refine ⟨⟨ok.mod, ok.kind, ok.glob, ok.blt, ok.above, ok.inj, ok.has, ok.cab, ok.hd, ok.frames, ok.stk, ok.exf, ok.bs, ok.bsz, ok.noex, ok.exfs, ok.funs, ok.frf⟩, I.os, I.bare, I.base, I.loc, I.cell, I.free, I.freeC, fun q hq => ?_, I.hok, I.len⟩
  have hq' : q ∈ [p] ++ pins := hq
  rcases List.mem_append.mp hq' with z | z
  · have e : q = p := by simpa using z
    rw [e]
    exact hp
  · exact I.pin q (by rw [hX]; exact z)
theorem hotBlk {X : Cx} {p : Addr × Obj} {s : Shared} {H : Hp} {scope : Scope} {cenv : Env} {fp : List Addr} (h : Hot1 X.A p) : HotC (blkH X p s H scope cenv fp) := ⟨p, h, List.mem_cons_self⟩
theorem lcHot {X : Cx} {p : Addr × Obj} {pins : List (Addr × Obj)} {s : Shared} {σ : L2.St} {H : Hp} {Q : VK} {elt tg iter : Expr} {ifs : List Expr} {scope : Scope} {own : List (Str × Nat)} {pos : Pos} {wi : TI} {g : TG} {tt : TT} {te : TE}
    (hot : Hot1 X.A p) (hp : p ∈ X.pn) (hN : X.N.Nodup) (I : Inv X pins σ H s) (hi : PIH X tg iter wi) (ok : BlkOk X.N X.env.scope scope own)
    (hg : ∀ s H C cl fp, PG (blkH X p s H scope (compEnvC scope cl C X.env) fp) tg g) (ht : ∀ s H C cl fp, PTs (blkH X p s H scope (compEnvC scope cl C X.env) fp) ifs tt) (he : ∀ s H C cl fp, PE (blkH X p s H scope (compEnvC scope cl C X.env) fp) elt te)
    (hs : ∀ x, foldedSetIterable iter X.env x = pure x) (h : tLc wi g tt te (own.map (·.2)) σ H Q) : wpAny (model X.prog X.w) X.A (eval (.ListComp elt [⟨tg, iter, ifs, 0⟩] scope pos) X.env) (EP X pins σ Q) X.xe s := by
  rw [eval_ListComp]
  have caps : ∀ y ∈ scope.names, y.2 = .free → ∃ c, X.env.cells.lookup y.1 = some c := fun y hy e => (ok.free y hy e).elim (fun k => I.ok.has _ (.inl k)) (fun k => I.ok.has _ (.inr k))
  refine wpAny_comprehension_free (use := none) rfl hs (closure_ok caps) ok.kind (fun y hy e => by rw [ok.uniq y hy, e]) (thn (hi.run pins s σ H _ I h) fun xv s1 hx => thn hx fun itv s2 hx2 => ?_)
  obtain ⟨it, fp, tn, J, H2, rfl, I2, T, t2, f2, q⟩ := hx2
  refine wpAny_newObj_type (newEnv_comp ?_) (Nat.zero_le _)
  generalize eD : s2.heap.objs.size = D
  have freeD : H2 D = none := I2.hok.fresh (Nat.le_of_eq eD)
  obtain ⟨W, ⟨m0, w0⟩, turn⟩ := q D freeD
  generalize e3 : ({ s2 with heap := s2.heap.push { cls := .type "list", data := .seq ([] : List Value).toArray } } : Shared) = u3
  have hu3 : u3.heap = s2.heap.push { cls := .type "list", data := .seq ([] : List Value).toArray } := by rw [← e3]
  have I3 : Inv X pins σ (upd H2 D (.lst [])) u3 := by
    rw [← e3]
    exact I2.laid (t' := s2.toks) (fun b o e => Heap.get?_push_of_some _ e) (Nat.le_of_eq eD) ⟨Nat.zero_le _, [], 0, .nil, by rw [← eD]; exact Heap.get?_push_size _ rfl⟩
  have f3 : ∀ b ∈ fp, FpOk X pins (upd H2 D (.lst [])) b ∧ b < u3.heap.objs.size := fun b hb => by
    obtain ⟨o, e, _⟩ := T.obj _ _ t2 b hb
    have lt := Heap.lt_size e
    exact ⟨⟨by rw [upd_ne (by rw [← eD]; exact Nat.ne_of_lt lt)]; exact (f2 b hb).1, (f2 b hb).2⟩, by rw [hu3, Heap.size_push]; exact Nat.lt_succ_of_lt lt⟩
  have I4' := block_start I3 ok hN f3
  generalize eH : upd H2 D (.lst []) = H3 at I3 I4' w0 f3
  generalize ece : compEnvC scope (cellsFrom (u3.heap.objs.size + 1) scope.names (cloFrom X.env.cells scope.names [])) u3.heap.objs.size X.env = ce at I4'
  have cl0 : ce.locals = u3.heap.objs.size := by subst ece; rfl
  generalize e4 : ({ u3 with heap := pushCells (u3.heap.push { cls := .type "dict", data := .dict #[] }) scope.names } : Shared) = u4 at I4'
  have kept4 : ∀ b o, u3.heap.get? b = some o → u4.heap.get? b = some o := fun b o e => by rw [← e4]; exact pushCells_keeps _ _ _ _ (Heap.get?_push_of_some _ e)
  have p3 := I3.pin p (List.mem_append_left _ hp)
  have I4 : Inv (blkH X p u3 H3 scope ce fp) [] (wipe σ (own.map (·.2))) H3 u4 := by
    refine addPn rfl I4' ⟨kept4 _ _ p3.1, p3.2.1, ?_, fun z => ?_, p3.2.2.2.2⟩
    · show p.1 ≠ ce.locals
      rw [cl0]
      exact Nat.ne_of_lt (Heap.lt_size p3.1)
    · rcases List.mem_cons.mp (I3.stkSub p.1 z) with y | y
      · exact p3.2.2.1 y
      · exact p3.2.2.2.1 y
  have pg := hg u3 H3 u3.heap.objs.size (cellsFrom (u3.heap.objs.size + 1) scope.names (cloFrom X.env.cells scope.names [])) fp
  have pt := ht u3 H3 u3.heap.objs.size (cellsFrom (u3.heap.objs.size + 1) scope.names (cloFrom X.env.cells scope.names [])) fp
  have pe := he u3 H3 u3.heap.objs.size (cellsFrom (u3.heap.objs.size + 1) scope.names (cloFrom X.env.cells scope.names [])) fp
  rw [ece] at pg pt pe
  have t4 : tn 0 u4.heap := T.keep _ _ _ t2 fun b _ o e => kept4 b o (by rw [hu3]; exact Heap.get?_push_of_some _ e)
  have hb := hotBlk (X := X) (s := u3) (H := H3) (scope := scope) (cenv := ce) (fp := fp) hot
  have stat : ∀ {σ' : L2.St} {H' : Hp} {s' : Shared}, Inv (blkH X p u3 H3 scope ce fp) [] σ' H' s' → (∀ b ∈ fp, H' b = none) → ∀ b ∈ fp, FpOk (blkH X p u3 H3 scope ce fp) [] H' b := fun {σ' H' s'} I' hn b hb' => by
    refine ⟨hn b hb', (I'.ok.exf b hb').1, I'.ok.exfs b hb', .inl hb', fun x c e => (I'.ok.exf b hb').2 x c e, fun q hq => ?_⟩
    have eq : q = p := by simpa using (show q ∈ [p] ++ ([] : List (Addr × Obj)) from hq)
    rw [eq]
    exact (f3 b hb').1.2.2.2.2.2 p (List.mem_append_left _ hp)
  show codeAny _ _ (.compStart (.ListComp elt [⟨tg, iter, ifs, 0⟩] scope pos) 0 (.ref it) (.ref D) (compEnvC scope (cellsFrom (u3.heap.objs.size + 1) scope.names (cloFrom X.env.cells scope.names [])) u3.heap.objs.size X.env)) (compPost (model X.prog X.w) X.A X.xe none (EP X pins σ Q) (.ref D) u3.heap.objs.size) u4
  rw [ece]
  have loop : codeAny (model X.prog X.w) X.A (.compLoop (.ListComp elt [⟨tg, iter, ifs, 0⟩] scope pos) 0 (.ref it) (.ref D) ce) (compPost (model X.prog X.w) X.A X.xe none (EP X pins σ Q) (.ref D) u3.heap.objs.size) u4 := by
    refine compLoop_any (fun n s' => ∃ i H', Inv (blkH X p u3 H3 scope ce fp) [] (wipe σ (own.map (·.2))) H' s' ∧ tn i s'.heap ∧ (∀ b ∈ fp, H' b = none) ∧ W i n H') (fun n u5 ⟨i, H5, I5, t5, n5, w5⟩ => ?_) m0 ⟨0, H3, I4, t4, fun b hb' => (f3 b hb').1.1, w0⟩
    rcases turn i n H5 w5 with ⟨stop, qq⟩ | ⟨go, Nx, hNx, step⟩
    · refine thnF (T.done (blkH X p u3 H3 scope ce fp) rfl rfl rfl hb i [] u5 _ H5 (fun _ _ => False) I5 (stat I5 n5) t5 stop) fun r u6 ⟨hr, I6⟩ => ?_
      subst hr
      have I7 : Inv X pins σ H5 u6 := I3.call' (ch := fp) I6.os I6.base I6.hok I6.bare fun b hb' => ⟨(f3 b hb').1.2.2.2.1, (f3 b hb').1.2.1, (f3 b hb').1.2.2.2.2.1, (f3 b hb').1.2.2.2.2.2⟩
      obtain ⟨m, hn, _⟩ := I6.loc
      have fr : H5 ce.locals = none := I6.free
      replace hn : u6.heap.Ns ce.locals m := hn
      rw [cl0] at hn fr
      obtain ⟨y0, y1, y2, y3, y4, y5⟩ := I3.fpOk (H' := H5) (Nat.le_refl _) fr
      exact ⟨m, hn, fun h'' sb => ⟨.ref D, H5, I7.turned (t' := u6.toks) (fun b o hb' e => (sb.2 b hb').trans e) y0 y1 y3 y4 y5, rfl, qq⟩⟩
    · refine thnF (T.item (blkH X p u3 H3 scope ce fp) rfl rfl rfl hb i [] u5 _ H5 (fun _ _ => False) I5 (stat I5 n5) t5 go) fun r u6 ⟨v, hr, h6⟩ => ?_
      subst hr
      refine thnF h6 fun _ u7 ⟨x, H7, I7, r7, y7, t7, n7⟩ => ?_
      have J7 := I7.pinned (stat I7 n7) (T.obj _ _ t7)
      refine thnF (pg.run _ u7 _ H7 x v _ J7 r7 (step x H7 y7)) fun _ u8 ⟨σ8, H8, I8, hw8, q8⟩ => ?_
      refine thnF (pt.run _ u8 σ8 H8 _ I8 q8) fun b u9 ⟨H9, I9, q9⟩ => ?_
      have back : ∀ {s' : Shared} {H' : Hp}, Inv (blkH X p u3 H3 scope ce fp) ([] ++ pinsAt fp u7.heap) σ8 H' s' → Nx H' → ∃ m, m < n ∧ ∃ i H', Inv (blkH X p u3 H3 scope ce fp) [] (wipe σ (own.map (·.2))) H' s' ∧ tn i s'.heap ∧ (∀ b ∈ fp, H' b = none) ∧ W i m H' := fun {s' H'} K' nx => by
        obtain ⟨m', hm, w'⟩ := hNx H' nx
        have pin' : ∀ b ∈ fp, ∀ o, u7.heap.get? b = some o → s'.heap.get? b = some o ∧ H' b = none := fun b hb' o e => by
          have z := K'.pin (b, o) (List.mem_append_right _ (List.mem_append_right _ (mem_pinsAt hb' e)))
          exact ⟨z.1, z.2.1⟩
        refine ⟨m', hm, i + 1, H', (K'.unpinned (pins := [])).weak (by rw [← hw8, wipe_length]) (fun j v e => ?_), T.keep _ _ _ t7 fun b hb' o e => (pin' b hb' o e).1, fun b hb' => ?_, w'⟩
        · rw [← hw8] at e
          exact (wipe_some e).1
        · obtain ⟨o, e, _⟩ := T.obj _ _ t7 b hb'
          exact (pin' b hb' o e).2
      cases b with
      | false =>
        simp only [if_false, Bool.false_eq_true] at q9 ⊢
        exact back I9 q9
      | true =>
        simp only [if_true] at q9 ⊢
        refine thnF (pe.run _ u9 σ8 H9 _ I9 q9) fun z u10 ⟨yv, H10, I10, r10, acc, d10, z10, nx⟩ => ?_
        exact app_ok (X := blkH X p u3 H3 scope ce fp) I10 d10 z10 r10 fun u11 I11 => back I11 nx
  exact codeAny_compStart_list loop (T.self X.A 0 _ _ _ t4 loop)
theorem pe_lcH {X : Cx} {p : Addr × Obj} {elt tg iter : Expr} {ifs : List Expr} {scope : Scope} {own : List (Str × Nat)} {pos : Pos} {wi : TI} {g : TG} {tt : TT} {te : TE} (hot : Hot1 X.A p) (hp : p ∈ X.pn) (hN : X.N.Nodup) (hi : PIH X tg iter wi) (ok : BlkOk X.N X.env.scope scope own)
    (hg : ∀ s H C cl fp, PG (blkH X p s H scope (compEnvC scope cl C X.env) fp) tg g) (ht : ∀ s H C cl fp, PTs (blkH X p s H scope (compEnvC scope cl C X.env) fp) ifs tt) (he : ∀ s H C cl fp, PE (blkH X p s H scope (compEnvC scope cl C X.env) fp) elt te)
    (hs : ∀ x, foldedSetIterable iter X.env x = pure x := by intro _; rfl) : PE X (.ListComp elt [⟨tg, iter, ifs, 0⟩] scope pos) (tLc wi g tt te (own.map (·.2))) :=
  ⟨fun pins s σ H Q I h => lcHot hot hp hN I hi ok hg ht he hs h⟩
end Onp
set_option maxHeartbeats 4000000
set_option autoImplicit false
namespace Onp
open PySem PySem.Spec PyProof.Rows L2 HotX L2H
/-! ### try: body, except t1 as n: .. except t2 as n: .. -/
theorem fly_more {B h h' : Heap} {l : List Env} {e : Addr} {Z : Obj → Prop} (x : HandSPX.FlyingZ B l e Z h) (k : ∀ b o, h.get? b = some o → h'.get? b = some o) : HandSPX.FlyingZ B l e Z h' := by
  obtain ⟨x1, x2, x3, oe, vs, T, oT, ts, y1, y2, y3, y4, y5, y6, y7, y8, y9⟩ := x
  exact ⟨fun b o q => k _ _ (x1 b o q), x2, x3.of_keeps fun b o q _ => ⟨o, k b o q, rfl⟩, oe, vs, T, oT, ts, k _ _ y1, y2, y3, y4, y5, y6, k _ _ y7, y8, y9⟩
def TestOk (X : Cx) (t : Expr) (m : Value → Option Bool) : Prop :=
  ∀ (a : Addr) (pn : List (Addr × Obj)) (s : Shared) (σ : L2.St) (H : Hp) (cls : Value) (b : Bool) (Q : Bool → Shared → Prop) (E : Value → Shared → Prop), Inv (X.suite a pn) [] σ H s → PySem.W.Looks (model X.prog X.w) s.heap (typeOf (.ref a)) cls → m cls = some b →
    (∀ h', (∀ c o, s.heap.get? c = some o → h'.get? c = some o) → Q b { s with heap := h' }) →
    wpAny (model X.prog X.w) (X.A.mark (some (.ref a))) (eval t X.env) (fun c s1 => wpAny (model X.prog X.w) (X.A.mark (some (.ref a))) (excMatches (.ref a) c) Q E s1) E s
theorem test_name {X : Cx} {x : Str} {c : Value} {np : Pos} (hg : Gl X x) (hd : (x == ("__debug__" : Str)) = false) (hm : X.mg x = some c) : TestOk X (.Name x np) (fun cls => PySem.W.exmOne X.K cls c) := by
  intro a pn s σ H cls b Q E I LT hb q
  have LM := PySem.W.exm_one (M := model X.prog X.w) I.kIn LT hb
  exact ld_glob (X := X.suite a pn) I hg hm (LM.here (q _ fun _ _ z => z)) hd
theorem test_three {X : Cx} {x y z : Str} {c1 c2 c3 : Addr} {p1 p2 p3 tp : Pos} {k : Nat} (g1 : Gl X x) (g2 : Gl X y) (g3 : Gl X z) (d1 : (x == ("__debug__" : Str)) = false) (d2 : (y == ("__debug__" : Str)) = false) (d3 : (z == ("__debug__" : Str)) = false)
    (m1 : X.mg x = some (.ref c1)) (m2 : X.mg y = some (.ref c2)) (m3 : X.mg z = some (.ref c3)) (hst : starEach [.Name x p1, .Name y p2, .Name z p3] X.env = [(false, eval (.Name x p1) X.env), (false, eval (.Name y p2) X.env), (false, eval (.Name z p3) X.env)] := by rfl) :
    TestOk X (.Tuple [.Name x p1, .Name y p2, .Name z p3] k tp) (fun cls => PySem.W.exmAny X.K cls [.ref c1, .ref c2, .ref c3]) := by
  intro a pn s σ H cls b Q E I LT hb q
  have kp : ∀ c o, s.heap.get? c = some o → (s.heap.push { cls := .type "tuple", data := .seq [Value.ref c1, .ref c2, .ref c3].toArray }).get? c = some o := fun c o e => Heap.get?_push_of_some _ e
  refine wpAny_Tuple_spliced ?_
  rw [hst]
  show wpAny _ _ (spliced ((false, eval (.Name x p1) X.env) :: (false, eval (.Name y p2) X.env) :: (false, eval (.Name z p3) X.env) :: [])) _ _ s
  refine Calls.spliced_cons (ld_glob (X := X.suite a pn) I g1 m1 ?_ d1)
  refine Calls.spliced_cons (ld_glob (X := X.suite a pn) I g2 m2 ?_ d2)
  refine Calls.spliced_cons (ld_glob (X := X.suite a pn) I g3 m3 ?_ d3)
  refine Calls.spliced_nil ⟨(by decide : 3 ≤ sizeLine), ?_⟩
  exact (PySem.W.exm_tup3 (M := model X.prog X.w) (I.kIn.keeps kp) (LT.keeps kp) (Heap.get?_push_size _ rfl) hb).here (q _ kp)
abbrev Clause := (Value → Option Bool) × (Addr → Value → Option Addr → TS)
def clr (i : Nat) (D : Ends) : Ends := { nx := fun σ' H' => D.nx (σ'.set i none) H', rt := D.rt, bk := fun σ' H' => D.bk (σ'.set i none) H', ct := fun σ' H' => D.ct (σ'.set i none) H' }
def wClauses (i : Nat) (Wout : WX) (D : Ends) : List Clause → WX
  | [] => Wout
  | (m, ts) :: r => fun cls d σ H => ∃ b, m cls = some b ∧ (b = true → ∀ a, H a = none → ts a cls d (clr i D) (σ.set i (some (.ref a))) H) ∧ (b = false → wClauses i Wout D r cls d σ H)
inductive Clauses (X : Cx) (n : Str) : List ExceptHandler → List Clause → Prop
  | nil : Clauses X n [] []
  | cons {t : Expr} {m : Value → Option Bool} {ts : Addr → Value → Option Addr → TS} {b₀ : Stmt} {suite : List Stmt} {pos' : Pos} {hds : List ExceptHandler} {l : List Clause} (ht : TestOk X t m)
      (hsu : ∀ (a : Addr) (oe : Obj) (cls : Value) (d : Option Addr) (pn : List (Addr × Obj)), L2N.Zn cls d oe → (∃ vs, oe.data = .fields vs) → PSs (X.suite a ((a, oe) :: pn)) (b₀ :: suite) (ts a cls d)) (r : Clauses X n hds l) :
      Clauses X n (.ExceptHandler (some t) (some n) (b₀ :: suite) pos' :: hds) ((m, ts) :: l)
theorem ps_try_clauses {X : Cx} {n : Str} {i : Nat} {body : List Stmt} {h₀ : ExceptHandler} {hds : List ExceptHandler} {l : List Clause} {pos : Pos} {tb : WX → TS} {Wout : WX} (hs : X.stack = X.env :: X.outer) (hf : X.env.frame = some X.env.locals) (hN : X.N.Nodup) (hi : X.N[i]? = some n)
    (hln : X.env.kindOf n = some .local) (tk : L2N.Takes X Wout)
    (hb : ∀ (W : WX) (pn : List (Addr × Obj)) (xe : Value → Shared → Prop), L2N.Takes (X.tr pn xe) W → PassesOwn (model X.prog X.w) X.A X.env xe → PSs (X.tr pn xe) body (tb W)) (hh : Clauses X n (h₀ :: hds) l) :
    PS X (.Try body (h₀ :: hds) [] [] pos) (fun D σ H => tb (fun cls d σ H => σ.length = X.N.length → wClauses i Wout D l cls d σ H) D σ H) := by
  refine ⟨fun pins s σ H D I h => wpAny_Try_except ?_⟩
  have ok := I.ok
  have efr : X.A.frames = some (X.env :: X.outer) := by rw [ok.frames, hs]
  refine wpAny_mono ((hb (fun cls d σ H => σ.length = X.N.length → wClauses i Wout D l cls d σ H) (X.pn ++ pins) _ (fun u s' xx => ?_) PassesOwn.looking).run [] s σ H D (I.toTry _) h) (fun f s1 hsp => ?_) (fun e s1 he => he)
  · obtain ⟨a, B, sI, pins', σ', H', cls, d, rfl, J', nb, up, sky, na, os, ag, w⟩ := xx
    have J : Inv X pins σ' H' sI := J'.ofTry ok
    rw [hs] at sky
    show wpAny (model X.prog X.w) X.A (noteFrame (.ref a) X.env) _ _ _
    refine L2N.Sky.land L2N.Zn.steady efr hf sky fun h3 fl3 up3 => ?_
    have go : ∀ {hds' : List ExceptHandler} {l' : List Clause}, Clauses X n hds' l' → wClauses i Wout D l' cls d σ' H' → ∀ h4, HandSPX.FlyingZ B (X.env :: X.outer) a (L2N.Zn cls d) h4 → sI.heap.UpToSlots h4 →
        wpAny (model X.prog X.w) X.A (handleBy (.ref a) X.env hds') (SP X pins D) X.xe { s' with heap := h4 } := by
      intro hds' l' hk
      induction hk with
      | nil =>
        intro w h4 fl up4
        refine wpAny_handleBy_nil ?_
        obtain ⟨_, _, _, oe, vs, T, oT, ts', y1, y2, y3, y4, _⟩ := id fl
        unfold PySem.passOn
        refine wpAny_bind (wpAny_field y1 y3 y4 ?_)
        rw [if_neg (by simp : ¬ ((Value.ref T == Value.none) = true))]
        have fin : wpAny (model X.prog X.w) X.A (setFlight (.ref a) X.env.frame) (fun _ s4 => wpAny (model X.prog X.w) X.A (throw (.ref a) : Sem Flow) (SP X pins D) X.xe s4) X.xe { s' with heap := h4 } := by
          rw [hf]
          exact HandSPX.setFlight_upZ fl fun h5 hh5 up5 => wpAny_throw (tk _ _ ⟨a, B, sI, pins, σ', H', cls, d, rfl, J, nb, up4.trans up5, .inr (.inr (by rw [hs]; exact hh5)), na, os, ag, w⟩)
        first
          | exact wpAny_bind (wpAny_pure (wpAny_bind fin))
          | exact wpAny_bind fin
      | @cons t m ts b₀ suite pos' hds2 l2 ht hsu r ih =>
        intro w h4 fl up4
        obtain ⟨b, hb1, hyes, hno⟩ := w
        obtain ⟨oe, vs, ge, gz, gd⟩ := fl.there
        have J4 : Inv X pins σ' H' { s' with heap := h4 } := J.landed nb fl.1 up4 os ag
        have nfr : a ∉ frs (X.env :: X.outer) := fun hm => by
          obtain ⟨_, o', e', hnf⟩ := fl.2.2.1.mem hm
          rw [ge] at e'
          cases e'
          exact hnf _ gd
        have nL : a ≠ X.env.locals := fun z => nfr (List.mem_filterMap.mpr ⟨X.env, List.mem_cons_self, by rw [hf, z]⟩)
        have nF : a ∉ X.fs := fun hm => by
          obtain ⟨e, he, q⟩ := List.mem_filterMap.mp hm
          exact nfr (List.mem_filterMap.mpr ⟨e, List.mem_cons_of_mem _ he, q⟩)
        refine wpAny_handleBy_cons (codeAny_handlers_test ?_) (by intro q; cases q)
        refine ht a _ _ σ' H' cls b _ _ (J4.suite ge gd na nL nF) (fun A Q E s k q => wpAny_typeOf_ref (k _ _ ge) (by rw [gz.1]; exact q)) hb1 fun h5 k5 => ?_
        have fl5 := fly_more fl k5
        have up5 : sI.heap.UpToSlots h5 := up4.trans fun b o e _ => ⟨o.slots, k5 b o e⟩
        cases b with
        | true =>
          refine codeAny_handlers_suite_as (HandSPX.lands_againZ fl5 fun h6 fl6 up6 => ?_)
          have J6 : Inv X pins σ' H' { s' with heap := h6 } := J.landed nb fl6.1 (up5.trans up6) os ag
          obtain ⟨oe6, vs6, ge6, gz6, gd6⟩ := fl6.there
          refine store_ok (X := X.suite a ((a, oe6) :: (X.pn ++ pins))) (v := .ref a) (J6.suite ge6 gd6 na nL nF) hN hi (.inl hln) rfl (fun s7 S7 => ?_) (.inr hln)
          refine wpAny_mono ((hsu a oe6 cls d (X.pn ++ pins) gz6 ⟨_, gd6⟩).run [] s7 _ H' _ S7 (hyes rfl a na)) (fun f s8 hsp => ?_) (fun _ _ z => False.elim z)
          have away : ∀ {σ8 : L2.St} {H8 : Hp} {Q : Shared → Prop}, Inv (X.suite a ((a, oe6) :: (X.pn ++ pins))) [] σ8 H8 s8 → (∀ s9, Inv X pins (σ8.set i none) H8 s9 → Q s9) →
              wpAny (model X.prog X.w) X.A (do bindName X.env n .none; unbindBehindTheSuite X.env n pos') (fun _ s9 => Q s9) X.xe s8 := fun {σ8 H8 Q} S8 hq => gone_ok (S8.unsuite ok) hN hi hln hq
          cases f with
          | next => obtain ⟨σ8, H8, S8, q8⟩ := hsp; exact away S8 fun s9 J9 => ⟨_, _, J9, q8⟩
          | brk => obtain ⟨σ8, H8, S8, q8⟩ := hsp; exact away S8 fun s9 J9 => ⟨_, _, J9, q8⟩
          | cont => obtain ⟨σ8, H8, S8, q8⟩ := hsp; exact away S8 fun s9 J9 => ⟨_, _, J9, q8⟩
          | ret u => obtain ⟨v8, σ8, H8, S8, r8, q8⟩ := hsp; exact away S8 fun s9 J9 => ⟨_, _, _, J9, r8, q8⟩
        | false =>
          show wpAny _ X.A (handleBy (.ref a) X.env hds2) _ _ _
          exact ih (hno rfl) h5 fl5 up5
    exact go hh (w J.len) h3 fl3 (up.trans up3)
  · cases f with
    | next => obtain ⟨σ', H', J', q⟩ := hsp; exact wpAny_execs_nil ⟨σ', H', J'.ofTry ok, q⟩
    | brk => obtain ⟨σ', H', J', q⟩ := hsp; exact ⟨σ', H', J'.ofTry ok, q⟩
    | cont => obtain ⟨σ', H', J', q⟩ := hsp; exact ⟨σ', H', J'.ofTry ok, q⟩
    | ret u => obtain ⟨v, σ', H', J', r, q⟩ := hsp; exact ⟨v, σ', H', J'.ofTry ok, r, q⟩
/-! ### a raise of an own error, made by its __init__ -/
theorem mkRunN {X : Cx} {pins : List (Addr × Obj)} {σ : L2.St} {H1 : Hp} {s1 : Shared} {C fI : Addr} {k : Nat} {fd : FuncData} {ps : List Str} {sp : Sp} {us : List Value} {vs : List V} {Q : XK} (T : OexC X.K C) (iC : PySem.W.findIn X.K (.ref C) "__init__" = some (some (.ref fI)))
    (tI : PySem.W.typeIn X.K (.ref fI) = some (.type "function")) (F1 : FnOk X.prog X.w X.K X.mg X.base CX0 k fI fd ps sp) (hr : Room (k + 1) X.A) (hb : Binds X.K fd ps []) (I1 : Inv X pins σ H1 s1) (r1 : Vals vs us) (hz : vs.length ≤ 1000)
    (q1 : ∀ a, H1 a = none → sp (.ref a :: vs) (upd H1 a (exo a C none)) (fun v H2 => v = .non ∧ ∃ (d : Addr) (fs : List (Str × V)), H2 a = some (exo a C (some d)) ∧ H2 d = some (exd d fs) ∧ H1 d = none ∧ Q (.ref C) (some d) (upd (del H2 a) d (.xd fs))) (fun _ _ _ => False)) :
    wpAny (model X.prog X.w) X.A (call (.ref C) us) (L2N.MkP X pins σ Q) X.xe s1 := by
  obtain ⟨nm, q, N, bs, bm, sn, sub, ab, col, dd, k0, k1, k2, k3, k5, hC, hbm⟩ := T.cls
  obtain ⟨hp, g, dr, tk, os⟩ := s1
  have le1 : hp.objs.size ≤ hp.objs.size + 1 := Nat.le_succ _
  have hq := q1 (hp.objs.size + 1) (I1.hok.fresh le1)
  have kk : ∀ b o, hp.get? b = some o → ((hp.push (PySem.W.kdv_tup us)).push (PySem.HandSPX.excO C hp.objs.size)).get? b = some o := fun b o e => Heap.get?_push_of_some _ (Heap.get?_push_of_some _ e)
  have hget : ((hp.push (PySem.W.kdv_tup us)).push (PySem.HandSPX.excO C hp.objs.size)).get? (hp.objs.size + 1) = some (PySem.HandSPX.excO C hp.objs.size) := by heap_get
  have I2 := I1.laid (t' := tk) (a := hp.objs.size + 1) (o := exo (hp.objs.size + 1) C none) (h' := (hp.push (PySem.W.kdv_tup us)).push (PySem.HandSPX.excO C hp.objs.size)) kk le1 (exo_ok hget)
  have r2 : Vals (V.ref (hp.objs.size + 1) :: vs) (Value.ref (hp.objs.size + 1) :: us) := .cons rfl r1
  have hl : (Value.ref (hp.objs.size + 1) :: us).length = ps.length := by rw [← r2.length]; exact F1.len _ _ _ _ hq
  have hbd := hb ⟨(hp.push (PySem.W.kdv_tup us)).push (PySem.HandSPX.excO C hp.objs.size), g, dr, tk, os⟩ (Value.ref (hp.objs.size + 1) :: us) I2.kIn (by rw [List.append_nil]; exact hl)
  rw [List.append_nil] at hbd
  have hus : us.length ≤ sizeLine := by
    rw [← Paired.length r1, sizeLine_eq]
    omega
  refine wpAny_call (PySem.HandSPX.call_own F.excBase_ValueError (fun Y => PySem.HandSPX.refsVE_contains Y bm hbm) (I1.kIn _ _ hC) (PySem.W.looks_findIn I1.kIn iC) (fun self => PySem.W.bind_fn I1.kIn self tI) hus
    (codeAny_mono (F1.run _ X.stack _ _ ⟨Value.ref (hp.objs.size + 1) :: us, []⟩ (Value.ref (hp.objs.size + 1) :: us) _ _ (fun _ _ _ => False) (hr.make C us []) (I2.env0.make C us []) hbd r2 hq) fun r s' hq' => ?_))
  cases r with
  | error er => exact (show False from hq').elim
  | ok fl =>
    cases fl with
    | ret u =>
      obtain ⟨v, H2, os2, bare2, un2, hok2, rv, ev, d, fs, ea, ed, hd1, q2⟩ := hq'
      subst ev
      obtain ⟨h2, g2, d2, t2, os'⟩ := s'
      obtain ⟨t0, G, J, kG, ge, hoe, na⟩ := mk_end0 (d2 := d2) (t2 := t2) I1 le1 kk un2 hok2 os2 bare2 ea ed hd1
      exact ⟨rv, _, _, _, ⟨G, g2, d2, t2, os'⟩, _, .ref C, some d, rfl, J, kG, ge, hoe, ⟨rfl, rfl, fun vs e => by cases e; rfl⟩, rfl, rfl, na, rfl, bare2, raises_own T.exC T.tyC, q2⟩
    | next => exact False.elim hq'
    | brk => exact False.elim hq'
    | cont => exact False.elim hq'
/-- the heap behind the making: the error's own dict, and nothing else, is new -/
theorem made_heap {H : Hp} {a d : Addr} {o1 : HO} {fs : List (Str × V)} (ha : H a = none) (hd : H d = none) (n : d ≠ a) {o2 : HO} : upd (del (upd (upd (upd H a o1) d (exd d fs)) a o2) a) d (.xd fs) = upd H d (.xd fs) := by
  funext b
  by_cases e1 : b = d
  · rw [e1, upd_same, upd_same]
  · rw [upd_ne e1, upd_ne e1]
    by_cases e2 : b = a
    · rw [e2, del_same, ha]
    · rw [del_ne e2, upd_ne e2, upd_ne e1, upd_ne e2]
/-- the promise of an __init__ that sets word alone -/
def spWord (C : Addr) (wd : Str) : Sp := fun vs H Q _ => ∃ a, vs = [.ref a] ∧ H a = some (exo a C none) ∧ ∀ dx, H dx = none → dx ≠ a → Q .non (upd (upd H dx (exd dx [("word", .str wd)])) a (exo a C (some dx)))
def tRaiseW (C : Addr) (wd : Str) : L2.St → Hp → XK → Prop := fun σ H Q => ∀ d, H d = none → Q (.ref C) (some d) (upd H d (.xd [("word", .str wd)]))
theorem pmk_word {X : Cx} {x wd : Str} {C fI : Addr} {k : Nat} {fd : FuncData} {p pos : Pos} (T : OexC X.K C) (iC : PySem.W.findIn X.K (.ref C) "__init__" = some (some (.ref fI))) (tI : PySem.W.typeIn X.K (.ref fI) = some (.type "function"))
    (F1 : FnOk X.prog X.w X.K X.mg X.base CX0 k fI fd ["self"] (spWord C wd)) (hr : Room (k + 1) X.A) (hb : Binds X.K fd ["self"] []) (hg : Gl X x) (hm : X.mg x = some (.ref C)) (hdb : (x == ("__debug__" : Str)) = false := by decide) :
    L2N.PMk X (.Call (.Name x p) [] [] pos) (tRaiseW C wd) := by
  intro pins s σ H Q I h
  refine wpAny_Call_Name_kw (ld_glob I hg hm ?_ hdb)
  refine PySem.W.callWith_K0 I.kIn T.kC (mkRunN T iC tI F1 hr hb I .nil (Nat.zero_le _) fun a ha => ⟨a, rfl, upd_same, fun dx ndx ne => ⟨rfl, dx, [("word", .str wd)], upd_same, ?_, ?_, ?_⟩⟩)
  · rw [upd_ne ne, upd_same]
  · rw [upd_ne ne] at ndx
    exact ndx
  · rw [upd_ne ne] at ndx
    rw [made_heap ha ndx ne]
    exact h dx ndx
end Onp
set_option maxHeartbeats 4000000
set_option autoImplicit false
namespace Onp
open PySem PySem.Spec PyProof.Rows L2 HotX L2H
/-! ### a def that may raise, its errors with no context -/
theorem okN {P : Program} {w : World} {K : PySem.W.Frag} {mg : Str → Option Value} {base : Heap} {x qual : Str} {st : Stmt} {f : Addr} {fd : FuncData} {N ps : List Str} {k : Nat} {sp : Sp} (F : Fun K x qual st f fd) (S : FnScope N ps (defScope st)) (len : ∀ vs H Q E, sp vs H Q E → vs.length = ps.length)
    (hbody : ∀ (cdv : Value) (A : Around) (outer : List Env) (s : Shared) (H : Hp) (vs : List V) (Q : VK) (E : XK), Room k (A.deeper (envOfC qual (defScope st) s.heap.objs.size f cdv)) → sp vs H Q E →
      ∃ t, PSs (cxOf (L2N.CX P w) P w K mg base N qual (defScope st) f cdv A outer s H E) (defBody st) t ∧ t { nx := fun _ H' => Q .non H', rt := Q } (start N vs) H) : FnOk P w K mg base (L2N.CX P w) (k + 1) f fd ps sp := by
  obtain ⟨oc, od, kV, doc, pm, an, cdv, ct, osl, rfl, lk, hcd⟩ := F.ex
  exact fn_of lk hcd S len fun A outer s H vs Q E hr hsp => hbody cdv A outer s H vs Q E hr hsp
/-! ### a def that is called with the handled exception -/
def FnPin (P : Program) (w : World) (K : PySem.W.Frag) (mg : Str → Option Value) (base : Heap) (k : Nat) (f : Addr) (fd : FuncData) (ps : List Str) (sp : Addr × Obj → List V → Hp → VK → Prop) : Prop :=
  ∀ (A : Around) (outer : List Env) (s : Shared) (H : Hp) (us : List Value) (vs : List V) (Q : VK) (p : Addr × Obj), RoomH k A → Hot1 A p → PinOk outer H s p → Env0 P w K mg base A outer s H → BindsTo s fd ⟨us, []⟩ (ps.zip us) → Vals vs us → vs.length = ps.length → sp p vs H Q →
    codeAny (model P w) A (.call (.ref f) ⟨us, []⟩) (CR CX0 outer P w H s Q E0) s
theorem okPin {P : Program} {w : World} {K : PySem.W.Frag} {mg : Str → Option Value} {base : Heap} {x qual : Str} {st : Stmt} {f : Addr} {fd : FuncData} {N ps : List Str} {k : Nat} {sp : Addr × Obj → List V → Hp → VK → Prop} (F : Fun K x qual st f fd) (S : FnScope N ps (defScope st))
    (hbody : ∀ (cdv : Value) (A : Around) (outer : List Env) (s : Shared) (H : Hp) (vs : List V) (Q : VK) (p : Addr × Obj), Hot1 A p → RoomH k (A.deeper (envOfC qual (defScope st) s.heap.objs.size f cdv)) → sp p vs H Q →
      ∃ t, PSs (cxH CX0 P w K mg base N qual (defScope st) f cdv A outer s H E0 p) (defBody st) t ∧ t { nx := fun _ H' => Q .non H', rt := Q } (L2.start N vs) H) : FnPin P w K mg base (k + 1) f fd ps sp := by
  obtain ⟨oc, od, kV, doc, pm, an, cdv, ct, osl, rfl, lk, hcd⟩ := F.ex
  intro A outer s H us vs Q p hr hot hpin e0 hb r hl hsp
  have KX : K.In s.heap := e0.mod.kin.keeps fun b o e => (e0.bs b o e).1
  have lim : s.heap.NoLimit := e0.mod.nolimit.keeps fun b o e => (e0.bs b o e).1
  refine codeAny_call_function hr.depth (KX _ _ lk) rfl S.co S.gen rfl (PySem.W.codeRec_of KX hcd) (hb _ _ _ _ ?_)
  refine wpAny_newFunctionEnv_cells S.kind (fun ⟨n, v⟩ hy => (S.par n (List.of_mem_zip hy).1).imp id fun q => ⟨q, PySem.W.cellsFrom_some _ _ _ (.inl q)⟩) fun env he s1 y => ?_
  subst he
  refine ⟨lim.keeps y.toInCall.keep, codeAny_func ?_⟩
  obtain ⟨t, ht, hq⟩ := hbody cdv A outer s H vs Q p hot (hr.deeper _) hsp
  refine wpAny_mono (ht.run [] s1 (L2.start N vs) H _ (inv_startH S hpin e0 hl r y) hq) (fun fl s' hs => ?_) fun e s' hs => hs
  cases fl with
  | ret u => obtain ⟨v, σ', H', J, rv, q⟩ := hs; exact ⟨v, H', J.os, J.bare, J.base, J.hok, rv, q⟩
  | next => obtain ⟨σ', H', J, q⟩ := hs; exact ⟨.non, H', J.os, J.bare, J.base, J.hok, rfl, q⟩
  | brk => obtain ⟨_, _, _, q⟩ := hs; exact False.elim q
  | cont => obtain ⟨_, _, _, q⟩ := hs; exact False.elim q
theorem pe_callPin {X : Cx} {k : Nat} {f : Addr} {fd : FuncData} {ps : List Str} {sp : Addr × Obj → List V → Hp → VK → Prop} {x : Str} {q pos : Pos} {e : Expr} {es : List Expr} {t : TA} {p : Addr × Obj} (F : FnPin X.prog X.w X.K X.mg X.base k f fd ps sp) (hr : RoomH k X.A) (hot : Hot1 X.A p) (hp : p ∈ X.pn)
    (hg : Gl X x) (hm : X.mg x = some (.ref f)) (hk : PySem.W.keepIn X.K (.ref f) = true) (hb : Binds X.K fd ps []) (ha : PA X (e :: es) t) (hdb : (x == ("__debug__" : Str)) = false := by decide)
    (he : starEach (e :: es) X.env = (false, eval e X.env) :: starEach es X.env := by rfl) (hpl : (backTo pos (starEach es X.env)).any (·.1) = false := by rfl) :
    PE X (.Call (.Name x q) (e :: es) [] pos) (fun σ H Q => t σ H fun vs H1 => vs.length = ps.length ∧ sp p vs H1 Q) := by
  refine ⟨fun pins s σ H Q I h => wpAny_Call_Name_kw (ld_glob I hg hm ?_ hdb)⟩
  refine PySem.W.callWith_K (h₀ := X.base) I.ok.mod.kin hk (thn (ha.run pos pins s σ H _ I h) fun us s1 ⟨vs, H1, I1, r, hl, q⟩ => ⟨I1.kIn, ?_⟩) he hpl
  have b := hb s1 us I1.kIn (by rw [List.append_nil, ← r.length]; exact hl)
  rw [List.append_nil] at b
  have P1 := I1.pin p (List.mem_append_left _ hp)
  have hpin : PinOk X.stack H1 s1 p := ⟨P1.1, P1.2.1, fun z => (List.mem_cons.mp (I1.stkSub p.1 z)).elim P1.2.2.1 P1.2.2.2.1, P1.2.2.2.2⟩
  refine wpAny_call (codeAny_mono (F X.A X.stack s1 H1 us vs Q p hr hot hpin I1.env0 b r hl q) fun r s' hq => ?_)
  cases r with
  | error e => exact (show False from hq).elim
  | ok fl =>
    cases fl with
    | ret u => exact I1.after hq
    | next => exact False.elim hq
    | brk => exact False.elim hq
    | cont => exact False.elim hq
/-! ### what is asked of a pinned exception -/
structure ErrC (K : PySem.W.Frag) (D : Addr) : Prop where
  cl : (PySem.W.clsIn K D).isSome = true
  ga : PySem.W.findIn K (.ref D) "__getattribute__" = some (some (.builtin "BaseException.__getattribute__"))
  gg : PySem.W.findIn K (.ref D) "__getattr__" = some none
  sb : PySem.W.subIn K (.ref D) (.type "BaseException") = some true
  cc : PySem.W.findIn K (.ref D) "__class__" = some (some (.builtin "object.__class__"))
  gs : PySem.W.specialIn K (.builtin "object.__class__") "__get__" = some (some (.builtin "getset_descriptor.__get__"))
  tk : PySem.W.takesIn K (.builtin "object.__class__") = some true
  mo : PySem.W.mroIn K D (.type "object") = some true
  hd : PySem.W.hasDictIn K D = true
theorem inst_pin {X : Cx} {pins : List (Addr × Obj)} {σ : L2.St} {H : Hp} {s : Shared} {p : Addr × Obj} {D d : Addr} {fs : List (Str × V)} (I : Inv X pins σ H s) (hp : p ∈ X.pn) (hz : Zc (.ref D) (some d) p.2) (hf : ∃ vs, p.2.data = .fields vs) (hd : H d = some (.xd fs)) :
    ∃ od, PySem.W.InstAt s.heap p.1 p.2 D (some od) ∧ ∃ mA : Str → Option Value, (∀ f, RelO (fs.lookup f) (mA f)) ∧ ∀ name, PySem.W.lookIn name od = some (mA name) := by
  obtain ⟨mA, hns, hr⟩ := (show ∃ mA, s.heap.Ns1 d mA ∧ ∀ f, RelO (fs.lookup f) (mA f) from I.hok d _ hd)
  obtain ⟨od, ho, hl⟩ := lookIn_ns hns
  obtain ⟨vs, hv⟩ := hf
  exact ⟨od, ⟨(I.pin p (List.mem_append_left _ hp)).1, hz.1, by unfold PySem.W.notCls; rw [hv] <;> rfl, by rw [hz.2]; exact ho⟩, mA, hr, hl⟩
theorem call_isP {X : Cx} {p : Addr × Obj} {D d : Addr} (C : ErrC X.K D) (hp : p ∈ X.pn) (hz : Zc (.ref D) (some d) p.2) (hf : ∃ vs, p.2.data = .fields vs) :
    CallR X (.builtin "isinstance") (fun xs H Q => ∃ (c : Addr) (b : Bool) (fs : List (Str × V)), xs = [.ref p.1, .ref c] ∧ H d = some (.xd fs) ∧ PySem.W.kitOne X.K (.ref D) (.ref c) = some b ∧ Q (.bl b) H) := by
  intro pins s σ H xs us Q I r h
  obtain ⟨c, b, fs, rfl, hd, e, q⟩ := h
  obtain ⟨u, v, rfl, ru, rv⟩ := vals2 r
  cases ru
  cases rv
  obtain ⟨od, J, _⟩ := inst_pin I hp hz hf hd
  exact PySem.W.kia_one (PySem.W.kitx_exc C.cl C.ga C.gg C.sb C.cc C.gs C.tk C.mo) I.kIn J e (fun z => nomatch z) fun tk => ⟨.bl b, H, I.kept (t' := tk) fun _ _ z => z, rfl, q⟩
/-- e.f of it -/
theorem pe_fldP {X : Cx} {p : Addr × Obj} {D d : Addr} {e : Expr} {te : TE} {pos : Pos} {n : Str} (C : ErrC X.K D) (hno : PySem.W.findIn X.K (.ref D) n = some none) (hp : p ∈ X.pn) (hz : Zc (.ref D) (some d) p.2) (hf : ∃ vs, p.2.data = .fields vs) (he : PE X e te)
    (hb : attributeBase e n X.env (eval e X.env) = eval e X.env := by rfl) : PE X (.Attribute e n pos) (fun σ H Q => te σ H fun x H1 => x = .ref p.1 ∧ ∃ (fs : List (Str × V)) (v : V), H1 d = some (.xd fs) ∧ fs.lookup n = some v ∧ Q v H1) := by
  refine ⟨fun pins s σ H Q I h => attr_of hb (thn (he.run pins s σ H _ I h) fun u s1 ⟨x, H1, I1, rx, ex, fs, v, hd, l, q⟩ => ?_)⟩
  subst ex
  obtain rfl : u = Value.ref p.1 := rx
  obtain ⟨od, J, mA, hr, hl⟩ := inst_pin I1 hp hz hf hd
  obtain ⟨u, hu, ru⟩ := RelO.some_of (v := v) (o := mA n) (by rw [← l]; exact hr n)
  exact HandSPX.exc_get I1.kIn J C.ga C.gg C.sb (PySem.W.findObj_own C.hd hno rfl (by rw [hl, hu])) (handed_of ru) ⟨v, H1, I1.tok _, ru, q⟩
/-! ### a comprehension over zip, the first list no longer -/
theorem lc_zip1 {K : PySem.W.Frag} {a b : Addr} {xs ys : List V} {g : TG} {tt : TT} {te : TE} {vs : List Nat} {σ : L2.St} {H1 : Hp} {D : Addr} {Qd : Hp → Prop} (hl : xs.length ≤ ys.length) (Pv : Nat → Hp → Prop) (h0 : Pv 0 (upd H1 D (.lst []))) (hq : ∀ i H, Pv i H → SqL K H a xs ∧ SqL K H b ys)
    (hs : ∀ i x y T H, xs[i]? = some x → ys[i]? = some y → Pv i H → H T = none → g (.ref T) (wipe σ vs) (upd H T (.tup [x, y])) fun σ2 H2 => wipe σ2 vs = wipe σ vs ∧ tt σ2 H2 fun b H3 =>
      if b = true then te σ2 H3 fun y H4 => ∃ acc, H4 D = some (.lst acc) ∧ acc.length < sizeLine ∧ Pv (i + 1) (upd H4 D (.lst (acc ++ [y]))) else Pv (i + 1) H3) (hd : ∀ H, Pv xs.length H → Qd H) :
    ∃ W : Nat → Nat → Hp → Prop, (∃ m, W 0 m (upd H1 D (.lst []))) ∧ ∀ i m H, W i m H → ((Itz1 K a b).stop i H ∧ Qd H) ∨ ((Itz1 K a b).go i H ∧ ∃ Nx : Hp → Prop, (∀ H', Nx H' → ∃ m', m' < m ∧ W (i + 1) m' H') ∧
      ∀ x H', (Itz1 K a b).yld i H x H' → g x (wipe σ vs) H' fun σ2 H2 => wipe σ2 vs = wipe σ vs ∧ tt σ2 H2 fun b H3 => if b = true then te σ2 H3 fun y H4 => ∃ acc, H4 D = some (.lst acc) ∧ acc.length < sizeLine ∧ Nx (upd H4 D (.lst (acc ++ [y]))) else Nx H3) := by
  refine ⟨fun i m H => m = xs.length - i ∧ i ≤ xs.length ∧ Pv i H, ⟨xs.length, by simp, Nat.zero_le _, h0⟩, fun i m H ⟨em, hi, p⟩ => ?_⟩
  obtain ⟨qa, qb⟩ := hq i H p
  by_cases lt : i < xs.length
  · have lt2 : i < ys.length := by omega
    refine .inr ⟨⟨xs, ys, xs[i], ys[i], qa, qb, List.getElem?_eq_getElem lt, List.getElem?_eq_getElem lt2⟩, Pv (i + 1), fun H' p' => ⟨xs.length - (i + 1), by omega, rfl, lt, p'⟩, fun x H' hy => ?_⟩
    obtain ⟨T, x1, x2, rfl, nT, rfl, e1, e2⟩ := hy
    exact hs i x1 x2 T H (e1 _ qa) (e2 _ qb) p nT
  · have e : i = xs.length := by omega
    subst e
    exact .inl ⟨⟨xs, ys, qa, qb, Nat.le_refl _⟩, hd H p⟩
/-! ### the lambda that a def got, called in its try: errors with no context -/
def lamCxN (X : Cx) (A : Around) (outer : List Env) (s : Shared) (H : Hp) (E : XK) (scope : Scope) (f c' : Addr) : Cx :=
  { LamX.lamCx X A outer s H E scope f c' with xe := fun e s' => wpAny (model X.prog X.w) (A.deeper (LamX.lamEnv X scope s.heap.objs.size f c')) (leaving (LamX.lamEnv X scope s.heap.objs.size f c') e) (fun _ s'' => L2N.CX X.prog X.w outer H s E e s'') (fun e' s'' => L2N.CX X.prog X.w outer H s E e' s'') s' }
theorem reXe {X : Cx} {xe : Value → Shared → Prop} {pins : List (Addr × Obj)} {σ : L2.St} {H : Hp} {s : Shared} (I : Inv X pins σ H s) : Inv { X with xe := xe } pins σ H s := by
  have ok := I.ok
  exact ⟨⟨ok.mod, ok.kind, ok.glob, ok.blt, ok.above, ok.inj, ok.has, ok.cab, ok.hd, ok.frames, ok.stk, ok.exf, ok.bs, ok.bsz, ok.noex, ok.exfs, ok.funs, ok.frf⟩, I.os, I.bare, I.base, I.loc, I.cell, I.free, I.freeC, I.pin, I.hok, I.len⟩
section
variable {X : Cx} {pins : List (Addr × Obj)} {σ : L2.St} {H : Hp} {s : Shared}
open LamX
theorem pe_actN {CXg : CXT} {Eg : XK} {Ng : List Str} {qg : Str} {sg : Scope} {g f c' : Addr} {cdg pm ctv : Value} {params : Arguments} {body : Expr} {scope : Scope} {k i : Nat} {a : Str} {pn : List (Addr × Obj)} {xe : Value → Shared → Prop} {W : WX} {E : XK} {tb : TE} {p1 p2 : Pos}
    (I : Inv X pins σ H s) (L : LamS X.env.scope scope) (hf : s.heap.get? f = some (PySem.W.kla_obj "<lambda>" (X.env.qual ++ "<lambda>") params body scope (cloFrom X.env.cells scope.names []) pm c' ctv)) (hfn : H f = none) (hfr : f ∉ frs X.stack)
    (hbind : bindArgs (PySem.W.kla_fn "<lambda>" (X.env.qual ++ "<lambda>") params body scope (cloFrom X.env.cells scope.names []) pm (.ref c') ctv) ⟨[], []⟩ = pure [])
    (tk : L2N.Takes ((cxOf CXg X.prog X.w X.K X.mg X.base Ng qg sg g cdg X.A X.stack s H Eg).tr pn xe) W) (hW : ∀ cls d σ' H', E cls d H' → W cls d σ' H') (hr : Room (k + 1) (X.A.deeper (envOfC qg sg s.heap.objs.size g cdg)))
    (hbody : ∀ (A : Around) (outer : List Env) (s : Shared) (H : Hp), Room k (A.deeper (lamEnv X scope s.heap.objs.size f c')) → PE (lamCxN X A outer s H E scope f c') body tb)
    (hN : Ng[i]? = some a) (hv : Vis sg a) (hd : (a == ("__debug__" : Str)) = false) (hcd : (a == ("__classdict__" : Str)) = false) :
    PE ((cxOf CXg X.prog X.w X.K X.mg X.base Ng qg sg g cdg X.A X.stack s H Eg).tr pn xe) (.Call (.Name a p1) [] [] p2) (fun σZ HZ Q => σZ[i]? = some (some (.ref f)) ∧ HZ c' = some (CodeO c' (X.env.qual ++ "<lambda>")) ∧ tb σ HZ Q) := by
  refine ⟨fun pinsZ sZ σZ HZ Q IZ ⟨hs, hc, ht⟩ => ?_⟩
  refine wpAny_Call_Name_kw (thn ((pe_var (pos := p1) (i := i) hN hv hd hcd).run pinsZ sZ σZ HZ (fun v H1 => v = .ref f ∧ H1 = HZ) IZ ⟨.ref f, hs, rfl, rfl⟩) fun u s1 ⟨v, H1, I1, r1, ev, eH⟩ => ?_)
  subst ev
  rw [eH] at I1
  obtain rfl : u = Value.ref f := r1
  have of1 := I1.base.keep f _ hf hfn hfr (fun z => nomatch (show f ∈ ([] : List Addr) from z))
  refine PySem.W.callWith_F0 ⟨_, _, _, _, of1⟩ ?_
  obtain ⟨⟨oc, vs, t, hoc, hdc, hvc⟩, _, _⟩ := I1.hok c' _ hc
  have rc : codeAny (model X.prog X.w) (X.A.deeper (envOfC qg sg s.heap.objs.size g cdg)) (.call (.ref f) ⟨[], []⟩) (CR (L2N.CX X.prog X.w) (envOfC qg sg s.heap.objs.size g cdg :: X.stack) X.prog X.w HZ s1 Q E) s1 := by
    refine PySem.W.kla_callFunE hr.depth of1 rfl L.co L.gen rfl ⟨c', oc, vs, t, rfl, hoc, hdc, hvc⟩ ?_
    rw [hbind]
    refine wpAny_pure (wpAny_newFunctionEnv (fun y hy => (L.own y hy).2) (fun y hy => absurd hy (by simp)) (fun j hns hsb => ⟨I1.nolimit.fresh _ hsb, ?_⟩) L.kind)
    show codeAny _ _ (.expr body (lamEnv X scope s1.heap.objs.size f c')) _ _
    have kp : ∀ b o, s1.heap.get? b = some o → j.get? b = some o := fun b o e => hsb.extBut b o (Nat.ne_of_lt (Heap.lt_size e)) (Heap.get?_push_of_some _ e)
    have J0 : Inv (lamCx X (X.A.deeper (envOfC qg sg s.heap.objs.size g cdg)) (envOfC qg sg s.heap.objs.size g cdg :: X.stack) s1 HZ E scope f c') [] σ HZ { s1 with heap := j, toks := s1.toks + ([] : List (Str × Value)).length } := lam_start2 I L I1.env0 hr.hd I1.base hns kp
    have J : Inv (lamCxN X (X.A.deeper (envOfC qg sg s.heap.objs.size g cdg)) (envOfC qg sg s.heap.objs.size g cdg :: X.stack) s1 HZ E scope f c') [] σ HZ { s1 with heap := j, toks := s1.toks + ([] : List (Str × Value)).length } := reXe J0
    refine PySem.W.kla_codeExpr (wpAny_mono ((hbody _ _ s1 HZ (hr.deeper _)).run [] _ _ HZ Q J ht) (fun v s' hq => ?_) fun e s' hq => hq)
    obtain ⟨w', H', J', rv, q⟩ := hq
    exact ⟨w', H', J'.os, J'.bare, J'.base, J'.hok, rv, q⟩
  have hx := L2N.passes_call tk hW
  refine wpAny_call (codeAny_mono rc fun r s' hq => ?_)
  cases r with
  | error e => exact hx pinsZ σZ HZ s1 e s' I1 hq
  | ok fl =>
    cases fl with
    | ret u => exact I1.after hq
    | next => exact False.elim hq
    | brk => exact False.elim hq
    | cont => exact False.elim hq
end
end Onp
set_option maxHeartbeats 4000000
set_option autoImplicit false
namespace Onp
open PySem PySem.Spec PyProof.Rows L2 HotX L2H LamX
/-! ### x(lambda: body), x a def that calls what it got in a try; errors with no context -/
def GivesN (X : Cx) (k : Nat) (Ng : List Str) (x : Str) (sg : Scope) (g : Addr) (cdg : Value) (bg : List Stmt) (a : Str) (q : Str) (TT : (XK → Hp → VK → Prop) → Hp → VK → Prop) : Prop :=
  ∀ (f c' : Addr) (s : Shared) (H : Hp) (Q : VK) (tl : XK → Hp → VK → Prop), Room (k + 1) (X.A.deeper (envOfC x sg s.heap.objs.size g cdg)) →
    (∀ (W : WX) (pn : List (Addr × Obj)) (xe : Value → Shared → Prop) (E : XK) (p1 p2 : Pos), L2N.Takes ((cxOf CX0 X.prog X.w X.K X.mg X.base Ng x sg g cdg X.A X.stack s H E0).tr pn xe) W → (∀ cls d σ' H', E cls d H' → W cls d σ' H') →
      PE ((cxOf CX0 X.prog X.w X.K X.mg X.base Ng x sg g cdg X.A X.stack s H E0).tr pn xe) (.Call (.Name a p1) [] [] p2) (fun σZ HZ Q => σZ[0]? = some (some (.ref f)) ∧ HZ c' = some (CodeO c' q) ∧ tl E HZ Q)) →
    H c' = some (CodeO c' q) → TT tl H Q →
    ∃ t, PSs (cxOf CX0 X.prog X.w X.K X.mg X.base Ng x sg g cdg X.A X.stack s H E0).nox bg t ∧ t { nx := fun _ H' => Q .non H', rt := Q } (L2.start Ng [.ref f]) H
theorem pe_lamN {X : Cx} {T : List (Addr × Str)} {TT : (XK → Hp → VK → Prop) → Hp → VK → Prop} {x a : Str} {g c P : Addr} {k : Nat} {pg : Arguments} {bg : List Stmt} {sg : Scope} {dV kV doc pm cdv ct oc : Value} {an od : Option Addr} {osl : Array (Option Value)} {Ng : List Str}
    {params : Arguments} {body : Expr} {scope : Scope} {t : XK → TE} {p lpos pos : Pos} (hg : Gl X x) (hm : X.mg x = some (.ref g)) (hk : PySem.W.keepIn X.K (.ref g) = true) (lk : X.K.lookup g = some ⟨oc, od, .func (PySem.W.fnOf x x pg bg sg dV kV doc pm an cdv ct), osl⟩)
    (hcg : PySem.W.codeIn X.K cdv x = true) (hb : L2.Binds X.K (PySem.W.fnOf x x pg bg sg dV kV doc pm an cdv ct) [a] []) (Sg : FnScope Ng [a] sg) (hNg : Ng[0]? = some a) (hva : Vis sg a) (hG : GivesN X k Ng x sg g cdv bg a (X.env.qual ++ "<lambda>") TT)
    (TB : TabB X.base X.mg c P) (hcode : X.env.code = .ref c) (hmT : (P, X.env.qual ++ "<lambda>") ∈ T) (hu : ∀ p ∈ T, p.1 = P → p.2 = X.env.qual ++ "<lambda>") (hr : Room (k + 2) X.A) (L : LamS X.env.scope scope) (hdef : defaultsOf params X.env = ([], []))
    (hbind : ∀ (q : Str) (cl : List (Str × Addr)) (pm cv ctv : Value), bindArgs (PySem.W.kla_fn "<lambda>" q params body scope cl pm cv ctv) ⟨[], []⟩ = pure [])
    (hbody : ∀ (A : Around) (outer : List Env) (s : Shared) (H : Hp) (E : XK) (f c' : Addr), Room k (A.deeper (lamEnv X scope s.heap.objs.size f c')) → PE (lamCxN X A outer s H E scope f c') body (t E))
    (hdb : (x == ("__debug__" : Str)) = false := by decide) (hd : (a == ("__debug__" : Str)) = false := by decide) (hcd : (a == ("__classdict__" : Str)) = false := by decide) : PE X (.Call (.Name x p) [.Lambda params body scope lpos] [] pos) (tLam T TT t) := by
  refine ⟨fun pins s σ H Q I ⟨hT, h⟩ => wpAny_Call_Name_kw (ld_glob I hg hm ?_ hdb)⟩
  refine PySem.W.callWith_K (h₀ := X.base) I.ok.mod.kin hk ?_ (by rfl) (by rfl)
  show wpAny _ _ (spliced ((false, eval (.Lambda params body scope lpos) X.env) :: backTo pos (starEach [] X.env))) _ _ s
  refine Calls.spliced_cons (lam_make2 I TB hcode hmT hu hT hdef (L.has I.ok) fun f c' pm' ctv H1 s' I1 eN T1 hf hfn hfr hco => Calls.spliced_nil ⟨I1.kIn, ?_⟩)
  have rc : codeAny (model X.prog X.w) X.A (.call (.ref g) ⟨[.ref f], []⟩) (CR CX0 X.stack X.prog X.w H1 s' Q E0) s' := by
    refine run_ofS (N := Ng) (ps := [a]) (us := [.ref f]) (vs := [.ref f]) lk hcg Sg hr I1.env0 (hb s' [.ref f] I1.kIn rfl) (.cons rfl .nil) rfl fun hr' => ?_
    obtain ⟨t', ht', hq'⟩ := hG f c' s' H1 Q (fun E H' Q' => t E σ H' Q') hr' (fun W pn xe E p1 p2 tk hW => pe_actN (i := 0) I1 L hf hfn hfr (hbind _ _ _ _ _) tk hW hr' (fun A outer s H hr2 => hbody A outer s H E f c' hr2) hNg hva hd hcd) hco (h H1 eN T1)
    exact ⟨t', ht'.nox, hq'⟩
  refine wpAny_call (codeAny_mono rc fun r s2 hq => ?_)
  cases r with
  | error e => exact (show False from hq).elim
  | ok fl =>
    cases fl with
    | ret u => exact I1.after hq
    | next => exact False.elim hq
    | brk => exact False.elim hq
    | cont => exact False.elim hq
theorem takes0N {X : Cx} : L2N.Takes X (fun _ _ _ _ => False) := fun _ _ x => by
  obtain ⟨_, _, _, _, _, _, _, _, _, _, _, _, _, _, _, _, z⟩ := x
  exact z.elim
end Onp
set_option autoImplicit false
namespace Onp
open PySem PySem.Spec PyProof.Rows L2
/-! ### deeds and marks -/
inductive Dd where
  | keep | cent | fill | coin | brim
  deriving DecidableEq
def Dd.nm : Dd → Str
  | .keep => "keep" | .cent => "cent" | .fill => "fill" | .coin => "coin" | .brim => "brim"
def Dd.rk : Dd → Nat
  | .keep => 0 | .cent => 1 | .fill => 2 | .coin => 3 | .brim => 4
def deedsL : List Str := ["keep", "cent", "fill", "coin", "brim"]
def marksL : List Str := ["brim", "fill", "keep", "cent", "coin", "dear", "shut"]
def makingL : List Str := ["keep", "cent", "fill", "coin", "brim", "dear", "shut"]
def mkn (i : Nat) : Str := makingL.getD i "shut"
theorem nm_mkn (d : Dd) : d.nm = mkn d.rk := by cases d <;> rfl
theorem rk_lt (d : Dd) : d.rk < 5 := by cases d <;> decide
theorem nm_in (d : Dd) : d.nm ∈ deedsL := by cases d <;> decide +kernel
theorem in_nm : ∀ z ∈ deedsL, ∃ d : Dd, z = d.nm := fun z h => by
  rcases List.mem_cons.mp h with rfl | h
  · exact ⟨.keep, rfl⟩
  rcases List.mem_cons.mp h with rfl | h
  · exact ⟨.cent, rfl⟩
  rcases List.mem_cons.mp h with rfl | h
  · exact ⟨.fill, rfl⟩
  rcases List.mem_cons.mp h with rfl | h
  · exact ⟨.coin, rfl⟩
  rcases List.mem_cons.mp h with rfl | h
  · exact ⟨.brim, rfl⟩
  cases h
def dv (d : Dd) : V := .str d.nm
def stp (p : Int × Int) : Dd → Int × Int
  | .keep => p
  | .cent => (p.1 + 1, p.2)
  | .fill => (0, p.2)
  | .coin => (0, p.2 + 1)
  | .brim => (0, 0)
theorem flatStrs (ys : List Str) : (ys.map V.str).all flatV = true := by
  rw [List.all_map]
  exact List.all_eq_true.mpr fun _ _ => rfl
theorem inV_strs (z : Str) : ∀ ys : List Str, inV (.str z) (ys.map V.str) = decide (z ∈ ys)
  | [] => by rfl
  | y :: r => by
    have ih := inV_strs z r
    unfold inV at ih ⊢
    rw [List.map_cons, List.any_cons, ih]
    show ((y == z) || decide (z ∈ r)) = decide (z ∈ y :: r)
    by_cases e : z = y
    · subst e
      rw [beq_self_eq_true, decide_eq_true List.mem_cons_self]
      rfl
    · have e1 : (y == z) = false := beq_eq_false_iff_ne.mpr (Ne.symm e)
      rw [e1, Bool.false_or]
      by_cases h : z ∈ r
      · rw [decide_eq_true h, decide_eq_true (List.mem_cons_of_mem _ h)]
      · rw [decide_eq_false h, decide_eq_false (fun q => (List.mem_cons.mp q).elim e h)]
end Onp
set_option maxHeartbeats 4000000
set_option autoImplicit false
/-! own refusals over other built-in ones than ValueError, with one field -/
namespace Onp
open PySem PySem.Spec PyProof.Rows L2 HotX L2H
def isR : Value → Bool
  | .ref _ => true
  | _ => false
theorem isR_ref {v : Value} (h : isR v = true) : ∃ c, v = .ref c := by
  cases v <;> first | exact ⟨_, rfl⟩ | cases h
structure BaseB (B newId initId : String) (tl : List Value) : Prop where
  F : ExcBaseFacts B newId initId tl
  pass : ∀ self : Value, refuseLoop self "__setattr__" tl = pure ()
  ob : tl.contains (.type "object") = true
theorem refsT_pass {tl : List Value} (hp : ∀ self : Value, refuseLoop self "__setattr__" tl = pure ()) (self : Value) : ∀ l : List Value, l.dropWhile isR = tl → refuseLoop self "__setattr__" l = pure ()
  | [], h => by
    have h : [] = tl := h
    rw [h]
    exact hp self
  | v :: r, h => by
    cases e : isR v with
    | true =>
      obtain ⟨c, rfl⟩ := isR_ref e
      rw [refuseLoop_ref]
      exact refsT_pass hp self r (by rw [List.dropWhile_cons_of_pos e] at h; exact h)
    | false =>
      rw [List.dropWhile_cons_of_neg (by rw [e]; decide)] at h
      rw [h]
      exact hp self
theorem refsT_has {tl : List Value} (Y : String) : ∀ l : List Value, l.dropWhile isR = tl → l.contains (.type Y) = tl.contains (.type Y)
  | [], h => by
    have h : [] = tl := h
    rw [h]
  | v :: r, h => by
    cases e : isR v with
    | true =>
      obtain ⟨c, rfl⟩ := isR_ref e
      rw [List.dropWhile_cons_of_pos e] at h
      rw [List.contains_cons, refsT_has Y r h]
      rfl
    | false =>
      rw [List.dropWhile_cons_of_neg (by rw [e]; decide)] at h
      rw [h]
structure OexB (K : PySem.W.Frag) (C : Addr) (newId : String) (tl : List Value) : Prop where
  cls : ∃ nm q N bs bm sn sub ab col dd k0 k1 k2 k3 k5, K.lookup C = some (excClassObj nm q C N bs bm true sn sub ab col dd k0 k1 k2 k3 k5 newId) ∧ bm.dropWhile isR = tl
  sa : PySem.W.findIn K (.ref C) "__setattr__" = some (some (.builtin "object.__setattr__"))
  exC : PySem.W.subIn K (.ref C) (.type "BaseException") = some true
  tyC : PySem.W.typeIn K (.ref C) = some (.type "type")
  kC : PySem.W.keepIn K (.ref C) = true
theorem mkRunB {X : Cx} {B newId initId : String} {tl : List Value} (BB : BaseB B newId initId tl) {pins : List (Addr × Obj)} {σ : L2.St} {H1 : Hp} {s1 : Shared} {C fI : Addr} {k : Nat} {fd : FuncData} {ps : List Str} {sp : Sp} {us : List Value} {vs : List V} {Q : XK} (T : OexB X.K C newId tl) (iC : PySem.W.findIn X.K (.ref C) "__init__" = some (some (.ref fI)))
    (tI : PySem.W.typeIn X.K (.ref fI) = some (.type "function")) (F1 : FnOk X.prog X.w X.K X.mg X.base CX0 k fI fd ps sp) (hr : Room (k + 1) X.A) (hb : Binds X.K fd ps []) (I1 : Inv X pins σ H1 s1) (r1 : Vals vs us) (hz : vs.length ≤ 1000)
    (q1 : ∀ a, H1 a = none → sp (.ref a :: vs) (upd H1 a (exo a C none)) (fun v H2 => v = .non ∧ ∃ (d : Addr) (fs : List (Str × V)), H2 a = some (exo a C (some d)) ∧ H2 d = some (exd d fs) ∧ H1 d = none ∧ Q (.ref C) (some d) (upd (del H2 a) d (.xd fs))) (fun _ _ _ => False)) :
    wpAny (model X.prog X.w) X.A (call (.ref C) us) (L2N.MkP X pins σ Q) X.xe s1 := by
  obtain ⟨nm, q, N, bs, bm, sn, sub, ab, col, dd, k0, k1, k2, k3, k5, hC, hbm⟩ := T.cls
  obtain ⟨hp, g, dr, tk, os⟩ := s1
  have le1 : hp.objs.size ≤ hp.objs.size + 1 := Nat.le_succ _
  have hq := q1 (hp.objs.size + 1) (I1.hok.fresh le1)
  have kk : ∀ b o, hp.get? b = some o → ((hp.push (PySem.W.kdv_tup us)).push (PySem.HandSPX.excO C hp.objs.size)).get? b = some o := fun b o e => Heap.get?_push_of_some _ (Heap.get?_push_of_some _ e)
  have hget : ((hp.push (PySem.W.kdv_tup us)).push (PySem.HandSPX.excO C hp.objs.size)).get? (hp.objs.size + 1) = some (PySem.HandSPX.excO C hp.objs.size) := by heap_get
  have I2 := I1.laid (t' := tk) (a := hp.objs.size + 1) (o := exo (hp.objs.size + 1) C none) (h' := (hp.push (PySem.W.kdv_tup us)).push (PySem.HandSPX.excO C hp.objs.size)) kk le1 (exo_ok hget)
  have r2 : Vals (V.ref (hp.objs.size + 1) :: vs) (Value.ref (hp.objs.size + 1) :: us) := .cons rfl r1
  have hl : (Value.ref (hp.objs.size + 1) :: us).length = ps.length := by rw [← r2.length]; exact F1.len _ _ _ _ hq
  have hbd := hb ⟨(hp.push (PySem.W.kdv_tup us)).push (PySem.HandSPX.excO C hp.objs.size), g, dr, tk, os⟩ (Value.ref (hp.objs.size + 1) :: us) I2.kIn (by rw [List.append_nil]; exact hl)
  rw [List.append_nil] at hbd
  have hus : us.length ≤ sizeLine := by
    rw [← Paired.length r1, sizeLine_eq]
    omega
  refine wpAny_call (PySem.HandSPX.call_own BB.F (fun Y => refsT_has Y bm hbm) (I1.kIn _ _ hC) (PySem.W.looks_findIn I1.kIn iC) (fun self => PySem.W.bind_fn I1.kIn self tI) hus
    (codeAny_mono (F1.run _ X.stack _ _ ⟨Value.ref (hp.objs.size + 1) :: us, []⟩ (Value.ref (hp.objs.size + 1) :: us) _ _ (fun _ _ _ => False) (hr.make C us []) (I2.env0.make C us []) hbd r2 hq) fun r s' hq' => ?_))
  cases r with
  | error er => exact (show False from hq').elim
  | ok fl =>
    cases fl with
    | ret u =>
      obtain ⟨v, H2, os2, bare2, un2, hok2, rv, ev, d, fs, ea, ed, hd1, q2⟩ := hq'
      subst ev
      obtain ⟨h2, g2, d2, t2, os'⟩ := s'
      obtain ⟨t0, G, J, kG, ge, hoe, na⟩ := mk_end0 (d2 := d2) (t2 := t2) I1 le1 kk un2 hok2 os2 bare2 ea ed hd1
      exact ⟨rv, _, _, _, ⟨G, g2, d2, t2, os'⟩, _, .ref C, some d, rfl, J, kG, ge, hoe, ⟨rfl, rfl, fun vs e => by cases e; rfl⟩, rfl, rfl, na, rfl, bare2, raises_own T.exC T.tyC, q2⟩
    | next => exact False.elim hq'
    | brk => exact False.elim hq'
    | cont => exact False.elim hq'
theorem pmk_wordB {X : Cx} {B newId initId : String} {tl : List Value} (BB : BaseB B newId initId tl) {x wd : Str} {C fI : Addr} {k : Nat} {fd : FuncData} {p pos : Pos} (T : OexB X.K C newId tl) (iC : PySem.W.findIn X.K (.ref C) "__init__" = some (some (.ref fI))) (tI : PySem.W.typeIn X.K (.ref fI) = some (.type "function"))
    (F1 : FnOk X.prog X.w X.K X.mg X.base CX0 k fI fd ["self"] (spWord C wd)) (hr : Room (k + 1) X.A) (hb : Binds X.K fd ["self"] []) (hg : Gl X x) (hm : X.mg x = some (.ref C)) (hdb : (x == ("__debug__" : Str)) = false := by decide) :
    L2N.PMk X (.Call (.Name x p) [] [] pos) (tRaiseW C wd) := by
  intro pins s σ H Q I h
  refine wpAny_Call_Name_kw (ld_glob I hg hm ?_ hdb)
  refine PySem.W.callWith_K0 I.kIn T.kC (mkRunB BB T iC tI F1 hr hb I .nil (Nat.zero_le _) fun a ha => ⟨a, rfl, upd_same, fun dx ndx ne => ⟨rfl, dx, [("word", .str wd)], upd_same, ?_, ?_, ?_⟩⟩)
  · rw [upd_ne ne, upd_same]
  · rw [upd_ne ne] at ndx
    exact ndx
  · rw [upd_ne ne] at ndx
    rw [made_heap ha ndx ne]
    exact h dx ndx
/-! ### the first field of such a refusal -/
section
open PySem.W PySem.Calls PySem.HandSPX Builtin Builtin.ObjectAttr
theorem osaB {prog : Program} {w : World} {A : Around} {R : Result → Shared → Prop} {hp : Heap} {g : Array GenState} {d : Drawn} {t : Nat} {os : OsState} {K : PySem.W.Frag} {name : Str} {tk : Tok} {v : Value} {x C : Addr} {fv : Array Value} {cd : ClassData} {B newId initId : String} {tl : List Value} (BB : BaseB B newId initId tl)
    (X : K.In hp) (hx : hp.get? x = some { cls := .ref C, data := .fields fv }) (hcd : PySem.W.clsIn K C = some cd) (hm : cd.mro.dropWhile isR = tl) (hne : cd.mro ≠ []) (hh : cd.hasDict = true) (ha : PySem.W.findIn K (.ref C) name = some none)
    (hq : ∀ h' tk' dx, (∀ b o, b ≠ x → hp.get? b = some o → h'.get? b = some o) → hp.objs.size ≤ dx → dx ≠ x → h'.get? x = some { cls := .ref C, dict := some dx, data := .fields fv } →
      h'.Ns1 dx (fun y => if y = name then some v else none) → R (.ok (.ret .none)) ⟨h', g, d, tk', os⟩) :
    codeAny (model prog w) A (.call (.builtin "object.__setattr__") ⟨[.ref x, .str name tk, v], []⟩) R ⟨hp, g, d, t, os⟩ := by
  have mroOb : cd.mro.contains (.type "object") = true := (refsT_has "object" _ hm).trans BB.ob
  have xNew : x ≠ hp.objs.size := Nat.ne_of_lt (Heap.lt_size hx)
  have J : PySem.W.InstAt hp x { cls := .ref C, data := .fields fv } C none := ⟨hx, rfl, rfl, trivial⟩
  have isOb : PySem.W.Looks (model prog w) hp (isInstance (.ref x) (.type "object")) true := by
    refine J.type.andThen (PySem.W.looks_mroIn X ?_)
    unfold PySem.W.mroIn
    rw [hcd, Option.bind_some, if_neg (by rw [List.isEmpty_iff]; exact hne), mroOb]
  have S := PySem.F.store_object
  refine codeAny_call_builtin S.slot.plain S.entry (@PySem.W.check_slot (model prog w) _ _ ⟨hp, g, d, t, os⟩ "object.__setattr__" "object" "__setattr__" (.ref x) [.str name tk, v] [] _ S.kind S.split isOb (S.args (.ref x) (.str name tk) v) ?_)
  have mroL : PySem.W.Looks (model prog w) hp (mroOf (.ref C)) cd.mro := (PySem.W.looks_clsIn X hcd).andThen .now
  have clsL : PySem.W.Looks (model prog w) hp (classData C) cd := PySem.W.looks_clsIn X hcd
  have noTaker : PySem.W.Looks (model prog w) hp (storeTaker? none) none := .now
  rw [PySem.W.osa_eq, refuse_eq]
  refine wpAny_bind (wpAny_bind (J.type.at (wpAny_bind (mroL.at ?_))))
  rw [refsT_pass BB.pass _ _ hm]
  refine wpAny_pure (wpAny_bind (J.type.at (wpAny_bind ((PySem.W.looks_findIn X ha).at (wpAny_bind (noTaker.at ?_))))))
  show wpAny _ _ (storeInOwnDict (.ref x) (.ref C) (.str name tk) name v false) _ _ _
  cases cd with
  | mk nm bs mro ns qn hd sn sb ab col del =>
    have hd1 : hd = true := hh
    rw [hd1] at clsL
    unfold storeInOwnDict ownDictForStores
    repeat (first | with_reducible refine store_in_new ?_ ?_ | with_reducible refine wpAny_loadPart_at hx ?_ | with_reducible refine clsL.at ?_ | wp_step)
    · exact ⟨_, #[], _, (Heap.get?_update_ne _ _ _ _ xNew.symm).trans (Heap.get?_push_at rfl rfl), rfl, fun e he => absurd he (by simp), fun _ => rfl⟩
    · intro h' tk' nsN but
      have hx1 : (hp.push { cls := .type "dict", data := .dict #[] }).get? x = some { cls := .ref C, data := .fields fv } := Heap.get?_push_of_some _ hx
      refine hq h' tk' hp.objs.size (fun b o hb ho => ?_) (Nat.le_refl _) xNew.symm ((but.2 x xNew).trans (Heap.get?_update_self _ hx1 rfl)) nsN
      rw [but.2 b (Nat.ne_of_lt (Heap.lt_size ho)), Heap.get?_update_ne _ _ _ _ hb]
      exact Heap.get?_push_of_some _ ho
end
section
variable {X : Cx} {pins : List (Addr × Obj)} {σ : L2.St} {H : Hp} {s : Shared} {a C : Addr} {f : Str} {y : V} {u : Value} {Q : Unit → Shared → Prop} {E : Value → Shared → Prop} {A : Around} {B newId initId : String} {tl : List Value}
theorem ost_newB (BB : BaseB B newId initId tl) (T : OexB X.K C newId tl) (I : Inv X pins σ H s) (e : H a = some (exo a C none)) (hno : PySem.W.findIn X.K (.ref C) f = some none) (ry : RelV y u)
    (h : ∀ dx s', H dx = none → dx ≠ a → Inv X pins σ (upd (upd H dx (exd dx [(f, y)])) a (exo a C (some dx))) s' → Q () s') : wpAny (model X.prog X.w) A (setAttr (.ref a) f u) Q E s := by
  obtain ⟨nm, q, N, bs, bm, sn, sub, ab, col, dd, k0, k1, k2, k3, k5, hC, hbm⟩ := T.cls
  have clsA : PySem.W.clsIn X.K C = some { name := nm, bases := bs, mro := .ref C :: bm, ns := N, qualname := q, hasDict := true, slotNames := sn, subclasses := sub, abstract := ab, collection := col, hasDel := false } := by
    unfold PySem.W.clsIn
    rw [hC] <;> rfl
  obtain ⟨t1, objA⟩ := exo_at I.hok e
  obtain ⟨hp, g, d, t, os⟩ := s
  refine PySem.W.set_plain I.kIn (ox := { cls := .ref C, dict := none, data := .fields #[.ref t1, .none, .none, .none, .bool false, .none] }) (od := none) ⟨objA, rfl, rfl, trivial⟩ T.sa (osaB BB I.kIn objA clsA (by rw [List.dropWhile_cons_of_pos rfl]; exact hbm) (fun z => nomatch z) rfl hno fun h' tk' dx kept far ne objB nsB => ?_)
  have free : H dx = none := I.hok.fresh far
  have old : ∀ {b : Addr} {o : Obj}, hp.get? b = some o → b ≠ dx := fun hb => Nat.ne_of_lt (Nat.lt_of_lt_of_le (Heap.lt_size hb) far)
  have own : ∀ {b : Addr}, H b = none → b ≠ a := fun hb z => by
    rw [z, e] at hb
    exact nomatch hb
  have look : ∀ {b : Addr} {o : HO}, H b = some o → exo a C none ≠ o → upd (upd H dx (exd dx [(f, y)])) a (exo a C (some dx)) b = some o := fun hb d => by
    rw [upd_ne (at_ne e hb d), upd_ne (ne_of_none hb free)]
    exact hb
  have U : Un X.fs [] H (upd (upd H dx (exd dx [(f, y)])) a (exo a C (some dx))) hp h' := {
    keep := fun b o q n _ _ => kept b o (own n) q
    slot := fun b o q n _ _ => ⟨o.slots, kept b o (own n) q⟩
    free := fun b o q n _ => by
      rw [upd_ne (own n), upd_ne (old q)]
      exact n
    there := fun b o q _ => by
      rcases Classical.em (b = a) with z | z
      · subst z
        exact ⟨_, objB⟩
      · exact ⟨o, kept b o z q⟩
    tups := fun b xs q => look q exo_tup
    frzs := fun b o v q => look q exo_frz
    tbls := fun b ps q => ⟨#[], by rw [look q exo_tbl]; simp⟩ }
  refine h dx _ free ne (I.un (t' := tk') U fun b o q => ?_)
  by_cases z1 : b = a
  · subst z1
    rw [upd_same] at q
    cases q
    exact exo_ok objB
  rw [upd_ne z1] at q
  by_cases z2 : b = dx
  · subst z2
    rw [upd_same] at q
    cases q
    exact exd_ok nsB (relO_put (fs := []) ry fun g => True.intro)
  rw [upd_ne z2] at q
  refine (I.hok b o q).stay (fun c v hc z => kept c v ?_ z) (fun c hc => look hc exo_own) (fun c xs hc => look hc exo_tup)
  rcases hc with hc | hc
  · rw [hc]
    exact z1
  · exact at_ne e hc exo_own
/-- self.f = e, the first field -/
def tOstB (K : PySem.W.Frag) (newId : String) (tl : List Value) (f : Str) (to te : TE) : TS := fun D σ H => te σ H fun y H1 => to σ H1 fun x H2 => ∃ a C : Addr, x = .ref a ∧ OexB K C newId tl ∧ PySem.W.findIn K (.ref C) f = some none ∧
  H2 a = some (exo a C none) ∧ ∀ dx, H2 dx = none → dx ≠ a → D.nx σ (upd (upd H2 dx (exd dx [(f, y)])) a (exo a C (some dx)))
theorem ps_ostB (BB : BaseB B newId initId tl) {o e : Expr} {to te : TE} {p' pos : Pos} (ho : PE X o to) (he : PE X e te) (hs : swapsWith e (some (.Attribute o f p')) pos.line X.env = pure false := by rfl) : PS X (.Assign [.Attribute o f p'] e pos) (tOstB X.K newId tl f to te) := by
  refine ⟨fun pins s σ H D I h => plainObj_wpAny_Assign_Attribute (thn (he.run pins s σ H _ I h) fun v s1 ⟨y, H1, I1, r1, q1⟩ => thn (ho.run pins s1 σ H1 _ I1 q1) fun u s2 ⟨x, H2, I2, r2, a, C, ex, T, hno, ea, q⟩ => ?_) hs⟩
  subst ex
  cases r2
  exact ost_newB BB T I2 ea hno r1 fun dx s' n ne J => ⟨σ, _, J, q dx n ne⟩
end
abbrev leTail : List Value := [.type "LookupError", .type "Exception", .type "BaseException", .type "object"]
abbrev ieTail : List Value := [.type "IndexError", .type "LookupError", .type "Exception", .type "BaseException", .type "object"]
theorem baseL : BaseB "LookupError" "LookupError.__new__" "LookupError.__init__" leTail := ⟨PySem.F.excBase_LookupError, fun self => PySem.F.store_LookupError.passes self, by decide +kernel⟩
theorem baseI : BaseB "IndexError" "IndexError.__new__" "IndexError.__init__" ieTail := ⟨PySem.F.excBase_IndexError, fun self => PySem.F.store_IndexError.passes self, by decide +kernel⟩
end Onp
set_option maxHeartbeats 4000000
set_option autoImplicit false
/-! what is asked of the top, by names -/
namespace Onp
open PySem PySem.Spec PyProof.Rows L2
open He (ga ma eqO eqO_ok ba)
def errNs : List Str := ["BadMark", "BadLetters", "BadRoom", "BadArrow", "BadWord", "BadSize", "BadPattern", "BadTable", "BadTree", "BadText", "BadName", "BadDeed", "BadPage", "Taken", "Full", "Unlike", "NotDear", "InUse", "TooWide", "NoArrow", "NoName", "NoTraveller", "NothingLeft"]
def slB : List (Option Value) → Bool
  | [_, _, _, _, some (.builtin n), _] => n == "ValueError.__new__"
  | _ => false
/-- a refusal's class, as it is laid -/
def oexB (K : PySem.W.Frag) (C : Addr) : Bool := match K.lookup C with
  | some ⟨.type t, _, .cls cd, sl⟩ => t == "type" && (match cd.mro with
    | .ref D :: bm => D == C && (cd.hasDel == false && (cd.hasDict && PySem.HandSPX.refsVE bm))
    | _ => false) && slB sl.toList
  | _ => false
/-- all that is asked of a refusal's class -/
def errB (K : PySem.W.Frag) (x : Str) : Bool :=
  (oexB K (ga K x) && (eqO (PySem.W.findIn K (.ref (ga K x)) "__setattr__") (some (some (.builtin "object.__setattr__"))) && (decide (PySem.W.subIn K (.ref (ga K x)) (.type "BaseException") = some true) && (decide (PySem.W.typeIn K (.ref (ga K x)) = some (.type "type")) && PySem.W.keepIn K (.ref (ga K x))))))
  && ((eqO (PySem.W.findIn K (.ref (ga K x)) "__init__") (some (some (.ref (ma K (ga K x) "__init__")))) && (decide (PySem.W.typeIn K (.ref (ma K (ga K x) "__init__")) = some (.type "function")) && eqO (PySem.W.findIn K (.ref (ga K x)) "word") (some none)))
  && (((PySem.W.clsIn K (ga K x)).isSome && (eqO (PySem.W.findIn K (.ref (ga K x)) "__getattribute__") (some (some (.builtin "BaseException.__getattribute__"))) && (eqO (PySem.W.findIn K (.ref (ga K x)) "__getattr__") (some none) && (eqO (PySem.W.findIn K (.ref (ga K x)) "__class__") (some (some (.builtin "object.__class__"))) && (decide (PySem.W.mroIn K (ga K x) (.type "object") = some true) && PySem.W.hasDictIn K (ga K x))))))
  && ((errNs.all fun y => decide (PySem.W.subIn K (.ref (ga K x)) (.ref (ga K y)) = some (y == x))) && decide (PySem.W.exmAny K (.ref (ga K x)) [.ref (ga K "PurseError"), .ref (ga K "Missing"), .ref (ga K "NothingLeft")] = some true))))
def slLB (newId : String) : List (Option Value) → Bool
  | [_, _, _, _, some (.builtin n), _] => n == newId
  | _ => false
def oexLB (newId : String) (tl : List Value) (K : PySem.W.Frag) (C : Addr) : Bool := match K.lookup C with
  | some ⟨.type t, _, .cls cd, sl⟩ => t == "type" && (match cd.mro with
    | .ref D :: bm => D == C && (cd.hasDel == false && (cd.hasDict && (bm.dropWhile isR == tl)))
    | _ => false) && slLB newId sl.toList
  | _ => false
/-- the same, over another built-in one -/
def errLB (newId : String) (tl : List Value) (K : PySem.W.Frag) (x : Str) : Bool :=
  (oexLB newId tl K (ga K x) && (eqO (PySem.W.findIn K (.ref (ga K x)) "__setattr__") (some (some (.builtin "object.__setattr__"))) && (decide (PySem.W.subIn K (.ref (ga K x)) (.type "BaseException") = some true) && (decide (PySem.W.typeIn K (.ref (ga K x)) = some (.type "type")) && PySem.W.keepIn K (.ref (ga K x))))))
  && ((eqO (PySem.W.findIn K (.ref (ga K x)) "__init__") (some (some (.ref (ma K (ga K x) "__init__")))) && (decide (PySem.W.typeIn K (.ref (ma K (ga K x) "__init__")) = some (.type "function")) && eqO (PySem.W.findIn K (.ref (ga K x)) "word") (some none)))
  && (((PySem.W.clsIn K (ga K x)).isSome && (eqO (PySem.W.findIn K (.ref (ga K x)) "__getattribute__") (some (some (.builtin "BaseException.__getattribute__"))) && (eqO (PySem.W.findIn K (.ref (ga K x)) "__getattr__") (some none) && (eqO (PySem.W.findIn K (.ref (ga K x)) "__class__") (some (some (.builtin "object.__class__"))) && (decide (PySem.W.mroIn K (ga K x) (.type "object") = some true) && PySem.W.hasDictIn K (ga K x))))))
  && ((errNs.all fun y => decide (PySem.W.subIn K (.ref (ga K x)) (.ref (ga K y)) = some (y == x))) && decide (PySem.W.exmAny K (.ref (ga K x)) [.ref (ga K "PurseError"), .ref (ga K "Missing"), .ref (ga K "NothingLeft")] = some true))))
/-- of object.__class__, and of every refusal's name -/
def allB (K : PySem.W.Frag) : Bool := decide (PySem.W.specialIn K (.builtin "object.__class__") "__get__" = some (some (.builtin "getset_descriptor.__get__"))) && (decide (PySem.W.takesIn K (.builtin "object.__class__") = some true)
  && ((errNs.all fun y => decide (PySem.W.typeIn K (.ref (ga K y)) = some (.type "type")) && PySem.W.isClsIn K (ga K y)) && ((["BadText", "BadPage", "TooWide"] : List Str).all fun y => decide (PySem.W.subIn K (.ref (ga K y)) (.type "BaseException") = some true))))
end Onp
set_option maxHeartbeats 4000000
set_option autoImplicit false
/-! facts by names, for the end of a law without refusals of its own -/
namespace Onp
open PySem PySem.Spec PyProof.Rows L2 HotX L2H LamX
open He (ga ma eqO eqO_ok ba)
section
variable {K : PySem.W.Frag}
theorem slB_ok : ∀ {l : List (Option Value)}, slB l = true → ∃ k0 k1 k2 k3 k5, l = [k0, k1, k2, k3, some (.builtin "ValueError.__new__"), k5]
  | [k0, k1, k2, k3, some (.builtin n), k5], h => ⟨k0, k1, k2, k3, k5, by rw [show n = "ValueError.__new__" from beq_iff_eq.mp h]⟩
theorem oexB_ok {C : Addr} (h : oexB K C = true) : ∃ nm q N bs bm sn sub ab col dd k0 k1 k2 k3 k5, K.lookup C = some (excClassObj nm q C N bs bm true sn sub ab col dd k0 k1 k2 k3 k5 "ValueError.__new__") ∧ PySem.HandSPX.refsVE bm = true := by
  unfold oexB at h
  cases e : K.lookup C with
  | none => rw [e] at h; cases h
  | some o =>
    obtain ⟨oc, od, dt, sl⟩ := o
    rw [e] at h
    cases oc <;> try (cases dt <;> cases h)
    rename_i t
    cases dt <;> try cases h
    rename_i cd
    obtain ⟨h1, h2⟩ := ba h
    obtain ⟨ht, h3⟩ := ba h1
    have et : t = "type" := beq_iff_eq.mp ht
    obtain ⟨a1, a2, a3, a4, a5, a6, a7, a8, a9, a10, a11⟩ := cd
    cases a3 with
    | nil => cases h3
    | cons v bm =>
      cases v <;> try cases h3
      rename_i D
      obtain ⟨g1, g2⟩ := ba h3
      obtain ⟨g3, g4⟩ := ba g2
      obtain ⟨g5, g6⟩ := ba g4
      have eD : D = C := beq_iff_eq.mp g1
      have e11 : a11 = false := beq_iff_eq.mp g3
      have e6 : a6 = true := g5
      obtain ⟨l⟩ := sl
      obtain ⟨k0, k1, k2, k3, k5, el⟩ := slB_ok (show slB l = true from h2)
      rw [et, eD, e11, e6, el]
      exact ⟨_, _, _, _, bm, _, _, _, _, _, _, _, _, _, _, rfl, g6⟩
/-- what is asked of a refusal's class that only the program raises -/
def errQ (K : PySem.W.Frag) (x : Str) : Bool :=
  (oexB K (ga K x) && (eqO (PySem.W.findIn K (.ref (ga K x)) "__setattr__") (some (some (.builtin "object.__setattr__"))) && (decide (PySem.W.subIn K (.ref (ga K x)) (.type "BaseException") = some true) && (decide (PySem.W.typeIn K (.ref (ga K x)) = some (.type "type")) && PySem.W.keepIn K (.ref (ga K x))))))
  && (eqO (PySem.W.findIn K (.ref (ga K x)) "__init__") (some (some (.ref (ma K (ga K x) "__init__")))) && (decide (PySem.W.typeIn K (.ref (ma K (ga K x) "__init__")) = some (.type "function")) && eqO (PySem.W.findIn K (.ref (ga K x)) "word") (some none)))
structure ErrQ (K : PySem.W.Frag) (x : Str) : Prop where
  oex : OexC K (ga K x)
  iC : PySem.W.findIn K (.ref (ga K x)) "__init__" = some (some (.ref (ma K (ga K x) "__init__")))
  tI : PySem.W.typeIn K (.ref (ma K (ga K x) "__init__")) = some (.type "function")
  wd : PySem.W.findIn K (.ref (ga K x)) "word" = some none
theorem errQ_ok {x : Str} (h : errQ K x = true) : ErrQ K x := by
  obtain ⟨h1, h2⟩ := ba h
  obtain ⟨a1, h1⟩ := ba h1
  obtain ⟨a2, h1⟩ := ba h1
  obtain ⟨a3, h1⟩ := ba h1
  obtain ⟨a4, a5⟩ := ba h1
  obtain ⟨b1, h2⟩ := ba h2
  obtain ⟨b2, b3⟩ := ba h2
  exact ⟨⟨oexB_ok a1, eqO_ok a2, of_decide_eq_true a3, of_decide_eq_true a4, a5⟩, eqO_ok b1, of_decide_eq_true b2, eqO_ok b3⟩
/-- a def without defaults -/
theorem fun_of {x q : Str} {st : Stmt} {f : Addr} {fd : FuncData} {kws : List (Str × V)} (F : FunD K x q (defArgs st) (defBody st) (defScope st) [] kws f fd) : Fun K x q st f fd := by
  obtain ⟨oc, od, dV, kV, doc, pm, an, cdv, ct, osl, rfl, lk, hcd, hD, _⟩ := F.ex
  rcases hD with ⟨_, rfl⟩ | ⟨e, _⟩
  · exact ⟨⟨oc, od, kV, doc, pm, an, cdv, ct, osl, rfl, lk, hcd⟩, F.kp⟩
  · exact absurd rfl e
/-- a def that makes lambdas: its code object is told by name -/
theorem lam_of {x q : Str} {st : Stmt} {p : He.Defn} {fd : FuncData} (F : Fun K x q st (He.fAd K p) fd) : ∃ oc od kV doc pm an ct osl, fd = PySem.W.fnOf x q (defArgs st) (defBody st) (defScope st) .none kV doc pm an (.ref (He.codeOf K p)) ct ∧ K.lookup (He.fAd K p) = some ⟨oc, od, .func (PySem.W.fnOf x q (defArgs st) (defBody st) (defScope st) .none kV doc pm an (.ref (He.codeOf K p)) ct), osl⟩ ∧ PySem.W.codeIn K (.ref (He.codeOf K p)) q = true := by
  obtain ⟨oc, od, kV, doc, pm, an, cdv, ct, osl, rfl, lk, hcd⟩ := F.ex
  obtain ⟨c, rfl⟩ := He.codeIn_ref hcd
  have e := He.codeOf_eq (p := p) (c := c) lk rfl
  rw [e]
  exact ⟨oc, od, kV, doc, pm, an, ct, osl, rfl, lk, hcd⟩
end
end Onp
/-! a written dict with text keys has no others -/
namespace Onp
open PySem PySem.Spec PyProof.Rows L2
def onlyB (K : PySem.W.Frag) (a : Addr) (ks : List Str) : Bool := match K.lookup a with
  | some ⟨_, _, .dict es _, _⟩ => es.toList.all fun e => match e.key with
    | .str x _ => decide (x ∈ ks)
    | _ => false
  | _ => false
theorem onlyB_no {K : PySem.W.Frag} {a : Addr} {ks : List Str} (h : onlyB K a ks = true) {z : Str} (hz : z ∉ ks) : PySem.W.nsIn K a z = some none := by
  unfold onlyB at h
  unfold PySem.W.nsIn
  cases e : K.lookup a with
  | none => rw [e] at h; cases h
  | some o =>
    obtain ⟨oc, od, dt, sl⟩ := o
    rw [e] at h
    cases dt with
    | dict es n =>
      have h : (es.toList.all fun e => match e.key with
        | .str x _ => decide (x ∈ ks)
        | _ => false) = true := h
      rw [List.all_eq_true] at h
      have key : ∀ e ∈ es.toList, ∃ x t, e.key = .str x t ∧ x ∈ ks := fun e he => by
        have := h e he
        split at this
        · rename_i x t q
          exact ⟨x, t, q, of_decide_eq_true this⟩
        · cases this
      have h1 : es.toList.find? (fun e => e.key.isStr z) = none := List.find?_eq_none.mpr fun e he hs => by
        obtain ⟨x, t, q, hx⟩ := key e he
        rw [q] at hs
        have hs : (x == z) = true := hs
        rw [beq_iff_eq.mp hs] at hx
        exact hz hx
      have h2 : es.toList.any (·.refKey) = false := Bool.eq_false_iff.mpr fun hb => by
        obtain ⟨e, he, hr⟩ := List.any_eq_true.mp hb
        obtain ⟨x, t, q, hx⟩ := key e he
        unfold DictEntry.refKey at hr
        rw [q] at hr
        cases hr
      show (match es.toList.find? (fun e => e.key.isStr z) with
        | some e => some (some e.val)
        | none => if es.toList.any (·.refKey) then none else some none) = some none
      rw [h1, h2]
      rfl
    | _ => cases h
def dsgT : List (Str × He.Dv) := [("!", .str "cent"), (".", .str "fill"), ("$", .str "coin"), (":", .str "brim")]
def ksgT : List (Str × He.Dv) := [("*", .str "many"), ("?", .str "maybe")]
def sgTabs : List He.Tab := [(fun K => He.ga K "DEED_OF_SIGN", dsgT.map (·.1)), (fun K => He.ga K "KIND_OF_SIGN", ksgT.map (·.1))]
end Onp
set_option maxHeartbeats 0
namespace Onp
open PySem PySem.Spec PyProof.Rows L2
def fa0 : List He.Fa := [.glo "_law_bag", .glo "_law_pull", .glo "_law_of", .glo "_law_same", .glo "_law_deed", .glo "_law_letters", .glo "_law_tree", .glo "_law_signs", .glo "_law_text_of", .glo "_law_count_in", .glo "_law_long_ones", .glo "joined", .glo "can_stand", .glo "take_sign", .glo "read_tolls"]
def fa1 : List He.Fa := [.glo "law", .free "isinstance", .free "list", .free "tuple", .free "bool", .free "int", .free "str", .free "len", .free "all", .free "zip", .free "range", .free "enumerate", .free "max", .free "sum", .str "SMALL_LETTERS" "abcdefghijklmnopqrstuvwxyz"]
def fa2 : List He.Fa := [.glo "Level", .cls "Level", .noat "Level" "either", .noat "Level" "row", .noat "Level" "last", .mkr "Level", .meth "Level" "put", .meth "Level" "whole", .meth "Level" "next_row", .noat "BadText" "at", .glo "BadText", .glo "DEED_OF_SIGN", .glo "KIND_OF_SIGN"]
def fas : List He.Fa := (fa0 ++ (fa1 ++ (fa2)))
def d_B : He.DefD := ⟨("_law_bag", none), "_law_bag", "_law_bag", defArgs (topS 13), defBody (topS 13), defScope (topS 13), [], []⟩
def d_Pu : He.DefD := ⟨("_law_pull", none), "_law_pull", "_law_pull", defArgs (topS 14), defBody (topS 14), defScope (topS 14), [], []⟩
def d_O : He.DefD := ⟨("_law_of", none), "_law_of", "_law_of", defArgs (topS 15), defBody (topS 15), defScope (topS 15), [], []⟩
def d_Sm : He.DefD := ⟨("_law_same", none), "_law_same", "_law_same", defArgs (topS 16), defBody (topS 16), defScope (topS 16), [], []⟩
def d_De : He.DefD := ⟨("_law_deed", none), "_law_deed", "_law_deed", defArgs (topS 17), defBody (topS 17), defScope (topS 17), [], []⟩
def d_Le : He.DefD := ⟨("_law_letters", none), "_law_letters", "_law_letters", defArgs (topS 18), defBody (topS 18), defScope (topS 18), [], []⟩
def d_Ty : He.DefD := ⟨("_law_tree", none), "_law_tree", "_law_tree", defArgs (topS 19), defBody (topS 19), defScope (topS 19), [], []⟩
def d_Sg : He.DefD := ⟨("_law_signs", none), "_law_signs", "_law_signs", defArgs (topS 20), defBody (topS 20), defScope (topS 20), [], []⟩
def d_Tx : He.DefD := ⟨("_law_text_of", none), "_law_text_of", "_law_text_of", defArgs (topS 21), defBody (topS 21), defScope (topS 21), [], []⟩
def d_Cn : He.DefD := ⟨("_law_count_in", none), "_law_count_in", "_law_count_in", defArgs (topS 22), defBody (topS 22), defScope (topS 22), [], []⟩
def d_Lg : He.DefD := ⟨("_law_long_ones", none), "_law_long_ones", "_law_long_ones", defArgs (topS 23), defBody (topS 23), defScope (topS 23), [], []⟩
def d_J : He.DefD := ⟨("joined", none), "joined", "joined", defArgs (topS 7), defBody (topS 7), defScope (topS 7), [], []⟩
def d_Ca : He.DefD := ⟨("can_stand", none), "can_stand", "can_stand", defArgs (topS 9), defBody (topS 9), defScope (topS 9), [], []⟩
def d_Tk : He.DefD := ⟨("take_sign", none), "take_sign", "take_sign", defArgs (topS 10), defBody (topS 10), defScope (topS 10), [], []⟩
def d_Rt : He.DefD := ⟨("read_tolls", none), "read_tolls", "read_tolls", defArgs (topS 11), defBody (topS 11), defScope (topS 11), [], []⟩
def d_L : He.DefD := ⟨("law", none), "law", "law", defArgs (topS 24), defBody (topS 24), defScope (topS 24), [], []⟩
def d_ILv : He.DefD := ⟨("Level", some "__init__"), "__init__", "Level.__init__", defArgs (inClass (topS 8) 0), defBody (inClass (topS 8) 0), defScope (inClass (topS 8) 0), [], []⟩
def d_Pt : He.DefD := ⟨("Level", some "put"), "put", "Level.put", defArgs (inClass (topS 8) 1), defBody (inClass (topS 8) 1), defScope (inClass (topS 8) 1), [], []⟩
def d_Wh : He.DefD := ⟨("Level", some "whole"), "whole", "Level.whole", defArgs (inClass (topS 8) 2), defBody (inClass (topS 8) 2), defScope (inClass (topS 8) 2), [], []⟩
def d_Nx : He.DefD := ⟨("Level", some "next_row"), "next_row", "Level.next_row", defArgs (inClass (topS 8) 3), defBody (inClass (topS 8) 3), defScope (inClass (topS 8) 3), [], []⟩
def d_IT_ : He.DefD := ⟨("BadText", some "__init__"), "__init__", "BadText.__init__", defArgs (inClass (topS 2) 0), defBody (inClass (topS 2) 0), defScope (inClass (topS 2) 0), [], []⟩
def fn0 : List He.DefD := [d_B, d_Pu, d_O, d_Sm, d_De, d_Le, d_Ty, d_Sg, d_Tx, d_Cn, d_Lg, d_J, d_Ca, d_Tk, d_Rt]
def fn1 : List He.DefD := [d_L, d_ILv, d_Pt, d_Wh, d_Nx, d_IT_]
def fns : List He.DefD := fn0 ++ (fn1)
def tfs : List He.Defn := []
def exK (K : PySem.W.Frag) : Bool := true && (errQ K "BadText" && (He.valsB K (He.ga K "DEED_OF_SIGN") dsgT && (onlyB K (He.ga K "DEED_OF_SIGN") (dsgT.map (·.1)) && (He.valsB K (He.ga K "KIND_OF_SIGN") ksgT && (onlyB K (He.ga K "KIND_OF_SIGN") (ksgT.map (·.1)))))))
def nm0 : List PySem.Str := ["PurseError", "BadText", "SMALL_LETTERS", "DEED_OF_SIGN", "KIND_OF_SIGN", "joined", "Level", "can_stand", "take_sign", "read_tolls", "_law_bag", "_law_pull", "_law_of", "_law_same", "_law_deed"]
def nm1 : List PySem.Str := ["_law_letters", "_law_tree", "_law_signs", "_law_text_of", "_law_count_in", "_law_long_ones"]
def loose : List PySem.Str := nm0 ++ (nm1)
abbrev R : PySem.W.OpenRow := PySem.W.OpenLaw.row PySem.Challenge.rw_onepurse_k43_tolls_read
abbrev hk : PySem.W.Hook := He.hookX 4 fas fns sgTabs tfs exK
noncomputable def ob (s : PySem.W.SharedT) : He.AlX := He.obsX 4 fas fns sgTabs tfs exK (HandSHeadRun.getT s)
theorem ob_eq (s : PySem.W.SharedT) : ob s = hk.obs s.abs := He.obsX_eq (HandSHeadRun.getT_eq s)
theorem runF (w : World) : HandSHeadRun.RunEq R (PySem.W.view R.prog [24]) hk ob 9500 loose (PySem.World.withFollow w "special-get-raises" false) := by
  intro os
  kernel_rfl
theorem runT (w : World) : HandSHeadRun.RunEq R (PySem.W.view R.prog [24]) hk ob 9500 loose (PySem.World.withFollow w "special-get-raises" true) := by
  intro os
  kernel_rfl
theorem run (w : World) : HandSHeadRun.RunEq R (PySem.W.view R.prog [24]) hk ob 9500 loose w := PySem.W.byRow2 "special-get-raises" (P := fun w => HandSHeadRun.RunEq R (PySem.W.view R.prog [24]) hk ob 9500 loose w) runF runT w
end Onp
set_option maxHeartbeats 8000000
set_option autoImplicit false
namespace Onp
open PySem PySem.Spec PyProof.Rows L2
abbrev sSame : Stmt := topS 16
/-! ### data -/
def Lvl : Nat → PyData → Prop
  | _, .none => True
  | _, .bool _ => True
  | _, .int _ => True
  | _, .str _ => True
  | n + 1, .list ds => ds.length ≤ 1000 ∧ ∀ d ∈ ds, Lvl n d
  | n + 1, .tuple ds => ds.length ≤ 1000 ∧ ∀ d ∈ ds, Lvl n d
  | _, _ => False
mutual
theorem dpSame {K : PySem.W.Frag} {H H' : Hp} (e : Same H H') : ∀ {v : V} {d : PyData}, Dp K H v d → Dp K H' v d
  | _, _, .non => .non
  | _, _, .bl b => .bl b
  | _, _, .int i => .int i
  | _, _, .str x => .str x
  | _, _, .lst h a => .lst (e.seq h) (dpAllSame e a)
  | _, _, .tup h a => .tup (same_seqT e h) (dpAllSame e a)
theorem dpAllSame {K : PySem.W.Frag} {H H' : Hp} (e : Same H H') : ∀ {vs : List V} {ds : List PyData}, DpAll K H vs ds → DpAll K H' vs ds
  | _, _, .nil => .nil
  | _, _, .cons a b => .cons (dpSame e a) (dpAllSame e b)
end
theorem dpLen {K : PySem.W.Frag} {H : Hp} : ∀ {vs : List V} {ds : List PyData}, DpAll K H vs ds → vs.length = ds.length
  | _, _, .nil => rfl
  | _, _, .cons _ b => by rw [List.length_cons, List.length_cons, dpLen b]
theorem dpAt {K : PySem.W.Frag} {H : Hp} : ∀ {vs : List V} {ds : List PyData} {i : Nat} {v : V}, DpAll K H vs ds → vs[i]? = some v → ∃ d, ds[i]? = some d ∧ Dp K H v d
  | _, _, _, _, .nil, h => by simp at h
  | _, _, 0, _, .cons a _, h => by simp at h; subst h; exact ⟨_, rfl, a⟩
  | _, _, i + 1, _, .cons _ b, h => by
    obtain ⟨d, h1, h2⟩ := dpAt (i := i) b (by simpa using h)
    exact ⟨d, by simpa using h1, h2⟩
theorem tyL {K : PySem.W.Frag} {H : Hp} {a : Addr} {xs : List V} (h : SqL K H a xs) : TyX K H (.ref a) (.type "list") := by
  rcases h with (h | ⟨o, h⟩) | ⟨o, its, n, h, c, _⟩
  · exact .base (.lst h)
  · exact .base (.frz h)
  · exact .kList h c
theorem tyT {K : PySem.W.Frag} {H : Hp} {a : Addr} {xs : List V} (h : SqT K H a xs) : TyX K H (.ref a) (.type "tuple") := by
  rcases h with (h | ⟨o, h⟩) | ⟨o, its, n, h, c, _⟩
  · exact .base (.tup h)
  · exact .fTuple h
  · exact .kTuple h c
theorem kitAny2 {K : PySem.W.Frag} {t c1 c2 : Value} {b1 b2 : Bool} (h1 : PySem.W.kitOne K t c1 = some b1) (h2 : PySem.W.kitOne K t c2 = some b2) : PySem.W.kitAny K t [c1, c2] = some (b1 || b2) := by
  unfold PySem.W.kitAny
  rw [h1]
  cases b1 with
  | true => rfl
  | false =>
    show PySem.W.kitAny K t [c2] = _
    unfold PySem.W.kitAny
    rw [h2]
    cases b2 <;> rfl
theorem qT {Q : VK} {H : Hp} {c : Prop} [Decidable c] (hc : c) (h : Q (.bl true) H) : Q (.bl (decide c)) H := by
  rw [decide_eq_true hc]
  exact h
theorem qB {Q : VK} {H : Hp} {b : Bool} (hb : b = true) (h : Q (.bl true) H) : Q (.bl b) H := by
  rw [hb]
  exact h
theorem pe_no {X : Cx} {e : Expr} : PE X e (fun _ _ _ => False) := ⟨fun _ _ _ _ _ _ h => h.elim⟩
/-! ### a comprehension over zip of two of one length -/
def ItzG (S : Hp → Addr → List V → Prop) (a b : Addr) : It :=
  ⟨fun i H => ∃ (xs ys : List V) (x y : V), S H a xs ∧ S H b ys ∧ xs[i]? = some x ∧ ys[i]? = some y,
    fun i H v H' => ∃ T x y, v = .ref T ∧ H T = none ∧ H' = upd H T (.tup [x, y]) ∧ (∀ xs, S H a xs → xs[i]? = some x) ∧ ∀ ys, S H b ys → ys[i]? = some y,
    fun i H => ∃ xs ys : List V, S H a xs ∧ S H b ys ∧ (xs.length ≤ i ∨ ys.length ≤ i)⟩
theorem lc_zipG {S : Hp → Addr → List V → Prop} {a b : Addr} {xs ys : List V} {g : TG} {tt : TT} {te : TE} {vs : List Nat} {σ : L2.St} {H1 : Hp} {D : Addr} {Qd : Hp → Prop} (hl : xs.length = ys.length) (Pv : Nat → Hp → Prop) (h0 : Pv 0 (upd H1 D (.lst []))) (hq : ∀ i H, Pv i H → S H a xs ∧ S H b ys)
    (hs : ∀ i x y T H, xs[i]? = some x → ys[i]? = some y → Pv i H → H T = none → g (.ref T) (wipe σ vs) (upd H T (.tup [x, y])) fun σ2 H2 => wipe σ2 vs = wipe σ vs ∧ tt σ2 H2 fun b H3 =>
      if b = true then te σ2 H3 fun y H4 => ∃ acc, H4 D = some (.lst acc) ∧ acc.length < sizeLine ∧ Pv (i + 1) (upd H4 D (.lst (acc ++ [y]))) else Pv (i + 1) H3) (hd : ∀ H, Pv xs.length H → Qd H) :
    ∃ W : Nat → Nat → Hp → Prop, (∃ m, W 0 m (upd H1 D (.lst []))) ∧ ∀ i m H, W i m H → ((ItzG S a b).stop i H ∧ Qd H) ∨ ((ItzG S a b).go i H ∧ ∃ Nx : Hp → Prop, (∀ H', Nx H' → ∃ m', m' < m ∧ W (i + 1) m' H') ∧
      ∀ x H', (ItzG S a b).yld i H x H' → g x (wipe σ vs) H' fun σ2 H2 => wipe σ2 vs = wipe σ vs ∧ tt σ2 H2 fun b H3 => if b = true then te σ2 H3 fun y H4 => ∃ acc, H4 D = some (.lst acc) ∧ acc.length < sizeLine ∧ Nx (upd H4 D (.lst (acc ++ [y]))) else Nx H3) := by
  refine ⟨fun i m H => m = xs.length - i ∧ i ≤ xs.length ∧ Pv i H, ⟨xs.length, by simp, Nat.zero_le _, h0⟩, fun i m H ⟨em, hi, p⟩ => ?_⟩
  obtain ⟨qa, qb⟩ := hq i H p
  by_cases lt : i < xs.length
  · have lt2 : i < ys.length := by omega
    refine .inr ⟨⟨xs, ys, xs[i], ys[i], qa, qb, List.getElem?_eq_getElem lt, List.getElem?_eq_getElem lt2⟩, Pv (i + 1), fun H' p' => ⟨xs.length - (i + 1), by omega, rfl, lt, p'⟩, fun x H' hy => ?_⟩
    obtain ⟨T, x1, x2, rfl, nT, rfl, e1, e2⟩ := hy
    exact hs i x1 x2 T H (e1 _ qa) (e2 _ qb) p nT
  · have e : i = xs.length := by omega
    subst e
    exact .inl ⟨⟨xs, ys, qa, qb, .inl (Nat.le_refl _)⟩, hd H p⟩
def NS : List Str := ["_law_found", "_law_due", "_law_a", "_law_b"]
theorem scSame : FnScope NS ["_law_found", "_law_due"] (defScope sSame) := ⟨rfl, rfl, rfl, by decide +kernel, rfl, by decide +kernel, by decide +kernel⟩
def spSame (K : PySem.W.Frag) (n : Nat) : Sp := fun vs H Q _ => ∃ (x y : V) (d : PyData), vs = [x, y] ∧ Dp K H x d ∧ Dp K H y d ∧ Lvl n d ∧ ∀ H', Same H H' → Q (.bl true) H'
structure Blt (mg : Str → Option Value) : Prop where
  isi : mg "isinstance" = none
  list : mg "list" = none
  tuple : mg "tuple" = none
  bool : mg "bool" = none
  int : mg "int" = none
  str : mg "str" = none
  len : mg "len" = none
  all : mg "all" = none
  zip : mg "zip" = none
section
variable {P : Program} {w : World} {K : PySem.W.Frag} {mg : Str → Option Value} {base : Heap}
theorem ok_same {f : Addr} {fd : FuncData} (F : Fun K "_law_same" "_law_same" sSame f fd) (bS : Binds K fd ["_law_found", "_law_due"] []) (gS : mg "_law_same" = some (.ref f)) (B : Blt mg) : ∀ (n k : Nat), FnOk P w K mg base CX0 (k + n + 1) f fd ["_law_found", "_law_due"] (spSame K n) := by
  intro n
  induction n with
  | zero =>
    intro k
    refine F.ok scSame (fun vs H Q E h => ?_) (fun cdv A outer s H vs Q E hr h => ?_)
    · obtain ⟨x, y, d, rfl, _⟩ := h
      rfl
    · obtain ⟨x, y, d, rfl, hx, hy, hl, q⟩ := h
      refine ⟨_, pss_cons (ps_if (pt_val (pe_callB call_isiT (by rfl) B.isi (by decide +kernel) (pa_cons (pv 1) (pa_cons (pe_tup (pa_cons (pe_bltn (v := .ty "list") (by rfl) B.list (by decide +kernel) rfl) (pa_cons (pe_bltn (v := .ty "tuple") (by rfl) B.tuple (by decide +kernel) rfl) pa_nil))) pa_nil)))) pss_never pss_nil)
      (pss_cons (ps_if (PW.pt (pw_or (pt_cmp (pc_isN (pv 1))) (pw_or1 (pt_cmp (pc_isN (pv 0)))))) (pss_one (ps_ret (pe_and (pe_cmp (pc_isN (pv 0)) rfl) (pe_one (pe_cmp (pc_isN (pv 1)) rfl))))) pss_nil)
      (pss_cons (ps_if (PW.pt (pw_or (pt_cmpR op_ne (pe_callB call_isi (by rfl) B.isi (by decide +kernel) (pa_cons (pv 0) (pa_cons (pe_bltn (v := .ty "bool") (by rfl) B.bool (by decide +kernel) rfl) pa_nil))) (pe_callB call_isi (by rfl) B.isi (by decide +kernel) (pa_cons (pv 1) (pa_cons (pe_bltn (v := .ty "bool") (by rfl) B.bool (by decide +kernel) rfl) pa_nil))) (nomark _)) (pw_or1 (pt_cmpR op_ne (pe_callB call_isi (by rfl) B.isi (by decide +kernel) (pa_cons (pv 0) (pa_cons (pe_bltn (v := .ty "int") (by rfl) B.int (by decide +kernel) rfl) pa_nil))) (pe_callB call_isi (by rfl) B.isi (by decide +kernel) (pa_cons (pv 1) (pa_cons (pe_bltn (v := .ty "int") (by rfl) B.int (by decide +kernel) rfl) pa_nil))) (nomark _))))) pss_never pss_nil)
      (pss_one (ps_ret (pe_and (pe_cmpR op_eq (pe_callB call_isi (by rfl) B.isi (by decide +kernel) (pa_cons (pv 0) (pa_cons (pe_bltn (v := .ty "str") (by rfl) B.str (by decide +kernel) rfl) pa_nil))) (pe_callB call_isi (by rfl) B.isi (by decide +kernel) (pa_cons (pv 1) (pa_cons (pe_bltn (v := .ty "str") (by rfl) B.str (by decide +kernel) rfl) pa_nil))) (nomark _)) (pe_one (pe_cmpR op_eq (pv 0) (pv 1) (nomark _)))))))), ?_⟩
      cases hx with
      | lst h a => exact hl.elim
      | tup h a => exact hl.elim
      | non =>
        cases hy
        refine ⟨_, rfl, (by decide : 2 ≤ sizeLine), fun tp ntp => ?_⟩
        have s1 := same_upd (o := .tup [.ty "list", .ty "tuple"]) ntp
        refine ⟨.non, tp, _, _, _, _, rfl, upd_same, .cons (.ty _) (.cons (.ty _) .nil), .base .non, kitAny2 (b1 := false) (b2 := false) (kit_ty (by decide +kernel)) (kit_ty (by decide +kernel)), _, rfl, iteF ?_⟩
        refine ⟨_, rfl, _, rfl, itT rfl (iteT ?_)⟩
        refine ⟨_, rfl, _, rfl, itT rfl ⟨_, rfl, ?_⟩⟩
        exact qT (Q := Q) rfl (q _ s1)
      | bl b =>
        cases hy
        refine ⟨_, rfl, (by decide : 2 ≤ sizeLine), fun tp ntp => ?_⟩
        have s1 := same_upd (o := .tup [.ty "list", .ty "tuple"]) ntp
        refine ⟨(.bl b), tp, _, _, _, _, rfl, upd_same, .cons (.ty _) (.cons (.ty _) .nil), .base (.bl _), kitAny2 (b1 := false) (b2 := false) (kit_ty (by decide +kernel)) (kit_ty (by decide +kernel)), _, rfl, iteF ?_⟩
        refine ⟨_, rfl, _, rfl, itF (fun h => nomatch h) ⟨_, rfl, _, rfl, itF (fun h => nomatch h) ?_⟩⟩
        refine ⟨_, rfl, (.bl b), .ty "bool", .type "bool", .type "bool", true, rfl, .ty _, .base (.bl _), kit_ty (by decide +kernel), _, rfl, (.bl b), .ty "bool", .type "bool", .type "bool", true, rfl, .ty _, .base (.bl _), kit_ty (by decide +kernel), rfl, _, rfl, iteNS rfl ⟨_, rfl, (.bl b), .ty "int", .type "bool", .type "int", true, rfl, .ty _, .base (.bl _), kit_ty (by decide +kernel), _, rfl, (.bl b), .ty "int", .type "bool", .type "int", true, rfl, .ty _, .base (.bl _), kit_ty (by decide +kernel), rfl, _, rfl, iteNS rfl ?_⟩⟩
        refine ⟨_, rfl, (.bl b), .ty "str", .type "bool", .type "str", false, rfl, .ty _, .base (.bl _), kit_ty (by decide +kernel), _, rfl, (.bl b), .ty "str", .type "bool", .type "str", false, rfl, .ty _, .base (.bl _), kit_ty (by decide +kernel), rfl, _, rfl, itT rfl ⟨_, rfl, _, rfl, rfl, ?_⟩⟩
        exact qT (Q := Q) rfl (q _ s1)
      | int i =>
        cases hy
        refine ⟨_, rfl, (by decide : 2 ≤ sizeLine), fun tp ntp => ?_⟩
        have s1 := same_upd (o := .tup [.ty "list", .ty "tuple"]) ntp
        refine ⟨(.int i), tp, _, _, _, _, rfl, upd_same, .cons (.ty _) (.cons (.ty _) .nil), .base (.int _), kitAny2 (b1 := false) (b2 := false) (kit_ty (by decide +kernel)) (kit_ty (by decide +kernel)), _, rfl, iteF ?_⟩
        refine ⟨_, rfl, _, rfl, itF (fun h => nomatch h) ⟨_, rfl, _, rfl, itF (fun h => nomatch h) ?_⟩⟩
        refine ⟨_, rfl, (.int i), .ty "bool", .type "int", .type "bool", false, rfl, .ty _, .base (.int _), kit_ty (by decide +kernel), _, rfl, (.int i), .ty "bool", .type "int", .type "bool", false, rfl, .ty _, .base (.int _), kit_ty (by decide +kernel), rfl, _, rfl, iteNS rfl ⟨_, rfl, (.int i), .ty "int", .type "int", .type "int", true, rfl, .ty _, .base (.int _), kit_ty (by decide +kernel), _, rfl, (.int i), .ty "int", .type "int", .type "int", true, rfl, .ty _, .base (.int _), kit_ty (by decide +kernel), rfl, _, rfl, iteNS rfl ?_⟩⟩
        refine ⟨_, rfl, (.int i), .ty "str", .type "int", .type "str", false, rfl, .ty _, .base (.int _), kit_ty (by decide +kernel), _, rfl, (.int i), .ty "str", .type "int", .type "str", false, rfl, .ty _, .base (.int _), kit_ty (by decide +kernel), rfl, _, rfl, itT rfl ⟨_, rfl, _, rfl, rfl, ?_⟩⟩
        exact qT (Q := Q) rfl (q _ s1)
      | str z =>
        cases hy
        refine ⟨_, rfl, (by decide : 2 ≤ sizeLine), fun tp ntp => ?_⟩
        have s1 := same_upd (o := .tup [.ty "list", .ty "tuple"]) ntp
        refine ⟨(.str z), tp, _, _, _, _, rfl, upd_same, .cons (.ty _) (.cons (.ty _) .nil), .base (.str _), kitAny2 (b1 := false) (b2 := false) (kit_ty (by decide +kernel)) (kit_ty (by decide +kernel)), _, rfl, iteF ?_⟩
        refine ⟨_, rfl, _, rfl, itF (fun h => nomatch h) ⟨_, rfl, _, rfl, itF (fun h => nomatch h) ?_⟩⟩
        refine ⟨_, rfl, (.str z), .ty "bool", .type "str", .type "bool", false, rfl, .ty _, .base (.str _), kit_ty (by decide +kernel), _, rfl, (.str z), .ty "bool", .type "str", .type "bool", false, rfl, .ty _, .base (.str _), kit_ty (by decide +kernel), rfl, _, rfl, iteNS rfl ⟨_, rfl, (.str z), .ty "int", .type "str", .type "int", false, rfl, .ty _, .base (.str _), kit_ty (by decide +kernel), _, rfl, (.str z), .ty "int", .type "str", .type "int", false, rfl, .ty _, .base (.str _), kit_ty (by decide +kernel), rfl, _, rfl, iteNS rfl ?_⟩⟩
        refine ⟨_, rfl, (.str z), .ty "str", .type "str", .type "str", true, rfl, .ty _, .base (.str _), kit_ty (by decide +kernel), _, rfl, (.str z), .ty "str", .type "str", .type "str", true, rfl, .ty _, .base (.str _), kit_ty (by decide +kernel), rfl, _, rfl, itT rfl ⟨_, rfl, _, rfl, rfl, ?_⟩⟩
        exact qT (Q := Q) rfl (q _ s1)
  | succ n ih =>
    intro k
    have G : FnOk P w K mg base CX0 (k + n + 1) f fd ["_law_found", "_law_due"] (spSame K n) := ih k
    refine F.ok scSame (fun vs H Q E h => ?_) (fun cdv A outer s H vs Q E hr h => ?_)
    · obtain ⟨x, y, d, rfl, _⟩ := h
      rfl
    · obtain ⟨x, y, d, rfl, hx, hy, hl, q⟩ := h
      refine ⟨_, pss_cons (ps_if (pt_val (pe_callB call_isiT (by rfl) B.isi (by decide +kernel) (pa_cons (pv 1) (pa_cons (pe_tup (pa_cons (pe_bltn (v := .ty "list") (by rfl) B.list (by decide +kernel) rfl) (pa_cons (pe_bltn (v := .ty "tuple") (by rfl) B.tuple (by decide +kernel) rfl) pa_nil))) pa_nil))))
          (pss_cons (ps_if (PW.pt (pw_or (pt_cmpR op_ne (pe_callB call_isi (by rfl) B.isi (by decide +kernel) (pa_cons (pv 0) (pa_cons (pe_bltn (v := .ty "list") (by rfl) B.list (by decide +kernel) rfl) pa_nil))) (pe_callB call_isi (by rfl) B.isi (by decide +kernel) (pa_cons (pv 1) (pa_cons (pe_bltn (v := .ty "list") (by rfl) B.list (by decide +kernel) rfl) pa_nil))) (nomark _)) (pw_or1 (pt_cmpR op_ne (pe_callB call_isi (by rfl) B.isi (by decide +kernel) (pa_cons (pv 0) (pa_cons (pe_bltn (v := .ty "tuple") (by rfl) B.tuple (by decide +kernel) rfl) pa_nil))) (pe_callB call_isi (by rfl) B.isi (by decide +kernel) (pa_cons (pv 1) (pa_cons (pe_bltn (v := .ty "tuple") (by rfl) B.tuple (by decide +kernel) rfl) pa_nil))) (nomark _))))) pss_never pss_nil)
          (pss_one (ps_ret (pe_and (pe_cmpR op_eq (pe_callB call_len_seq (by rfl) B.len PySem.boot_len (pa_cons (pv 0) pa_nil)) (pe_callB call_len_seq (by rfl) B.len PySem.boot_len (pa_cons (pv 1) pa_nil)) (nomark _))
            (pe_one (pe_callB (cr_all rfl) (by rfl) B.all (by decide +kernel) (pa_cons (pe_lc (own := [("_law_a", 2), ("_law_b", 3)]) (g := gTup K 2 (gCons (gName 2) (gCons (gName 3) gNil))) (tt := tYes) rfl scSame.nd
              (RZ.pi_zipA (by rfl) B.zip (pa_cons (pv 0) (pa_cons (pv 1) pa_nil))) (blkOk_by (own := [("_law_a", 2), ("_law_b", 3)]) (N := NS) (sc := defScope sSame) (by decide +kernel))
              (fun _ _ _ _ _ => pg_tup (n := 2) rfl (pgs_cons (pg_name (i := 2) scSame.nd rfl (.inl rfl) (.inr rfl)) (pgs_cons (pg_name (i := 3) scSame.nd rfl (.inl rfl) (.inr rfl)) pgs_nil))) (fun _ _ _ _ _ => pts_nil)
              (fun _ _ _ _ _ => pe_call G hr (by rfl) gS F.kp bS .nil pass0 (pa_cons (pv 2) (pa_cons (pv 3) pa_nil)))) pa_nil))))))) pss_nil)
      (pss_cons (ps_if (PW.pt (pw_or (pt_cmp (pc_isN (pv 1))) (pw_or1 (pt_cmp (pc_isN (pv 0)))))) (pss_one (ps_ret (pe_and (pe_cmp (pc_isN (pv 0)) rfl) (pe_one (pe_cmp (pc_isN (pv 1)) rfl))))) pss_nil)
      (pss_cons (ps_if (PW.pt (pw_or (pt_cmpR op_ne (pe_callB call_isi (by rfl) B.isi (by decide +kernel) (pa_cons (pv 0) (pa_cons (pe_bltn (v := .ty "bool") (by rfl) B.bool (by decide +kernel) rfl) pa_nil))) (pe_callB call_isi (by rfl) B.isi (by decide +kernel) (pa_cons (pv 1) (pa_cons (pe_bltn (v := .ty "bool") (by rfl) B.bool (by decide +kernel) rfl) pa_nil))) (nomark _)) (pw_or1 (pt_cmpR op_ne (pe_callB call_isi (by rfl) B.isi (by decide +kernel) (pa_cons (pv 0) (pa_cons (pe_bltn (v := .ty "int") (by rfl) B.int (by decide +kernel) rfl) pa_nil))) (pe_callB call_isi (by rfl) B.isi (by decide +kernel) (pa_cons (pv 1) (pa_cons (pe_bltn (v := .ty "int") (by rfl) B.int (by decide +kernel) rfl) pa_nil))) (nomark _))))) pss_never pss_nil)
      (pss_one (ps_ret (pe_and (pe_cmpR op_eq (pe_callB call_isi (by rfl) B.isi (by decide +kernel) (pa_cons (pv 0) (pa_cons (pe_bltn (v := .ty "str") (by rfl) B.str (by decide +kernel) rfl) pa_nil))) (pe_callB call_isi (by rfl) B.isi (by decide +kernel) (pa_cons (pv 1) (pa_cons (pe_bltn (v := .ty "str") (by rfl) B.str (by decide +kernel) rfl) pa_nil))) (nomark _)) (pe_one (pe_cmpR op_eq (pv 0) (pv 1) (nomark _)))))))), ?_⟩
      cases hx with
      | @lst pa xs ds h a =>
        cases hy with
        | @lst pb ys _ h2 a2 =>
          refine ⟨_, rfl, (by decide : 2 ≤ sizeLine), fun tp ntp => ?_⟩
          have s1 := same_upd (o := .tup [.ty "list", .ty "tuple"]) ntp
          refine ⟨(.ref pb), tp, _, _, _, _, rfl, upd_same, .cons (.ty _) (.cons (.ty _) .nil), tyL (s1.seq h2), kitAny2 (b1 := true) (b2 := false) (kit_ty (by decide +kernel)) (kit_ty (by decide +kernel)), _, rfl, iteT ?_⟩
          refine ⟨_, rfl, .ref pa, .ty "list", .type "list", .type "list", true, rfl, .ty _, tyL (s1.seq h), kit_ty (by decide +kernel), _, rfl, .ref pb, .ty "list", .type "list", .type "list", true, rfl, .ty _, tyL (s1.seq h2), kit_ty (by decide +kernel), rfl, _, rfl, iteNS rfl ⟨_, rfl, .ref pa, .ty "tuple", .type "list", .type "tuple", false, rfl, .ty _, tyL (s1.seq h), kit_ty (by decide +kernel), _, rfl, .ref pb, .ty "tuple", .type "list", .type "tuple", false, rfl, .ty _, tyL (s1.seq h2), kit_ty (by decide +kernel), rfl, _, rfl, iteNS rfl ?_⟩⟩
          have lx := dpLen a
          have ly := dpLen a2
          have hlz : ds.length ≤ 1000 := hl.1
          have eI : V.int ((xs.length : Nat) : Int) = V.int ((ys.length : Nat) : Int) := by rw [lx, ly]
          refine ⟨_, rfl, pa, xs, rfl, .inl (s1.seq h), _, rfl, pb, ys, rfl, .inl (s1.seq h2), rfl, _, rfl, itT eI ?_⟩
          refine ⟨_, rfl, _, rfl, pa, pb, xs, ys, rfl, .inl ⟨(s1.seq h), (s1.seq h2), fun D nD => ?_⟩⟩
          refine lc_zipG (S := SqL K) (xs := xs) (ys := ys) (by omega) (fun i H' => Same H H' ∧ H D = none ∧ H' D = some (.lst (List.replicate i (.bl true)))) ⟨s1.trans (same_upd nD), s1.free nD, upd_same⟩ (fun i H' ⟨sm, _, _⟩ => ⟨(sm.seq h), (sm.seq h2)⟩) ?_ ?_
          · rintro i x y t Hx hx hy ⟨sm, fD, hD⟩ nt
            obtain ⟨d, hd, dx⟩ := dpAt a hx
            obtain ⟨d', hd', dy⟩ := dpAt a2 hy
            rw [hd] at hd'
            cases hd'
            have st : Same Hx (upd Hx t (.tup [x, y])) := same_upd nt
            refine ⟨t, _, rfl, SqT.of upd_same, rfl, _, _, rfl, _, _, rfl, rfl, rfl, ?_⟩
            unfold tYes
            dsimp only
            rw [if_pos rfl]
            refine ⟨_, rfl, _, rfl, x, y, d, rfl, dpSame (sm.trans st) dx, dpSame (sm.trans st) dy, hl.2 d (List.mem_of_getElem? hd), fun H4 s4 => ?_⟩
            have lt : i < xs.length := (List.getElem?_eq_some_iff.mp hx).1
            refine ⟨_, s4 _ _ (st _ _ hD), by rw [List.length_replicate]; exact small1000 (by omega), fun b o e => ?_, fD, ?_⟩
            · rw [upd_ne (ne_of_none e fD)]
              exact s4 _ _ (st _ _ (sm _ _ e))
            · rw [upd_same, List.replicate_succ']
          · rintro Hx ⟨sm, fD, hD⟩
            refine ⟨D, List.replicate xs.length true, rfl, SqL.of (by rw [hD, List.map_replicate]), ?_⟩
            have ea : (List.replicate xs.length true).all id = true := List.all_eq_true.mpr fun b hb => by rw [(List.mem_replicate.mp hb).2]; rfl
            exact qB (Q := Q) ea (q _ sm)
      | @tup pa xs ds h a =>
        cases hy with
        | @tup pb ys _ h2 a2 =>
          refine ⟨_, rfl, (by decide : 2 ≤ sizeLine), fun tp ntp => ?_⟩
          have s1 := same_upd (o := .tup [.ty "list", .ty "tuple"]) ntp
          refine ⟨(.ref pb), tp, _, _, _, _, rfl, upd_same, .cons (.ty _) (.cons (.ty _) .nil), tyT (same_seqT s1 h2), kitAny2 (b1 := false) (b2 := true) (kit_ty (by decide +kernel)) (kit_ty (by decide +kernel)), _, rfl, iteT ?_⟩
          refine ⟨_, rfl, .ref pa, .ty "list", .type "tuple", .type "list", false, rfl, .ty _, tyT (same_seqT s1 h), kit_ty (by decide +kernel), _, rfl, .ref pb, .ty "list", .type "tuple", .type "list", false, rfl, .ty _, tyT (same_seqT s1 h2), kit_ty (by decide +kernel), rfl, _, rfl, iteNS rfl ⟨_, rfl, .ref pa, .ty "tuple", .type "tuple", .type "tuple", true, rfl, .ty _, tyT (same_seqT s1 h), kit_ty (by decide +kernel), _, rfl, .ref pb, .ty "tuple", .type "tuple", .type "tuple", true, rfl, .ty _, tyT (same_seqT s1 h2), kit_ty (by decide +kernel), rfl, _, rfl, iteNS rfl ?_⟩⟩
          have lx := dpLen a
          have ly := dpLen a2
          have hlz : ds.length ≤ 1000 := hl.1
          have eI : V.int ((xs.length : Nat) : Int) = V.int ((ys.length : Nat) : Int) := by rw [lx, ly]
          refine ⟨_, rfl, pa, xs, rfl, .inr (same_seqT s1 h), _, rfl, pb, ys, rfl, .inr (same_seqT s1 h2), rfl, _, rfl, itT eI ?_⟩
          refine ⟨_, rfl, _, rfl, pa, pb, xs, ys, rfl, .inr ⟨(same_seqT s1 h), (same_seqT s1 h2), fun D nD => ?_⟩⟩
          refine lc_zipG (S := SqT K) (xs := xs) (ys := ys) (by omega) (fun i H' => Same H H' ∧ H D = none ∧ H' D = some (.lst (List.replicate i (.bl true)))) ⟨s1.trans (same_upd nD), s1.free nD, upd_same⟩ (fun i H' ⟨sm, _, _⟩ => ⟨(same_seqT sm h), (same_seqT sm h2)⟩) ?_ ?_
          · rintro i x y t Hx hx hy ⟨sm, fD, hD⟩ nt
            obtain ⟨d, hd, dx⟩ := dpAt a hx
            obtain ⟨d', hd', dy⟩ := dpAt a2 hy
            rw [hd] at hd'
            cases hd'
            have st : Same Hx (upd Hx t (.tup [x, y])) := same_upd nt
            refine ⟨t, _, rfl, SqT.of upd_same, rfl, _, _, rfl, _, _, rfl, rfl, rfl, ?_⟩
            unfold tYes
            dsimp only
            rw [if_pos rfl]
            refine ⟨_, rfl, _, rfl, x, y, d, rfl, dpSame (sm.trans st) dx, dpSame (sm.trans st) dy, hl.2 d (List.mem_of_getElem? hd), fun H4 s4 => ?_⟩
            have lt : i < xs.length := (List.getElem?_eq_some_iff.mp hx).1
            refine ⟨_, s4 _ _ (st _ _ hD), by rw [List.length_replicate]; exact small1000 (by omega), fun b o e => ?_, fD, ?_⟩
            · rw [upd_ne (ne_of_none e fD)]
              exact s4 _ _ (st _ _ (sm _ _ e))
            · rw [upd_same, List.replicate_succ']
          · rintro Hx ⟨sm, fD, hD⟩
            refine ⟨D, List.replicate xs.length true, rfl, SqL.of (by rw [hD, List.map_replicate]), ?_⟩
            have ea : (List.replicate xs.length true).all id = true := List.all_eq_true.mpr fun b hb => by rw [(List.mem_replicate.mp hb).2]; rfl
            exact qB (Q := Q) ea (q _ sm)
      | non =>
        cases hy
        refine ⟨_, rfl, (by decide : 2 ≤ sizeLine), fun tp ntp => ?_⟩
        have s1 := same_upd (o := .tup [.ty "list", .ty "tuple"]) ntp
        refine ⟨.non, tp, _, _, _, _, rfl, upd_same, .cons (.ty _) (.cons (.ty _) .nil), .base .non, kitAny2 (b1 := false) (b2 := false) (kit_ty (by decide +kernel)) (kit_ty (by decide +kernel)), _, rfl, iteF ?_⟩
        refine ⟨_, rfl, _, rfl, itT rfl (iteT ?_)⟩
        refine ⟨_, rfl, _, rfl, itT rfl ⟨_, rfl, ?_⟩⟩
        exact qT (Q := Q) rfl (q _ s1)
      | bl b =>
        cases hy
        refine ⟨_, rfl, (by decide : 2 ≤ sizeLine), fun tp ntp => ?_⟩
        have s1 := same_upd (o := .tup [.ty "list", .ty "tuple"]) ntp
        refine ⟨(.bl b), tp, _, _, _, _, rfl, upd_same, .cons (.ty _) (.cons (.ty _) .nil), .base (.bl _), kitAny2 (b1 := false) (b2 := false) (kit_ty (by decide +kernel)) (kit_ty (by decide +kernel)), _, rfl, iteF ?_⟩
        refine ⟨_, rfl, _, rfl, itF (fun h => nomatch h) ⟨_, rfl, _, rfl, itF (fun h => nomatch h) ?_⟩⟩
        refine ⟨_, rfl, (.bl b), .ty "bool", .type "bool", .type "bool", true, rfl, .ty _, .base (.bl _), kit_ty (by decide +kernel), _, rfl, (.bl b), .ty "bool", .type "bool", .type "bool", true, rfl, .ty _, .base (.bl _), kit_ty (by decide +kernel), rfl, _, rfl, iteNS rfl ⟨_, rfl, (.bl b), .ty "int", .type "bool", .type "int", true, rfl, .ty _, .base (.bl _), kit_ty (by decide +kernel), _, rfl, (.bl b), .ty "int", .type "bool", .type "int", true, rfl, .ty _, .base (.bl _), kit_ty (by decide +kernel), rfl, _, rfl, iteNS rfl ?_⟩⟩
        refine ⟨_, rfl, (.bl b), .ty "str", .type "bool", .type "str", false, rfl, .ty _, .base (.bl _), kit_ty (by decide +kernel), _, rfl, (.bl b), .ty "str", .type "bool", .type "str", false, rfl, .ty _, .base (.bl _), kit_ty (by decide +kernel), rfl, _, rfl, itT rfl ⟨_, rfl, _, rfl, rfl, ?_⟩⟩
        exact qT (Q := Q) rfl (q _ s1)
      | int i =>
        cases hy
        refine ⟨_, rfl, (by decide : 2 ≤ sizeLine), fun tp ntp => ?_⟩
        have s1 := same_upd (o := .tup [.ty "list", .ty "tuple"]) ntp
        refine ⟨(.int i), tp, _, _, _, _, rfl, upd_same, .cons (.ty _) (.cons (.ty _) .nil), .base (.int _), kitAny2 (b1 := false) (b2 := false) (kit_ty (by decide +kernel)) (kit_ty (by decide +kernel)), _, rfl, iteF ?_⟩
        refine ⟨_, rfl, _, rfl, itF (fun h => nomatch h) ⟨_, rfl, _, rfl, itF (fun h => nomatch h) ?_⟩⟩
        refine ⟨_, rfl, (.int i), .ty "bool", .type "int", .type "bool", false, rfl, .ty _, .base (.int _), kit_ty (by decide +kernel), _, rfl, (.int i), .ty "bool", .type "int", .type "bool", false, rfl, .ty _, .base (.int _), kit_ty (by decide +kernel), rfl, _, rfl, iteNS rfl ⟨_, rfl, (.int i), .ty "int", .type "int", .type "int", true, rfl, .ty _, .base (.int _), kit_ty (by decide +kernel), _, rfl, (.int i), .ty "int", .type "int", .type "int", true, rfl, .ty _, .base (.int _), kit_ty (by decide +kernel), rfl, _, rfl, iteNS rfl ?_⟩⟩
        refine ⟨_, rfl, (.int i), .ty "str", .type "int", .type "str", false, rfl, .ty _, .base (.int _), kit_ty (by decide +kernel), _, rfl, (.int i), .ty "str", .type "int", .type "str", false, rfl, .ty _, .base (.int _), kit_ty (by decide +kernel), rfl, _, rfl, itT rfl ⟨_, rfl, _, rfl, rfl, ?_⟩⟩
        exact qT (Q := Q) rfl (q _ s1)
      | str z =>
        cases hy
        refine ⟨_, rfl, (by decide : 2 ≤ sizeLine), fun tp ntp => ?_⟩
        have s1 := same_upd (o := .tup [.ty "list", .ty "tuple"]) ntp
        refine ⟨(.str z), tp, _, _, _, _, rfl, upd_same, .cons (.ty _) (.cons (.ty _) .nil), .base (.str _), kitAny2 (b1 := false) (b2 := false) (kit_ty (by decide +kernel)) (kit_ty (by decide +kernel)), _, rfl, iteF ?_⟩
        refine ⟨_, rfl, _, rfl, itF (fun h => nomatch h) ⟨_, rfl, _, rfl, itF (fun h => nomatch h) ?_⟩⟩
        refine ⟨_, rfl, (.str z), .ty "bool", .type "str", .type "bool", false, rfl, .ty _, .base (.str _), kit_ty (by decide +kernel), _, rfl, (.str z), .ty "bool", .type "str", .type "bool", false, rfl, .ty _, .base (.str _), kit_ty (by decide +kernel), rfl, _, rfl, iteNS rfl ⟨_, rfl, (.str z), .ty "int", .type "str", .type "int", false, rfl, .ty _, .base (.str _), kit_ty (by decide +kernel), _, rfl, (.str z), .ty "int", .type "str", .type "int", false, rfl, .ty _, .base (.str _), kit_ty (by decide +kernel), rfl, _, rfl, iteNS rfl ?_⟩⟩
        refine ⟨_, rfl, (.str z), .ty "str", .type "str", .type "str", true, rfl, .ty _, .base (.str _), kit_ty (by decide +kernel), _, rfl, (.str z), .ty "str", .type "str", .type "str", true, rfl, .ty _, .base (.str _), kit_ty (by decide +kernel), rfl, _, rfl, itT rfl ⟨_, rfl, _, rfl, rfl, ?_⟩⟩
        exact qT (Q := Q) rfl (q _ s1)
end
end Onp
set_option maxHeartbeats 4000000
set_option autoImplicit false
namespace Onp
open PySem PySem.Spec PyProof.Rows L2
/-! ### texts as lists of code points -/
def Sx (xs : List Nat) : Str := ⟨xs.toArray⟩
theorem sx_len (xs : List Nat) : (Sx xs).length = xs.length := by simp [Sx, Str.length]
theorem sx_cps (xs : List Nat) : (Sx xs).cps.toList = xs := rfl
theorem sx_app (xs ys : List Nat) : Sx xs ++ Sx ys = Sx (xs ++ ys) := by
  show Str.mk (xs.toArray ++ ys.toArray) = Str.mk (xs ++ ys).toArray
  rw [List.append_toArray]
theorem sx_of (z : Str) : z = Sx z.cps.toList := rfl
theorem sx_inj {xs ys : List Nat} (h : Sx xs = Sx ys) : xs = ys := by
  have := congrArg (fun z : Str => z.cps.toList) h
  simpa [Sx] using this
def rep {α : Type} (n : Nat) (xs : List α) : List α := (List.replicate n xs).flatten
theorem rep_len {α : Type} (n : Nat) (xs : List α) : (rep n xs).length = n * xs.length := by
  unfold rep
  induction n with
  | zero => simp
  | succ n ih =>
    rw [List.replicate_succ, List.flatten_cons, List.length_append, ih, Nat.succ_mul]
    omega
theorem foldl_cps (n : Nat) (xs : List Nat) (a : List Nat) : ((List.replicate n xs.toArray).foldl (· ++ ·) a.toArray) = (a ++ rep n xs).toArray := by
  induction n generalizing a with
  | zero => simp [rep]
  | succ n ih =>
    rw [List.replicate_succ, List.foldl_cons, List.append_toArray, ih]
    unfold rep
    rw [List.replicate_succ, List.flatten_cons, List.append_assoc]
section
variable {X : Cx}
/-- text * int -/
def rMulS : R2 := fun x y H Q => ∃ (xs : List Nat) (n : Nat), x = .str (Sx xs) ∧ y = .int (n : Int) ∧ n ≤ 1000 ∧ n * xs.length ≤ sizeLine ∧ Q (.str (Sx (rep n xs))) H
theorem op_mulS : OpR X (binaryOp .Mult) rMulS := by
  intro pins s σ H x y v u Q I rx ry h
  obtain ⟨xs, n, rfl, rfl, hn, hz, q⟩ := h
  obtain ⟨t, rfl⟩ := rx
  obtain ⟨t', rfl⟩ := ry
  have hl : (Sx xs).length = xs.length := sx_len xs
  refine P.mul_str ?_ (fun h1 h2 => ?_) (fun h1 h2 => ?_) ?_
  · have h1 : ¬ ((n : Int) < -(2 ^ 63 : Int)) := by omega
    have h2 : ¬ ((n : Int) ≥ 2 ^ 63) := by omega
    rw [decide_eq_false h1, decide_eq_false h2]
    rfl
  · rw [hl]
    have hs := sizeLine_eq
    have q1 : ((xs.length : Int) * (n : Int)) ≤ 2 ^ 63 - 1 := by
      have q2 : n * xs.length ≤ 9223372036854775807 := by omega
      have q3 : ((n * xs.length : Nat) : Int) ≤ ((9223372036854775807 : Nat) : Int) := Int.ofNat_le.mpr q2
      rw [Int.mul_comm, ← Int.natCast_mul]
      exact q3
    have q3 := Int.le_ediv_of_mul_le (show (0 : Int) < n by omega) q1
    omega
  · rw [hl]
    unfold Builtin.Str.tooLong
    rw [Int.toNat_natCast, Nat.mul_comm]
    exact decide_eq_false (by omega)
  · by_cases h1 : (n : Int) < 1
    · rw [if_pos h1]
      have e : n = 0 := by omega
      subst e
      exact ⟨by decide, .str (Sx (rep 0 xs)), H, I.tok _, ⟨_, rfl⟩, q⟩
    · rw [if_neg h1]
      by_cases h2 : ((n : Int) == 1 || (Sx xs).length == 0) = true
      · rw [if_pos h2]
        have e : rep n xs = xs := by
          rcases Bool.or_eq_true_iff.mp h2 with h | h
          · have : n = 1 := by have := beq_iff_eq.mp h; omega
            subst this
            simp [rep]
          · rw [hl] at h
            have : xs = [] := List.length_eq_zero_iff.mp (beq_iff_eq.mp h)
            subst this
            simp [rep]
        rw [e] at q
        exact ⟨.str (Sx xs), H, I, ⟨_, rfl⟩, q⟩
      · rw [if_neg h2, Int.toNat_natCast]
        have e : (List.replicate n (Sx xs).cps).foldl (· ++ ·) #[] = (rep n xs).toArray := foldl_cps n xs []
        rw [e]
        refine ⟨?_, .str (Sx (rep n xs)), H, I.tok _, ⟨_, rfl⟩, q⟩
        show (Sx (rep n xs)).length ≤ sizeLine
        rw [sx_len, rep_len]
        exact hz
/-- list(text) -/
def signsV (xs : List Nat) : List V := xs.map fun c => V.str (Sx [c])
theorem call_list_s (hc : X.calm = true) : CallR X (.type "list") (fun vs H Q => ∃ xs : List Nat, vs = [.str (Sx xs)] ∧ xs.length ≤ sizeLine ∧ ∀ l, H l = none → Q (.ref l) (upd H l (.lst (signsV xs)))) := by
  intro pins s σ H vs us Q I r h
  obtain ⟨xs, rfl, hz, q⟩ := h
  obtain ⟨u, rfl, t, rfl⟩ := vals1 r
  refine call_list_str (I.ok.hd hc) (Sx xs) t (hn := by show (Sx xs).length ≤ sizeLine; rw [sx_len]; exact hz) fun h' tk acc c hk hS ha => ?_
  refine ⟨.ref s.heap.objs.size, upd H s.heap.objs.size (.lst (signsV xs)), I.laid (t' := tk) hk (Nat.le_refl _) ?_, rfl, q _ (I.hok.fresh (Nat.le_refl _))⟩
  have e : acc = acc.toList.toArray := by simp
  refine ⟨by unfold signsV; rw [List.length_map]; exact hz, acc.toList, c, ?_, by rw [← e]; exact hS⟩
  have hsz : acc.toList.length = xs.length := by
    rw [Array.length_toList, ha.1]
    exact sx_len xs
  have key : ∀ (ys : List Nat) (vs : List Value) (k : Nat), vs.length = ys.length → (∀ (j : Nat) (v : Value), vs[j]? = some v → ∃ cc uu, ys[j]? = some cc ∧ v = Value.str ⟨#[cc]⟩ uu) → Vals (signsV ys) vs := by
    intro ys
    induction ys with
    | nil =>
      intro vs _ hl _
      rw [List.length_eq_zero_iff.mp hl]
      exact .nil
    | cons y ys ih =>
      intro vs k hl hv
      cases vs with
      | nil => simp at hl
      | cons v vs =>
        obtain ⟨cc, uu, e1, e2⟩ := hv 0 v rfl
        cases e1
        subst e2
        exact .cons ⟨uu, rfl⟩ (ih vs k (by simpa using hl) fun j v hj => hv (j + 1) v hj)
  refine key xs acc.toList 0 hsz fun j v hj => ?_
  obtain ⟨cc, uu, e1, e2⟩ := ha.2 j v (by simpa using hj)
  refine ⟨cc, uu, ?_, e2⟩
  have e1 : xs.toArray[j]? = some cc := e1
  simpa using e1
end
end Onp
set_option maxHeartbeats 4000000
set_option autoImplicit false
/-! zip(text, text) -/
namespace Onp
open PySem PySem.Spec PyProof.Rows L2
abbrev sgn (c : Nat) : V := .str ⟨#[c]⟩
def ItzS (x y : Str) : It :=
  ⟨fun i _ => i < min x.cps.size y.cps.size, fun i H v H' => ∃ T c d, v = .ref T ∧ H T = none ∧ H' = upd H T (.tup [sgn c, sgn d]) ∧ x.cps[i]? = some c ∧ y.cps[i]? = some d, fun i _ => i = min x.cps.size y.cps.size⟩
abbrev stS2 (x y : Str) (t u : Tok) (z TI TO i1 i2 : Addr) : Nat → Heap → Prop := fun i h => IsZip h z TI TO .none ∧ IsTupOf2 h TI (.ref i1) (.ref i2) ∧ (∃ a1 a2, IsTupOf2 h TO a1 a2) ∧ h.IsStrIter i1 (strIterType x) x t i ∧ h.IsStrIter i2 (strIterType y) y u i
theorem zipS_obj {x y : Str} {t u : Tok} {z TI TO i1 i2 : Addr} {i : Nat} {h : Heap} (st : stS2 x y t u z TI TO i1 i2 i h) : ∀ c ∈ z :: TI :: TO :: ([i1] ++ [i2]), ∃ o, h.get? c = some o ∧ ∀ v, o.data ≠ .cell v := fun c hc => by
    obtain ⟨g1, g2, ⟨_, _, g3⟩, ⟨o1, e1, _, d1⟩, ⟨o2, e2, _, d2⟩⟩ := st
    have hc' : c = z ∨ c = TI ∨ c = TO ∨ c = i1 ∨ c = i2 := by simpa using hc
    rcases hc' with rfl | rfl | rfl | rfl | rfl
    · exact ⟨_, g1, fun v q => nomatch q⟩
    · exact ⟨_, g2, fun v q => nomatch q⟩
    · exact ⟨_, g3, fun v q => nomatch q⟩
    · exact ⟨o1, e1, fun v q => by rw [d1] at q; cases q⟩
    · exact ⟨o2, e2, fun v q => by rw [d2] at q; cases q⟩
theorem turn_zipS {P : Program} {w : World} {K : PySem.W.Frag} {elts : List Expr} {kk : Nat} {tpos : Pos} {x y : Str} {t u : Tok} {z TI TO i1 i2 : Addr} (S : ZipSep2 z TI TO i1 i2 [i1] [i2]) :
    Turn P w K (.Tuple elts kk tpos) (ItzS x y) (z :: TI :: TO :: ([i1] ++ [i2])) z (stS2 x y t u z TI TO i1 i2) where
  mem := List.mem_cons_self
  obj := fun i h st => zipS_obj st
  keep := fun i h h' st k => by
    obtain ⟨g1, g2, ⟨a1, a2, g3⟩, ⟨o1, e1, r1⟩, ⟨o2, e2, r2⟩⟩ := st
    exact ⟨k z (by simp) _ g1, k TI (by simp) _ g2, ⟨a1, a2, k TO (by simp) _ g3⟩, ⟨o1, k i1 (by simp) _ e1, r1⟩, ⟨o2, k i2 (by simp) _ e2, r2⟩⟩
  item := by
    intro X hP hw hK hc i pins s σ H E I hf st go
    subst hP hw hK
    have W := WalksT.zipD2 (A := X.A) S (Draws.text (prog := X.prog) (w := X.w) (A := X.A.in1) (by simp [I.ok.hd hc]) i1 x t) (Draws.text (prog := X.prog) (w := X.w) (A := X.A.in1) (by simp [I.ok.hd hc]) i2 y u)
    refine W.item i s _ _ go st fun T vals h' tk pv hT isT mid kp => ?_
    obtain ⟨x1, x2, ⟨c, u1, hc1, rfl⟩, ⟨d, u2, hd1, rfl⟩, rfl⟩ := pv
    refine ⟨_, rfl, W.go elts kk tpos i T { s with heap := h', toks := tk } _ _ mid fun h2 st2 kp2 => ?_⟩
    obtain ⟨o, ho, r⟩ := isT
    have hoT : h2.IsTuple T #[.str ⟨#[c]⟩ u1, .str ⟨#[d]⟩ u2] := ⟨o, kp2 _ _ (W.apart i T _ mid) ho, r⟩
    have new : ObjOk X.prog X.w (upd H T (.tup [sgn c, sgn d])) h2 T (.tup [sgn c, sgn d]) := ⟨by show 2 ≤ sizeLine; decide, [.str ⟨#[c]⟩ u1, .str ⟨#[d]⟩ u2], .cons ⟨_, rfl⟩ (.cons ⟨_, rfl⟩ .nil), hoT⟩
    have I1 : Inv X pins σ (upd H T (.tup [sgn c, sgn d])) { s with heap := h2, toks := tk } := I.turnedNew (t' := tk) (ch := z :: TI :: TO :: ([i1] ++ [i2])) (fun b o hb q => kp2 b o (fun z => hb (W.sub b z)) (kp b o (fun z => hb (W.sub b z)) q)) hf hT new
    refine ⟨.ref T, _, I1, rfl, ⟨T, c, d, rfl, I.hok.fresh hT, rfl, hc1, hd1⟩, st2, fun b hb => ?_⟩
    have ne : b ≠ T := fun e => by
      obtain ⟨o', eo', _⟩ := (zipS_obj st b hb)
      exact absurd (Heap.lt_size eo') (Nat.not_lt_of_le (e ▸ hT))
    rw [upd_ne ne]
    exact (hf b hb).1
  done := by
    intro X hP hw hK hc i pins s σ H E I hf st go
    subst hP hw hK
    have W := WalksT.zipD2 (A := X.A) S (Draws.text (prog := X.prog) (w := X.w) (A := X.A.in1) (by simp [I.ok.hd hc]) i1 x t) (Draws.text (prog := X.prog) (w := X.w) (A := X.A.in1) (by simp [I.ok.hd hc]) i2 y u)
    rw [show i = min x.cps.size y.cps.size from go] at st
    exact W.done s _ _ st fun h' tk kp => ⟨rfl, I.turnedL (t' := tk) (ch := z :: TI :: TO :: ([i1] ++ [i2])) (fun b o hb q => kp b o (fun z => hb (W.sub b z)) q) hf⟩
  self := fun A i s Q E st h => wpAny_pyIter_zip st.1 h
def iZipS (ta : TA) : TI := fun σ H R => ta σ H fun vs H1 => ∃ x y, vs = [.str x, .str y] ∧ R (ItzS x y) H1
theorem pi_zipS {X : Cx} {e e2 : Expr} {ta : TA} {p pos tpos : Pos} {elts : List Expr} {kk : Nat} (hg : Gl X "zip") (hm : X.mg "zip" = none) (ha : PA X [e, e2] ta)
    (hs : starEach [e, e2] X.env = (false, eval e X.env) :: starEach [e2] X.env := by rfl) (hpl : (backTo pos (starEach [e2] X.env)).any (·.1) = false := by rfl) :
    PI X (.Tuple elts kk tpos) (.Call (.Name "zip" p) [e, e2] [] pos) (iZipS ta) := by
  refine ⟨fun pins s σ H R I h => ?_⟩
  refine Call_ (ld_blt I hg hm PyProof.Rows.boot_zip (PyProof.Rows.callWith_type1 (thn (ha.run pos pins s σ H _ I h) fun us s1 ⟨vs, H1, I1, r1, q1⟩ => ?_) hs hpl))
  obtain ⟨x, y, ex, q⟩ := q1
  subst ex
  cases r1 with
  | cons r rr =>
    cases rr with
    | cons r' rr =>
      cases rr
      obtain ⟨t, rfl⟩ := r
      obtain ⟨u, rfl⟩ := r'
      refine zip_begins2 (begins_text x t) (begins_text y u) trivial trivial fun h' g1 g2 g3 g4 g5 sz kp => wpAny_pyIter_zip g1 ?_
      have I2 : Inv X pins σ H1 { s1 with heap := h' } := I1.kept (t' := s1.toks) kp
      refine ⟨s1.heap.objs.size + 4, _, _, _, H1, rfl, I2, turn_zipS (x := x) (y := y) (t := t) (u := u) (zip_sep2 (N := s1.heap.objs.size) (fp1 := []) (fp2 := []) (fun _ h => nomatch h) (fun _ h => nomatch h)), ⟨g1, g2, ⟨_, _, g3⟩, ⟨_, g4, rfl, rfl⟩, ⟨_, g5, rfl, rfl⟩⟩, fun c hc => ?_, q⟩
      have hc' : c = s1.heap.objs.size + 4 ∨ c = s1.heap.objs.size + 2 ∨ c = s1.heap.objs.size + 3 ∨ c = s1.heap.objs.size ∨ c = s1.heap.objs.size + 1 := by simpa using hc
      have le : s1.heap.objs.size ≤ c := by
        rcases hc' with rfl | rfl | rfl | rfl | rfl <;> first | exact Nat.le_refl _ | exact Nat.le_add_right _ _
      exact I1.fpOk le (I1.hok.fresh le)
theorem walk_zipS (x y : Str) : Walk (ItzS x y) (min x.cps.size y.cps.size) (fun _ => True) (fun i H v H' => ∃ T c d, v = .ref T ∧ H T = none ∧ H' = upd H T (.tup [sgn c, sgn d]) ∧ x.cps[i]? = some c ∧ y.cps[i]? = some d) :=
  ⟨fun _ _ h _ => h, fun _ _ => rfl, fun _ _ _ _ _ _ y => y⟩
end Onp
set_option maxHeartbeats 4000000
set_option autoImplicit false
/-! sets of tuples of ints and texts (fewer than 64) -/
namespace Onp
open PySem PySem.Spec PyProof.Rows L2
abbrev hM (P : Program) (w : World) (k : List Key) : Int := tupleKeyHash (mixKind P w) k
abbrev IsM (P : Program) (w : World) (h : Heap) (k : List Key) (a : Addr) : Prop := IsTupleKey (mixKind P w) h k a
abbrev AK : Type := Addr × List Key
section
variable {P : Program} {w : World} {A : Around} {E : Value → Shared → Prop} {s : Shared}
def Flat (v : Value) : Prop := (∃ i t, v = Value.int i t) ∨ ∃ x t, v = Value.str x t
theorem flat_of {k : List Key} {vs : List Value} (h : ItemsAre (mixKind P w) k vs) : ∀ v ∈ vs, Flat v := by
  induction h with
  | nil => exact fun v hv => nomatch hv
  | cons h1 _ ih =>
    intro v hv
    rcases List.mem_cons.mp hv with rfl | hv
    · rcases keyIs_shape h1 with ⟨i, t, _, e⟩ | ⟨x, t, _, e⟩
      · exact .inl ⟨_, _, e⟩
      · exact .inr ⟨_, _, e⟩
    · exact ih v hv
theorem flat_cls (n : Nat) {v : Value} (h : Flat v) : ofAClassStatement n v = pure false := by
  rcases h with ⟨i, t, rfl⟩ | ⟨x, t, rfl⟩ <;> cases n <;> rfl
theorem clsM {k : List Key} {b : Addr} {Q : Bool → Shared → Prop} (hk : IsM P w s.heap k b) (h : Q false s) : wpAny (model P w) A (ofAClassStatement 8 (.ref b)) Q E s := by
  have tT := hk.typeIs
  obtain ⟨ob, its, n, g1, _, g2, g3⟩ := hk
  unfold ofAClassStatement
  refine wpAny_bind (wpAny_typeOf tT ?_)
  dsimp only
  have e : (("tuple" : String) == "tuple") = true := by decide
  simp only [e, if_true, Bool.not_true, Bool.false_eq_true, if_false]
  try refine wpAny_bind (wpAny_pure ?_)
  try simp only [Bool.not_true, Bool.false_eq_true, if_false]
  show wpAny _ _ (seqItems? (.ref b) >>= _) _ _ s
  refine wpAny_bind (wpAny_seqItems g1 g2 ?_)
  dsimp only
  refine wpAny_bind ?_
  show wpAny _ _ (forIn its _ _) _ _ s
  rw [← Array.forIn_toList]
  refine wpAny_forIn_list _ (fun rest r s' => r.1 = none ∧ s' = s ∧ ∀ v ∈ rest, Flat v) _ ?_ ?_ _ _ ⟨rfl, rfl, flat_of g3⟩
  · rintro v rest r s' ⟨_, rfl, al⟩
    rw [flat_cls _ (al v List.mem_cons_self)]
    refine wpAny_bind (wpAny_pure ?_)
    simp only [Bool.false_eq_true, if_false]
    exact wpAny_pure ⟨rfl, rfl, fun u z => al u (List.mem_cons_of_mem _ z)⟩
  · rintro ⟨r1, r2⟩ s' ⟨er, rfl, _⟩
    simp only at er
    subst er
    exact wpAny_pure h
theorem flat_hash (n : Nat) {v : Value} (h : Flat v) : ∃ b, hashByValue n v = pure b := by
  rcases h with ⟨i, t, rfl⟩ | ⟨x, t, rfl⟩
  · exact ⟨true, by cases n <;> rfl⟩
  · exact ⟨false, by cases n <;> rfl⟩
theorem hashM {k : List Key} {b : Addr} {Q : Bool → Shared → Prop} (hk : IsM P w s.heap k b) (h : ∀ y, Q y s) : wpAny (model P w) A (hashByValue 8 (.ref b)) Q E s := by
  have tT := hk.typeIs
  obtain ⟨ob, its, n, g1, _, g2, g3⟩ := hk
  unfold hashByValue
  refine wpAny_bind (wpAny_specialOf tT F.slot_tuple_hash.lookup ?_)
  show wpAny _ _ (seqItems? (.ref b) >>= _) _ _ s
  refine wpAny_bind (wpAny_seqItems g1 g2 ?_)
  refine wpAny_bind ?_
  show wpAny _ _ (forIn its _ _) _ _ s
  rw [← Array.forIn_toList]
  refine wpAny_forIn_list _ (fun rest r s' => s' = s ∧ ∀ v ∈ rest, Flat v) _ ?_ ?_ _ _ ⟨rfl, flat_of g3⟩
  · rintro v rest r s' ⟨rfl, al⟩
    obtain ⟨y, ey⟩ := flat_hash 7 (al v List.mem_cons_self)
    rw [ey]
    refine wpAny_bind (wpAny_pure ?_)
    cases y with
    | true =>
      simp only [Bool.not_true, Bool.false_eq_true, if_false]
      exact wpAny_pure ⟨rfl, fun u z => al u (List.mem_cons_of_mem _ z)⟩
    | false =>
      simp only [Bool.not_false, if_true]
      exact wpAny_pure (wpAny_pure (h false))
  · rintro ⟨r1, r2⟩ s' ⟨rfl, _⟩
    cases r1 with
    | none => exact wpAny_pure (h _)
    | some y => exact wpAny_pure (h _)
theorem seenM {k : List Key} {b : Addr} {Q : Bool → Shared → Prop} (hk : IsM P w s.heap k b) {ys : List Value} (hy : ∀ y ∈ ys, ∃ k' c, y = Value.ref c ∧ IsM P w s.heap k' c) (h : Q false s) :
    wpAny (model P w) A (searchCouldBeSeen (.ref b) ys) Q E s := by
  unfold searchCouldBeSeen
  refine wpAny_bind ?_
  refine wpAny_forIn_list _ (fun rest r s' => r.1 = none ∧ s' = s ∧ ∀ y ∈ rest, ∃ k' c, y = Value.ref c ∧ IsM P w s.heap k' c) _ ?_ ?_ _ _ ⟨rfl, rfl, hy⟩
  · rintro v rest r s' ⟨_, rfl, al⟩
    obtain ⟨k', c, rfl, ic⟩ := al v List.mem_cons_self
    have more : ∀ y ∈ rest, ∃ k' c, y = Value.ref c ∧ IsM P w s'.heap k' c := fun u z => al u (List.mem_cons_of_mem _ z)
    dsimp only
    by_cases hv : (b == c || (carriedByValue (.ref b) && carriedByValue (.ref c))) = true
    · exact wp_if_pos hv (wpAny_pure ⟨rfl, rfl, more⟩)
    · refine wp_if_neg hv (wpAny_bind (wpAny_eqIsQuiet_tuple hk ?_))
      simp only [Bool.not_true, Bool.false_eq_true, if_false]
      refine wpAny_bind (wpAny_eqIsQuiet_tuple ic ?_)
      simp only [Bool.not_true, Bool.false_eq_true, if_false]
      refine wpAny_bind (clsM hk ?_)
      simp only [Bool.false_eq_true, if_false]
      refine wpAny_bind (clsM ic ?_)
      simp only [Bool.false_eq_true, if_false]
      exact wpAny_pure ⟨rfl, rfl, more⟩
  · rintro ⟨r1, r2⟩ s' ⟨er, rfl, _⟩
    simp only at er
    subst er
    exact wpAny_pure h
/-! ### the set -/
def rowsM (P : Program) (w : World) (L : List AK) : List (Int × Value) := L.map fun p => (hM P w p.2, Value.ref p.1)
structure SetM (P : Program) (w : World) (h : Heap) (a : Addr) (L : List AK) (es : Array (Int × Value)) (ep : Nat) (t : SetTable) : Prop where
  ob : ∃ o, h.get? a = some o ∧ o.ExactSet ∧ o.data = .set es ep t
  rows : es.toList = rowsM P w L
  tab : TabOk t (L.map fun p => hM P w p.2)
  nd : (L.map (·.2)).Nodup
  tup : ∀ p ∈ L, IsM P w h p.2 p.1
  led : w.params.followText "set-order" = true ∨ t.led = true
  room : L.length * 5 < t.mask * 3
  few : L.length < 64
variable {a : Addr} {L : List AK} {es : Array (Int × Value)} {ep : Nat} {t : SetTable}
theorem rowsM_len {L : List AK} {es : Array (Int × Value)} (e : es.toList = rowsM P w L) : es.size = L.length := by
  have q := congrArg List.length e
  simpa [rowsM] using q
theorem fitsM {n : Nat} (hd : t.dummies = #[]) (h1 : t.place.size = n) (h2 : n ≤ t.mask) : t.fits n = true := by
  unfold SetTable.fits SetTable.fill
  rw [hd, Bool.and_eq_true, beq_iff_eq, decide_eq_true_eq]
  show t.place.size = n ∧ t.place.size + 0 ≤ t.mask
  omega
theorem SetM.fits (R : SetM P w s.heap a L es ep t) : t.fits es.size = true := by
  have z1 := R.tab.sz
  rw [List.length_map] at z1
  have z2 := rowsM_len R.rows
  have z3 := R.room
  exact fitsM R.tab.dm (by omega) (by omega)
theorem SetM.entry (R : SetM P w s.heap a L es ep t) {i : Nat} {p : AK} (h : L[i]? = some p) : es[i]? = some (hM P w p.2, Value.ref p.1) := by
  rw [← Array.getElem?_toList, R.rows]
  unfold rowsM
  rw [List.getElem?_map, h]
  rfl
theorem SetM.gw (R : SetM P w s.heap a L es ep t) : ¬ t.gaveWay = true := by
  unfold SetTable.gaveWay
  rw [mask_odd R.tab.mok]
  decide
abbrev str0 (t : SetTable) (h : Int) : SetTable.Probe := runAt t.mask (SetTable.bits h % (t.mask + 1)) (SetTable.bits h)
theorem nth_dummy (m : Nat) : ∀ (n : Nat) (p : SetTable.Probe), p.dummy = none → (nth m p n).dummy = none
  | 0, _, h => h
  | n + 1, p, h => nth_dummy m n (adv m p) (by unfold adv; split <;> exact h)
theorem searchM (R : SetM P w s.heap a L es ep t) {x : Addr} {k : List Key} (hx : IsM P w s.heap k x) (hu : A.units < cLine) {K : Nat} (kf : K < 10 * SetTable.turns t.mask)
    (k1 : way t.mask (hM P w k) K ∉ t.place.toList) (k2 : ∀ c, c < K → way t.mask (hM P w k) c ∈ t.place.toList) {Q : SetFound → Shared → Prop}
    (yes : k ∈ L.map (·.2) → Q (.there none) s) (no : k ∉ L.map (·.2) → Q (.free (way t.mask (hM P w k) K) false) s) :
    ∀ (f c : Nat) (stand : Option SetTable.Probe), stand.getD (t.probeStart (hM P w k)) = nth t.mask (str0 t (hM P w k)) c → c ≤ K → K - c < f →
      (∀ (i : Nat) p, L[i]? = some p → p.2 = k → ∃ c', c ≤ c' ∧ c' < K ∧ t.place.toList[i]? = some (way t.mask (hM P w k) c')) →
      wpAny (model P w) A (setSearchFrom a (.ref x) (hM P w k) true f stand) Q E s
  | 0, c, stand, _, _, bad, _ => absurd bad (Nat.not_lt_zero _)
  | f + 1, c, stand, es0, hcK, hf, hre => by
    obtain ⟨ob, g1, gx, g2⟩ := R.ob
    rw [setSearchFrom_succ]
    refine wpAny_bind (wpAny_setState_of g1 g2 R.fits ?_)
    dsimp only
    refine wp_if_neg R.gw ?_
    try refine wpAny_bind (wpAny_pure ?_)
    have nd0 := nth_dummy t.mask c (str0 t (hM P w k)) rfl
    have sh : ∀ q, nth t.mask (nth t.mask (str0 t (hM P w k)) c) q = nth t.mask (str0 t (hM P w k)) (c + q) := fun q => (nth_add t.mask c _ q).symm
    have e1 : ∀ q, (nth t.mask (nth t.mask (str0 t (hM P w k)) c) q).j = way t.mask (hM P w k) (c + q) := fun q => congrArg SetTable.Probe.j (sh q)
    have hat : ∀ (i : Nat) p, L[i]? = some p → (fun i => (es[i]?.map (·.1)).getD 0) i = hM P w p.2 := fun i p hp => by
      show (es[i]?.map (·.1)).getD 0 = _
      rw [R.entry hp]
      rfl
    rcases go_spec t R.tab.ris R.tab.dm (fun i => (es[i]?.map (·.1)).getD 0) (hM P w k) (10 * SetTable.turns t.mask) (K - c) _ nd0 (by omega)
      (fun q hq => by rw [e1]; exact k2 (c + q) (by omega)) (by rw [e1, show c + (K - c) = K by omega]; exact k1) with ⟨q, i, hq, hi, hh, hno, hpr⟩ | ⟨hno, hpr⟩
    · have hpr' : t.probe (fun i => (es[i]?.map (·.1)).getD 0) (hM P w k) (stand.getD (t.probeStart (hM P w k))) = some (.candidate (way t.mask (hM P w k) (c + q)) i (nth t.mask (str0 t (hM P w k)) (c + (q + 1)))) := by
        rw [es0, ← e1, ← sh]
        exact hpr
      rw [hpr']
      dsimp only
      rw [e1] at hi
      have hil : i < L.length := by
        have z1 : i < t.place.toList.length := (List.getElem?_eq_some_iff.mp hi).1
        have z2 := R.tab.sz
        rw [List.length_map] at z2
        rw [Array.length_toList] at z1
        omega
      obtain ⟨p, hp⟩ : ∃ p, L[i]? = some p := ⟨_, List.getElem?_eq_getElem hil⟩
      have pm : p ∈ L := List.mem_of_getElem? hp
      have pt := R.tup p pm
      have rest : wpAny (model P w) A (searchRest a (.ref x) (hM P w k) true f es t (way t.mask (hM P w k) (c + q)) i (nth t.mask (str0 t (hM P w k)) (c + (q + 1)))) Q E s := by
        unfold searchRest
        rw [R.entry hp]
        dsimp only
        refine wpAny_bind (wpAny_holding (wpAny_eqBool_tuple hu pt hx ?_))
        refine wpAny_bind (wpAny_setState_of g1 g2 R.fits ?_)
        dsimp only
        by_cases kk : p.2 = k
        · refine wp_if_pos (by simp [kk]) ?_
          exact wpAny_pure (yes (List.mem_map.mpr ⟨p, pm, kk⟩))
        · refine wp_if_neg (by simp [kk]) ?_
          try refine wpAny_bind (wpAny_pure ?_)
          rw [sameMem]
          dsimp only
          have sl : t.slot (way t.mask (hM P w k) (c + q)) = .live i := slot_live R.tab.ris hi
          simp only [if_true, sl, R.entry hp]
          refine wpAny_bind (wpAny_isSame_ref_self (wpAny_bind (wpAny_pure ?_)))
          simp only [if_true]
          refine wp_if_neg (by simp [kk]) ?_
          refine searchM R hx hu kf k1 k2 yes no f (c + (q + 1)) _ rfl (by omega) (by omega) fun i0 p0 z0 hk0 => ?_
          obtain ⟨c', a1, a2, a3⟩ := hre i0 p0 z0 hk0
          refine ⟨c', ?_, a2, a3⟩
          by_cases y1 : c' < c + q
          · exfalso
            refine hno (c' - c) i0 (by omega) (by rw [e1, show c + (c' - c) = c' by omega]; exact a3) ?_
            exact (hat i0 p0 z0).trans (congrArg (hM P w) hk0)
          · by_cases y2 : c + q < c'
            · omega
            · exfalso
              have ec : c' = c + q := by omega
              rw [ec] at a3
              have s0 := slot_live R.tab.ris a3
              rw [sl] at s0
              injection s0 with s0
              rw [← s0, hp] at z0
              rw [← Option.some.inj z0] at hk0
              exact kk hk0
      by_cases hl : t.led = true
      · refine wp_if_neg (by simp [hl]) ?_
        try refine wpAny_bind (wpAny_pure ?_)
        exact rest
      · refine wp_if_pos (by simp [hl]) (wpAny_bind (seenM hx (fun y hy => ?_) ?_))
        · obtain ⟨e, he, ee⟩ := List.mem_map.mp hy
          have he1 : e ∈ es ∧ e.1 = hM P w k := by simpa using he
          have he2 : e ∈ es.toList := by simpa using he1.1
          rw [R.rows] at he2
          obtain ⟨p2, m2, q2⟩ := List.mem_map.mp he2
          exact ⟨p2.2, p2.1, by rw [← ee, ← q2], R.tup p2 m2⟩
        · refine wp_if_neg (by decide) ?_
          try refine wpAny_bind (wpAny_pure ?_)
          exact rest
    · have hpr' : t.probe (fun i => (es[i]?.map (·.1)).getD 0) (hM P w k) (stand.getD (t.probeStart (hM P w k))) = some (.empty (way t.mask (hM P w k) K) none) := by
        have e2 : way t.mask (hM P w k) K = (nth t.mask (nth t.mask (str0 t (hM P w k)) c) (K - c)).j := by
          rw [e1, show c + (K - c) = K by omega]
        rw [es0, e2]
        exact hpr
      rw [hpr']
      dsimp only
      refine wpAny_pure (no fun hm => ?_)
      obtain ⟨p0, z0, hk0⟩ := List.mem_map.mp hm
      obtain ⟨i0, hi0⟩ := List.mem_iff_getElem?.mp z0
      obtain ⟨c', a1, a2, a3⟩ := hre i0 p0 hi0 hk0
      refine hno (c' - c) i0 (by omega) (by rw [e1, show c + (c' - c) = c' by omega]; exact a3) ?_
      exact (hat i0 p0 hi0).trans (congrArg (hM P w) hk0)
theorem searchM0 (R : SetM P w s.heap a L es ep t) {x : Addr} {k : List Key} (hx : IsM P w s.heap k x) (hu : A.units < cLine) {Q : SetFound → Shared → Prop}
    (yes : k ∈ L.map (·.2) → Q (.there none) s)
    (no : ∀ K, k ∉ L.map (·.2) → way t.mask (hM P w k) K ∉ t.place.toList → (∀ c, c < K → way t.mask (hM P w k) c ∈ t.place.toList) → Q (.free (way t.mask (hM P w k) K) false) s) :
    wpAny (model P w) A (setSearch a (.ref x) (hM P w k) true) Q E s := by
  have z3 := R.room
  obtain ⟨K, kf, k1, k2⟩ := R.tab.first (by rw [List.length_map]; omega) (hM P w k)
  have big : K < 100000 := by
    have : 10 * SetTable.turns t.mask ≤ 1420 := by
      unfold SetTable.turns
      rcases R.tab.mok with e | e | e <;> omega
    omega
  unfold setSearch
  refine searchM R hx hu kf k1 k2 yes (fun z => no K z k1 k2) 100000 0 none rfl (Nat.zero_le _) (by omega) fun i p hp hk => ?_
  have hi : (L.map fun p => hM P w p.2)[i]? = some (hM P w k) := by
    rw [List.getElem?_map, hp, ← hk]
    rfl
  have hil : i < t.place.toList.length := by
    have z1 : i < L.length := (List.getElem?_eq_some_iff.mp hp).1
    have z2 := R.tab.sz
    rw [List.length_map] at z2
    rw [Array.length_toList]
    omega
  obtain ⟨c, hc, e⟩ := R.tab.before k1 hi (List.getElem?_eq_getElem hil)
  exact ⟨c, Nat.zero_le _, hc, by rw [List.getElem?_eq_getElem hil, e]⟩
theorem isM_but {h h' : Heap} {k : List Key} {a b : Addr} {o : Obj} {es : Array (Int × Value)} {ep : Nat} {t : SetTable} (hb : IsM P w h k b) (g1 : h.get? a = some o) (g2 : o.data = .set es ep t) (sb : Heap.SameBut a h h') : IsM P w h' k b := by
  obtain ⟨o', its, n, z1, z2, z3, z4⟩ := hb
  have ne : b ≠ a := by
    rintro rfl
    obtain rfl : o' = o := Option.some.inj (z1.symm.trans g1)
    rw [g2] at z3
    exact nomatch z3
  exact ⟨o', its, n, (sb.2 b ne).trans z1, z2, z3, z4⟩
theorem orderM (L : List AK) (es : Array (Int × Value)) (order : Array Nat) (hr : es.toList = rowsM P w L) (hp : order.toList.Perm (List.range L.length)) :
    ∃ L2, (order.filterMap (es[·]?)).toList = rowsM P w L2 ∧ L2.Perm L ∧ (L2.map fun p => hM P w p.2) = order.toList.map fun i => (es.map (·.1)).getD i 0 := by
  have sz := rowsM_len hr
  have ent : ∀ i, es[i]? = (L[i]?).map fun (p : AK) => (hM P w p.2, Value.ref p.1) := fun i => by
    rw [← Array.getElem?_toList, hr]
    unfold rowsM
    rw [List.getElem?_map]
  have key : ∀ l : List Nat, (∀ i ∈ l, i < L.length) → l.filterMap (fun i => es[i]?) = rowsM P w (l.filterMap fun i => L[i]?) ∧ ((l.filterMap fun i => L[i]?).map fun p => hM P w p.2) = l.map fun i => (es.map (·.1)).getD i 0 := by
    intro l
    induction l with
    | nil => exact fun _ => ⟨rfl, rfl⟩
    | cons i l ih =>
      intro hl
      have hi := hl i List.mem_cons_self
      obtain ⟨q1, q2⟩ := ih fun j hj => hl j (List.mem_cons_of_mem _ hj)
      have g : L[i]? = some L[i] := List.getElem?_eq_getElem hi
      have g' : es[i]? = some (hM P w L[i].2, Value.ref L[i].1) := by rw [ent, g]; rfl
      refine ⟨?_, ?_⟩
      · rw [List.filterMap_cons_some g', List.filterMap_cons_some g, q1]
        rfl
      · rw [List.filterMap_cons_some g, List.map_cons, List.map_cons, q2]
        congr 1
        have q5 : (es.map (·.1))[i]? = some (hM P w L[i].2) := by rw [Array.getElem?_map, g']; rfl
        simp [Array.getD_eq_getD_getElem?, q5]
  obtain ⟨q1, q2⟩ := key order.toList fun i hi => List.mem_range.mp (hp.mem_iff.mp hi)
  refine ⟨_, by first | (rw [Array.toList_filterMap]; exact q1) | simpa using q1, ?_, q2⟩
  have m1 : (order.toList.filterMap fun i => L[i]?).Perm ((List.range L.length).filterMap fun i => L[i]?) := hp.filterMap _
  have m2 : (List.range L.length).filterMap (fun i => L[i]?) = L := by
    have key2 : ∀ n, n ≤ L.length → (List.range n).filterMap (fun i => L[i]?) = L.take n := by
      intro n
      induction n with
      | zero => exact fun _ => rfl
      | succ n ih =>
        intro hn
        rw [List.range_succ, List.filterMap_append, ih (by omega), List.take_succ, List.getElem?_eq_getElem hn, List.filterMap_cons_some (List.getElem?_eq_getElem hn)]
        rfl
    rw [key2 L.length (Nat.le_refl _), List.take_length]
  rw [m2] at m1
  exact m1
theorem relayM {o : Obj} (g1 : s.heap.get? a = some o) (gx : o.ExactSet) (g2 : o.data = .set es ep t) (hr : es.toList = rowsM P w L) (z1 : t.place.size = es.size) (z2 : t.dummies = #[]) (z3 : es.size ≤ t.mask)
    (nd : (L.map (·.2)).Nodup) (tup : ∀ p ∈ L, IsM P w s.heap p.2 p.1) (ld : w.params.followText "set-order" = true ∨ t.led = true) (few : L.length < 64) {wanted M : Nat}
    (w1 : SetTable.sizeAbove wanted - 1 = M) (w2 : MaskOk M) (w3 : SetTable.sizeAbove wanted ≤ 128) (w4 : L.length * 5 < M * 3) {Q : Unit → Shared → Prop}
    (q : ∀ h' L' es' ep' t', Heap.SameBut a s.heap h' → SetM P w h' a L' es' ep' t' → L'.Perm L → Q () { s with heap := h' }) : wpAny (model P w) A (setRelay a wanted) Q E s := by
  have sz := rowsM_len hr
  obtain ⟨t', order, e, hp, T, em, el, ep2, ed⟩ := relaid_ok t (hs := es.map (·.1)) (wanted := wanted) w1 w2 (by rw [Array.size_map, sz]; omega)
  rw [Array.size_map, sz] at hp
  obtain ⟨L2, r1, r2, r3⟩ := orderM L es order hr hp
  rw [← r3] at T
  have sz2 : (order.filterMap (es[·]?)).size = es.size := by
    rw [rowsM_len r1, r2.length_eq, sz]
  rw [setRelay_eq]
  refine wpAny_bind (wpAny_setState_of g1 g2 (fitsM z2 z1 z3) ?_)
  dsimp only
  refine wp_if_neg (by rw [sizeLine_eq]; omega) ?_
  try refine wpAny_bind (wpAny_pure ?_)
  rw [e]
  dsimp only
  refine wpAny_bind (wp_if_neg (by rw [sz2]; simp) ?_)
  try refine wpAny_bind (wpAny_pure ?_)
  refine wpAny_pure ?_
  dsimp only
  refine wpAny_storeSet_of g1 g2 ?_ (by rw [sz2, sz, sizeLine_eq]; omega)
  have sb : Heap.SameBut a s.heap (s.heap.update a (Obj.putSet (order.filterMap (es[·]?)) t')) := Heap.SameBut.update ..
  refine q _ L2 (order.filterMap (es[·]?)) (ep + 1) t' sb ⟨⟨_, store_at g1 g2, ⟨gx.1, gx.2.1, gx.2.2⟩, rfl⟩, r1, T, (r2.map (·.2)).nodup_iff.mpr nd, fun p z => isM_but (tup p (r2.mem_iff.mp z)) g1 g2 sb, by rw [el]; exact ld, ?_, by rw [r2.length_eq]; exact few⟩ r2
  rw [r2.length_eq, em]
  exact w4
theorem addM (R : SetM P w s.heap a L es ep t) {x : Addr} {k : List Key} (hx : IsM P w s.heap k x) (hu : A.units < cLine) (few : L.length + 1 < 64) {Q : Bool → Shared → Prop}
    (q : ∀ b h' L' es' ep' t', Heap.SameBut a s.heap h' → SetM P w h' a L' es' ep' t' → (k ∈ L.map (·.2) → L' = L) → (k ∉ L.map (·.2) → L'.Perm ((x, k) :: L)) → Q b { s with heap := h' }) :
    wpAny (model P w) A (setAddHashed a (.ref x) (hM P w k)) Q E s := by
  obtain ⟨ob, g1, gx, g2⟩ := R.ob
  have sz := rowsM_len R.rows
  have z3 := R.room
  unfold setAddHashed
  refine wpAny_holding ?_
  rw [show (100000 : Nat) = 99999 + 1 from rfl, setAddHashedIn_succ]
  refine wpAny_bind (wpAny_setState_of g1 g2 R.fits ?_)
  dsimp only
  refine wp_if_neg (by simp [byScan, Value.scannable]) ?_
  try refine wpAny_bind (wpAny_pure ?_)
  refine wpAny_bind (searchM0 R hx hu (fun hm => ?_) fun K hm k1 k2 => ?_)
  · dsimp only
    exact wpAny_pure (q false s.heap L es ep t (Heap.SameBut.refl a s.heap) R (fun _ => rfl) fun z => absurd hm z)
  · dsimp only
    refine wpAny_bind (wpAny_setState_of g1 g2 R.fits ?_)
    dsimp only
    obtain ⟨q1, q2, q3, q4, q5, q6, q7, q8, q9⟩ := R.tab.put k1 k2
    generalize t.put (way t.mask (hM P w k) K) = pt at q1 q3 q4 q5 q6 q7 q8 q9 ⊢
    obtain ⟨t1, p⟩ := pt
    dsimp only at q1 q3 q4 q5 q6 q7 q8 q9 ⊢
    subst q1
    have put : ∀ t2 : SetTable, TabOk t2 ((L.map fun p => hM P w p.2).take (SetTable.below t.place (way t.mask (hM P w k) K)) ++ hM P w k :: (L.map fun p => hM P w p.2).drop (SetTable.below t.place (way t.mask (hM P w k) K))) → t2.mask = t.mask → t2.led = t.led → t2.fill = (L.map fun p => hM P w p.2).length + 1 →
        wpAny (model P w) A (do
          storeSet a (SetTable.insertAt es (SetTable.below t.place (way t.mask (hM P w k) K)) (hM P w k, Value.ref x)) t2
          if (!false && t2.tooFull) = true then do
            setRelay a (SetTable.grown (es.size + 1))
            pure true
          else pure true) Q E s := fun t1 q3 q4 q5 q9 => by
      generalize epp : SetTable.below t.place (way t.mask (hM P w k) K) = p at q2 q3 ⊢
      have pm := put_perm L p (x, k)
      have hin : (SetTable.insertAt es p (hM P w k, Value.ref x)).toList = rowsM P w (L.take p ++ (x, k) :: L.drop p) := by
        rw [SetTable.toList_insertAt, R.rows]
        unfold rowsM
        rw [List.map_append, List.map_cons, List.map_take, List.map_drop]
      have hhs : (L.take p ++ (x, k) :: L.drop p).map (fun p => hM P w p.2) = (L.map fun p => hM P w p.2).take p ++ hM P w k :: (L.map fun p => hM P w p.2).drop p := by
        rw [List.map_append, List.map_cons, List.map_take, List.map_drop]
      rw [← hhs] at q3
      have sz1 := rowsM_len hin
      generalize SetTable.insertAt es p (hM P w k, Value.ref x) = es1 at hin sz1 ⊢
      generalize L.take p ++ (x, k) :: L.drop p = L1 at pm q3 hin sz1
      have len1 : L1.length = L.length + 1 := pm.length_eq
      have nd1 : (L1.map (·.2)).Nodup := by
        refine (pm.map (·.2)).nodup_iff.mpr ?_
        rw [List.map_cons]
        exact List.nodup_cons.mpr ⟨hm, R.nd⟩
      refine wpAny_bind (wpAny_storeSet_of g1 g2 ?_ (by rw [sz1, len1, sizeLine_eq]; omega))
      have sb : Heap.SameBut a s.heap (s.heap.update a (Obj.putSet es1 t1)) := Heap.SameBut.update ..
      have o1 := store_at (es' := es1) (t' := t1) g1 g2
      generalize s.heap.update a (Obj.putSet es1 t1) = h1 at sb o1 ⊢
      have tup1 : ∀ p ∈ L1, IsM P w h1 p.2 p.1 := fun p hp => by
        rcases List.mem_cons.mp (pm.mem_iff.mp hp) with e | hp
        · rw [e]
          exact isM_but hx g1 g2 sb
        · exact isM_but (R.tup p hp) g1 g2 sb
      have ld1 : w.params.followText "set-order" = true ∨ t1.led = true := by rw [q5]; exact R.led
      have hfull : t1.tooFull = decide ((L.length + 1) * 5 ≥ t1.mask * 3) := by
        unfold SetTable.tooFull
        rw [q9, List.length_map]
      by_cases hf : (L.length + 1) * 5 ≥ t1.mask * 3
      · have hf' : t1.tooFull = true := by rw [hfull, decide_eq_true hf]
        first
          | (refine wpAny_bind ?_; refine wp_if_pos (by simp [hf']) ?_)
          | (refine wp_if_pos (by simp [hf']) ?_; refine wpAny_bind ?_)
        rw [sz]
        have y1 : t1.place.size = es1.size := by
          have z := q3.sz
          rw [List.length_map] at z
          rw [z, sz1]
        have two : (t.mask = 7 ∧ L.length = 4) ∨ (t.mask = 31 ∧ L.length = 18) := by
          rw [q4] at hf
          rcases R.tab.mok with e | e | e <;> rw [e] at hf z3
          · exact .inl ⟨e, by omega⟩
          · exact .inr ⟨e, by omega⟩
          · omega
        have go : ∀ M, SetTable.sizeAbove (SetTable.grown (L.length + 1)) - 1 = M → MaskOk M → SetTable.sizeAbove (SetTable.grown (L.length + 1)) ≤ 128 → (L.length + 1) * 5 < M * 3 →
            wpAny (model P w) A (setRelay a (SetTable.grown (L.length + 1))) (fun _ s' => wpAny (model P w) A (pure true) Q E s') E { s with heap := h1 } := fun M m1 m2 m3 m4 => by
          refine relayM (s := { s with heap := h1 }) o1 ⟨gx.1, gx.2.1, gx.2.2⟩ rfl hin y1 q3.dm (by rw [sz1, len1, q4]; rcases two with ⟨e, e2⟩ | ⟨e, e2⟩ <;> omega) nd1 tup1 ld1 (by rw [len1]; exact few) m1 m2 m3 (by rw [len1]; exact m4) ?_
          exact fun h2 L2 es2 ep2 t2 sb2 R2 pm2 => wpAny_pure (q true h2 L2 es2 ep2 t2 (sb.trans sb2) R2 (fun z => absurd z hm) fun _ => pm2.trans pm)
        rcases two with ⟨_, e2⟩ | ⟨_, e2⟩
        · exact go 31 (by rw [e2, size_20]) (.inr (.inl rfl)) (by rw [e2, size_20]; decide) (by omega)
        · exact go 127 (by rw [e2, size_76]) (.inr (.inr rfl)) (by rw [e2, size_76]; decide) (by omega)
      · have hf' : ¬ t1.tooFull = true := by
          rw [hfull, decide_eq_false hf]
          decide
        first
          | refine wp_if_neg (by simp [hf']) ?_
          | (refine wpAny_bind ?_; refine wp_if_neg (by simp [hf']) ?_; refine wpAny_pure ?_)
        exact wpAny_pure (q true h1 L1 es1 (ep + 1) t1 sb ⟨⟨_, o1, ⟨gx.1, gx.2.1, gx.2.2⟩, rfl⟩, hin, q3, nd1, tup1, ld1, by rw [len1]; omega, by rw [len1]; exact few⟩ (fun z => absurd z hm) fun _ => pm)
    have any := fun y : Bool => put (if y = true then t1 else { t1 with plain := false })
      (by cases y; exact ⟨q3.ris, q3.dm, q3.sz, q3.mok, q3.bd, q3.reach⟩; exact q3) (by cases y <;> exact q4) (by cases y <;> exact q5) (by cases y <;> exact q9)
    first
      | (refine wpAny_bind ?_; by_cases pl : t1.plain = true; exact wp_if_pos pl (hashM hx any); exact wp_if_neg pl (wpAny_pure (any true)))
      | (by_cases pl : t1.plain = true; exact wp_if_pos pl (wpAny_bind (hashM hx any)); exact wp_if_neg pl (wpAny_bind (wpAny_pure (any true))))
end
end Onp
set_option maxHeartbeats 4000000
set_option autoImplicit false
/-! set(list), set(tuple) by an invariant; of tuples of ints and texts -/
namespace Onp
open PySem PySem.Spec PyProof.Rows L2
section
variable {P : Program} {w : World} {A : Around} {E : Value → Shared → Prop} {s : Shared}
abbrev set0 (w : World) : Obj := { cls := .type "set", dict := none, data := .set #[] 0 (.fresh 0 0 (!w.params.followText "set-order")) }
/-- one more item is put in -/
def AddsTo (P : Program) (w : World) (A : Around) (S : Addr) (h0 : Heap) (Pv : Nat → Value → Prop) (G : Nat → Heap → Prop) : Prop :=
  ∀ (i : Nat) (v : Value) (s : Shared) (E : Value → Shared → Prop), Pv i v → G i s.heap → (∀ b o, h0.get? b = some o → s.heap.get? b = some o) →
    wpAny (model P w) A (setAdd S v) (fun _ s' => ∃ h' tk, s' = { s with heap := h', toks := tk } ∧ s.toks ≤ tk ∧ Heap.SameBut S s.heap h' ∧ G (i + 1) h') E s
def KeepsSet (S : Addr) (h0 : Heap) (G : Nat → Heap → Prop) : Prop :=
  ∀ (i : Nat) (h h' : Heap), G i h → (∀ o, h.get? S = some o → h'.get? S = some o) → (∀ b o, h0.get? b = some o → h'.get? b = some o) → G i h'
theorem setLoop {I : Addr} {fp wr : List Addr} {GG : Array GenState → Array GenState → Prop} {n : Nat} {Pv : Nat → Value → Prop} {St : Nat → Shared → Prop} {R : Result → Shared → Prop}
    (W : WalksS P w A.in1 I fp wr GG n Pv St) (S : Addr) (hSf : S ∉ fp) (h0 : Heap) (G : Nat → Heap → Prop) (ad : AddsTo P w A.in1 S h0 Pv G) (kp : KeepsSet S h0 G) (n0 : h0.get? S = none) (nw : ∀ b ∈ wr, h0.get? b = none) :
    ∀ (k i : Nat) (s : Shared), n - i = k → i ≤ n → St i s → (∀ b o, h0.get? b = some o → s.heap.get? b = some o) → G i s.heap →
      (∀ s', Moved (S :: wr) GG s s' → G n s'.heap → (∀ b o, h0.get? b = some o → s'.heap.get? b = some o) → R (.ok (.ret .none)) s') →
      codeAny (model P w) A (.builtin "set.update.loop" ⟨[.ref S, .ref I], []⟩) R s := by
  have Sw : S ∉ wr := fun z => hSf (W.sub _ z)
  have wide : ∀ b ∈ wr, b ∈ S :: wr := fun b hb => List.mem_cons_of_mem _ hb
  have mv : ∀ {s s' : Shared}, Moved wr GG s s' → (∀ b o, h0.get? b = some o → s.heap.get? b = some o) → ∀ b o, h0.get? b = some o → s'.heap.get? b = some o := fun m z b o e =>
    m.heap b o (fun hb => by rw [nw b hb] at e; cases e) (z b o e)
  intro k
  induction k with
  | zero =>
    intro i s ek hi hst stays g fin
    obtain rfl : i = n := by omega
    refine codeAny_builtin F.entry_set_update_loop ?_
    rw [Around.under_plainId F.plain_set_update_loop _]
    show wpAny _ A.in1 (pyNext (.ref I) >>= _) _ _ s
    refine wpAny_bind (W.done s _ _ hst fun s' m => ?_)
    show wpAny _ A.in1 (ret Value.none) _ _ s'
    have stays' := mv m stays
    exact wpAny_pure (fin s' (m.mono wide) (kp _ _ _ g (fun o e => m.heap S o Sw e) stays') stays')
  | succ k ih =>
    intro i s ek hi hst stays g fin
    have lt : i < n := by omega
    refine codeAny_builtin F.entry_set_update_loop ?_
    rw [Around.under_plainId F.plain_set_update_loop _]
    show wpAny _ A.in1 (pyNext (.ref I) >>= _) _ _ s
    refine wpAny_bind (W.item i s _ _ lt hst fun v s' pv hst' m => ?_)
    have stays' := mv m stays
    have g' := kp _ _ _ g (fun o e => m.heap S o Sw e) stays'
    show wpAny _ A.in1 (holding [v] (setAdd S v) >>= _) _ _ s'
    refine wpAny_bind (wpAny_holding (wpAny_mono (ad i v s' _ pv g' stays') (fun _ s2 q => ?_) fun _ _ z => z))
    obtain ⟨h', tk, rfl, ht, sb, g2⟩ := q
    have stays2 : ∀ b o, h0.get? b = some o → h'.get? b = some o := fun b o e => (sb.2 b (fun z => by rw [z, n0] at e; cases e)).trans (stays' b o e)
    refine wpAny_pure ⟨plainId_quiet F.plain_set_update_loop _, ih (i + 1) _ (by omega) lt (W.frame _ s' _ _ hst' ht fun b hb o e => ?_) stays2 g2 fun s'' m2 g3 z3 => ?_⟩
    · rw [sb.2 b (fun z : b = S => hSf (by rw [← z]; exact hb))]
      exact e
    · refine fin s'' (Moved.trans W.gtrans ((m.mono wide).then_heap ht fun b o hb e => ?_) m2) g3 z3
      rw [sb.2 b (fun z : b = S => hb (by rw [z]; exact List.mem_cons_self))]
      exact e
set_option maxHeartbeats 6400000 in
theorem callSet_list {l : Addr} {its : Array Value} {Q : Value → Shared → Prop} (hh : A.handled = none) (hl : s.heap.IsList l its) (G : Nat → Heap → Prop)
    (ad : AddsTo P w A.in1.in1.in1 s.heap.objs.size s.heap (fun i v => its[i]? = some v) G) (kp : KeepsSet s.heap.objs.size s.heap G) (g0 : ∀ h, h.get? s.heap.objs.size = some (set0 w) → G 0 h)
    (q : ∀ (h' : Heap) (tk : Nat), G its.size h' → (∀ b o, s.heap.get? b = some o → h'.get? b = some o) → Q (.ref s.heap.objs.size) { s with heap := h', toks := tk }) :
    wpAny (model P w) A (call (.type "set") [.ref l]) Q E s := by
  obtain ⟨cc, tl, c1⟩ := F.called_set.mro
  have c2 := F.called_set.made
  have c3 := F.called_set.sub
  refine wpAny_call (codeAny_of_tree ?_)
  show wpAny _ _ (callAny (.type "set") _) _ _ _
  refine wpAny_pure ⟨Code.quiet_builtin _ (by decide +kernel), codeAny_builtin F.entry_type_call ?_⟩
  rw [Around.under_plain (weight_type_call_type "set" [.ref l] []) rfl]
  have c4 := F.called_set.notType
  have c5 := F.called_set.canCreate
  have c6 := F.typeCall_set_1 (.ref l)
  repeat (any_goals (first | assumption | wp_step))
  refine codeAny_mono (code_set_led1 (.ref l) (E := E) (Q₁ := fun obj s₁ => obj = .ref s.heap.objs.size ∧ s₁ = { s with heap := s.heap.push (set0 w) }) ⟨rfl, rfl⟩) fun r s₁ hr => ?_
  cases r with
  | error e => exact hr
  | ok fl =>
    cases fl with
    | ret obj =>
      obtain ⟨rfl, rfl⟩ := hr
      have nS : (s.heap.push (set0 w)).get? s.heap.objs.size = some (set0 w) := Heap.get?_push_size _ rfl
      have tS : Shared.TypeIs { s with heap := s.heap.push (set0 w) } (.ref s.heap.objs.size) "set" := ⟨_, nS, rfl⟩
      have c7 := F.called_set.init.lookup
      have c8 := F.called_set.init.bind (.ref s.heap.objs.size)
      repeat (any_goals (first | assumption | wp_step))
      refine codeAny_mono (codeAny_call_builtin (R := wants (fun r s₂ => r = .none ∧ ∃ h' tk, s₂ = { s with heap := h', toks := tk } ∧ G its.size h' ∧ (∀ b o, s.heap.get? b = some o → h'.get? b = some o)) E) F.called_set.init.plain F.entry_set_init (check_set_init_1 tS ?_)) fun r₂ s₂ hr₂ => ?_
      · obtain ⟨ol, ol1, ol2, nl, ol3⟩ := hl
        obtain ⟨ocls, odict, odata, oslots⟩ := ol
        simp only at ol2 ol3
        subst ol2; subst ol3
        have ol4 : (s.heap.push (set0 w)).get? l = some { cls := .type "list", dict := odict, data := .seq its nl, slots := oslots } := Heap.get?_push_of_some _ ol1
        have d1 := F.sub_list_set
        have d2 := F.sub_list_frozenset
        have d3 : (Value.type "list" == Value.type "dict") = false := by decide
        have hl1 : (s.heap.push (set0 w)).IsList l its := ⟨_, ol4, rfl, nl, rfl⟩
        unfold Builtin.«set.__init__» noKeywords Builtin.Frozenset.updateFrom
        generalize ePI : pyIter = PI
        wp_walk
        subst ePI
        refine wpAny_pyIter_list hl1 ?_
        refine wpAny_bind (wpAny_runValue ?_)
        have ll : l < s.heap.objs.size := Heap.lt_size ol1
        have h3 : A.in1.in1.in1.handled = none := by simp [hh]
        have ne1 : l ≠ (s.heap.push (set0 w)).objs.size := fun z => by
          rw [Heap.size_push] at z
          exact absurd (z ▸ ll) (Nat.not_lt_of_le (Nat.le_succ _))
        have ne2 : s.heap.objs.size ∉ [(s.heap.push (set0 w)).objs.size, l] := by
          rw [Heap.size_push]
          exact fun z => (List.mem_cons.mp z).elim (fun y => absurd y (Nat.ne_of_lt (Nat.lt_succ_self _))) fun y => absurd (List.mem_singleton.mp y) (Nat.ne_of_gt ll)
        have none_of : ∀ b, s.heap.objs.size ≤ b → s.heap.get? b = none := fun b hb => by
          cases z : s.heap.get? b with
          | none => rfl
          | some o => exact absurd (Heap.lt_size z) (Nat.not_lt_of_le hb)
        refine setLoop ((Walks.list h3 _ l ne1 its).toS) s.heap.objs.size ne2 s.heap G ad kp (none_of _ (Nat.le_refl _)) (fun b hb => none_of b (by
            rw [List.mem_singleton.mp hb, Heap.size_push]
            exact Nat.le_succ _)) (its.size - 0) 0 _ (by omega) (Nat.zero_le _)
          ⟨⟨_, Heap.get?_push_size _ rfl, rfl, rfl⟩, (hl1.push _)⟩ (fun b o e => Heap.get?_push_of_some _ (Heap.get?_push_of_some _ e)) (g0 _ (Heap.get?_push_of_some _ nS)) ?hR
        case hR =>
          intro s' m g' z'
          obtain ⟨h', g2, d', tk', os'⟩ := s'
          have eg : g2 = s.gens := m.gens
          have ed : d' = s.drawn := m.drawn
          have eo : os' = s.os := m.os
          subst eg; subst ed; subst eo
          show wpAny _ _ _ _ _ _
          refine wpAny_pure ?_
          show wpAny _ _ (ret Value.none) _ _ _
          exact wpAny_pure ⟨rfl, h', tk', rfl, g', z'⟩
      · cases r₂ with
        | error e => exact hr₂
        | ok fl₂ =>
          cases fl₂ with
          | ret r =>
            obtain ⟨rfl, h', tk, rfl, g', z'⟩ := hr₂
            repeat (any_goals (first | assumption | wp_step))
            exact q _ _ g' z'
          | _ => exact hr₂.elim
    | _ => exact hr.elim
set_option maxHeartbeats 6400000 in
theorem callSet_tuple {l : Addr} {its : Array Value} {Q : Value → Shared → Prop} (hh : A.handled = none) (hl : s.heap.IsTuple l its) (G : Nat → Heap → Prop)
    (ad : AddsTo P w A.in1.in1.in1 s.heap.objs.size s.heap (fun i v => its[i]? = some v) G) (kp : KeepsSet s.heap.objs.size s.heap G) (g0 : ∀ h, h.get? s.heap.objs.size = some (set0 w) → G 0 h)
    (q : ∀ (h' : Heap) (tk : Nat), G its.size h' → (∀ b o, s.heap.get? b = some o → h'.get? b = some o) → Q (.ref s.heap.objs.size) { s with heap := h', toks := tk }) :
    wpAny (model P w) A (call (.type "set") [.ref l]) Q E s := by
  obtain ⟨cc, tl, c1⟩ := F.called_set.mro
  have c2 := F.called_set.made
  have c3 := F.called_set.sub
  refine wpAny_call (codeAny_of_tree ?_)
  show wpAny _ _ (callAny (.type "set") _) _ _ _
  refine wpAny_pure ⟨Code.quiet_builtin _ (by decide +kernel), codeAny_builtin F.entry_type_call ?_⟩
  rw [Around.under_plain (weight_type_call_type "set" [.ref l] []) rfl]
  have c4 := F.called_set.notType
  have c5 := F.called_set.canCreate
  have c6 := F.typeCall_set_1 (.ref l)
  repeat (any_goals (first | assumption | wp_step))
  refine codeAny_mono (code_set_led1 (.ref l) (E := E) (Q₁ := fun obj s₁ => obj = .ref s.heap.objs.size ∧ s₁ = { s with heap := s.heap.push (set0 w) }) ⟨rfl, rfl⟩) fun r s₁ hr => ?_
  cases r with
  | error e => exact hr
  | ok fl =>
    cases fl with
    | ret obj =>
      obtain ⟨rfl, rfl⟩ := hr
      have nS : (s.heap.push (set0 w)).get? s.heap.objs.size = some (set0 w) := Heap.get?_push_size _ rfl
      have tS : Shared.TypeIs { s with heap := s.heap.push (set0 w) } (.ref s.heap.objs.size) "set" := ⟨_, nS, rfl⟩
      have c7 := F.called_set.init.lookup
      have c8 := F.called_set.init.bind (.ref s.heap.objs.size)
      repeat (any_goals (first | assumption | wp_step))
      refine codeAny_mono (codeAny_call_builtin (R := wants (fun r s₂ => r = .none ∧ ∃ h' tk, s₂ = { s with heap := h', toks := tk } ∧ G its.size h' ∧ (∀ b o, s.heap.get? b = some o → h'.get? b = some o)) E) F.called_set.init.plain F.entry_set_init (check_set_init_1 tS ?_)) fun r₂ s₂ hr₂ => ?_
      · obtain ⟨ol, ol1, ol2, nl, ol3⟩ := hl
        obtain ⟨ocls, odict, odata, oslots⟩ := ol
        simp only at ol2 ol3
        subst ol2; subst ol3
        have ol4 : (s.heap.push (set0 w)).get? l = some { cls := .type "tuple", dict := odict, data := .seq its nl, slots := oslots } := Heap.get?_push_of_some _ ol1
        have d1 := F.sub_tuple_set
        have d2 := F.sub_tuple_frozenset
        have d3 : (Value.type "tuple" == Value.type "dict") = false := by decide
        have hl1 : (s.heap.push (set0 w)).IsTuple l its := ⟨_, ol4, rfl, nl, rfl⟩
        unfold Builtin.«set.__init__» noKeywords Builtin.Frozenset.updateFrom
        generalize ePI : pyIter = PI
        wp_walk
        subst ePI
        refine wpAny_pyIter_tuple hl1 ?_
        refine wpAny_bind (wpAny_runValue ?_)
        have ll : l < s.heap.objs.size := Heap.lt_size ol1
        have h3 : A.in1.in1.in1.handled = none := by simp [hh]
        have ne1 : l ≠ (s.heap.push (set0 w)).objs.size := fun z => by
          rw [Heap.size_push] at z
          exact absurd (z ▸ ll) (Nat.not_lt_of_le (Nat.le_succ _))
        have ne2 : s.heap.objs.size ∉ [(s.heap.push (set0 w)).objs.size, l] := by
          rw [Heap.size_push]
          exact fun z => (List.mem_cons.mp z).elim (fun y => absurd y (Nat.ne_of_lt (Nat.lt_succ_self _))) fun y => absurd (List.mem_singleton.mp y) (Nat.ne_of_gt ll)
        have none_of : ∀ b, s.heap.objs.size ≤ b → s.heap.get? b = none := fun b hb => by
          cases z : s.heap.get? b with
          | none => rfl
          | some o => exact absurd (Heap.lt_size z) (Nat.not_lt_of_le hb)
        refine setLoop ((Walks.tuple h3 _ l ne1 its).toS) s.heap.objs.size ne2 s.heap G ad kp (none_of _ (Nat.le_refl _)) (fun b hb => none_of b (by
            rw [List.mem_singleton.mp hb, Heap.size_push]
            exact Nat.le_succ _)) (its.size - 0) 0 _ (by omega) (Nat.zero_le _)
          ⟨⟨_, Heap.get?_push_size _ rfl, rfl, rfl⟩, (hl1.push _)⟩ (fun b o e => Heap.get?_push_of_some _ (Heap.get?_push_of_some _ e)) (g0 _ (Heap.get?_push_of_some _ nS)) ?hR
        case hR =>
          intro s' m g' z'
          obtain ⟨h', g2, d', tk', os'⟩ := s'
          have eg : g2 = s.gens := m.gens
          have ed : d' = s.drawn := m.drawn
          have eo : os' = s.os := m.os
          subst eg; subst ed; subst eo
          show wpAny _ _ _ _ _ _
          refine wpAny_pure ?_
          show wpAny _ _ (ret Value.none) _ _ _
          exact wpAny_pure ⟨rfl, h', tk', rfl, g', z'⟩
      · cases r₂ with
        | error e => exact hr₂
        | ok fl₂ =>
          cases fl₂ with
          | ret r =>
            obtain ⟨rfl, h', tk, rfl, g', z'⟩ := hr₂
            repeat (any_goals (first | assumption | wp_step))
            exact q _ _ g' z'
          | _ => exact hr₂.elim
    | _ => exact hr.elim
/-! ### of tuples of ints and texts -/
structure GotM (ks : List AK) (i : Nat) (L : List AK) : Prop where
  sub : ∀ p ∈ L, p ∈ ks.take i
  all : ∀ p ∈ ks.take i, p.2 ∈ L.map (·.2)
  len : L.length ≤ i
theorem GotM.same {ks L : List AK} {i : Nat} {x : AK} (g : GotM ks i L) (h : ks[i]? = some x) (hm : x.2 ∈ L.map (·.2)) : GotM ks (i + 1) L := by
  have e : ks.take (i + 1) = ks.take i ++ [x] := by rw [List.take_add_one, h]; rfl
  refine ⟨fun p hp => ?_, fun p hp => ?_, Nat.le_succ_of_le g.len⟩
  · rw [e]
    exact List.mem_append_left _ (g.sub p hp)
  · rw [e] at hp
    rcases List.mem_append.mp hp with z | z
    · exact g.all p z
    · rw [List.mem_singleton.mp z]
      exact hm
theorem GotM.more {ks L L' : List AK} {i : Nat} {x : AK} (g : GotM ks i L) (h : ks[i]? = some x) (pm : L'.Perm (x :: L)) : GotM ks (i + 1) L' := by
  have e : ks.take (i + 1) = ks.take i ++ [x] := by rw [List.take_add_one, h]; rfl
  refine ⟨fun p hp => ?_, fun p hp => ?_, ?_⟩
  · rw [e]
    rcases List.mem_cons.mp (pm.mem_iff.mp hp) with y | z
    · rw [y]
      exact List.mem_append_right _ List.mem_cons_self
    · exact List.mem_append_left _ (g.sub p z)
  · rw [(pm.map (·.2)).mem_iff, List.map_cons]
    rw [e] at hp
    rcases List.mem_append.mp hp with z | z
    · exact List.mem_cons_of_mem _ (g.all p z)
    · rw [List.mem_singleton.mp z]
      exact List.mem_cons_self
  · rw [pm.length_eq]
    exact Nat.succ_le_succ g.len
def GM (P : Program) (w : World) (S : Addr) (ks : List AK) (i : Nat) (h : Heap) : Prop := ∃ L es ep t, SetM P w h S L es ep t ∧ GotM ks i L
theorem keepsM {S : Addr} {h0 : Heap} {ks : List AK} (hk : ∀ p ∈ ks, IsM P w h0 p.2 p.1) : KeepsSet S h0 (GM P w S ks) := fun i h h' ⟨L, es, ep, t, R, g⟩ z1 z2 => by
  obtain ⟨o, ho, r⟩ := R.ob
  refine ⟨L, es, ep, t, ⟨⟨o, z1 o ho, r⟩, R.rows, R.tab, R.nd, fun p hp => ?_, R.led, R.room, R.few⟩, g⟩
  obtain ⟨o2, its, n, y1, y2⟩ := hk p (List.mem_of_mem_take (g.sub p hp))
  exact ⟨o2, its, n, z2 _ _ y1, y2⟩
theorem addsM {S : Addr} {h0 : Heap} {ks : List AK} {its : Array Value} (hu : A.units < cLine) (hit : its.toList = ks.map fun p => Value.ref p.1) (hk : ∀ p ∈ ks, IsM P w h0 p.2 p.1) (few : ks.length < 64) : AddsTo P w A S h0 (fun i v => its[i]? = some v) (GM P w S ks) := by
  intro i v s E pv ⟨L, es, ep, t, R, g⟩ z
  obtain ⟨p, hp, rfl⟩ : ∃ p, ks[i]? = some p ∧ v = .ref p.1 := by
    have e : its.toList[i]? = some v := by rw [Array.getElem?_toList]; exact pv
    rw [hit, List.getElem?_map] at e
    cases y : ks[i]? with
    | none => rw [y] at e; cases e
    | some p => rw [y] at e; exact ⟨p, rfl, (Option.some.inj e).symm⟩
  have hlt : i < ks.length := (List.getElem?_eq_some_iff.mp hp).1
  have hx : IsM P w s.heap p.2 p.1 := by
    obtain ⟨o2, its, n, y1, y2⟩ := hk p (List.mem_of_getElem? hp)
    exact ⟨o2, its, n, z _ _ y1, y2⟩
  unfold setAdd
  refine wpAny_holding (wpAny_bind (wpAny_pyHash_tuple hu hx ?_))
  refine addM (s := { s with toks := s.toks + (p.2.length + 1) }) R hx hu (by have := g.len; omega) fun b h' L' es' ep' t' sb R' c1 c2 => ?_
  refine ⟨h', s.toks + (p.2.length + 1), rfl, Nat.le_add_right _ _, sb, L', es', ep', t', R', ?_⟩
  by_cases c : p.2 ∈ L.map (·.2)
  · rw [c1 c]
    exact g.same hp c
  · exact g.more hp (c2 c)
theorem freshM {h : Heap} {S : Addr} {ks : List AK} (e : h.get? S = some (set0 w)) : GM P w S ks 0 h := by
  refine ⟨[], #[], 0, .fresh 0 0 (!w.params.followText "set-order"), ⟨⟨_, e, ⟨rfl, rfl, rfl⟩, rfl⟩, rfl, ⟨List.Pairwise.nil, rfl, rfl, .inl rfl, fun x hx => (by cases hx), fun i h j hi => (by simp at hi)⟩, List.nodup_nil, fun p hp => (by cases hp), ?_, by show 0 * 5 < 7 * 3; decide, by show 0 < 64; decide⟩, ⟨fun p hp => (by cases hp), fun p hp => (by simp at hp), Nat.le_refl _⟩⟩
  show _ ∨ (!w.params.followText "set-order") = true
  cases w.params.followText "set-order"
  · exact .inr rfl
  · exact .inl rfl
/-! ### how many -/
theorem nd_le {α : Type} [DecidableEq α] : ∀ (l D : List α), l.Nodup → (∀ x ∈ l, x ∈ D) → l.length ≤ D.length
  | [], _, _, _ => Nat.zero_le _
  | a :: l, D, hn, hs => by
    have n1 := List.nodup_cons.mp hn
    have ha : a ∈ D := hs a List.mem_cons_self
    have ih := nd_le l (D.erase a) n1.2 fun x hx => (List.mem_erase_of_ne (fun (e : x = a) => n1.1 (e ▸ hx))).mpr (hs x (List.mem_cons_of_mem _ hx))
    rw [List.length_erase_of_mem ha] at ih
    have : 0 < D.length := List.length_pos_of_mem ha
    simp only [List.length_cons]
    omega
theorem nd_lt {α : Type} [DecidableEq α] : ∀ (D : List α), ¬ D.Nodup → ∃ (x : α) (D' : List α), D.length = D'.length + 1 ∧ ∀ y, y ∈ D → y ∈ D'
  | [], h => absurd List.nodup_nil h
  | a :: D, h => by
    by_cases ha : a ∈ D
    · exact ⟨a, D, rfl, fun y hy => by
        rcases List.mem_cons.mp hy with rfl | hy
        · exact ha
        · exact hy⟩
    · have hD : ¬ D.Nodup := fun z => h (List.nodup_cons.mpr ⟨ha, z⟩)
      obtain ⟨x, D', e, hs⟩ := nd_lt D hD
      refine ⟨x, a :: D', by simp [e], fun y hy => ?_⟩
      rcases List.mem_cons.mp hy with rfl | hy
      · exact List.mem_cons_self
      · exact List.mem_cons_of_mem _ (hs y hy)
theorem count_nd {α : Type} [DecidableEq α] {l D : List α} (hn : l.Nodup) (h1 : ∀ x ∈ l, x ∈ D) (h2 : ∀ x ∈ D, x ∈ l) : l.length ≤ D.length ∧ (l.length < D.length ↔ ¬ D.Nodup) := by
  refine ⟨nd_le l D hn h1, fun lt hd => ?_, fun hd => ?_⟩
  · have := nd_le D l hd h2
    omega
  · obtain ⟨x, D', e, hs⟩ := nd_lt D hd
    have := nd_le l D' hn fun y hy => hs y (h1 y hy)
    omega
end
/-! ### len(set(..)) over the layer -/
section
variable {X : Cx}
theorem itemsM {P : Program} {w : World} : ∀ {k : List Key} {us : List Value}, Vals (k.map kV) us → ItemsAre (mixKind P w) k us
  | [], _, .nil => .nil
  | _ :: k, _, .cons r t => .cons (kV_is r) (itemsM t)
theorem refsM : ∀ {ks : List AK} {us : List Value}, Vals (ks.map fun p => V.ref p.1) us → us = ks.map fun p => Value.ref p.1
  | [], _, .nil => rfl
  | p :: ks, _, .cons r t => by
    cases r
    rw [refsM t]
    rfl
theorem inv_isM {pins : List (Addr × Obj)} {σ : L2.St} {H : Hp} {s : Shared} {b : Addr} {k : List Key} (I : Inv X pins σ H s) (h : SqT X.K H b (k.map kV)) : IsM X.prog X.w s.heap k b := by
  obtain ⟨its, r, ⟨o, ho, hc, n, hd⟩, _⟩ := I.tuple h
  exact ⟨o, its.toArray, n, ho, hc, hd, by simpa using itemsM r⟩
def tLenSetM (K : PySem.W.Frag) (ta : TE) : TE := fun σ H Q => ta σ H fun x H1 => ∃ (l : Addr) (ks : List AK), x = .ref l ∧ (SqL K H1 l (ks.map fun p => V.ref p.1) ∨ SqT K H1 l (ks.map fun p => V.ref p.1)) ∧ (∀ p ∈ ks, SqT K H1 p.1 (p.2.map kV)) ∧ ks.length < 64 ∧
  ∀ n : Nat, n ≤ ks.length → (n < ks.length ↔ ¬ (ks.map (·.2)).Nodup) → Q (.int n) H1
theorem pe_lenSetM {a : Expr} {ta : TE} {p p2 q pos : Pos} (hc : X.calm = true) (hu : X.A.units + 64 < cLine) (hg : Gl X "len") (hm : X.mg "len" = none) (hg2 : Gl X "set") (hm2 : X.mg "set" = none) (ha : PE X a ta)
    (na : starEach [a] X.env = (false, eval a X.env) :: starEach [] X.env := by rfl) : PE X (.Call (.Name "len" p) [.Call (.Name "set" p2) [a] [] q] [] pos) (tLenSetM X.K ta) := by
  refine ⟨fun pins s σ H Q I h => ?_⟩
  refine Call_ (ld_blt I hg hm PySem.boot_len (PyProof.Rows.callWith_builtin1 (PyProof.Rows.args_cons ?_ rfl) rfl rfl))
  refine Call_ (ld_blt I hg2 hm2 PyProof.Rows.boot_set (PyProof.Rows.callWith_type1 (PyProof.Rows.args_cons (thn (ha.run pins s σ H _ I h) fun v s1 ⟨x, H1, I1, r1, q1⟩ => PyProof.Rows.args_nil ?_) na) na rfl))
  obtain ⟨l, ks, rfl, hq, hk, few, q1⟩ := q1
  cases r1
  have tu : ∀ p ∈ ks, IsM X.prog X.w s1.heap p.2 p.1 := fun p hp => inv_isM I1 (hk p hp)
  have fin : ∀ (its : Array Value), its.size = ks.length → ∀ (h' : Heap) (tk : Nat), GM X.prog X.w s1.heap.objs.size ks its.size h' → (∀ b o, s1.heap.get? b = some o → h'.get? b = some o) →
      wpAny (model X.prog X.w) X.A (spliced (backTo pos (starEach [] X.env))) (fun vs s₂ => wpAny (model X.prog X.w) X.A (call (.builtin "len") (Value.ref s1.heap.objs.size :: vs)) (EP X pins σ Q) X.xe s₂) X.xe { s1 with heap := h', toks := tk } := fun its sz h' tk g kp => by
    refine PyProof.Rows.args_nil ?_
    obtain ⟨L, es, ep, t, R, g⟩ := g
    rw [sz, ] at g
    have I2 : Inv X pins σ H1 { s1 with heap := h', toks := tk } := I1.kept fun b o e => kp b o e
    obtain ⟨o, ho, hex, hd⟩ := R.ob
    have ez := rowsM_len R.rows
    have cn := count_nd (l := L.map (·.2)) (D := ks.map (·.2)) R.nd (fun x hx => by
      obtain ⟨p, hp, rfl⟩ := List.mem_map.mp hx
      exact List.mem_map_of_mem (List.mem_of_mem_take (g.sub p hp))) (fun x hx => by
      obtain ⟨p, hp, rfl⟩ := List.mem_map.mp hx
      exact g.all p (by rw [List.take_length]; exact hp))
    simp only [List.length_map] at cn
    refine call_len_set ho hex hd (R.fits (s := { s1 with heap := h', toks := tk })) (by rw [ez]; omega) ⟨.int L.length, H1, I2.tok _, ⟨_, by rw [ez]⟩, q1 L.length cn.1 cn.2⟩
  rcases hq with hq | hq
  · obtain ⟨its, r, pl, hz⟩ := I1.list hq
    have sz : its.toArray.size = ks.length := by rw [List.size_toArray, ← r.length, List.length_map]
    exact callSet_list (I1.ok.hd hc) pl.isList (GM X.prog X.w s1.heap.objs.size ks) (addsM (by show X.A.in1.in1.in1.units < cLine; simp; omega) (by simpa using refsM r) tu few) (keepsM tu) (fun h e => freshM e) fun h' tk g kp => fin its.toArray sz h' tk g kp
  · obtain ⟨its, r, pl, hz⟩ := I1.tuple hq
    have sz : its.toArray.size = ks.length := by rw [List.size_toArray, ← r.length, List.length_map]
    exact callSet_tuple (I1.ok.hd hc) pl (GM X.prog X.w s1.heap.objs.size ks) (addsM (by show X.A.in1.in1.in1.units < cLine; simp; omega) (by simpa using refsM r) tu few) (keepsM tu) (fun h e => freshM e) fun h' tk g kp => fin its.toArray sz h' tk g kp
end
end Onp
set_option maxHeartbeats 4000000
set_option autoImplicit false
/-! len(set(list or tuple of ints and texts)) -/
namespace Onp
open PySem PySem.Spec PyProof.Rows L2
section
variable {P : Program} {w : World} {A : Around} {E : Value → Shared → Prop} {s : Shared}
def memK (l : List L2.Key) (k : L2.Key) : Bool := l.any fun x => decide (x = k)
theorem memK_iff {l : List L2.Key} {k : L2.Key} : memK l k = true ↔ k ∈ l := by
  unfold memK
  rw [List.any_eq_true]
  exact ⟨fun ⟨x, h1, h2⟩ => of_decide_eq_true h2 ▸ h1, fun h => ⟨k, h, decide_eq_true rfl⟩⟩
theorem setOf_as {h : Heap} {a : Addr} {S S' : L2.Key → Bool} {n n' : Nat} (hS : h.SetOf (mixKind P w) a S n) (e : ∀ k, S k = S' k) (en : n = n') : h.SetOf (mixKind P w) a S' n' := by
  have : S = S' := funext e
  subst this
  subst en
  exact hS
def GK (P : Program) (w : World) (S : Addr) (ks : List L2.Key) (i : Nat) (h : Heap) : Prop := ∃ l : List L2.Key, l.Nodup ∧ (∀ k, k ∈ l ↔ k ∈ ks.take i) ∧ h.SetOf (mixKind P w) S (memK l) l.length
theorem keepsK {S : Addr} {h0 : Heap} {ks : List L2.Key} : KeepsSet S h0 (GK P w S ks) := fun i h h' ⟨l, n, e, R⟩ z1 _ => ⟨l, n, e, setOf_at R z1⟩
theorem keys_at : ∀ {ks : List L2.Key} {us : List Value}, Vals (ks.map kV) us → ∀ {i : Nat} {v : Value}, us[i]? = some v → ∃ k, ks[i]? = some k ∧ RelV (kV k) v
  | [], _, .nil, i, v, h => by simp at h
  | k :: ks, _, .cons r t, i, v, h => by
    cases i with
    | zero =>
      obtain rfl := Option.some.inj h
      exact ⟨k, rfl, r⟩
    | succ i => exact keys_at t h
theorem addsK {S : Addr} {h0 : Heap} {ks : List L2.Key} {its : Array Value} (r : Vals (ks.map kV) its.toList) (few : ks.length < 1000) : AddsTo P w A S h0 (fun i v => its[i]? = some v) (GK P w S ks) := by
  intro i v s E pv ⟨l, nd, e, R⟩ z
  obtain ⟨k, hk, rk⟩ := keys_at r (i := i) (v := v) (by rw [Array.getElem?_toList]; exact pv)
  have hlt : i < ks.length := (List.getElem?_eq_some_iff.mp hk).1
  have hll : l.length ≤ i := by
    have q := nd_le l (ks.take i) nd fun x hx => (e x).mp hx
    rw [List.length_take] at q
    omega
  have et : ks.take (i + 1) = ks.take i ++ [k] := by rw [List.take_add_one, hk]; rfl
  have ik : (mixKind P w).is k v = true := kV_is rk
  unfold setAdd
  refine wpAny_holding (wpAny_bind ((mixKind P w).pyHash ik ?_))
  refine wpAny_setAddHashed_of (s := { s with toks := s.toks + 1 }) ik (key_scan rk) R (by unfold scanBound; omega) fun h' sb R' => ?_
  refine ⟨h', s.toks + 1, rfl, Nat.le_succ _, sb, ?_⟩
  by_cases c : k ∈ l
  · refine ⟨l, nd, fun x => ?_, setOf_as R' (fun x => ?_) ?_⟩
    · rw [et, List.mem_append, ← e x]
      exact ⟨.inl, fun y => y.elim id fun y => by rw [List.mem_singleton.mp y]; exact c⟩
    · by_cases x1 : x = k
      · rw [decide_eq_true x1, Bool.or_true, x1]
        exact (memK_iff.mpr c).symm
      · rw [decide_eq_false x1, Bool.or_false]
    · rw [if_pos (memK_iff.mpr c)]
  · refine ⟨k :: l, List.nodup_cons.mpr ⟨c, nd⟩, fun x => ?_, setOf_as R' (fun x => ?_) ?_⟩
    · rw [et, List.mem_append, ← e x, List.mem_cons, List.mem_singleton]
      exact or_comm
    · rw [Bool.eq_iff_iff, Bool.or_eq_true, memK_iff, memK_iff, decide_eq_true_eq, List.mem_cons]
      exact or_comm
    · rw [if_neg (fun y => c (memK_iff.mp y))]
      rfl
theorem freshK {h : Heap} {S : Addr} {ks : List L2.Key} (e : h.get? S = some (set0 w)) : GK P w S ks 0 h :=
  ⟨[], List.nodup_nil, fun k => by simp, _, #[], 0, _, e, ⟨rfl, rfl, rfl⟩, rfl, fun x hx => by simp at hx, fun k => by simp [memK], by unfold scanBound; decide, rfl, rfl⟩
end
section
variable {X : Cx}
def tLenSetK (K : PySem.W.Frag) (ta : TE) : TE := fun σ H Q => ta σ H fun x H1 => ∃ (l : Addr) (ks : List L2.Key), x = .ref l ∧ (SqL K H1 l (ks.map kV) ∨ SqT K H1 l (ks.map kV)) ∧ ks.length < 1000 ∧ ∀ n : Nat, n ≤ ks.length → (n < ks.length ↔ ¬ ks.Nodup) → Q (.int n) H1
theorem pe_lenSetK {a : Expr} {ta : TE} {p p2 q pos : Pos} (hc : X.calm = true) (hg : Gl X "len") (hm : X.mg "len" = none) (hg2 : Gl X "set") (hm2 : X.mg "set" = none) (ha : PE X a ta)
    (na : starEach [a] X.env = (false, eval a X.env) :: starEach [] X.env := by rfl) : PE X (.Call (.Name "len" p) [.Call (.Name "set" p2) [a] [] q] [] pos) (tLenSetK X.K ta) := by
  refine ⟨fun pins s σ H Q I h => ?_⟩
  refine Call_ (ld_blt I hg hm PySem.boot_len (PyProof.Rows.callWith_builtin1 (PyProof.Rows.args_cons ?_ rfl) rfl rfl))
  refine Call_ (ld_blt I hg2 hm2 PyProof.Rows.boot_set (PyProof.Rows.callWith_type1 (PyProof.Rows.args_cons (thn (ha.run pins s σ H _ I h) fun v s1 ⟨x, H1, I1, r1, q1⟩ => PyProof.Rows.args_nil ?_) na) na rfl))
  obtain ⟨l, ks, rfl, hq, few, q1⟩ := q1
  cases r1
  have fin : ∀ (its : Array Value), its.size = ks.length → ∀ (h' : Heap) (tk : Nat), GK X.prog X.w s1.heap.objs.size ks its.size h' → (∀ b o, s1.heap.get? b = some o → h'.get? b = some o) →
      wpAny (model X.prog X.w) X.A (spliced (backTo pos (starEach [] X.env))) (fun vs s₂ => wpAny (model X.prog X.w) X.A (call (.builtin "len") (Value.ref s1.heap.objs.size :: vs)) (EP X pins σ Q) X.xe s₂) X.xe { s1 with heap := h', toks := tk } := fun its sz h' tk g kp => by
    refine PyProof.Rows.args_nil ?_
    obtain ⟨m, nd, e, R⟩ := g
    rw [sz, List.take_length] at e
    have I2 : Inv X pins σ H1 { s1 with heap := h', toks := tk } := I1.kept fun b o e => kp b o e
    obtain ⟨o, es, ep, t, ho, hex, hd, _, _, _, hf, hn⟩ := R
    have cn := count_nd (l := m) (D := ks) nd (fun x hx => (e x).mp hx) (fun x hx => (e x).mpr hx)
    exact call_len_set ho hex hd hf (by rw [hn]; omega) ⟨.int m.length, H1, I2.tok _, ⟨_, by rw [hn]⟩, q1 m.length cn.1 cn.2⟩
  rcases hq with hq | hq
  · obtain ⟨its, r, pl, hz⟩ := I1.list hq
    have sz : its.toArray.size = ks.length := by rw [List.size_toArray, ← r.length, List.length_map]
    exact callSet_list (I1.ok.hd hc) pl.isList (GK X.prog X.w s1.heap.objs.size ks) (addsK (by simpa using r) few) keepsK (fun h e => freshK e) fun h' tk g kp => fin its.toArray sz h' tk g kp
  · obtain ⟨its, r, pl, hz⟩ := I1.tuple hq
    have sz : its.toArray.size = ks.length := by rw [List.size_toArray, ← r.length, List.length_map]
    exact callSet_tuple (I1.ok.hd hc) pl (GK X.prog X.w s1.heap.objs.size ks) (addsK (by simpa using r) few) keepsK (fun h e => freshK e) fun h' tk g kp => fin its.toArray sz h' tk g kp
/-! ### for over a list or a tuple -/
def iAny (K : PySem.W.Frag) (te : TE) : TI := fun σ H R => te σ H fun v H1 => ∃ (a : Addr) (xs : List V), v = .ref a ∧ (SqL K H1 a xs ∨ SqT K H1 a xs) ∧ ∀ (J : It) (G : Hp → Prop), Walk J xs.length G (YAt xs) → (∀ H', Same H1 H' → G H') → R J H1
theorem pi_any {tg l : Expr} {tl : TE} (hl : PE X l tl) : PI X tg l (iAny X.K tl) := by
  refine ⟨fun pins s σ H R I h => ?_⟩
  refine thn (hl.run pins s σ H _ I h) fun v s1 ⟨x, H1, I1, r1, q1⟩ => ?_
  obtain ⟨a, xs, rfl, hq, q⟩ := q1
  cases r1
  have fp : ∀ b ∈ [s1.heap.objs.size], FpOk X pins H1 b := fun b hb => by
    rw [List.mem_singleton.mp hb]
    exact I1.fpOk (Nat.le_refl _) (I1.hok.fresh (Nat.le_refl _))
  rcases hq with hq | hq
  · obtain ⟨its, rv, p, hz⟩ := I1.list hq
    exact wpAny_pyIter_list p.isList ⟨s1.heap.objs.size, [s1.heap.objs.size], _, _, H1, rfl, I1.kept (t' := s1.toks) fun b o e => Heap.get?_push_of_some _ e, turn_list a _, ⟨_, Heap.get?_push_size _ rfl, rfl, rfl⟩, fp, q _ _ walk_list fun H' sm => sm.seq hq⟩
  · obtain ⟨its, rv, p, hz⟩ := I1.tuple hq
    refine wpAny_pyIter_tuple (show s1.heap.IsTuple a its.toArray from p) ⟨s1.heap.objs.size, [s1.heap.objs.size], _, _, H1, rfl, I1.kept (t' := s1.toks) fun b o e => Heap.get?_push_of_some _ e, turn_tuple a _, ⟨_, Heap.get?_push_size _ rfl, rfl, rfl⟩, fp, q _ _ walk_tup fun H' sm => ?_⟩
    rcases hq with (h | ⟨o, h⟩) | h
    · exact .inl (.inl (sm _ _ h))
    · exact .inl (.inr ⟨o, sm _ _ h⟩)
    · exact .inr h
end
end Onp
set_option maxHeartbeats 4000000
set_option autoImplicit false
/-! sorted(list or tuple) of data -/
namespace Onp
open PySem PySem.Spec PyProof.Rows L2 PySem.W
section
variable {prog : Program} {w : World} {A : Around} {E : Value → Shared → Prop} {s : Shared}
theorem collect_seq {l : Addr} {T : String} {o : Obj} {vs : List Value} {n : Nat} {Q : List Value → Shared → Prop} (hT : T = "list" ∨ T = "tuple") (g1 : s.heap.get? l = some o) (g2 : o.cls = .type T) (g3 : o.data = .seq vs.toArray n) (hz : vs.length ≤ sizeLine)
    (h : Q vs { s with heap := (s.heap.push (seqObj "list" #[] 0)).update s.heap.objs.size (Obj.mapSeq (· ++ vs.toArray)) }) : wpAny (model prog w) A (collect (.ref l)) Q E s := by
  unfold collect
  refine wpAny_bind (wpAny_runValue (codeAny_builtin entry_proto_collect' ?_))
  show wpAny _ _ (do again (.builtin "list.__iadd__" ⟨[← newList [], .ref l], []⟩)) _ _ s
  refine wpAny_bind (wpAny_newList (wpAny_pure ⟨Code.quiet_builtin _ (by decide +kernel), codeAny_builtin entry_list_iadd' ?_⟩))
  show wpAny _ _ (Builtin.List.listExtendWith (.ref s.heap.objs.size) (.ref l) (.ref s.heap.objs.size)) _ _ { s with heap := s.heap.push (seqObj "list" #[] 0) }
  unfold Builtin.List.listExtendWith
  have g1' : (s.heap.push (seqObj "list" #[] 0)).get? l = some o := Heap.get?_push_of_some _ g1
  refine wpAny_bind (wpAny_typeOf (T := T) ⟨o, g1', g2⟩ ?_)
  have tt : (Builtin.List.listSameRef (.ref s.heap.objs.size) (.ref l) || Value.type T == Value.type "list" || Value.type T == Value.type "tuple") = true := by
    rcases hT with rfl | rfl <;> simp
  rw [if_pos tt]
  refine wpAny_bind (listItems_at g1' g3 (wpAny_bind (listItems_at (xs := #[]) (n := 0) (Heap.get?_push_size _ rfl) rfl ?_)))
  rw [if_neg (by simp)]
  refine wpAny_bind (listUpdate_at (xs := #[]) (n := 0) (Heap.get?_push_size _ rfl) rfl (wpAny_pure ?_) (Nat.zero_le _) (by show (#[] ++ vs.toArray).size ≤ sizeLine + 1; simp only [Array.size_append, List.size_toArray, List.length_nil]; omega))
  show wpAny (model prog w) A (do
      let o ← load s.heap.objs.size
      match o.data with
      | .seq xs _ => pure xs.toList
      | _ => unsupported "internal:collect") Q E { s with heap := (s.heap.push (seqObj "list" #[] 0)).update s.heap.objs.size (Obj.mapSeq (· ++ vs.toArray)) }
  refine wpAny_bind (wpAny_load (get?_update_seq (Heap.get?_push_size _ rfl) _) ?_)
  show wpAny _ _ (pure ((#[] : Array Value) ++ vs.toArray).toList) Q E _
  rw [show ((#[] : Array Value) ++ vs.toArray).toList = vs by simp]
  exact wpAny_pure h
theorem sorted_seq {β : Type} {vs : List Value} {bs : List β} {enc : β → PyData} {R : Value → β → Prop} {l : Addr} {T : String} {o : Obj} {n : Nat} {Q : Value → Shared → Prop} (hT : T = "list" ∨ T = "tuple") (g1 : s.heap.get? l = some o) (g2 : o.cls = .type T) (g3 : o.data = .seq vs.toArray n)
    (e : EachIs R vs bs) (er : EachIs (fun v b => ∃ as, Reads s.heap v (enc b) as) vs bs) (al : AllAlike (bs.map enc)) (so : Sortable (bs.map enc)) (hz : bs.length ≤ sizeLine) (hu : ∀ b, b ∈ bs → A.units + 2 + (enc b).depth < cLine)
    (h : ∀ out, out.length = bs.length → EachIs R out (bs.mergeSort (dataLe false enc)) → Q (.ref (s.heap.objs.size + 1)) { s with heap := sortedAll s.heap vs (List.toArray out) }) : wpAny (model prog w) A (call (.builtin "sorted") [.ref l]) Q E s := by
  have hv : vs.length ≤ sizeLine := by rw [e.length]; exact hz
  have er' : EachIs (fun v b => ∃ as, Reads (sortingHeap (copyHeap s.heap vs) (s.heap.objs.size + 1) vs) v (enc b) as) vs bs := er.mono fun _ _ ⟨as, r⟩ => ⟨as, PyProof.Rows.Reads.keeps (fun _ _ => sorting_copy_old) r⟩
  refine call_function_entry_kw kind_sorted plain_sorted entry_sorted (args_sorted1 _) ?_
  unfold Builtin.«sorted»
  refine wpAny_bind (m := checkCount "sorted" 1 1 _) (wpAny_pure ?_)
  refine wpAny_bind (collect_seq hT g1 g2 g3 hv ?_)
  refine wpAny_bind (wpAny_newList ?_ hv)
  have sz : ((s.heap.push (seqObj "list" #[] 0)).update s.heap.objs.size (Obj.mapSeq (· ++ vs.toArray))).objs.size = s.heap.objs.size + 1 := by
    rw [Heap.size_update, size_push']
  show wpAny _ _ _ _ _ { s with heap := copyHeap s.heap vs }
  rw [sz]
  refine wpAny_bind (wpAny_holding (wpAny_call_entry_kw slot_list_sort ⟨_, copyHeap_at s.heap vs, rfl⟩ entry_list_sort ?body (args_list_sort _)))
  case body =>
    show wpAny (model prog w) A.in1.in1 (Builtin.«list.sort» ⟨[.ref (s.heap.objs.size + 1)], []⟩) _ _ _
    refine list_sort_vals (s := { s with heap := copyHeap s.heap vs }) (κ := dataKind (sortingHeap (copyHeap s.heap vs) (s.heap.objs.size + 1) vs) (bs.map enc)) (copyHeap_at s.heap vs)
      (SortsAt.data (s := { s with heap := sortingHeap (copyHeap s.heap vs) (s.heap.objs.size + 1) vs }) (each_map (R := fun v d => ∃ as, Reads (sortingHeap (copyHeap s.heap vs) (s.heap.objs.size + 1) vs) v d as) enc er') al so (bound_map hu)) hv ?_
    exact ⟨_, rfl, wpAny_pure ⟨_, rfl, h _ (by rw [sortVals_length false rfl]; exact e.length) (sortVals_data false e er' al)⟩⟩
end
/-! ### over the layer -/
abbrev VD : Type := V × PyData
def srtD (xs : List VD) : List VD := xs.mergeSort (dataLe false (·.2))
theorem each_vals {X : Cx} {pins : List (Addr × Obj)} {σ : L2.St} {H : Hp} {s : Shared} (I : L2.Inv X pins σ H s) : ∀ (xs : List VD) (us : List Value), Vals (xs.map (·.1)) us → (∀ p ∈ xs, Dp X.K H p.1 p.2) →
    EachIs (fun v (b : VD) => RelV b.1 v) us xs ∧ EachIs (fun v (b : VD) => ∃ as, Reads s.heap v b.2 as) us xs
  | [], _, .nil, _ => ⟨.nil, .nil⟩
  | p :: xs, _, .cons r t, hd => by
    obtain ⟨q1, q2⟩ := each_vals I xs _ t fun x hx => hd x (List.mem_cons_of_mem _ hx)
    exact ⟨.cons r q1, .cons (Dp.reads I p.2 p.1 _ (hd p List.mem_cons_self) r) q2⟩
theorem vals_each : ∀ (xs : List VD) (us : List Value), EachIs (fun v (b : VD) => RelV b.1 v) us xs → Vals (xs.map (·.1)) us
  | [], _, .nil => .nil
  | _ :: xs, _, .cons r t => .cons r (vals_each xs _ t)
def rSortD (K : PySem.W.Frag) : List V → Hp → VK → Prop := fun vs H Q => ∃ (a : Addr) (xs : List VD), vs = [.ref a] ∧ (SqL K H a (xs.map (·.1)) ∨ SqT K H a (xs.map (·.1))) ∧ (∀ p ∈ xs, Dp K H p.1 p.2) ∧ AllAlike (xs.map (·.2)) ∧ Sortable (xs.map (·.2)) ∧ (∀ p ∈ xs, p.2.depth ≤ 8) ∧
  ∀ p, H p = none → Q (.ref p) (upd H p (.lst ((srtD xs).map (·.1))))
theorem cr_sortD {X : Cx} (hu : X.A.units + 64 < cLine) : CallR X (.builtin "sorted") (rSortD X.K) := by
  intro pins s σ H vs us Q I r h
  obtain ⟨a, xs, rfl, hs, hd, al, so, dp, q⟩ := h
  rw [Vals.ref1 r]
  have fin : ∀ (T : String) (its : List Value) (o : Obj) (n : Nat), (T = "list" ∨ T = "tuple") → s.heap.get? a = some o → o.cls = .type T → o.data = .seq its.toArray n → Vals (xs.map (·.1)) its → (xs.map (·.1)).length ≤ sizeLine →
      wpAny (model X.prog X.w) X.A (call (.builtin "sorted") [.ref a]) (EP X pins σ Q) X.xe s := fun T its o n hT g1 g2 g3 rv hz => by
    obtain ⟨e, er⟩ := each_vals I xs its rv hd
    rw [List.length_map] at hz
    refine sorted_seq (enc := fun b : VD => b.2) (R := fun v b => RelV b.1 v) hT g1 g2 g3 e er al so hz (fun b hb => by have := dp b hb; omega) fun out ol eo => ?_
    obtain ⟨ep, he⟩ := PyProof.Rows.sortedAll_at s.heap its out.toArray
    have hl : ((srtD xs).map (·.1)).length ≤ sizeLine := by
      unfold srtD
      rw [List.length_map, List.length_mergeSort]
      exact hz
    exact ⟨.ref _, upd H (s.heap.objs.size + 1) (.lst ((srtD xs).map (·.1))), I.laid (t' := s.toks) (fun _ _ => PyProof.Rows.sortedAll_old) (Nat.le_succ _) ⟨hl, out, ep, vals_each _ _ eo, he⟩, rfl, q _ (I.hok.fresh (Nat.le_succ _))⟩
  rcases hs with hs | hs
  · obtain ⟨its, rv, pl, hz⟩ := I.list hs
    obtain ⟨o, g1, g2, n, g3⟩ := pl.isList
    exact fin "list" its o n (.inl rfl) g1 g2 g3 rv hz
  · obtain ⟨its, rv, pl, hz⟩ := I.tuple hs
    obtain ⟨o, g1, g2, n, g3⟩ := pl
    exact fin "tuple" its o n (.inr rfl) g1 g2 g3 rv hz
end Onp
set_option maxHeartbeats 4000000
set_option autoImplicit false
/-! machines: letters, arrows, rows of them -/
namespace Onp
open PySem PySem.Spec PyProof.Rows L2
def smallL : List Nat := [97, 98, 99, 100, 101, 102, 103, 104, 105, 106, 107, 108, 109, 110, 111, 112, 113, 114, 115, 116, 117, 118, 119, 120, 121, 122]
theorem small_eq : ("abcdefghijklmnopqrstuvwxyz" : Str) = Sx smallL := by decide +kernel
theorem em_eq : ("" : Str) = Sx [] := by decide +kernel
theorem cut_to (xs : List Nat) (n : Nat) (h : n ≤ xs.length) : cutS (Sx xs) none (some (n : Int)) = Sx (xs.take n) := by
  unfold cutS
  rw [HT.sIx_none, HT.sIx_nat, sx_cps, sx_len, List.drop_zero, Nat.sub_zero, Nat.min_eq_left h]
  rfl
theorem cut_from (xs : List Nat) (n : Nat) : cutS (Sx xs) (some (n : Int)) none = Sx (xs.drop n) := by
  unfold cutS
  rw [HT.sIx_none, HT.sIx_nat, sx_cps, sx_len]
  by_cases h : n ≤ xs.length
  · rw [Nat.min_eq_left h, List.take_of_length_le (by rw [List.length_drop]; omega)]
    rfl
  · rw [Nat.min_eq_right (by omega), List.drop_length, List.drop_eq_nil_of_le (by omega), List.take_nil]
    rfl
/-! ### letters -/
def risB (xs : List Nat) : Bool := (xs.zip (xs.drop 1)).all fun p => decide (p.1 < p.2)
def smaB (xs : List Nat) : Bool := xs.all fun c => decide (c ∈ smallL)
def letB (xs : List Nat) : Bool := risB xs && (smaB xs && (decide (1 ≤ xs.length) && decide (xs.length ≤ 3)))
theorem one_lt (c d : Nat) : decide (([c] : List Nat) < [d]) = decide (c < d) := by
  by_cases h : c < d
  · rw [decide_eq_true h, decide_eq_true]
    exact List.Lex.rel h
  · rw [decide_eq_false h, decide_eq_false]
    intro z
    cases z with
    | rel z => exact h z
    | cons z => cases z
/-! ### arrows -/
abbrev Arw : Type := Int × Str × Str × Int
def akey (a : Arw) : List Key := [.inl a.1, .inr a.2.1, .inr a.2.2.1, .inl a.2.2.2]
def aV (a : Arw) : List V := [.int a.1, .str a.2.1, .str a.2.2.1, .int a.2.2.2]
theorem akey_V (a : Arw) : (akey a).map kV = aV a := rfl
theorem akey_inj {a b : Arw} (h : akey a = akey b) : a = b := by
  obtain ⟨a1, a2, a3, a4⟩ := a
  obtain ⟨b1, b2, b3, b4⟩ := b
  simp only [akey, List.cons.injEq, Sum.inl.injEq, Sum.inr.injEq, and_true] at h
  obtain ⟨rfl, rfl, rfl, rfl⟩ := h
  rfl
def adat (a : Arw) : PyData := .tuple [.int a.1, .str a.2.1, .str a.2.2.1, .int a.2.2.2]
abbrev AR : Type := Addr × Arw
def rfs (ps : List AR) : List V := ps.map fun p => V.ref p.1
def RowAt (K : PySem.W.Frag) (H : Hp) (ps : List AR) : Prop := ∀ p ∈ ps, SqT K H p.1 (aV p.2)
theorem sameT {K : PySem.W.Frag} {H H' : Hp} {a : Addr} {xs : List V} (e : Same H H') (h : SqT K H a xs) : SqT K H' a xs := by
  rcases h with (h | ⟨o, h⟩) | h
  · exact .inl (.inl (e _ _ h))
  · exact .inl (.inr ⟨o, e _ _ h⟩)
  · exact .inr h
theorem RowAt.same {K : PySem.W.Frag} {H H' : Hp} {ps : List AR} (r : RowAt K H ps) (s : Same H H') : RowAt K H' ps := fun p hp => sameT s (r p hp)
theorem dp_arw {K : PySem.W.Frag} {H : Hp} {p : AR} (h : SqT K H p.1 (aV p.2)) : Dp K H (.ref p.1) (adat p.2) := .tup h (.cons (.int _) (.cons (.str _) (.cons (.str _) (.cons (.int _) .nil))))
/-- whether a tuple of four is an arrow -/
def arrB (n : Int) (ls : List Nat) (a : Arw) : Bool := decide (0 ≤ a.1) && decide (a.1 < n) && (decide (0 ≤ a.2.2.2) && decide (a.2.2.2 < n)) && (ls.any fun c => decide (a.2.1 = Sx [c])) && decide (a.2.2.1 ∈ deedsL)
def rooB (n : Int) (r : Int) : Bool := decide (0 ≤ r) && decide (r < n)
/-! ### sorted -/
def sortA (as : List Arw) : List Arw := as.mergeSort (PySem.W.dataLe false adat)
def sortI (ns : List Int) : List Int := ns.mergeSort fun a b => decide (a ≤ b)
end Onp
set_option maxHeartbeats 4000000
set_option autoImplicit false
/-! d.setdefault(key, z), the key a tuple of ints and texts -/
namespace Onp
open PySem PySem.Spec PyProof.Rows L2
section
variable {X : Cx} {pins : List (Addr × Obj)} {σ : L2.St} {H : Hp} {s : Shared} {a b : Addr} {r : Value} {d : V} {k : List L2.Key} {A : Around} {E : Value → Shared → Prop}
theorem d_setdT {kvs : List (List L2.Key × V)} {Q : Value → Shared → Prop} (hu : A.units + 1 < cLine) (I : Inv X pins σ H s) (e : H a = some (.dT kvs)) (eb : H b = some (.tup (k.map kV))) (rd : RelV d r) (hl : kvs.length < sizeLine)
    (h1 : ∀ v, valV kvs k = some v → ∀ (w' : Value) (s' : Shared), Inv X pins σ H s' → RelV v w' → Q w' s') (h2 : valV kvs k = none → ∀ (w' : Value) (s' : Shared), Inv X pins σ (upd H a (.dT (putK kvs k d))) s' → RelV d w' → Q w' s') :
    wpAny (model X.prog X.w) A (call (.builtin "dict.setdefault") [.ref a, .ref b, r]) Q E s := by
  obtain ⟨z, hd, xs, rel, dd⟩ := dt_of I.hok e
  have hz : xs.length ≤ sizeLine := by rw [← Paired.length rel]; exact z
  have rk := rel.val k
  refine call_setdefault_heap (hsz := hz) (tupleKind_room_in1 hu) (key_of I.hok eb) hd dd (fun p hp => ?_) fun hn h' dd' hs => ?_
  · rw [hp] at rk
    cases ev : valV kvs k with
    | none =>
      rw [ev] at rk
      exact (show False from rk).elim
    | some v0 =>
      rw [ev] at rk
      exact h1 v0 ev _ _ (I.tok _) rk
  · rw [hn] at rk
    cases ev : valV kvs k with
    | some v0 =>
      rw [ev] at rk
      exact (show False from rk).elim
    | none =>
      have hl2 : (putK kvs k d).length ≤ sizeLine := by
        have := length_putK kvs k d
        omega
      obtain ⟨q, es, ep, hq, c2, c3, c4, _, c5⟩ := dd'
      refine h2 ev _ _ (d_write I (by rw [e]; exact True.intro) hs ⟨q, hq⟩ ⟨hl2, hd, _, (rel.put k eb rd).keeps fun c ys ec => ?_, q, es, ep, hq, c2, c3, c4, c5⟩) rd
      rw [upd_ne (ne_of ec e (fun z => nomatch z))]
      exact ec
end
def tDSetT (td ty tx : TE) : TE := fun σ H Q => td σ H fun x H1 => ∃ a, x = .ref a ∧ (∃ kvs, H1 a = some (.dT kvs)) ∧ ty σ H1 fun y H2 => tx σ H2 fun z H3 => ∃ (kvs : List (List L2.Key × V)) (k : List L2.Key) (b : Addr), H3 a = some (.dT kvs) ∧ y = .ref b ∧ H3 b = some (.tup (k.map kV)) ∧ kvs.length < sizeLine ∧
  (∀ v, valV kvs k = some v → Q v H3) ∧ (valV kvs k = none → Q z (upd H3 a (.dT (putK kvs k z))))
section
variable {X : Cx} {o e f : Expr} {td ty tx : TE} {apos cpos : Pos}
theorem pe_dsetT (hu : X.A.units + 64 < cLine) (ho : PE X o td) (he : PE X e ty) (hf : PE X f tx) (m : M2 X o "setdefault" apos e f cpos) : PE X (.Call (.Attribute o "setdefault" apos) [e, f] [] cpos) (tDSetT td ty tx) := by
  refine ⟨fun pins s σ H Q I h => ?_⟩
  refine wpAny_Call_method m.base m.few m.line PySem.F.plainAttrs_dict PySem.F.slot_dict_setdefault PySem.F.type_dict_setdefault (thn (ho.run pins s σ H _ I h) fun u s1 ⟨x, H1, I1, rx, a, ex, ⟨kv0, d⟩, q1⟩ => ?_)
  subst ex
  obtain rfl : u = Value.ref a := rx
  obtain ⟨t1, t2, _⟩ := isD_at I1 (.inr ⟨kv0, .inl d⟩)
  refine ⟨t1, t2, ?_⟩
  rw [m.trees]
  refine Calls.callWith_builtin rfl (Calls.evalArgs_plain (Calls.spliced_cons (thn (he.run pins s1 σ H1 _ I1 q1) fun iv s2 ⟨y, H2, I2, ry, q2⟩ =>
    Calls.spliced_cons (thn (hf.run pins s2 σ H2 _ I2 q2) fun fv s3 ⟨z, H3, I3, rz, kvs, k, b, ea, ey, eb, hl, q3, q4⟩ => Calls.spliced_nil ?_))))
  subst ey
  obtain rfl : iv = Value.ref b := ry
  exact d_setdT (by omega) I3 ea eb rz hl (fun v hv w' s4 I4 rw' => ⟨v, _, I4, rw', q3 v hv⟩) fun hn w' s4 I4 rw' => ⟨z, _, I4, rw', q4 hn⟩
end
end Onp
set_option maxHeartbeats 4000000
set_option autoImplicit false
namespace Onp
open PySem PySem.Spec PyProof.Rows L2
/-! ### the steps of each room and letter -/
def stepsOf (as : List Arw) (r : Int) (l : Str) : List (Str × Int) := (as.filter fun a => decide (a.1 = r) && decide (a.2.1 = l)).map fun a => (a.2.2.1, a.2.2.2)
theorem stepsOf_snoc (as : List Arw) (a : Arw) (r : Int) (l : Str) : stepsOf (as ++ [a]) r l = stepsOf as r l ++ (if (decide (a.1 = r) && decide (a.2.1 = l)) = true then [(a.2.2.1, a.2.2.2)] else []) := by
  unfold stepsOf
  rw [List.filter_append, List.map_append]
  congr 1
  by_cases h : (decide (a.1 = r) && decide (a.2.1 = l)) = true
  · rw [if_pos h, List.filter_cons_of_pos (p := fun a : Arw => decide (a.1 = r) && decide (a.2.1 = l)) h]
    rfl
  · rw [if_neg h, List.filter_cons_of_neg (p := fun a : Arw => decide (a.1 = r) && decide (a.2.1 = l)) h]
    rfl
abbrev ST : Type := Addr × Str × Int
def skey (r : Int) (l : Str) : List L2.Key := [.inl r, .inr l]
theorem skey_inj {r r' : Int} {l l' : Str} (h : skey r l = skey r' l') : r = r' ∧ l = l' := by
  simp only [skey, List.cons.injEq, Sum.inl.injEq, Sum.inr.injEq, and_true] at h
  exact h
/-- one key's list, new since H0 -/
structure OneS (H0 H : Hp) (at_ : Addr) (ys : List (Str × Int)) : Prop where
  fr : H0 at_ = none
  ex : ∃ xs : List ST, H at_ = some (.lst (xs.map fun x => V.ref x.1)) ∧ (∀ x ∈ xs, H x.1 = some (.tup [.str x.2.1, .int x.2.2])) ∧ xs.map (·.2) = ys
structure StepsK (H0 H : Hp) (D : Addr) (as : List Arw) (kvs : List (List L2.Key × V)) : Prop where
  at' : H D = some (.dT kvs)
  len : kvs.length ≤ as.length
  no : ∀ r l, stepsOf as r l = [] → valV kvs (skey r l) = none
  yes : ∀ r l, stepsOf as r l ≠ [] → ∃ a, valV kvs (skey r l) = some (.ref a) ∧ OneS H0 H a (stepsOf as r l)
  inj : ∀ r l r' l' a, valV kvs (skey r l) = some (.ref a) → valV kvs (skey r' l') = some (.ref a) → r = r' ∧ l = l'
def StepsAt (H0 H : Hp) (D : Addr) (as : List Arw) : Prop := ∃ kvs, StepsK H0 H D as kvs
theorem cond_iff {r r' : Int} {l l' : Str} : (decide (r' = r) && decide (l' = l)) = true ↔ r' = r ∧ l' = l := by
  rw [Bool.and_eq_true, decide_eq_true_eq, decide_eq_true_eq]
/-- a step more for a key that is there -/
theorem stepOld {H H2 H' : Hp} {D at_ p3 : Addr} {as : List Arw} {kvs : List (List L2.Key × V)} {a1 a4 : Int} {a2 a3 : Str} {xs : List ST} (S : StepsK H H2 D as kvs) (hv : valV kvs (skey a1 a2) = some (.ref at_)) (fr : H at_ = none) (x1 : H2 at_ = some (.lst (xs.map fun x => V.ref x.1))) (x2 : ∀ x ∈ xs, H2 x.1 = some (.tup [.str x.2.1, .int x.2.2])) (x3 : xs.map (·.2) = stepsOf as a1 a2)
    (kp : ∀ b o, b ≠ at_ → H2 b = some o → H' b = some o) (n1 : H' at_ = some (.lst ((xs.map fun x => V.ref x.1) ++ [.ref p3]))) (n3 : H' p3 = some (.tup [.str a3, .int a4])) : StepsAt H H' D (as ++ [(a1, a2, a3, a4)]) := by
  have hx : ∀ {b : Addr} {ys : List V}, H2 b = some (.tup ys) → H' b = some (.tup ys) := fun e => kp _ _ (ne_of e x1 (fun z => nomatch z)) e
  refine ⟨kvs, kp _ _ (ne_of S.at' x1 (fun z => nomatch z)) S.at', by rw [List.length_append]; have := S.len; omega, fun r l h => ?_, fun r l h => ?_, S.inj⟩
  · rw [stepsOf_snoc] at h
    exact S.no r l (List.append_eq_nil_iff.mp h).1
  · rw [stepsOf_snoc] at h ⊢
    by_cases c : a1 = r ∧ a2 = l
    · obtain ⟨rfl, rfl⟩ := c
      rw [if_pos (cond_iff.mpr ⟨rfl, rfl⟩)]
      refine ⟨at_, hv, fr, xs ++ [(p3, a3, a4)], by rw [n1, List.map_append]; rfl, fun x hx' => ?_, by rw [List.map_append, x3]; rfl⟩
      rcases List.mem_append.mp hx' with y | y
      · exact hx (x2 x y)
      · rw [List.mem_singleton.mp y]
        exact n3
    · rw [if_neg (fun z => c (cond_iff.mp z)), List.append_nil] at h ⊢
      obtain ⟨a, ea, O⟩ := S.yes r l h
      obtain ⟨ys, y1, y2, y3⟩ := O.ex
      have ne : a ≠ at_ := fun z => by
        rw [z] at ea
        exact c (S.inj _ _ _ _ _ hv ea)
      exact ⟨a, ea, O.fr, ys, kp _ _ ne y1, fun x hx' => hx (y2 x hx'), y3⟩
/-- a step for a new key -/
theorem stepNew {H H2 H' : Hp} {D p2 p3 : Addr} {as : List Arw} {kvs : List (List L2.Key × V)} {a1 a4 : Int} {a2 a3 : Str} (S : StepsK H H2 D as kvs) (hv : valV kvs (skey a1 a2) = none) (fr : H p2 = none) (fr2 : H2 p2 = none)
    (kp : ∀ b o, b ≠ D → H2 b = some o → H' b = some o) (n0 : H' D = some (.dT (putK kvs (skey a1 a2) (.ref p2)))) (n1 : H' p2 = some (.lst [.ref p3])) (n3 : H' p3 = some (.tup [.str a3, .int a4])) : StepsAt H H' D (as ++ [(a1, a2, a3, a4)]) := by
  have e0 : stepsOf as a1 a2 = [] := by
    by_cases z : stepsOf as a1 a2 = []
    · exact z
    · obtain ⟨a, ea, _⟩ := S.yes a1 a2 z
      rw [hv] at ea
      cases ea
  have hx : ∀ {b : Addr} {ys : List V}, H2 b = some (.tup ys) → H' b = some (.tup ys) := fun e => kp _ _ (ne_of e S.at' (fun z => nomatch z)) e
  have hl : ∀ {b : Addr} {ys : List V}, H2 b = some (.lst ys) → H' b = some (.lst ys) := fun e => kp _ _ (ne_of e S.at' (fun z => nomatch z)) e
  have np : ∀ {r : Int} {l : Str} {a : Addr}, valV kvs (skey r l) = some (.ref a) → a ≠ p2 := fun {r l a} ea z => by
    have h : stepsOf as r l ≠ [] := fun y => by
      rw [S.no r l y] at ea
      cases ea
    obtain ⟨a', ea', O⟩ := S.yes r l h
    rw [ea] at ea'
    cases ea'
    obtain ⟨ys, y1, _⟩ := O.ex
    rw [z, fr2] at y1
    cases y1
  have vp : ∀ r l, valV (putK kvs (skey a1 a2) (.ref p2)) (skey r l) = if skey r l = skey a1 a2 then some (.ref p2) else valV kvs (skey r l) := fun r l => valV_put kvs _ _ _
  refine ⟨_, n0, ?_, fun r l h => ?_, fun r l h => ?_, fun r l r' l' a h1 h2 => ?_⟩
  · rw [List.length_append]
    have := S.len
    have := length_putK kvs (skey a1 a2) (V.ref p2)
    simp only [List.length_cons, List.length_nil]
    omega
  · rw [stepsOf_snoc] at h
    have h3 := List.append_eq_nil_iff.mp h
    rw [vp, if_neg (fun z => ?_)]
    · exact S.no r l h3.1
    · obtain ⟨rfl, rfl⟩ := skey_inj z
      rw [if_pos (cond_iff.mpr ⟨rfl, rfl⟩)] at h3
      exact absurd h3.2 (by simp)
  · rw [stepsOf_snoc] at h ⊢
    rw [vp]
    by_cases c : a1 = r ∧ a2 = l
    · obtain ⟨rfl, rfl⟩ := c
      rw [if_pos rfl, if_pos (cond_iff.mpr ⟨rfl, rfl⟩), e0]
      refine ⟨p2, rfl, fr, [(p3, a3, a4)], n1, fun x hx' => ?_, rfl⟩
      rw [List.mem_singleton.mp hx']
      exact n3
    · rw [if_neg (fun z => c (cond_iff.mp z)), List.append_nil] at h ⊢
      rw [if_neg (fun z => c ⟨(skey_inj z).1.symm, (skey_inj z).2.symm⟩)]
      obtain ⟨a, ea, O⟩ := S.yes r l h
      obtain ⟨ys, y1, y2, y3⟩ := O.ex
      exact ⟨a, ea, O.fr, ys, hl y1, fun x hx' => hx (y2 x hx'), y3⟩
  · rw [vp] at h1 h2
    by_cases c1 : skey r l = skey a1 a2
    · by_cases c2 : skey r' l' = skey a1 a2
      · exact skey_inj (c1.trans c2.symm)
      · rw [if_pos c1] at h1
        rw [if_neg c2] at h2
        cases h1
        exact absurd rfl (np h2)
    · by_cases c2 : skey r' l' = skey a1 a2
      · rw [if_neg c1] at h1
        rw [if_pos c2] at h2
        cases h2
        exact absurd rfl (np h1)
      · rw [if_neg c1] at h1
        rw [if_neg c2] at h2
        exact S.inj _ _ _ _ _ h1 h2
end Onp
set_option maxHeartbeats 4000000
set_option autoImplicit false
/-! a machine as an object -/
namespace Onp
open PySem PySem.Spec PyProof.Rows L2
/-! ### sorted rows -/
def vdA (p : AR) : VD := (.ref p.1, adat p.2)
def vdI (r : Int) : VD := (.int r, .int r)
def srtR (ps : List AR) : List AR := ps.mergeSort fun p q => PySem.W.dataLe false adat p.2 q.2
theorem srtD_A (ps : List AR) : srtD (ps.map vdA) = (srtR ps).map vdA := (PySem.W.sort_maps vdA (fun _ _ _ _ => rfl)).symm
theorem srtR_as (ps : List AR) : (srtR ps).map (·.2) = sortA (ps.map (·.2)) := PySem.W.sort_maps (fun p : AR => p.2) (fun _ _ _ _ => rfl)
theorem srtR_mem {ps : List AR} {p : AR} : p ∈ srtR ps ↔ p ∈ ps := List.mem_mergeSort
theorem srtR_len (ps : List AR) : (srtR ps).length = ps.length := List.length_mergeSort ..
theorem srtD_I (ns : List Int) : srtD (ns.map vdI) = (sortI ns).map vdI := by
  refine (PySem.W.sort_maps vdI (fun a _ b _ => ?_)).symm
  have e := congrFun (congrFun (PySem.W.dataLe_int (fun b : Int => b)) a) b
  exact e.symm
theorem al_I (ns : List Int) : PySem.W.AllAlike ((ns.map vdI).map (·.2)) := fun d hd d' hd' => by
  obtain ⟨p, hp, rfl⟩ := List.mem_map.mp hd
  obtain ⟨r, _, rfl⟩ := List.mem_map.mp hp
  obtain ⟨p', hp', rfl⟩ := List.mem_map.mp hd'
  obtain ⟨r', _, rfl⟩ := List.mem_map.mp hp'
  rfl
theorem so_I (ns : List Int) : PySem.W.Sortable ((ns.map vdI).map (·.2)) := .inr fun d hd => by
  obtain ⟨p, hp, rfl⟩ := List.mem_map.mp hd
  obtain ⟨r, _, rfl⟩ := List.mem_map.mp hp
  exact ⟨(fun z => nomatch z), (fun _ z => nomatch z)⟩
theorem al_A (ps : List AR) : PySem.W.AllAlike ((ps.map vdA).map (·.2)) := fun d hd d' hd' => by
  obtain ⟨p, hp, rfl⟩ := List.mem_map.mp hd
  obtain ⟨r, _, rfl⟩ := List.mem_map.mp hp
  obtain ⟨p', hp', rfl⟩ := List.mem_map.mp hd'
  obtain ⟨r', _, rfl⟩ := List.mem_map.mp hp'
  rfl
theorem so_A (ps : List AR) : PySem.W.Sortable ((ps.map vdA).map (·.2)) := .inl fun d hd => by
  obtain ⟨p, hp, rfl⟩ := List.mem_map.mp hd
  obtain ⟨r, _, rfl⟩ := List.mem_map.mp hp
  exact ⟨_, _, rfl⟩
theorem vdA_fst (ps : List AR) : (ps.map vdA).map (·.1) = rfs ps := by
  rw [List.map_map]
  rfl
theorem vdI_fst (ns : List Int) : (ns.map vdI).map (·.1) = ns.map V.int := by
  rw [List.map_map]
  rfl
theorem dep_A (ps : List AR) : ∀ p ∈ ps.map vdA, p.2.depth ≤ 8 := fun p hp => by
  obtain ⟨r, _, rfl⟩ := List.mem_map.mp hp
  show (adat r.2).depth ≤ 8
  unfold adat
  simp [PyData.depth, PyData.depthAll]
theorem dep_I (ns : List Int) : ∀ p ∈ ns.map vdI, p.2.depth ≤ 8 := fun p hp => by
  obtain ⟨r, _, rfl⟩ := List.mem_map.mp hp
  show (PyData.int r).depth ≤ 8
  simp [PyData.depth]
/-! ### the object -/
structure AM where
  n : Int
  ls : List Nat
  as : List Arw
  fs : List Int
  gs : List Int
def AM.ok (M : AM) : Prop := 1 ≤ M.n ∧ M.n ≤ 8 ∧ letB M.ls = true ∧ (∀ a ∈ M.as, arrB M.n M.ls a = true) ∧ M.as.Nodup ∧ M.as.length ≤ 40 ∧ (∀ r ∈ M.fs, rooB M.n r = true) ∧ M.fs.Nodup ∧ (∀ r ∈ M.gs, rooB M.n r = true) ∧ M.gs.Nodup ∧ M.fs.length ≤ 100 ∧ M.gs.length ≤ 100
/-- as it is kept: rising -/
def AM.srt (M : AM) : AM := ⟨M.n, M.ls, sortA M.as, sortI M.fs, sortI M.gs⟩
def mfl (n : Int) (ls : List Nat) (ta tf tg D : Addr) : List (Str × V) :=
  putF "step_rows" (.ref D) (putF "last_row" (.ref tg) (putF "first_row" (.ref tf) (putF "arrow_row" (.ref ta) (putF "letter_text" (.str (Sx ls)) (putF "room_count" (.int n) [])))))
section
variable {n : Int} {ls : List Nat} {ta tf tg D : Addr}
theorem mfl_rooms : (mfl n ls ta tf tg D).lookup ("room_count" : Str) = some (.int n) := by
  unfold mfl
  rw [lookup_putF, if_neg (by decide +kernel), lookup_putF, if_neg (by decide +kernel), lookup_putF, if_neg (by decide +kernel), lookup_putF, if_neg (by decide +kernel), lookup_putF, if_neg (by decide +kernel), lookup_putF, if_pos rfl]
theorem mfl_letters : (mfl n ls ta tf tg D).lookup ("letter_text" : Str) = some (.str (Sx ls)) := by
  unfold mfl
  rw [lookup_putF, if_neg (by decide +kernel), lookup_putF, if_neg (by decide +kernel), lookup_putF, if_neg (by decide +kernel), lookup_putF, if_neg (by decide +kernel), lookup_putF, if_pos rfl]
theorem mfl_arrows : (mfl n ls ta tf tg D).lookup ("arrow_row" : Str) = some (.ref ta) := by
  unfold mfl
  rw [lookup_putF, if_neg (by decide +kernel), lookup_putF, if_neg (by decide +kernel), lookup_putF, if_neg (by decide +kernel), lookup_putF, if_pos rfl]
theorem mfl_firsts : (mfl n ls ta tf tg D).lookup ("first_row" : Str) = some (.ref tf) := by
  unfold mfl
  rw [lookup_putF, if_neg (by decide +kernel), lookup_putF, if_neg (by decide +kernel), lookup_putF, if_pos rfl]
theorem mfl_lasts : (mfl n ls ta tf tg D).lookup ("last_row" : Str) = some (.ref tg) := by
  unfold mfl
  rw [lookup_putF, if_neg (by decide +kernel), lookup_putF, if_pos rfl]
theorem mfl_steps : (mfl n ls ta tf tg D).lookup ("step_rows" : Str) = some (.ref D) := by
  unfold mfl
  rw [lookup_putF, if_pos rfl]
def mnames : List Str := ["step_rows", "last_row", "first_row", "arrow_row", "letter_text", "room_count"]
theorem mfl_none {f : Str} (h : f ∉ mnames) : (mfl n ls ta tf tg D).lookup f = none := by
  unfold mnames at h
  simp only [List.mem_cons, List.not_mem_nil, or_false, not_or] at h
  unfold mfl
  rw [lookup_putF, if_neg h.1, lookup_putF, if_neg h.2.1, lookup_putF, if_neg h.2.2.1, lookup_putF, if_neg h.2.2.2.1, lookup_putF, if_neg h.2.2.2.2.1, lookup_putF, if_neg h.2.2.2.2.2]
  rfl
end
theorem putF_len (f : Str) (v : V) : ∀ fs : List (Str × V), (putF f v fs).length ≤ fs.length + 1
  | [] => Nat.le_refl _
  | (g, x) :: r => by
    unfold putF
    by_cases h : g = f
    · rw [if_pos h]
      exact Nat.le_succ _
    · rw [if_neg h]
      exact Nat.succ_le_succ (putF_len f v r)
/-- the steps, to be read -/
def StepsR (H : Hp) (D : Addr) (as : List Arw) : Prop := ∃ kvs : List (List L2.Key × V), H D = some (.dT kvs) ∧ (∀ r l, stepsOf as r l = [] → valV kvs (skey r l) = none) ∧
  (∀ r l, stepsOf as r l ≠ [] → ∃ (a : Addr) (xs : List ST), valV kvs (skey r l) = some (.ref a) ∧ H a = some (.lst (xs.map fun x => V.ref x.1)) ∧ (∀ x ∈ xs, H x.1 = some (.tup [.str x.2.1, .int x.2.2])) ∧ xs.map (·.2) = stepsOf as r l)
theorem StepsAt.rd {H0 H : Hp} {D : Addr} {as : List Arw} (S : StepsAt H0 H D as) : StepsR H D as := by
  obtain ⟨kvs, S⟩ := S
  refine ⟨kvs, S.at', S.no, fun r l h => ?_⟩
  obtain ⟨a, ea, O⟩ := S.yes r l h
  obtain ⟨xs, x1, x2, x3⟩ := O.ex
  exact ⟨a, xs, ea, x1, x2, x3⟩
theorem StepsR.same {H H' : Hp} {D : Addr} {as : List Arw} (S : StepsR H D as) (s : Same H H') : StepsR H' D as := by
  obtain ⟨kvs, h1, h2, h3⟩ := S
  refine ⟨kvs, s _ _ h1, h2, fun r l h => ?_⟩
  obtain ⟨a, xs, ea, x1, x2, x3⟩ := h3 r l h
  exact ⟨a, xs, ea, s _ _ x1, fun x hx => s _ _ (x2 x hx), x3⟩
/-- a machine stands at m -/
def MachAt (K : PySem.W.Frag) (C : Addr) (H : Hp) (m : Addr) (M : AM) : Prop := ∃ (dx ta tf tg D : Addr) (ps : List AR), H m = some (.ins C dx (mfl M.n M.ls ta tf tg D)) ∧ H ta = some (.tup (rfs ps)) ∧ RowAt K H ps ∧ ps.map (·.2) = M.as ∧
  H tf = some (.tup (M.fs.map V.int)) ∧ H tg = some (.tup (M.gs.map V.int)) ∧ StepsR H D M.as
theorem MachAt.same {K : PySem.W.Frag} {C : Addr} {H H' : Hp} {m : Addr} {M : AM} (h : MachAt K C H m M) (s : Same H H') : MachAt K C H' m M := by
  obtain ⟨dx, ta, tf, tg, D, ps, h1, h2, h3, h4, h5, h6, h7⟩ := h
  exact ⟨dx, ta, tf, tg, D, ps, s _ _ h1, s _ _ h2, h3.same s, h4, s _ _ h5, s _ _ h6, h7.same s⟩
end Onp
set_option maxHeartbeats 4000000
set_option autoImplicit false
namespace Onp
open PySem PySem.Spec PyProof.Rows L2
/-! ### == of arrows and of rows of them -/
theorem eqv_adat (a b : Arw) : PyData.eqv (adat a) (adat b) = decide (a = b) := by
  obtain ⟨a1, a2, a3, a4⟩ := a
  obtain ⟨b1, b2, b3, b4⟩ := b
  simp only [adat, PyData.eqv, PyData.eqvAll]
  rw [Bool.eq_iff_iff, decide_eq_true_eq]
  simp only [Bool.and_eq_true, beq_iff_eq, Prod.mk.injEq, and_true]
theorem any_adat (as : List Arw) (a : Arw) : ((as.map adat).any fun z => PyData.eqv z (adat a)) = decide (a ∈ as) := by
  rw [Bool.eq_iff_iff, List.any_eq_true, decide_eq_true_eq]
  constructor
  · rintro ⟨d, hd, e⟩
    obtain ⟨b, hb, rfl⟩ := List.mem_map.mp hd
    rw [eqv_adat, decide_eq_true_eq] at e
    rw [← e]
    exact hb
  · intro h
    exact ⟨adat a, List.mem_map_of_mem h, by rw [eqv_adat]; exact decide_eq_true rfl⟩
/-- texts of the kind that arrows bear -/
def okS (a : Arw) : Prop := PyData.strOk a.2.1 = true ∧ PyData.strOk a.2.2.1 = true
theorem small_strOk : ∀ c ∈ smallL, PyData.strOk (Sx [c]) = true := by decide +kernel
theorem deeds_strOk : ∀ d ∈ deedsL, PyData.strOk d = true := by decide +kernel
theorem letB_small {ls : List Nat} (h : letB ls = true) : ∀ c ∈ ls, c ∈ smallL := fun c hc => by
  unfold letB smaB at h
  simp only [Bool.and_eq_true] at h
  exact of_decide_eq_true (List.all_eq_true.mp h.2.1 c hc)
theorem arrB_okS {n : Int} {ls : List Nat} {a : Arw} (hl : letB ls = true) (h : arrB n ls a = true) : okS a := by
  unfold arrB at h
  simp only [Bool.and_eq_true] at h
  obtain ⟨c, hc, e⟩ := List.any_eq_true.mp h.1.2
  refine ⟨?_, deeds_strOk _ (of_decide_eq_true h.2)⟩
  rw [of_decide_eq_true e]
  exact small_strOk c (letB_small hl c hc)
theorem lay_adat {a : Arw} (h : okS a) : (adat a).canLay0 = true := by
  unfold adat
  simp only [PyData.canLay0, PyData.canLayAll0, h.1, h.2, Bool.and_true]
theorem lay_row : ∀ {as : List Arw}, (∀ a ∈ as, okS a) → PyData.canLayAll0 (as.map adat) = true
  | [], _ => rfl
  | a :: r, h => by
    show (PyData.canLay0 (adat a) && PyData.canLayAll0 (r.map adat)) = true
    rw [lay_adat (h a List.mem_cons_self), lay_row fun b hb => h b (List.mem_cons_of_mem _ hb)]
    rfl
theorem dep_adat (a : Arw) : (adat a).depth ≤ 8 := by
  unfold adat
  simp [PyData.depth, PyData.depthAll]
theorem dep_row : ∀ as : List Arw, PyData.depthAll (as.map adat) ≤ 8
  | [] => by simp [PyData.depthAll]
  | a :: r => by
    show PyData.depthAll (adat a :: r.map adat) ≤ 8
    have h1 := dep_adat a
    have h2 := dep_row r
    rw [PyData.depthAll]
    exact Nat.max_le.mpr ⟨h1, h2⟩
theorem shA {a : Arw} (h : okS a) : SeqAt.shaped (adat a) = true := by
  unfold SeqAt.shaped
  rw [lay_adat h, decide_eq_true (Nat.le_trans (dep_adat a) (by decide))]
  rfl
theorem shR {as : List Arw} (h : ∀ a ∈ as, okS a) : SeqAt.shaped (.list (as.map adat)) = true := by
  unfold SeqAt.shaped
  have h1 : (PyData.list (as.map adat)).canLay0 = true := by rw [PyData.canLay0]; exact lay_row h
  have h2 : (PyData.list (as.map adat)).depth ≤ 64 := by
    rw [PyData.depth]
    have := dep_row as
    omega
  rw [h1, decide_eq_true h2]
  rfl
theorem lay_ints : ∀ ns : List Int, PyData.canLayAll0 (ns.map PyData.int) = true
  | [] => rfl
  | a :: r => by
    show (PyData.canLay0 (.int a) && PyData.canLayAll0 (r.map PyData.int)) = true
    rw [lay_ints r]
    rfl
theorem shI (ns : List Int) : SeqAt.shaped (.list (ns.map .int)) = true := by
  unfold SeqAt.shaped
  have h1 : (PyData.list (ns.map .int)).canLay0 = true := by rw [PyData.canLay0]; exact lay_ints ns
  have h2 : (PyData.list (ns.map .int)).depth ≤ 64 := by
    rw [PyData.depth, PySem.W.depth_ints]
    decide
  rw [h1, decide_eq_true h2]
  rfl
theorem dpRow {K : PySem.W.Frag} {H : Hp} : ∀ {ps : List AR}, RowAt K H ps → DpAll K H (rfs ps) ((ps.map (·.2)).map adat)
  | [], _ => .nil
  | p :: r, h => .cons (dp_arw (h p List.mem_cons_self)) (dpRow fun q hq => h q (List.mem_cons_of_mem _ hq))
theorem dpInts {K : PySem.W.Frag} {H : Hp} : ∀ ns : List Int, DpAll K H (ns.map V.int) (ns.map PyData.int)
  | [] => .nil
  | _ :: r => .cons (.int _) (dpInts r)
/-! ### what the law draws: a tuple of five -/
def DrawnAt (K : PySem.W.Frag) (H : Hp) (t : Addr) (M : AM) : Prop := ∃ (la lf lg : Addr) (ps : List AR), H t = some (.tup [.int M.n, .str (Sx M.ls), .ref la, .ref lf, .ref lg]) ∧ H la = some (.lst (rfs ps)) ∧ RowAt K H ps ∧ ps.map (·.2) = M.as ∧ H lf = some (.lst (M.fs.map V.int)) ∧ H lg = some (.lst (M.gs.map V.int))
theorem DrawnAt.same {K : PySem.W.Frag} {H H' : Hp} {t : Addr} {M : AM} (h : DrawnAt K H t M) (s : Same H H') : DrawnAt K H' t M := by
  obtain ⟨la, lf, lg, ps, h1, h2, h3, h4, h5, h6⟩ := h
  exact ⟨la, lf, lg, ps, s _ _ h1, s _ _ h2, h3.same s, h4, s _ _ h5, s _ _ h6⟩
end Onp
set_option autoImplicit false
/-! for laws without machines -/
namespace Onp
open PySem PySem.Spec PyProof.Rows L2
structure FnM (K : PySem.W.Frag) (mg : Str → Option Value) (f : Addr) (fd : FuncData) (x : Str) (st : Stmt) (ps : List Str) : Prop where
  F : Fun K x x st f fd
  b : Binds K fd ps []
  g : mg x = some (.ref f)
end Onp
set_option maxHeartbeats 8000000
set_option autoImplicit false
namespace Onp
open PySem PySem.Spec PyProof.Rows L2
abbrev sDeed : Stmt := topS 17
abbrev sLett : Stmt := topS 18
theorem join_signs : ∀ cs : List Nat, Str.join (Sx []) (cs.map fun c => Sx [c]) = Sx cs
  | [] => rfl
  | [c] => rfl
  | c :: d :: r => by
    show Sx [c] ++ Sx [] ++ Str.join (Sx []) ((d :: r).map fun c => Sx [c]) = _
    rw [join_signs (d :: r), sx_app, sx_app]
    rfl
theorem sum_ones : ∀ cs : List Nat, ((cs.map fun c => Sx [c]).map (·.length)).sum = cs.length
  | [] => rfl
  | c :: r => by
    have h := sum_ones r
    rw [List.map_cons, List.map_cons, List.sum_cons, h, List.length_cons, sx_len]
    simp only [List.length_cons, List.length_nil]
    omega
theorem signs_map (cs : List Nat) : signsV cs = (cs.map fun c => Sx [c]).map V.str := by
  unfold signsV
  rw [List.map_map]
  rfl

section
variable {P : Program} {w : World} {K : PySem.W.Frag} {mg : Str → Option Value} {base : Heap}
/-! ### one sign of a text -/
def spOfS : Sp := fun vs H Q _ => ∃ (g : Bid) (ls : List Nat), vs = [.ref g.b, .str (Sx ls)] ∧ Bg H g ∧ 0 < ls.length ∧ ls.length < 1000 ∧ ∀ c H', c ∈ ls → Keep g.b H H' → Bg H' g → Q (.str (Sx [c])) H'
theorem ok_ofS {f fP : Addr} {fd fdP : FuncData} {k : Nat} (F : Fun K "_law_of" "_law_of" sOf f fd) (FP : Fun K "_law_pull" "_law_pull" sPull fP fdP) (bP : Binds K fdP ["_law_bag_here", "_law_many"] []) (gP : mg "_law_pull" = some (.ref fP)) (ml : mg "len" = none) : FnOk P w K mg base CX0 (k + 2) f fd ["_law_bag_here", "_law_some"] spOfS := by
  have GP : FnOk P w K mg base CX0 (k + 1) fP fdP ["_law_bag_here", "_law_many"] (spPull K) := ok_pull FP ml
  refine F.ok scOf (fun vs H Q E h => ?_) (fun cdv A outer s H vs Q E hr h => ?_)
  · obtain ⟨g, ls, rfl, _⟩ := h
    rfl
  · obtain ⟨b, ls, rfl, B, h0, hlen, q⟩ := h
    refine ⟨_, pss_one (ps_ret (pe_ix ix_str (pv 1) (pe_call GP hr (by rfl) gP FP.kp bP .nil pass0 (pa_cons (pv 0) (pa_cons (pe_callB call_len_str (by rfl) ml PySem.boot_len (pa_cons (pv 1) pa_nil)) pa_nil))) (fun _ _ => rfl))), ?_⟩
    have hz : (Sx ls).length ≤ sizeLine := by
      rw [sx_len]
      exact Nat.le_trans (Nat.le_of_lt hlen) (by decide)
    refine ⟨_, rfl, _, rfl, _, rfl, Sx ls, rfl, hz, b, _, rfl, ?_, ?_, B, fun z H' z0 z1 kp B' => ?_⟩
    · rw [sx_len]
      omega
    · rw [sx_len]
      exact Nat.lt_trans (show ((ls.length : Nat) : Int).natAbs < 2 ^ 64 by omega) (by decide)
    · rw [sx_len] at z1
      have e : z = ((z.toNat : Nat) : Int) := by omega
      have hz1 : z.toNat < ls.length := by omega
      rw [e]
      refine ⟨Sx ls, z.toNat, ls[z.toNat], rfl, rfl, hz, ?_, q _ _ (List.getElem_mem hz1) kp B'⟩
      rw [sx_cps]
      exact atI_nat (List.getElem?_eq_getElem hz1)

/-! ### _law_deed -/
def tenD : List Str := ["keep", "cent", "fill", "coin", "brim", "keep", "cent", "cent", "coin", "fill"]
theorem tenD_in : ∀ d ∈ tenD, d ∈ deedsL := by decide +kernel
theorem scDeed : FnScope ["_law_bag_here"] ["_law_bag_here"] (defScope sDeed) := ⟨rfl, rfl, rfl, by decide +kernel, rfl, by decide +kernel, by decide +kernel⟩
def spDeed : Sp := fun vs H Q _ => ∃ g : Bid, vs = [.ref g.b] ∧ Bg H g ∧ ∀ d H', d ∈ deedsL → Keep g.b H H' → Bg H' g → Q (.str d) H'
theorem ok_deed {f fO fP : Addr} {fd fdO fdP : FuncData} {k : Nat} (F : Fun K "_law_deed" "_law_deed" sDeed f fd) (O : FnM K mg fO fdO "_law_of" sOf ["_law_bag_here", "_law_some"]) (Pu : FnM K mg fP fdP "_law_pull" sPull ["_law_bag_here", "_law_many"]) (ml : mg "len" = none) : FnOk P w K mg base CX0 (k + 3) f fd ["_law_bag_here"] spDeed := by
  have GO : FnOk P w K mg base CX0 (k + 2) fO fdO ["_law_bag_here", "_law_some"] (spOf K) := ok_of O.F Pu.F Pu.b Pu.g ml
  refine F.ok scDeed (fun vs H Q E h => ?_) (fun cdv A outer s H vs Q E hr h => ?_)
  · obtain ⟨g, rfl, _⟩ := h
    rfl
  · obtain ⟨g, rfl, B, q⟩ := h
    refine ⟨_, pss_one (ps_ret (pe_call GO hr (by rfl) O.g O.F.kp O.b .nil pass0 (pa_cons (pv 0) (pa_cons (pe_lst (pa_cons pe_str (pa_cons pe_str (pa_cons pe_str (pa_cons pe_str (pa_cons pe_str (pa_cons pe_str (pa_cons pe_str (pa_cons pe_str (pa_cons pe_str (pa_cons pe_str pa_nil))))))))))) pa_nil)))), ?_⟩
    refine ⟨_, rfl, (by decide : 10 ≤ sizeLine), fun p np => ?_⟩
    have s1 := same_upd (o := .lst (tenD.map V.str)) np
    refine ⟨g, p, tenD.map V.str, rfl, B.same s1, B.ne np, SqL.of upd_same, by decide, by decide, fun v H' hv k' B' => ?_⟩
    obtain ⟨d, hd, rfl⟩ := List.mem_map.mp hv
    exact q d H' (tenD_in d hd) ((Keep.of s1).trans k') B'
/-! ### _law_letters -/
def NLe : List Str := ["_law_bag_here", "_law_most", "_law_alphabet", "_law_first", "_law_by", "_law_k"]
theorem scLett : FnScope NLe ["_law_bag_here", "_law_most"] (defScope sLett) := ⟨rfl, rfl, rfl, by decide +kernel, rfl, by decide +kernel, by decide +kernel⟩
def spLett : Sp := fun vs H Q _ => ∃ (g : Bid) (m : Int), vs = [.ref g.b, .int m] ∧ 1 ≤ m ∧ m ≤ 3 ∧ Bg H g ∧ ∀ (ls : List Nat) H', letB ls = true → (ls.length : Int) ≤ m → (∀ c ∈ ls.take 2, c < 122) → Keep g.b H H' → Bg H' g → Q (.str (Sx ls)) H'
def lrow (x y n : Nat) : List Nat := (List.range n).map fun k => 97 + x + y * k
theorem small_code : ∀ j : Fin 26, smallL[j.val]? = some (97 + j.val) := by decide
theorem small_mem : ∀ j : Fin 26, 97 + j.val ∈ smallL := by decide
theorem lrow_ok {x y n : Nat} (hx : x < 20) (hy1 : 1 ≤ y) (hy : y ≤ 3) (h1 : 1 ≤ n) (h3 : n ≤ 3) : letB (lrow x y n) = true := by
  have hs : ∀ k, k < 3 → decide (97 + x + y * k ∈ smallL) = true := fun k hk => by
    have hyk : y * k ≤ 3 * 2 := Nat.mul_le_mul hy (by omega)
    have := small_mem ⟨x + y * k, by omega⟩
    exact decide_eq_true (by rw [Nat.add_assoc]; exact this)
  have e0 := hs 0 (by decide)
  have e1 := hs 1 (by decide)
  have e2 := hs 2 (by decide)
  have r1 : decide (97 + x + y * 0 < 97 + x + y * 1) = true := decide_eq_true (by omega)
  have r2 : decide (97 + x + y * 1 < 97 + x + y * 2) = true := decide_eq_true (by omega)
  have h : n = 1 ∨ n = 2 ∨ n = 3 := by omega
  unfold letB risB smaB
  rcases h with rfl | rfl | rfl
  · show (true && ((decide (97 + x + y * 0 ∈ smallL) && true) && _)) = true
    rw [e0]
    rfl
  · show ((decide (97 + x + y * 0 < 97 + x + y * 1) && true) && ((decide (97 + x + y * 0 ∈ smallL) && (decide (97 + x + y * 1 ∈ smallL) && true)) && _)) = true
    rw [r1, e0, e1]
    rfl
  · show ((decide (97 + x + y * 0 < 97 + x + y * 1) && (decide (97 + x + y * 1 < 97 + x + y * 2) && true)) && ((decide (97 + x + y * 0 ∈ smallL) && (decide (97 + x + y * 1 ∈ smallL) && (decide (97 + x + y * 2 ∈ smallL) && true))) && _)) = true
    rw [r1, r2, e0, e1, e2]
    rfl
theorem lrow_low {x y n : Nat} (hx : x < 20) (hy : y ≤ 3) : ∀ c ∈ (lrow x y n).take 2, c < 122 := by
  intro c hc
  unfold lrow at hc
  rw [← List.map_take] at hc
  obtain ⟨k, hk, rfl⟩ := List.mem_map.mp hc
  rw [List.take_range] at hk
  have hk2 : k < 2 := by
    have := List.mem_range.mp hk
    omega
  have : y * k ≤ 3 * 1 := Nat.mul_le_mul hy (by omega)
  show 97 + x + y * k < 122
  omega
theorem ok_lett {f fP : Addr} {fd fdP : FuncData} {k : Nat} (F : Fun K "_law_letters" "_law_letters" sLett f fd) (Pu : FnM K mg fP fdP "_law_pull" sPull ["_law_bag_here", "_law_many"]) (ml : mg "len" = none) (mr : mg "range" = none) : FnOk P w K mg base CX0 (k + 2) f fd ["_law_bag_here", "_law_most"] spLett := by
  have GP : FnOk P w K mg base CX0 (k + 1) fP fdP ["_law_bag_here", "_law_many"] (spPull K) := ok_pull Pu.F ml
  refine F.ok scLett (fun vs H Q E h => ?_) (fun cdv A outer s H vs Q E hr h => ?_)
  · obtain ⟨g, m, rfl, _⟩ := h
    rfl
  · obtain ⟨g, m, rfl, m1, m2, B, q⟩ := h
    refine ⟨_, pss_cons (ps_set (i := 2) scLett.nd rfl (.inr rfl) pe_str)
      (pss_cons (ps_asg (pe_tup (pa_cons (pe_call GP hr (by rfl) Pu.g Pu.F.kp Pu.b .nil pass0 (pa_cons (pv 0) (pa_cons pe_int pa_nil))) (pa_cons (pe_op op_add pe_int (pe_call GP hr (by rfl) Pu.g Pu.F.kp Pu.b .nil pass0 (pa_cons (pv 0) (pa_cons pe_int pa_nil)))) pa_nil))) (pg_tup rfl (pgs_cons (pg_name (i := 3) scLett.nd rfl (.inr rfl)) (pgs_cons (pg_name (i := 4) scLett.nd rfl (.inr rfl)) pgs_nil))))
      (pss_one (ps_ret (pe_join pe_str (pe_lc (own := [("_law_k", 5)]) (g := gName 5) (tt := tYes) (te := tOp rIxS (tVar 2) (tOp (rI0 fun i j => .int (i + j)) (tVar 3) (tOp (rI CMul fun i j => .int (i * j)) (tVar 4) (tVar 5)))) rfl scLett.nd
        (pi_range1 (by rfl) mr (pa_cons (pe_op op_add pe_int (pe_call GP hr (by rfl) Pu.g Pu.F.kp Pu.b .nil pass0 (pa_cons (pv 0) (pa_cons (pv 1) pa_nil)))) pa_nil)) (blkOk_by (own := [("_law_k", 5)]) (N := NLe) (sc := defScope sLett) (by decide +kernel))
        (fun _ _ _ _ _ => pg_name (i := 5) scLett.nd rfl (Or.inl rfl)) (fun _ _ _ _ _ => pts_nil) (fun _ _ _ _ _ => pe_ix ix_str (pv 2) (pe_op op_add (pv 3) (pe_op op_mul (pv 4) (pv 5))) (fun _ _ => rfl))))))), ?_⟩
    refine ⟨_, rfl, g, 20, rfl, by decide, by decide, B, fun x H1 x0 x1 k1 B1 => ?_⟩
    refine ⟨_, rfl, g, 3, rfl, by decide, by decide, B1, fun y H2 y0 y1 k2 B2 => ?_⟩
    refine ⟨_, _, rfl, rfl, (by decide : 2 ≤ sizeLine), fun p np => ?_⟩
    have s3 := same_upd (o := .tup [.int x, .int (1 + y)]) np
    refine ⟨p, _, rfl, SqT.of upd_same, rfl, _, _, rfl, _, _, rfl, rfl, ?_⟩
    have B3 := B2.same s3
    generalize upd H2 p (.tup [.int x, .int (1 + y)]) = H3 at s3 B3
    refine ⟨⟨_, rfl⟩, _, rfl, _, rfl, g, m, rfl, by omega, Nat.lt_trans (show m.natAbs < 2 ^ 64 by omega) (by decide), B3, fun z H4 z0 z1 k4 B4 => ?_⟩
    obtain ⟨xn, rfl⟩ : ∃ xn : Nat, x = (xn : Int) := ⟨x.toNat, by omega⟩
    obtain ⟨yn, ey⟩ : ∃ yn : Nat, 1 + y = (yn : Int) := ⟨(1 + y).toNat, by omega⟩
    obtain ⟨zn, ez⟩ : ∃ zn : Nat, 1 + z = (zn : Int) := ⟨(1 + z).toNat, by omega⟩
    refine ⟨_, _, rfl, rfl, 1 + z, rfl, by omega, by omega, fun D nD => ?_⟩
    rw [show (1 + z).toNat = zn by omega]
    refine lc_range (lo := 0) (n := zn) (fun i H' => H' D = some (.lst (signsV (lrow xn yn i))) ∧ Same H4 H') ⟨upd_same, same_upd nD⟩ (fun j H' hj ⟨hD, sm⟩ => ?_) (fun H5 ⟨hD, sm⟩ => ?_)
    · refine ⟨rfl, ?_⟩
      unfold tYes
      dsimp only
      rw [if_pos rfl]
      have hyj : yn * j ≤ 3 * 2 := Nat.mul_le_mul (by omega) (by omega)
      have eix : (xn : Int) + (1 + y) * (0 + (j : Int)) = ((xn + yn * j : Nat) : Int) := by
        rw [ey, Int.zero_add, ← Int.natCast_mul, ← Int.natCast_add]
      have hc := small_code ⟨xn + yn * j, by omega⟩
      refine ⟨_, rfl, _, rfl, _, rfl, _, rfl, _, _, rfl, rfl, .inl ⟨by omega, by omega⟩, _, _, rfl, rfl, Sx smallL, ((xn + yn * j : Nat) : Int), 97 + (xn + yn * j), by rw [small_eq], congrArg V.int eix, ?_, ?_, ?_⟩
      · rw [sx_len]
        decide
      · rw [sx_cps]
        exact atI_nat hc
      · refine ⟨_, hD, ?_, ?_, fun b o hb => ?_⟩
        · unfold signsV lrow
          rw [List.length_map, List.length_map, List.length_range]
          exact small1000 (by omega)
        · rw [upd_same]
          unfold signsV lrow
          rw [List.range_succ, List.map_append, List.map_append, ← Nat.add_assoc]
          rfl
        · rw [upd_ne (ne_of_none hb nD)]
          exact sm b o hb
    · have hll : (lrow xn yn zn).length = zn := by
        unfold lrow
        rw [List.length_map, List.length_range]
      refine ⟨Sx [], D, (lrow xn yn zn).map fun c => Sx [c], by rw [em_eq], rfl, .inl (SqL.of (by rw [hD, signs_map])), ?_, ?_⟩
      · rw [sum_ones, sx_len, List.length_nil, Nat.mul_zero, hll]
        omega
      · rw [TL.join_eq, join_signs]
        refine q _ H5 (lrow_ok (by omega) (by omega) (by omega) (by omega) (by omega)) (by rw [hll]; omega) (lrow_low (by omega) (by omega)) ?_ (B4.same sm)
        exact ((k1.trans k2).trans (Keep.of s3)).trans (k4.trans (Keep.of sm))
end
end Onp
set_option maxHeartbeats 4000000
set_option autoImplicit false
namespace Onp
open PySem PySem.Spec PyProof.Rows L2 HotX L2H LamX
/-! ### a lambda with one parameter, which has a whole number as its default and isn't used -/
abbrev dOb (q : Str) (ar : Arguments) (e : Expr) (sc : Scope) (cl : List (Str × Addr)) (T : Addr) (dc pm : Value) (c' : Addr) (ct : Value) : Obj := PySem.W.kdv_obj "<lambda>" q ar (.expr e) sc cl (.ref T) dc pm c' ct
structure LamD (sc scope : Scope) (x : Str) : Prop where
  kind : scope.kind = .function
  co : scope.isCoroutine = false
  gen : scope.isGenerator = false
  own : ∀ y ∈ scope.names, y.2 ≠ .cell ∧ (y.2 = .local → y.1 = x)
  par : scope.names.lookup x = some .local
  free : ∀ y ∈ scope.names, y.2 = .free → sc.names.lookup y.1 = some .cell ∨ sc.names.lookup y.1 = some .free
  non : ∀ y ∈ scope.names, y.1 ≠ ("" : Str)
def lamDB (sc scope : Scope) (x : Str) : Bool :=
  decide (scope.kind = .function) && !scope.isCoroutine && !scope.isGenerator && decide (scope.names.lookup x = some .local) &&
    scope.names.all fun y => !decide (y.2 = .cell) && (!decide (y.2 = .local) || decide (y.1 = x)) && !decide (y.1 = ("" : Str)) && (!decide (y.2 = .free) || decide (sc.names.lookup y.1 = some .cell) || decide (sc.names.lookup y.1 = some .free))
theorem lamD_by {sc scope : Scope} {x : Str} (h : lamDB sc scope x = true) : LamD sc scope x := by
  unfold lamDB at h
  simp only [Bool.and_eq_true, Bool.or_eq_true, Bool.not_eq_true', decide_eq_true_eq, decide_eq_false_iff_not, List.all_eq_true] at h
  obtain ⟨⟨⟨⟨h1, h2⟩, h3⟩, h5⟩, h4⟩ := h
  refine ⟨h1, h2, h3, fun y hy => ⟨(h4 y hy).1.1.1, fun z => ?_⟩, h5, fun y hy e => ?_, fun y hy => (h4 y hy).1.2⟩
  · exact (h4 y hy).1.1.2.elim (fun q => absurd z q) id
  · exact (h4 y hy).2.elim (fun q => q.elim (fun q => absurd e q) .inl) .inr
theorem LamD.has {X : Cx} {scope : Scope} {x : Str} (L : LamD X.env.scope scope x) (ok : X.Ok) : ∀ y ∈ scope.names, y.2 = .free → ∃ c, X.env.cells.lookup y.1 = some c := fun y hy e =>
  (L.free y hy e).elim (fun k => ok.has _ (.inl k)) (fun k => ok.has _ (.inr k))
def mask (x y : Str) : Str := if y = x then "" else y
def lamCxD (X : Cx) (A : Around) (outer : List Env) (s : Shared) (H : Hp) (E : XK) (scope : Scope) (f c' : Addr) (x : Str) : Cx := { lamCxN X A outer s H E scope f c' with N := X.N.map (mask x) }
section
variable {X : Cx} {pins : List (Addr × Obj)} {σ : L2.St} {H : Hp} {s : Shared}
theorem lam_makeD {T : List (Addr × Str)} {c P : Addr} {ar : Arguments} {body : Expr} {sc : Scope} {pos p0 : Pos} {z : Int} {u0 : Nat} {Er : Value → Shared → Prop} {Qv : Value → Shared → Prop} (I : Inv X pins σ H s) (TB : TabB X.base X.mg c P) (hcode : X.env.code = .ref c)
    (hm : (P, X.env.qual ++ "<lambda>") ∈ T) (hu : ∀ p ∈ T, p.1 = P → p.2 = X.env.qual ++ "<lambda>") (hT : Tabs T H) (hd1 : ar.defaults = [.Constant (.int z) u0 p0]) (hd2 : ar.kw_defaults = []) (hfree : ∀ y ∈ sc.names, y.2 = .free → ∃ c, X.env.cells.lookup y.1 = some c)
    (h : ∀ (f c' t : Addr) (dc pm ct : Value) (H1 : Hp) (s' : Shared), Inv X pins σ H1 s' → ExtN H H1 → Tabs T H1 → s'.heap.get? f = some (dOb (X.env.qual ++ "<lambda>") ar body sc (cloFrom X.env.cells sc.names []) t dc pm c' ct) →
      H1 f = none → f ∉ frs X.stack → H1 c' = some (CodeO c' (X.env.qual ++ "<lambda>")) → H1 t = some (.tup [.int z]) → Qv (.ref f) s') :
    wpAny (model X.prog X.w) X.A (eval (.Lambda ar body sc pos) X.env) Qv Er s := by
  refine PySem.W.kdv_lam (by rw [hd1]; rfl) hd2 ?_
  rw [hd1]
  refine PySem.W.kdv_all1 (wpAny_Constant_int (PySem.W.kdv_all0 ?_))
  have I1 := I.tok (s.toks + 1)
  have r1 : RelV (.int z) (.int z s.toks) := ⟨_, rfl⟩
  generalize (Value.int z s.toks) = uv at r1
  generalize ({ s with toks := s.toks + 1 } : Shared) = s1 at I1
  rw [makeFunction_eq]
  simp only [List.zip_nil_right, List.filterMap_nil, List.isEmpty_nil, if_true, pure_bind, List.isEmpty_cons, Bool.false_eq_true, if_false]
  refine wpAny_bind (wpAny_newTextTuple ?_)
  have nT : H s1.heap.objs.size = none := I1.hok.fresh (Nat.le_refl _)
  have I2 : Inv X pins σ (upd H s1.heap.objs.size (.tup [.int z])) { s1 with heap := s1.heap.push { cls := .type "tuple", data := .seq [uv].toArray } } :=
    I1.laid (t' := s1.toks) (fun b u e => Heap.get?_push_of_some _ e) (Nat.le_refl _) ⟨(by decide : 1 ≤ sizeLine), [uv], .cons r1 .nil, ⟨_, Heap.get?_push_size _ rfl, rfl, _, rfl⟩⟩
  have hT2 : Tabs T (upd H s1.heap.objs.size (.tup [.int z])) := hT.ext fun b o e => by
    rw [upd_ne (ne_of_none e nT)]
    exact e
  have e2 : ExtN H (upd H s1.heap.objs.size (.tup [.int z])) := ExtN.of fun b o e => by
    rw [upd_ne (ne_of_none e nT)]
    exact e
  have hTt : (upd H s1.heap.objs.size (.tup [.int z])) s1.heap.objs.size = some (.tup [.int z]) := upd_same
  generalize upd H s1.heap.objs.size (.tup [.int z]) = H2 at I2 hT2 e2 hTt
  generalize s1.heap.objs.size = t at hTt
  generalize ({ s1 with heap := s1.heap.push { cls := .type "tuple", data := .seq [uv].toArray } } : Shared) = s2 at I2
  obtain ⟨ps, hP, ht, ha⟩ := hT2 _ hm
  have bP : s2.heap.BuiltinsAt X.mg P := TB.bm.keeps I2.bk
  have hP' : s2.heap.get? P = some { cls := .none, data := .fields ps } := I2.hok P _ hP
  have nofr : ∀ f, s2.heap.objs.size ≤ f → f ∉ frs X.stack := fun f hf w => by
    rcases List.mem_cons.mp (I2.stkSub _ w) with e | e
    · have q := I2.lt
      rw [← e] at q
      exact absurd (Nat.lt_of_lt_of_le q hf) (Nat.lt_irrefl f)
    · exact I2.nofs hf e
  cases hc : codeAmong pos ps.toList with
  | none =>
    refine PySem.W.kdv_makeTail (mg := X.mg) (c := c) (P := P) (ps := ps) (dV := .ref t) (closure_ok hfree) I2.ok.glob (I2.mod.glob.keeps I2.bk) hcode (TB.code.keeps I2.bk) hP' ht hc TB.gP bP fun c' ct dc h' tk hx hge hlt hrec htb => ?_
    obtain ⟨c2, oc, vs, tq, e3, hoc, hd, hv⟩ := hrec
    cases e3
    have hsz : s2.heap.objs.size ≤ h'.objs.size := by omega
    have nC : H2 c' = none := I2.hok.fresh hge
    have J := inv_table (t' := tk) (more := #[rawInt pos.line, rawInt pos.col, .ref c']) (h' := h'.push (dOb (X.env.qual ++ "<lambda>") ar body sc (cloFrom X.env.cells sc.names []) t dc ((X.mg "__name__").getD .none) c' ct)) I2 hP
      (fun b o hb e => Heap.get?_push_of_some _ (hx b o hb e)) (Heap.get?_push_of_some _ htb) hge ⟨oc, vs, tq, Heap.get?_push_of_some _ hoc, hd, hv⟩
    have hE : ExtN H2 (upd (upd H2 P (.tbl (ps ++ #[rawInt pos.line, rawInt pos.col, .ref c']))) c' (CodeO c' (X.env.qual ++ "<lambda>"))) := fun b o e n => by
      rw [upd_ne (ne_of_none e nC), upd_ne (fun w => n ps (Option.some.inj (e.symm.trans (by rw [w]; exact hP))))]
      exact e
    have eL : (ps ++ #[rawInt pos.line, rawInt pos.col, .ref c']).toList = ps.toList ++ [rawInt pos.line, rawInt pos.col, .ref c'] := by simp
    refine h h'.objs.size c' t dc ((X.mg "__name__").getD .none) ct _ _ J (e2.trans hE) (fun p hp => ?_) (Heap.get?_push_size _ rfl) ?_ (nofr _ hsz) upd_same (hE _ _ hTt fun ps w => by cases w)
    · by_cases hb : p.1 = P
      · rw [hu p hp hb, hb]
        refine ⟨_, by rw [upd_ne (ne_of_none hP nC), upd_same], by rw [eL]; exact PySem.TriplesOk_snoc _ _ _ _ ht, fun p' cv hcv => ?_⟩
        rw [eL] at hcv
        rcases among_app _ ht hcv with w | w
        · obtain ⟨c0, q1, q2⟩ := ha p' cv w
          exact ⟨c0, q1, hE _ _ q2 codeO_ne⟩
        · exact ⟨c', w, upd_same⟩
      · obtain ⟨ps', a1, a2, a3⟩ := hT2 p hp
        refine ⟨ps', by rw [upd_ne (ne_of_none a1 nC), upd_ne hb]; exact a1, a2, fun p' cv hcv => ?_⟩
        obtain ⟨c0, q1, q2⟩ := a3 p' cv hcv
        exact ⟨c0, q1, hE _ _ q2 codeO_ne⟩
    · have n1 : h'.objs.size ≠ c' := by omega
      have n2 : h'.objs.size ≠ P := by
        exact Nat.ne_of_gt (Nat.lt_of_lt_of_le (Heap.lt_size hP') (by omega))
      rw [upd_ne n1, upd_ne n2]
      exact I2.hok.fresh hsz
  | some cv =>
    obtain ⟨c', e, hco⟩ := ha pos cv hc
    subst e
    refine PySem.W.kdv_makeTailHit (mg := X.mg) (c := c) (P := P) (ps := ps) (dV := .ref t) (closure_ok hfree) I2.ok.glob (I2.mod.glob.keeps I2.bk) hcode (TB.code.keeps I2.bk) hP' ht hc bP fun ct dc h' tk hx hsz => ?_
    have J : Inv X pins σ H2 { s2 with heap := h'.push (dOb (X.env.qual ++ "<lambda>") ar body sc (cloFrom X.env.cells sc.names []) t dc ((X.mg "__name__").getD .none) c' ct), toks := tk } := I2.kept fun b o e => Heap.get?_push_of_some _ (hx b o e)
    exact h h'.objs.size c' t dc ((X.mg "__name__").getD .none) ct H2 _ J e2 hT2 (Heap.get?_push_size _ rfl) (I2.hok.fresh hsz) (nofr _ hsz) hco hTt
theorem lam_startD {HZ : Hp} {s1 : Shared} {A : Around} {outer : List Env} {E : XK} {sc : Scope} {f c' : Addr} {x : Str} {uz : Value} {j : Heap} {tk : Nat} (I : Inv X pins σ H s) (L : LamD X.env.scope sc x) (e0 : Env0 X.prog X.w X.K X.mg X.base A outer s1 HZ) (hd : A.handled = none)
    (un : Un (frs X.stack) [] H HZ s.heap s1.heap) (hns : j.Ns s1.heap.objs.size fun y => ([(x, uz)] : List (Str × Value)).reverse.lookup y) (kp : ∀ b o, s1.heap.get? b = some o → j.get? b = some o) : Inv (lamCxD X A outer s1 HZ E sc f c' x) [] σ HZ { s1 with heap := j, toks := tk } := by
  have hfree := L.has I.ok
  have cm : ∀ {y c}, (cloFrom X.env.cells sc.names []).lookup y = some c → X.env.cells.lookup y = some c := fun {y c} e => by
    rcases cloFrom_mem (PySem.mem_of_lookup e) with q | ⟨q1, q2⟩
    · cases q
    · obtain ⟨c1, hc⟩ := hfree _ q1 rfl
      have hc : X.env.cells.lookup y = some c1 := hc
      rw [hc] at q2
      rw [q2]
      exact hc
  have look : ∀ {y}, sc.names.lookup y = some .free → ∃ c, (cloFrom X.env.cells sc.names []).lookup y = some c := fun {y} q => mem_lookup (cloFrom_has (cells := X.env.cells) (acc := []) (PySem.mem_of_lookup q))
  have cellK : ∀ {c : Addr} {v : Option Value}, H c = none → s.heap.IsCell c v → j.IsCell c v := fun {c v} n ⟨o, ho, hd⟩ => by
    obtain ⟨sl, q⟩ := un.any ho n (by simp)
    exact ⟨_, kp _ _ q, hd⟩
  have noA : ∀ b : Addr, b ∉ (lamCxD X A outer s1 HZ E sc f c' x).ex := fun b w => nomatch (show b ∈ ([] : List Addr) from w)
  refine ⟨⟨e0.mod, L.kind, rfl, rfl, Nat.le_refl _, fun y w c e1 e2 => I.ok.inj y w c (cm e1) (cm e2), fun y hy => ?_, fun y c w _ => ?_, fun _ => hd, Around.frames_deeper e0.frames, .inr ⟨rfl, rfl⟩, fun b w => absurd w (noA b), e0.bs, e0.bsz, fun b _ _ => noA b,
      fun b w => absurd w (noA b), e0.funs, e0.frf⟩, rfl, e0.bare, Un.kept kp, ⟨_, hns, fun i y v e1 e2 e3 => ?_⟩, fun y c e => ?_, e0.hok.fresh (Nat.le_refl _), fun y c e => ?_, fun q hq => (nomatch (show q ∈ ([] : List (Addr × Obj)) from hq)), e0.hok.kept kp, ?_⟩
  · have hy : sc.names.lookup y = some .cell ∨ sc.names.lookup y = some .free := hy
    rcases hy with hy | hy
    · exact absurd rfl (L.own _ (PySem.mem_of_lookup hy)).1
    · exact look hy
  · exact absurd (show false = true from w) (by decide)
  · have e1 : (X.N.map (mask x))[i]? = some y := e1
    rw [List.getElem?_map] at e1
    obtain ⟨y0, ey, em⟩ := Option.map_eq_some_iff.mp e1
    have e3 : Vis sc y := e3
    by_cases hx : y0 = x
    · have ym : y = "" := by
        rw [← em]
        unfold mask
        rw [if_pos hx]
      rcases e3 with k | k | k <;> exact absurd ym (L.non _ (PySem.mem_of_lookup k))
    · have ym : y0 = y := by
        rw [← em]
        unfold mask
        rw [if_neg hx]
      subst ym
      rcases e3 with k | k | k
      · exact absurd ((L.own _ (PySem.mem_of_lookup k)).2 rfl) hx
      · exact absurd rfl (L.own _ (PySem.mem_of_lookup k)).1
      · obtain ⟨m, hn, hl⟩ := I.loc
        have hf := L.free _ (PySem.mem_of_lookup k) rfl
        have hvis : Vis X.env.scope y0 := hf.elim (fun k => .inr (.inl k)) (fun k => .inr (.inr k))
        obtain ⟨u', r, q⟩ := hl i y0 v ey e2 hvis
        obtain ⟨c2, h2⟩ := look k
        refine ⟨u', r, .inr ⟨.inr k, c2, h2, ?_⟩⟩
        have c1 := cm h2
        rcases q with ⟨k', _⟩ | ⟨_, c3, e', w⟩
        · have k' : X.env.scope.names.lookup y0 = some .local := k'
          rcases hf with k2 | k2 <;> rw [show X.env.scope.names.lookup y0 = _ from k2] at k' <;> cases k'
        · rw [c1] at e'
          cases e'
          exact cellK (I.freeC y0 _ c1) w
  · obtain ⟨u', w⟩ := I.cell y c (cm e)
    exact ⟨u', cellK (I.freeC y c (cm e)) w⟩
  · obtain ⟨v, o, ho, hd⟩ := I.cell y c (cm e)
    exact un.free c o ho (I.freeC y c (cm e)) (by simp)
  · show σ.length = (X.N.map (mask x)).length
    rw [List.length_map]
    exact I.len
/-- how a default is bound -/
def BindD (ar : Arguments) (body : Expr) (sc : Scope) (x : Str) : Prop := ∀ (q : Str) (cl : List (Str × Addr)) (T : Addr) (dc pm cv ct : Value), ∃ k, bindArgs (PySem.W.kdv_fn "<lambda>" q ar (.expr body) sc cl (.ref T) dc pm cv ct) ⟨[], []⟩ = seqItems? (.ref T) >>= k ∧ ∀ u, k (some #[u]) = pure [(x, u)]
theorem pe_actD {CXg : CXT} {Eg : XK} {Ng : List Str} {qg : Str} {sg : Scope} {g f c' t : Addr} {cdg dc pm ct : Value} {ar : Arguments} {body : Expr} {sc : Scope} {k i : Nat} {a x : Str} {z : Int} {pn : List (Addr × Obj)} {xe : Value → Shared → Prop} {W : WX} {E : XK} {tb : TE} {p1 p2 : Pos}
    (I : Inv X pins σ H s) (L : LamD X.env.scope sc x) (hf : s.heap.get? f = some (dOb (X.env.qual ++ "<lambda>") ar body sc (cloFrom X.env.cells sc.names []) t dc pm c' ct)) (hfn : H f = none) (hfr : f ∉ frs X.stack) (hbind : BindD ar body sc x)
    (tk : L2N.Takes ((cxOf CXg X.prog X.w X.K X.mg X.base Ng qg sg g cdg X.A X.stack s H Eg).tr pn xe) W) (hW : ∀ cls d σ' H', E cls d H' → W cls d σ' H') (hr : Room (k + 1) (X.A.deeper (envOfC qg sg s.heap.objs.size g cdg)))
    (hbody : ∀ (A : Around) (outer : List Env) (s : Shared) (H : Hp), Room k (A.deeper (lamEnv X sc s.heap.objs.size f c')) → PE (lamCxD X A outer s H E sc f c' x) body tb)
    (hN : Ng[i]? = some a) (hv : Vis sg a) (hd : (a == ("__debug__" : Str)) = false) (hcd : (a == ("__classdict__" : Str)) = false) :
    PE ((cxOf CXg X.prog X.w X.K X.mg X.base Ng qg sg g cdg X.A X.stack s H Eg).tr pn xe) (.Call (.Name a p1) [] [] p2) (fun σZ HZ Q => σZ[i]? = some (some (.ref f)) ∧ HZ c' = some (CodeO c' (X.env.qual ++ "<lambda>")) ∧ HZ t = some (.tup [.int z]) ∧ tb σ HZ Q) := by
  refine ⟨fun pinsZ sZ σZ HZ Q IZ ⟨hs, hc, hz, ht⟩ => ?_⟩
  refine wpAny_Call_Name_kw (thn ((pe_var (pos := p1) (i := i) hN hv hd hcd).run pinsZ sZ σZ HZ (fun v H1 => v = .ref f ∧ H1 = HZ) IZ ⟨.ref f, hs, rfl, rfl⟩) fun u s1 ⟨v, H1, I1, r1, ev, eH⟩ => ?_)
  subst ev
  rw [eH] at I1
  obtain rfl : u = Value.ref f := r1
  have of1 := I1.base.keep f _ hf hfn hfr (fun w => nomatch (show f ∈ ([] : List Addr) from w))
  refine PySem.W.callWith_F0 ⟨_, _, _, _, of1⟩ ?_
  obtain ⟨⟨oc, vs, tq, hoc, hdc, hvc⟩, _, _⟩ := I1.hok c' _ hc
  obtain ⟨_, us, rz, ⟨ot, hot, hcl, n, hdt⟩⟩ := I1.hok t _ hz
  obtain ⟨uz, rfl⟩ : ∃ uz, us = [uz] := by
    cases rz with
    | cons r1 r2 =>
      cases r2
      exact ⟨_, rfl⟩
  obtain ⟨kb, b1, b2⟩ := hbind (X.env.qual ++ "<lambda>") (cloFrom X.env.cells sc.names []) t dc pm (.ref c') ct
  have rc : codeAny (model X.prog X.w) (X.A.deeper (envOfC qg sg s.heap.objs.size g cdg)) (.call (.ref f) ⟨[], []⟩) (CR (L2N.CX X.prog X.w) (envOfC qg sg s.heap.objs.size g cdg :: X.stack) X.prog X.w HZ s1 Q E) s1 := by
    refine PySem.W.kla_callFunE hr.depth of1 rfl L.co L.gen rfl ⟨c', oc, vs, tq, rfl, hoc, hdc, hvc⟩ (BindsTo.of_defaults (T := t) rfl hot hdt b1 (b2 uz) _ _ _ _ ?_)
    refine wpAny_newFunctionEnv (fun y hy => (L.own y hy).1) (fun y hy => ?_) (fun j hns hsb => ⟨I1.nolimit.fresh _ hsb, ?_⟩) L.kind
    · rw [List.mem_singleton.mp hy]
      exact L.par
    show codeAny _ _ (.expr body (lamEnv X sc s1.heap.objs.size f c')) _ _
    have kp : ∀ b o, s1.heap.get? b = some o → j.get? b = some o := fun b o e => hsb.extBut b o (Nat.ne_of_lt (Heap.lt_size e)) (Heap.get?_push_of_some _ e)
    have J : Inv (lamCxD X (X.A.deeper (envOfC qg sg s.heap.objs.size g cdg)) (envOfC qg sg s.heap.objs.size g cdg :: X.stack) s1 HZ E sc f c' x) [] σ HZ { s1 with heap := j, toks := s1.toks + ([(x, uz)] : List (Str × Value)).length } := lam_startD I L I1.env0 hr.hd I1.base hns kp
    refine PySem.W.kla_codeExpr (wpAny_mono ((hbody _ _ s1 HZ (hr.deeper _)).run [] _ _ HZ Q J ht) (fun v s' hq => ?_) fun e s' hq => hq)
    obtain ⟨w', H', J', rv, q⟩ := hq
    exact ⟨w', H', J'.os, J'.bare, J'.base, J'.hok, rv, q⟩
  have hx := L2N.passes_call tk hW
  refine wpAny_call (codeAny_mono rc fun r s' hq => ?_)
  rcases r with e | fl
  · exact hx pinsZ σZ HZ s1 e s' I1 hq
  · cases fl with
    | ret u => exact I1.after hq
    | next => exact False.elim hq
    | brk => exact False.elim hq
    | cont => exact False.elim hq
/-- what the def makes of the lambda may also be told that a fact of the heap holds -/
def Adds (TT : (XK → Hp → VK → Prop) → Hp → VK → Prop) : Prop := ∀ (c : Hp → Prop) (tl : XK → Hp → VK → Prop) (H : Hp) (Q : VK), c H → TT tl H Q → TT (fun E H' Q' => c H' ∧ tl E H' Q') H Q
theorem pe_lamD {T : List (Addr × Str)} {TT : (XK → Hp → VK → Prop) → Hp → VK → Prop} {x a y : Str} {g c P : Addr} {k : Nat} {pg : Arguments} {bg : List Stmt} {sg : Scope} {dV kV doc pm cdv ct oc : Value} {an od : Option Addr} {osl : Array (Option Value)} {Ng : List Str}
    {ar : Arguments} {body : Expr} {sc : Scope} {t : XK → TE} {z : Int} {u0 : Nat} {p p0 lpos pos : Pos} (hg : Gl X x) (hm : X.mg x = some (.ref g)) (hk : PySem.W.keepIn X.K (.ref g) = true) (lk : X.K.lookup g = some ⟨oc, od, .func (PySem.W.fnOf x x pg bg sg dV kV doc pm an cdv ct), osl⟩)
    (hcg : PySem.W.codeIn X.K cdv x = true) (hb : L2.Binds X.K (PySem.W.fnOf x x pg bg sg dV kV doc pm an cdv ct) [a] []) (Sg : FnScope Ng [a] sg) (hNg : Ng[0]? = some a) (hva : Vis sg a) (hG : GivesN X k Ng x sg g cdv bg a (X.env.qual ++ "<lambda>") TT) (hA : Adds TT)
    (TB : TabB X.base X.mg c P) (hcode : X.env.code = .ref c) (hmT : (P, X.env.qual ++ "<lambda>") ∈ T) (hu : ∀ p ∈ T, p.1 = P → p.2 = X.env.qual ++ "<lambda>") (hr : Room (k + 2) X.A) (L : LamD X.env.scope sc y) (hd1 : ar.defaults = [.Constant (.int z) u0 p0]) (hd2 : ar.kw_defaults = []) (hbind : BindD ar body sc y)
    (hbody : ∀ (A : Around) (outer : List Env) (s : Shared) (H : Hp) (E : XK) (f c' : Addr), Room k (A.deeper (lamEnv X sc s.heap.objs.size f c')) → PE (lamCxD X A outer s H E sc f c' y) body (t E))
    (hdb : (x == ("__debug__" : Str)) = false := by decide) (hd : (a == ("__debug__" : Str)) = false := by decide) (hcd : (a == ("__classdict__" : Str)) = false := by decide) : PE X (.Call (.Name x p) [.Lambda ar body sc lpos] [] pos) (tLam T TT t) := by
  refine ⟨fun pins s σ H Q I ⟨hT, h⟩ => wpAny_Call_Name_kw (ld_glob I hg hm ?_ hdb)⟩
  refine PySem.W.callWith_K (h₀ := X.base) I.ok.mod.kin hk ?_ (by rfl) (by rfl)
  show wpAny _ _ (spliced ((false, eval (.Lambda ar body sc lpos) X.env) :: backTo pos (starEach [] X.env))) _ _ s
  refine Calls.spliced_cons (lam_makeD I TB hcode hmT hu hT hd1 hd2 (L.has I.ok) fun f c' tt dc pm' ctv H1 s' I1 eN T1 hf hfn hfr hco htt => Calls.spliced_nil ⟨I1.kIn, ?_⟩)
  have rc : codeAny (model X.prog X.w) X.A (.call (.ref g) ⟨[.ref f], []⟩) (CR CX0 X.stack X.prog X.w H1 s' Q E0) s' := by
    refine run_ofS (N := Ng) (ps := [a]) (us := [.ref f]) (vs := [.ref f]) lk hcg Sg hr I1.env0 (hb s' [.ref f] I1.kIn rfl) (.cons rfl .nil) rfl fun hr' => ?_
    obtain ⟨t', ht', hq'⟩ := hG f c' s' H1 Q (fun E H' Q' => H' tt = some (.tup [.int z]) ∧ t E σ H' Q') hr' (fun W pn xe E p1 p2 tk hW => pe_actD (i := 0) I1 L hf hfn hfr hbind tk hW hr' (fun A outer s H hr2 => hbody A outer s H E f c' hr2) hNg hva hd hcd) hco (hA _ _ _ _ htt (h H1 eN T1))
    exact ⟨t', ht'.nox, hq'⟩
  refine wpAny_call (codeAny_mono rc fun r s2 hq => ?_)
  rcases r with e | fl
  · exact (show False from hq).elim
  · cases fl with
    | ret u => exact I1.after hq
    | next => exact False.elim hq
    | brk => exact False.elim hq
    | cont => exact False.elim hq
end
end Onp
set_option maxHeartbeats 4000000
set_option autoImplicit false
namespace Onp
open PySem PySem.Spec PyProof.Rows L2 HotX L2H LamX
/-! ### a lambda with one parameter and no captured names, handed as the fourth thing to a def that calls it -/
structure Lam1 (scope : Scope) (x : Str) : Prop where
  kind : scope.kind = .function
  co : scope.isCoroutine = false
  gen : scope.isGenerator = false
  own : ∀ y ∈ scope.names, y.2 ≠ .cell ∧ y.2 ≠ .free ∧ (y.2 = .local → y.1 = x)
  par : scope.names.lookup x = some .local
def lam1B (scope : Scope) (x : Str) : Bool :=
  decide (scope.kind = .function) && !scope.isCoroutine && !scope.isGenerator && decide (scope.names.lookup x = some .local) && scope.names.all fun y => !decide (y.2 = .cell) && !decide (y.2 = .free) && (!decide (y.2 = .local) || decide (y.1 = x))
theorem lam1_by {scope : Scope} {x : Str} (h : lam1B scope x = true) : Lam1 scope x := by
  unfold lam1B at h
  simp only [Bool.and_eq_true, Bool.or_eq_true, Bool.not_eq_true', decide_eq_true_eq, decide_eq_false_iff_not, List.all_eq_true] at h
  obtain ⟨⟨⟨⟨h1, h2⟩, h3⟩, h5⟩, h4⟩ := h
  exact ⟨h1, h2, h3, fun y hy => ⟨(h4 y hy).1.1, (h4 y hy).1.2, fun z => (h4 y hy).2.elim (fun q => absurd z q) id⟩, h5⟩
def lamCx1 (X : Cx) (A : Around) (outer : List Env) (s : Shared) (H : Hp) (scope : Scope) (f c' : Addr) (x : Str) : Cx :=
  { lamCx X A outer s H (fun _ _ _ => False) scope f c' with N := [x], xe := fun e s' => wpAny (model X.prog X.w) (A.deeper (lamEnv X scope s.heap.objs.size f c')) (leaving (lamEnv X scope s.heap.objs.size f c') e) (fun _ _ => False) (fun _ _ => False) s' }
section
variable {X : Cx} {pins : List (Addr × Obj)} {σ : L2.St} {H : Hp} {s : Shared}
theorem lam_start1 {HZ : Hp} {s1 : Shared} {A : Around} {outer : List Env} {sc : Scope} {f c' : Addr} {x : Str} {v : V} {uz : Value} {j : Heap} {tk : Nat} (L : Lam1 sc x) (e0 : Env0 X.prog X.w X.K X.mg X.base A outer s1 HZ) (hd : A.handled = none)
    (rv : RelV v uz) (hns : j.Ns s1.heap.objs.size fun y => ([(x, uz)] : List (Str × Value)).reverse.lookup y) (kp : ∀ b o, s1.heap.get? b = some o → j.get? b = some o) : Inv (lamCx1 X A outer s1 HZ sc f c' x) [] [some v] HZ { s1 with heap := j, toks := tk } := by
  have nocell : ∀ {y c}, (cloFrom X.env.cells sc.names []).lookup y = some c → False := fun {y c} e => by
    rcases cloFrom_mem (PySem.mem_of_lookup e) with q | ⟨q1, q2⟩
    · cases q
    · exact (L.own _ q1).2.1 rfl
  have noA : ∀ b : Addr, b ∉ (lamCx1 X A outer s1 HZ sc f c' x).ex := fun b w => nomatch (show b ∈ ([] : List Addr) from w)
  refine ⟨⟨e0.mod, L.kind, rfl, rfl, Nat.le_refl _, fun y w c e1 e2 => (nocell e1).elim, fun y hy => ?_, fun y c w _ => ?_, fun _ => hd, Around.frames_deeper e0.frames, .inr ⟨rfl, rfl⟩, fun b w => absurd w (noA b), e0.bs, e0.bsz, fun b _ _ => noA b,
      fun b w => absurd w (noA b), e0.funs, e0.frf⟩, rfl, e0.bare, Un.kept kp, ⟨_, hns, fun i y u e1 e2 e3 => ?_⟩, fun y c e => (nocell e).elim, e0.hok.fresh (Nat.le_refl _), fun y c e => (nocell e).elim, fun q hq => (nomatch (show q ∈ ([] : List (Addr × Obj)) from hq)), e0.hok.kept kp, rfl⟩
  · have hy : sc.names.lookup y = some .cell ∨ sc.names.lookup y = some .free := hy
    rcases hy with hy | hy
    · exact absurd rfl (L.own _ (PySem.mem_of_lookup hy)).1
    · exact absurd rfl (L.own _ (PySem.mem_of_lookup hy)).2.1
  · exact absurd (show false = true from w) (by decide)
  · have e1 : ([x] : List Str)[i]? = some y := e1
    cases i with
    | zero =>
      obtain rfl : x = y := Option.some.inj e1
      obtain rfl : v = u := Option.some.inj (Option.some.inj e2)
      refine ⟨uz, rv, .inl ⟨L.par, ?_⟩⟩
      show List.lookup x [(x, uz)] = some uz
      rw [List.lookup_cons, beq_self_eq_true]
    | succ i => exact absurd e1 (by simp)
/-- a(e) in the def that was handed the lambda -/
theorem pe_act1 {Ng : List Str} {qg : Str} {sg : Scope} {g f c' : Addr} {cdg pm ct : Value} {ar : Arguments} {body : Expr} {sc : Scope} {k i : Nat} {a x : Str} {tb : V → Hp → VK → Prop} {te : TE} {e : Expr} {p1 p2 : Pos}
    (L : Lam1 sc x) (hf : s.heap.get? f = some (PySem.W.kla_obj "<lambda>" (X.env.qual ++ "<lambda>") ar body sc (cloFrom X.env.cells sc.names []) pm c' ct)) (hfn : H f = none) (hfr : f ∉ frs X.stack)
    (hbind : ∀ u, bindArgs (PySem.W.kla_fn "<lambda>" (X.env.qual ++ "<lambda>") ar body sc (cloFrom X.env.cells sc.names []) pm (.ref c') ct) ⟨[u], []⟩ = pure [(x, u)]) (hr : Room (k + 1) (X.A.deeper (envOfC qg sg s.heap.objs.size g cdg)))
    (hbody : ∀ (A : Around) (outer : List Env) (s : Shared) (H : Hp), PE (lamCx1 X A outer s H sc f c' x) body (fun σ H Q => ∃ v, σ = [some v] ∧ tb v H Q))
    (hN : Ng[i]? = some a) (hv : Vis sg a) (he : PE (cxOf CX0 X.prog X.w X.K X.mg X.base Ng qg sg g cdg X.A X.stack s H E0).nox e te) (hd : (a == ("__debug__" : Str)) = false) (hcd : (a == ("__classdict__" : Str)) = false)
    (hs : ∀ env, starEach [e] env = [(false, eval e env)]) :
    PE (cxOf CX0 X.prog X.w X.K X.mg X.base Ng qg sg g cdg X.A X.stack s H E0).nox (.Call (.Name a p1) [e] [] p2) (fun σZ HZ Q => σZ[i]? = some (some (.ref f)) ∧ te σZ HZ fun v H1 => H1 c' = some (CodeO c' (X.env.qual ++ "<lambda>")) ∧ tb v H1 Q) := by
  refine ⟨fun pinsZ sZ σZ HZ Q IZ ⟨hsl, ht⟩ => ?_⟩
  refine wpAny_Call_Name_kw (thn ((pe_var (pos := p1) (i := i) hN hv hd hcd).run pinsZ sZ σZ HZ (fun v H1 => v = .ref f ∧ H1 = HZ) IZ ⟨.ref f, hsl, rfl, rfl⟩) fun u s1 ⟨v, H1, I1, r1, ev, eH⟩ => ?_)
  subst ev
  rw [eH] at I1
  obtain rfl : u = Value.ref f := r1
  have of1 := I1.base.keep f _ hf hfn hfr (fun w => nomatch (show f ∈ ([] : List Addr) from w))
  refine PySem.W.callWith_F (first := []) ⟨_, _, _, _, of1⟩ ?_ (by rw [hs]; rfl) (by rfl)
  rw [hs]
  refine Calls.spliced_cons (thn (he.run pinsZ s1 σZ HZ _ I1 ht) fun ua s2 ⟨va, H2, I2, rva, hc, hq⟩ => Calls.spliced_nil ?_)
  have of2 := I2.base.keep f _ hf hfn hfr (fun w => nomatch (show f ∈ ([] : List Addr) from w))
  refine ⟨⟨_, _, _, _, of2⟩, ?_⟩
  obtain ⟨⟨oc, vs, tq, hoc, hdc, hvc⟩, _, _⟩ := I2.hok c' _ hc
  have rc : codeAny (model X.prog X.w) (X.A.deeper (envOfC qg sg s.heap.objs.size g cdg)) (.call (.ref f) ⟨[ua], []⟩) (CR CX0 (envOfC qg sg s.heap.objs.size g cdg :: X.stack) X.prog X.w H2 s2 Q E0) s2 := by
    refine PySem.W.kla_callFunE hr.depth of2 rfl L.co L.gen rfl ⟨c', oc, vs, tq, rfl, hoc, hdc, hvc⟩ ?_
    rw [hbind]
    refine wpAny_pure (wpAny_newFunctionEnv (fun y hy => (L.own y hy).1) (fun y hy => ?_) (fun j hns hsb => ⟨I2.nolimit.fresh _ hsb, ?_⟩) L.kind)
    · rw [List.mem_singleton.mp hy]
      exact L.par
    show codeAny _ _ (.expr body (lamEnv X sc s2.heap.objs.size f c')) _ _
    have kp : ∀ b o, s2.heap.get? b = some o → j.get? b = some o := fun b o e => hsb.extBut b o (Nat.ne_of_lt (Heap.lt_size e)) (Heap.get?_push_of_some _ e)
    have J : Inv (lamCx1 X (X.A.deeper (envOfC qg sg s.heap.objs.size g cdg)) (envOfC qg sg s.heap.objs.size g cdg :: X.stack) s2 H2 sc f c' x) [] [some va] H2 { s2 with heap := j, toks := s2.toks + ([(x, ua)] : List (Str × Value)).length } := lam_start1 L I2.env0 hr.hd rva hns kp
    refine PySem.W.kla_codeExpr (wpAny_mono ((hbody _ _ s2 H2).run [] _ _ H2 Q J ⟨va, rfl, hq⟩) (fun v s' hq => ?_) fun e s' hq => wpAny_mono hq (fun _ _ z => z.elim) fun _ _ z => z.elim)
    obtain ⟨w', H', J', rv, q⟩ := hq
    exact ⟨w', H', J'.os, J'.bare, J'.base, J'.hok, rv, q⟩
  refine wpAny_call (codeAny_mono rc fun r s' hq => ?_)
  rcases r with e | fl
  · exact (show False from hq).elim
  · cases fl with
    | ret u => exact I2.after hq
    | next => exact False.elim hq
    | brk => exact False.elim hq
    | cont => exact False.elim hq
/-- the def's promise of a lambda that makes tb of a thing -/
def Gives1 (X : Cx) (k : Nat) (Ng : List Str) (x : Str) (sg : Scope) (g : Addr) (cdg : Value) (bg : List Stmt) (a : Str) (q : Str) (tb : V → Hp → VK → Prop) (sp : V → V → V → Hp → VK → Prop) : Prop :=
  ∀ (f c' : Addr) (s : Shared) (H : Hp) (Q : VK) (v0 v1 v2 : V), Room (k + 1) (X.A.deeper (envOfC x sg s.heap.objs.size g cdg)) →
    (∀ (e : Expr) (te : TE) (p1 p2 : Pos), (∀ env, starEach [e] env = [(false, eval e env)]) → PE (cxOf CX0 X.prog X.w X.K X.mg X.base Ng x sg g cdg X.A X.stack s H E0).nox e te →
      PE (cxOf CX0 X.prog X.w X.K X.mg X.base Ng x sg g cdg X.A X.stack s H E0).nox (.Call (.Name a p1) [e] [] p2) (fun σZ HZ Q => σZ[3]? = some (some (.ref f)) ∧ te σZ HZ fun v H1 => H1 c' = some (CodeO c' q) ∧ tb v H1 Q)) →
    H c' = some (CodeO c' q) → sp v0 v1 v2 H Q →
    ∃ t, PSs (cxOf CX0 X.prog X.w X.K X.mg X.base Ng x sg g cdg X.A X.stack s H E0).nox bg t ∧ t { nx := fun _ H' => Q .non H', rt := Q } (L2.start Ng [v0, v1, v2, .ref f]) H
def tLam1 (T : List (Addr × Str)) (sp : V → V → V → Hp → VK → Prop) (t0 t1 t2 : TE) : TE := fun σ H Q => t0 σ H fun v0 H0 => t1 σ H0 fun v1 H1 => t2 σ H1 fun v2 H2 => Tabs T H2 ∧ ∀ H3, ExtN H2 H3 → Tabs T H3 → sp v0 v1 v2 H3 Q
theorem pe_lam1 {T : List (Addr × Str)} {sp : V → V → V → Hp → VK → Prop} {x a y : Str} {a0 a1 a2 : Str} {g c P : Addr} {k : Nat} {pg : Arguments} {bg : List Stmt} {sg : Scope} {dV kV doc pm cdv ct oc : Value} {an od : Option Addr} {osl : Array (Option Value)} {Ng : List Str}
    {e0 e1 e2 : Expr} {t0 t1 t2 : TE} {ar : Arguments} {body : Expr} {sc : Scope} {tb : V → Hp → VK → Prop} {p lpos pos : Pos} (hg : Gl X x) (hm : X.mg x = some (.ref g)) (hk : PySem.W.keepIn X.K (.ref g) = true) (lk : X.K.lookup g = some ⟨oc, od, .func (PySem.W.fnOf x x pg bg sg dV kV doc pm an cdv ct), osl⟩)
    (hcg : PySem.W.codeIn X.K cdv x = true) (hb : L2.Binds X.K (PySem.W.fnOf x x pg bg sg dV kV doc pm an cdv ct) [a0, a1, a2, a] []) (Sg : FnScope Ng [a0, a1, a2, a] sg) (hNg : Ng[3]? = some a) (hva : Vis sg a) (hG : Gives1 X k Ng x sg g cdv bg a (X.env.qual ++ "<lambda>") tb sp)
    (TB : TabB X.base X.mg c P) (hcode : X.env.code = .ref c) (hmT : (P, X.env.qual ++ "<lambda>") ∈ T) (hu : ∀ p ∈ T, p.1 = P → p.2 = X.env.qual ++ "<lambda>") (hr : Room (k + 2) X.A) (L : Lam1 sc y) (hdef : defaultsOf ar X.env = ([], []))
    (hbind : ∀ (q : Str) (cl : List (Str × Addr)) (pm cv ctv u : Value), bindArgs (PySem.W.kla_fn "<lambda>" q ar body sc cl pm cv ctv) ⟨[u], []⟩ = pure [(y, u)])
    (he0 : PE X e0 t0) (he1 : PE X e1 t1) (he2 : PE X e2 t2) (hbody : ∀ (A : Around) (outer : List Env) (s : Shared) (H : Hp) (f c' : Addr), PE (lamCx1 X A outer s H sc f c' y) body (fun σ H Q => ∃ v, σ = [some v] ∧ tb v H Q))
    (hs : ∀ env, starEach [e0, e1, e2, .Lambda ar body sc lpos] env = [(false, eval e0 env), (false, eval e1 env), (false, eval e2 env), (false, eval (.Lambda ar body sc lpos) env)])
    (hs2 : ∀ env, starEach [e1, e2, .Lambda ar body sc lpos] env = [(false, eval e1 env), (false, eval e2 env), (false, eval (.Lambda ar body sc lpos) env)])
    (hdb : (x == ("__debug__" : Str)) = false := by decide) (hd : (a == ("__debug__" : Str)) = false := by decide) (hcd : (a == ("__classdict__" : Str)) = false := by decide) : PE X (.Call (.Name x p) [e0, e1, e2, .Lambda ar body sc lpos] [] pos) (tLam1 T sp t0 t1 t2) := by
  refine ⟨fun pins s σ H Q I h => wpAny_Call_Name_kw (ld_glob I hg hm ?_ hdb)⟩
  refine PySem.W.callWith_K (h₀ := X.base) I.ok.mod.kin hk ?_ (by rw [hs, hs2]) (by rw [hs2]; rfl)
  rw [hs]
  have nof : ∀ y ∈ sc.names, y.2 = .free → ∃ c, X.env.cells.lookup y.1 = some c := fun y hy e => absurd e (L.own y hy).2.1
  refine Calls.spliced_cons (thn (he0.run pins s σ H _ I h) fun u0 s0 ⟨v0, H0, I0, r0, h0⟩ => ?_)
  refine Calls.spliced_cons (thn (he1.run pins s0 σ H0 _ I0 h0) fun u1 s1 ⟨v1, H1, I1, r1, h1⟩ => ?_)
  refine Calls.spliced_cons (thn (he2.run pins s1 σ H1 _ I1 h1) fun u2 s2 ⟨v2, H2, I2, r2, hT, h2⟩ => ?_)
  refine Calls.spliced_cons (lam_make2 I2 TB hcode hmT hu hT hdef nof fun f c' pm' ctv H3 s' I3 eN T3 hf hfn hfr hco => Calls.spliced_nil ⟨I3.kIn, ?_⟩)
  have rc : codeAny (model X.prog X.w) X.A (.call (.ref g) ⟨[u0, u1, u2, .ref f], []⟩) (CR CX0 X.stack X.prog X.w H3 s' Q E0) s' := by
    refine run_ofS (N := Ng) (ps := [a0, a1, a2, a]) (us := [u0, u1, u2, .ref f]) (vs := [v0, v1, v2, .ref f]) lk hcg Sg hr I3.env0 (hb s' [u0, u1, u2, .ref f] I3.kIn rfl) (.cons r0 (.cons r1 (.cons r2 (.cons rfl .nil)))) rfl fun hr' => ?_
    obtain ⟨t', ht', hq'⟩ := hG f c' s' H3 Q v0 v1 v2 hr' (fun e te p1 p2 hs he => pe_act1 (i := 3) L hf hfn hfr (hbind _ _ _ _ _) hr' (fun A outer s H => hbody A outer s H f c') hNg hva he hd hcd hs) hco (h2 H3 eN T3)
    exact ⟨t', ht'.nox, hq'⟩
  refine wpAny_call (codeAny_mono rc fun r s2 hq => ?_)
  rcases r with e | fl
  · exact (show False from hq).elim
  · cases fl with
    | ret u => exact I3.after hq
    | next => exact False.elim hq
    | brk => exact False.elim hq
    | cont => exact False.elim hq
end
end Onp
set_option maxHeartbeats 4000000
set_option autoImplicit false
namespace Onp
open PySem PySem.Spec PyProof.Rows L2 HotX L2H LamX
/-! ### a refusal with the field most -/
def mostL (wd : Str) (v : V) : List (Str × V) := [("most", v), ("word", .str wd)]
def spMost (C : Addr) (wd : Str) : Sp := fun vs H Q _ => ∃ a v, vs = [.ref a, v] ∧ H a = some (exo a C none) ∧ ∀ dx, H dx = none → dx ≠ a → Q .non (upd (upd H dx (exd dx (mostL wd v))) a (exo a C (some dx)))
theorem upd_swap {H : Hp} {a d : Addr} {o1 o2 o3 : HO} (n : d ≠ a) : upd (upd (upd H d o1) a o2) d o3 = upd (upd H d o3) a o2 := by
  funext b
  by_cases e1 : b = d
  · rw [e1, upd_same, upd_ne n, upd_same]
  · rw [upd_ne e1]
    by_cases e2 : b = a
    · rw [e2, upd_same, upd_same]
    · rw [upd_ne e2, upd_ne e1, upd_ne e2, upd_ne e1]
/-- what is raised: a class, its fields -/
def refuse (C : Addr) (fs : List (Str × V)) (H : Hp) (E : XK) : Prop := ∀ d, H d = none → E (.ref C) (some d) (upd H d (.xd fs))
def tRaiseM (C : Addr) (wd : Str) (te : TE) : L2.St → Hp → XK → Prop := fun σ H Q => te σ H fun v H1 => refuse C (mostL wd v) H1 Q
theorem pmk_most {X : Cx} {x wd : Str} {C fI : Addr} {k : Nat} {fd : FuncData} {e : Expr} {te : TE} {p pos : Pos} (T : OexC X.K C) (iC : PySem.W.findIn X.K (.ref C) "__init__" = some (some (.ref fI))) (tI : PySem.W.typeIn X.K (.ref fI) = some (.type "function"))
    (F1 : FnOk X.prog X.w X.K X.mg X.base CX0 k fI fd ["self", "most"] (spMost C wd)) (hr : Room (k + 1) X.A) (hb : Binds X.K fd ["self", "most"] []) (hg : Gl X x) (hm : X.mg x = some (.ref C)) (he : PE X e te) (hs : starEach [e] X.env = [(false, eval e X.env)] := by rfl) (hdb : (x == ("__debug__" : Str)) = false := by decide) :
    L2N.PMk X (.Call (.Name x p) [e] [] pos) (tRaiseM C wd te) := by
  intro pins s σ H Q I h
  refine wpAny_Call_Name_kw (ld_glob I hg hm ?_ hdb)
  refine PySem.W.callWith_K (h₀ := X.base) I.ok.mod.kin T.kC ?_ (by rw [hs]; rfl) (by rfl)
  rw [hs]
  refine Calls.spliced_cons (thn (he.run pins s σ H _ I h) fun u s1 ⟨v, H1, I1, r1, h1⟩ => Calls.spliced_nil ⟨I1.kIn, ?_⟩)
  refine mkRunN T iC tI F1 hr hb I1 (.cons r1 .nil) (by decide : 1 ≤ 1000) fun a ha => ⟨a, v, rfl, upd_same, fun dx ndx ne => ⟨rfl, dx, mostL wd v, upd_same, ?_, ?_, ?_⟩⟩
  · rw [upd_ne ne, upd_same]
  · rw [upd_ne ne] at ndx
    exact ndx
  · rw [upd_ne ne] at ndx
    rw [made_heap ha ndx ne]
    exact h1 dx ndx
end Onp
set_option autoImplicit false
namespace L2
open PySem PySem.Spec PyProof.Rows
section
variable {X : Cx}
/-- a statement, then the rest, with a word between them -/
def tCutM (t u : TS) : TS := fun D σ H => ∃ Mid : L2.St → Hp → Prop, t { D with nx := Mid } σ H ∧ ∀ σ' H', Mid σ' H' → u D σ' H'
theorem pss_cutM {st : Stmt} {rest : List Stmt} {t u : TS} (h1 : PS X st t) (h2 : PSs X rest u) : PSs X (st :: rest) (tCutM t u) := by
  refine ⟨fun pins s σ H D I h => ?_⟩
  obtain ⟨Mid, hm, hu⟩ := h
  refine wpAny_execs_cons (thn (h1.run pins s σ H { D with nx := Mid } I hm) fun f s1 q => ?_)
  cases f with
  | next =>
    obtain ⟨σ', H', I', q⟩ := q
    exact h2.run pins s1 σ' H' D I' (hu σ' H' q)
  | ret v => exact q
  | brk => exact q
  | cont => exact q
end
end L2
set_option maxHeartbeats 8000000
set_option autoImplicit false
/-! trees, levels -/
namespace Onp
open PySem PySem.Spec PyProof.Rows L2 HotX L2H LamX
abbrev sJoin : Stmt := topS 7
abbrev sLev : Stmt := topS 8
abbrev sLevI : Stmt := inClass sLev 0
abbrev sLevP : Stmt := inClass sLev 1
abbrev sLevW : Stmt := inClass sLev 2
abbrev sLevN : Stmt := inClass sLev 3
/-! ### trees -/
inductive Tr
  | no
  | lt (z d : Str)
  | one (k : Str) (t : Tr)
  | two (k : Str) (a b : Tr)
/-- a tree stands at a -/
inductive TrAt (H : Hp) : Addr → Tr → Prop
  | no {a : Addr} (h : H a = some (.tup [.str "nothing"])) : TrAt H a .no
  | lt {a : Addr} {z d : Str} (h : H a = some (.tup [.str "letter", .str z, .str d])) : TrAt H a (.lt z d)
  | one {a b : Addr} {k : Str} {t : Tr} (h : H a = some (.tup [.str k, .ref b])) (x : TrAt H b t) : TrAt H a (.one k t)
  | two {a b c : Addr} {k : Str} {t u : Tr} (h : H a = some (.tup [.str k, .ref b, .ref c])) (x : TrAt H b t) (y : TrAt H c u) : TrAt H a (.two k t u)
/-- tuples stay -/
def TK (H H' : Hp) : Prop := ∀ a xs, H a = some (.tup xs) → H' a = some (.tup xs)
theorem TK.refl (H : Hp) : TK H H := fun _ _ h => h
theorem TK.trans {H H' H'' : Hp} (h : TK H H') (g : TK H' H'') : TK H H'' := fun a xs e => g a xs (h a xs e)
theorem TK.of {H H' : Hp} (s : Same H H') : TK H H' := fun a xs e => s a _ e
theorem TK.put {H : Hp} {D : Addr} {o o' : HO} (h : H D = some o) (ht : ∀ xs, o ≠ .tup xs) : TK H (upd H D o') := fun a xs e => by
  rw [upd_ne (fun z => by rw [z, h] at e; exact ht xs (Option.some.inj e))]
  exact e
theorem TrAt.tk {H H' : Hp} {a : Addr} {t : Tr} (h : TrAt H a t) (k : TK H H') : TrAt H' a t := by
  induction h with
  | no h => exact .no (k _ _ h)
  | lt h => exact .lt (k _ _ h)
  | one h _ ih => exact .one (k _ _ h) ih
  | two h _ _ i1 i2 => exact .two (k _ _ h) i1 i2
/-- a tree or none -/
def OTr (H : Hp) (v : V) : Option Tr → Prop
  | none => v = .non
  | some t => ∃ a, v = .ref a ∧ TrAt H a t
theorem OTr.tk {H H' : Hp} {v : V} {t : Option Tr} (h : OTr H v t) (k : TK H H') : OTr H' v t := by
  cases t with
  | none => exact h
  | some t =>
    obtain ⟨a, e, x⟩ := h
    exact ⟨a, e, x.tk k⟩
def jn (k : Str) : Option Tr → Tr → Tr
  | none, t => t
  | some a, t => .two k a t
/-! ### levels -/
structure Lv where
  e : Option Tr
  r : Option Tr
  l : Option Tr
def lv0 : Lv := ⟨none, none, none⟩
def Lv.put (L : Lv) (t : Tr) : Lv := ⟨L.e, match L.l with
  | none => L.r
  | some x => some (jn "row" L.r x), some t⟩
def Lv.whole (L : Lv) (t : Tr) : Tr := jn "either" L.e (jn "row" L.r t)
def lvF (ve vr vl : V) : List (Str × V) := [("either", ve), ("row", vr), ("last", vl)]
/-- a level stands at p -/
def LvAt (C : Addr) (H : Hp) (p : Addr) (L : Lv) : Prop := ∃ dx ve vr vl, H p = some (.ins C dx (lvF ve vr vl)) ∧ OTr H ve L.e ∧ OTr H vr L.r ∧ OTr H vl L.l
theorem LvAt.tk {C : Addr} {H H' : Hp} {p : Addr} {L : Lv} (h : LvAt C H p L) (k : TK H H') (e : H' p = H p) : LvAt C H' p L := by
  obtain ⟨dx, ve, vr, vl, h1, h2, h3, h4⟩ := h
  exact ⟨dx, ve, vr, vl, e.trans h1, h2.tk k, h3.tk k, h4.tk k⟩
theorem LvAt.same {C : Addr} {H H' : Hp} {p : Addr} {L : Lv} (h : LvAt C H p L) (s : Same H H') : LvAt C H' p L := by
  obtain ⟨dx, ve, vr, vl, h1, h2, h3, h4⟩ := h
  exact ⟨dx, ve, vr, vl, s _ _ h1, h2.tk (.of s), h3.tk (.of s), h4.tk (.of s)⟩
structure ClsLv (K : PySem.W.Frag) (C : Addr) : Prop where
  cl : Cls K C
  n1 : NoAttr K C "either"
  n2 : NoAttr K C "row"
  n3 : NoAttr K C "last"
section
variable {P : Program} {w : World} {K : PySem.W.Frag} {mg : Str → Option Value} {base : Heap}
/-! ### joined -/
def spJoin : Sp := fun vs H Q _ => ∃ (k : Str) (v : V) (a : Addr) (o : Option Tr) (t : Tr), vs = [.str k, v, .ref a] ∧ OTr H v o ∧ TrAt H a t ∧ ∀ b H', Same H H' → TrAt H' b (jn k o t) → Q (.ref b) H'
theorem scJoin : FnScope ["kind", "one", "other"] ["kind", "one", "other"] (defScope sJoin) := ⟨rfl, rfl, rfl, by decide +kernel, rfl, by decide +kernel, by decide +kernel⟩
theorem ok_join {f : Addr} {fd : FuncData} {k : Nat} (F : Fun K "joined" "joined" sJoin f fd) : FnOk P w K mg base CX0 (k + 1) f fd ["kind", "one", "other"] spJoin := by
  refine F.ok scJoin (fun vs H Q E h => ?_) (fun cdv A outer s H vs Q E hr h => ?_)
  · obtain ⟨k, v, a, o, t, rfl, _⟩ := h
    rfl
  · obtain ⟨k, v, a, o, t, rfl, ho, ht, q⟩ := h
    refine ⟨_, pss_one (ps_ret (pe_ifExp (pt_cmpR op_isN1 (pv 1) pe_non (nomark _)) (pv 2) (pe_tup (pa_cons (pv 0) (pa_cons (pv 1) (pa_cons (pv 2) pa_nil)))))), ?_⟩
    refine ⟨_, rfl, ?_⟩
    cases o with
    | none =>
      obtain rfl := ho
      refine ⟨rfl, _, rfl, ?_⟩
      rw [decide_eq_true (rfl : V.non = V.non)]
      exact iteT ⟨_, rfl, q a H (Same.refl _) ht⟩
    | some o =>
      obtain ⟨b, rfl, hb⟩ := ho
      refine ⟨rfl, _, rfl, ?_⟩
      rw [decide_eq_false (show ¬ V.ref b = V.non from fun z => nomatch z)]
      refine iteF ⟨_, rfl, _, rfl, _, rfl, (by decide : 3 ≤ sizeLine), fun p np => ?_⟩
      have sp := same_upd (o := .tup [.str k, .ref b, .ref a]) np
      exact q p _ sp (.two upd_same (hb.tk (.of sp)) (ht.tk (.of sp)))
/-! ### Level.__init__ -/
theorem scLevI : FnScope ["self"] ["self"] (defScope sLevI) := ⟨rfl, rfl, rfl, by decide +kernel, rfl, by decide +kernel, by decide +kernel⟩
def spLevI (C : Addr) : Sp := fun vs H Q _ => ∃ (x dx : Addr), vs = [.ref x] ∧ H x = some (.ins C dx []) ∧ ∀ H', (∀ a, a ≠ x → H' a = H a) → H' x = some (.ins C dx (lvF .non .non .non)) → Q .non H'
theorem ok_levI {f C : Addr} {fd : FuncData} {k : Nat} (F : Fun K "__init__" "Level.__init__" sLevI f fd) (T : ClsLv K C) : FnOk P w K mg base CX0 (k + 1) f fd ["self"] (spLevI C) := by
  refine F.ok scLevI (fun vs H Q E h => ?_) (fun cdv A outer s H vs Q E hr h => ?_)
  · obtain ⟨x, dx, rfl, _⟩ := h
    rfl
  · obtain ⟨x, dx, rfl, hx, q⟩ := h
    refine ⟨_, pss_cons (ps_fld (pv 0) pe_non rfl) (pss_cons (ps_fld (pv 0) pe_non rfl) (pss_one (ps_fld (pv 0) pe_non rfl))), ?_⟩
    refine ⟨_, rfl, x, C, dx, _, rfl, hx, T.cl, T.n1, (by decide : 0 < 1000), ?_⟩
    refine ⟨_, rfl, x, C, dx, _, rfl, upd_same, T.cl, T.n2, (by decide : 1 < 1000), ?_⟩
    refine ⟨_, rfl, x, C, dx, _, rfl, upd_same, T.cl, T.n3, (by decide : 2 < 1000), ?_⟩
    refine q _ (fun a n => by rw [upd_ne n, upd_ne n, upd_ne n]) ?_
    rw [upd_same]
    rfl
/-! ### Level.whole -/
theorem scLevW : FnScope ["self"] ["self"] (defScope sLevW) := ⟨rfl, rfl, rfl, by decide +kernel, rfl, by decide +kernel, by decide +kernel⟩
def spLevW (C : Addr) : Sp := fun vs H Q _ => ∃ (p : Addr) (L : Lv) (t : Tr), vs = [.ref p] ∧ LvAt C H p L ∧ L.l = some t ∧ ∀ b H', Same H H' → TrAt H' b (L.whole t) → Q (.ref b) H'
theorem ok_levW {f fJ C : Addr} {fd fdJ : FuncData} {k : Nat} (F : Fun K "whole" "Level.whole" sLevW f fd) (T : ClsLv K C) (J : FnM K mg fJ fdJ "joined" sJoin ["kind", "one", "other"]) : FnOk P w K mg base CX0 (k + 2) f fd ["self"] (spLevW C) := by
  have GJ : FnOk P w K mg base CX0 (k + 1) fJ fdJ ["kind", "one", "other"] spJoin := ok_join J.F
  refine F.ok scLevW (fun vs H Q E h => ?_) (fun cdv A outer s H vs Q E hr h => ?_)
  · obtain ⟨p, L, t, rfl, _⟩ := h
    rfl
  · obtain ⟨p, L, t, rfl, hp, hl, q⟩ := h
    refine ⟨_, pss_one (ps_ret (pe_call GJ hr (by rfl) J.g J.F.kp J.b .nil pass0 (pa_cons pe_str (pa_cons (pe_fld (pv 0) rfl) (pa_cons (pe_call GJ hr (by rfl) J.g J.F.kp J.b .nil pass0 (pa_cons pe_str (pa_cons (pe_fld (pv 0) rfl) (pa_cons (pe_fld (pv 0) rfl) pa_nil)))) pa_nil))))), ?_⟩
    obtain ⟨dx, ve, vr, vl, h1, h2, h3, h4⟩ := hp
    rw [hl] at h4
    obtain ⟨a, rfl, ha⟩ := h4
    refine ⟨_, rfl, p, C, dx, _, _, rfl, h1, T.cl, T.n1, rfl, _, rfl, p, C, dx, _, _, rfl, h1, T.cl, T.n2, rfl, _, rfl, p, C, dx, _, _, rfl, h1, T.cl, T.n3, rfl, ?_⟩
    refine ⟨"row", vr, a, L.r, t, rfl, h3, ha, fun b H1 s1 hb => ?_⟩
    exact ⟨"either", ve, b, L.e, jn "row" L.r t, rfl, h2.tk (.of s1), hb, fun c H2 s2 hc => q c H2 (s1.trans s2) hc⟩
/-! ### Level.put -/
/-- what a level's method leaves: all but the level as it was -/
def LvK (p : Addr) (H H' : Hp) : Prop := ∀ a o, a ≠ p → H a = some o → H' a = some o
theorem scLevP : FnScope ["self", "tree"] ["self", "tree"] (defScope sLevP) := ⟨rfl, rfl, rfl, by decide +kernel, rfl, by decide +kernel, by decide +kernel⟩
def spLevP (C : Addr) : Sp := fun vs H Q _ => ∃ (p a : Addr) (L : Lv) (t : Tr), vs = [.ref p, .ref a] ∧ LvAt C H p L ∧ TrAt H a t ∧ ∀ H', LvK p H H' → LvAt C H' p (L.put t) → Q .non H'
theorem LvK.same {p : Addr} {H H' : Hp} (s : Same H H') : LvK p H H' := fun a o _ e => s a o e
theorem LvK.trans {p : Addr} {H H' H'' : Hp} (h : LvK p H H') (g : LvK p H' H'') : LvK p H H'' := fun a o n e => g a o n (h a o n e)
theorem LvK.put {p : Addr} {H : Hp} {o : HO} : LvK p H (upd H p o) := fun a o' n e => by
  rw [upd_ne n]
  exact e
theorem LvK.tk {p C dx : Addr} {fs : List (Str × V)} {H H' : Hp} (k : LvK p H H') (h : H p = some (.ins C dx fs)) : TK H H' := fun a xs e => k a _ (fun z => by rw [z, h] at e; cases e) e
theorem ok_levP {f fJ C : Addr} {fd fdJ : FuncData} {k : Nat} (F : Fun K "put" "Level.put" sLevP f fd) (T : ClsLv K C) (J : FnM K mg fJ fdJ "joined" sJoin ["kind", "one", "other"]) : FnOk P w K mg base CX0 (k + 2) f fd ["self", "tree"] (spLevP C) := by
  have GJ : FnOk P w K mg base CX0 (k + 1) fJ fdJ ["kind", "one", "other"] spJoin := ok_join J.F
  refine F.ok scLevP (fun vs H Q E h => ?_) (fun cdv A outer s H vs Q E hr h => ?_)
  · obtain ⟨p, a, L, t, rfl, _⟩ := h
    rfl
  · obtain ⟨p, a, L, t, rfl, hp, ha, q⟩ := h
    refine ⟨_, pss_cons (ps_if (pt_cmpR op_notN1 (pe_fld (pv 0) rfl) pe_non (nomark _)) (pss_one (ps_fld (pv 0) (pe_call GJ hr (by rfl) J.g J.F.kp J.b .nil pass0 (pa_cons pe_str (pa_cons (pe_fld (pv 0) rfl) (pa_cons (pe_fld (pv 0) rfl) pa_nil)))) rfl)) pss_nil)
      (pss_one (ps_fld (pv 0) (pv 1) rfl)), ?_⟩
    obtain ⟨dx, ve, vr, vl, h1, h2, h3, h4⟩ := hp
    have fin : ∀ (H1 : Hp) (vr' : V) (r' : Option Tr), LvK p H H1 → H1 p = some (.ins C dx (lvF ve vr' vl)) → OTr H1 vr' r' → L.put t = ⟨L.e, r', some t⟩ → Q .non (upd H1 p (.ins C dx (lvF ve vr' (.ref a)))) := fun H1 vr' r' k e o el => by
      have kk : LvK p H (upd H1 p (.ins C dx (lvF ve vr' (.ref a)))) := k.trans .put
      have tk := kk.tk h1
      refine q _ kk ⟨dx, ve, vr', .ref a, upd_same, ?_, ?_, ?_⟩
      · rw [el]
        exact h2.tk tk
      · rw [el]
        exact o.tk (.put e fun _ z => nomatch z)
      · rw [el]
        exact ⟨a, rfl, ha.tk tk⟩
    refine ⟨_, rfl, p, C, dx, _, _, rfl, h1, T.cl, T.n3, rfl, ?_⟩
    have ep : ∀ (vr' x : V), putF "last" x (lvF ve vr' vl) = lvF ve vr' x := fun _ _ => rfl
    have er : ∀ (x : V), putF "row" x (lvF ve vr vl) = lvF ve x vl := fun _ => rfl
    cases el : L.l with
    | none =>
      rw [el] at h4
      obtain rfl := h4
      refine ⟨rfl, _, rfl, ?_⟩
      rw [decide_eq_true (rfl : V.non = V.non)]
      refine iteF ?_
      refine ⟨_, rfl, _, rfl, p, C, dx, _, rfl, h1, T.cl, T.n3, (by decide : 3 < 1000), ?_⟩
      rw [ep]
      exact fin H vr L.r (fun _ _ _ e => e) h1 h3 (by unfold Lv.put; rw [el])
    | some y =>
      rw [el] at h4
      obtain ⟨b, rfl, hb⟩ := h4
      refine ⟨rfl, _, rfl, ?_⟩
      rw [decide_eq_false (show ¬ V.ref b = V.non from fun z => nomatch z)]
      refine iteT ?_
      refine ⟨_, rfl, p, C, dx, _, _, rfl, h1, T.cl, T.n2, rfl, _, rfl, p, C, dx, _, _, rfl, h1, T.cl, T.n3, rfl, "row", vr, b, L.r, y, rfl, h3, hb, fun c H1 s1 hc => ?_⟩
      refine ⟨_, rfl, p, C, dx, _, rfl, s1 _ _ h1, T.cl, T.n2, (by decide : 3 < 1000), ?_⟩
      rw [er]
      have k2 : LvK p H (upd H1 p (.ins C dx (lvF ve (.ref c) (.ref b)))) := (LvK.same s1).trans .put
      refine ⟨_, rfl, _, rfl, p, C, dx, _, rfl, upd_same, T.cl, T.n3, (by decide : 3 < 1000), ?_⟩
      rw [show putF "last" (V.ref a) (lvF ve (.ref c) (.ref b)) = lvF ve (.ref c) (.ref a) from rfl]
      exact fin _ (.ref c) (some (jn "row" L.r y)) k2 upd_same ⟨c, rfl, hc.tk (.put (s1 _ _ h1) fun _ z => nomatch z)⟩ (by unfold Lv.put; rw [el])
/-! ### Level.next_row -/
theorem scLevN : FnScope ["self"] ["self"] (defScope sLevN) := ⟨rfl, rfl, rfl, by decide +kernel, rfl, by decide +kernel, by decide +kernel⟩
def spLevN (C : Addr) : Sp := fun vs H Q _ => ∃ (p : Addr) (L : Lv) (t : Tr), vs = [.ref p] ∧ LvAt C H p L ∧ L.l = some t ∧ ∀ H', LvK p H H' → LvAt C H' p ⟨some (L.whole t), none, none⟩ → Q .non H'
theorem ok_levN {f fW fJ C : Addr} {fd fdW fdJ : FuncData} {k : Nat} (F : Fun K "next_row" "Level.next_row" sLevN f fd) (T : ClsLv K C) (J : FnM K mg fJ fdJ "joined" sJoin ["kind", "one", "other"]) (W : Fun K "whole" "Level.whole" sLevW fW fdW) (bW : Binds K fdW ["self"] []) (mW : Meth K C "whole" fW) : FnOk P w K mg base CX0 (k + 3) f fd ["self"] (spLevN C) := by
  have GW : FnOk P w K mg base CX0 (k + 2) fW fdW ["self"] (spLevW C) := ok_levW W T J
  refine F.ok scLevN (fun vs H Q E h => ?_) (fun cdv A outer s H vs Q E hr h => ?_)
  · obtain ⟨p, L, t, rfl, _⟩ := h
    rfl
  · obtain ⟨p, L, t, rfl, hp, hl, q⟩ := h
    refine ⟨_, pss_cons (ps_fld (pv 0) (pe_meth0 (pv 0) T.cl mW GW hr bW .nil pass0) rfl) (pss_cons (ps_fld (pv 0) pe_non rfl) (pss_one (ps_fld (pv 0) pe_non rfl))), ?_⟩
    obtain ⟨dx, ve, vr, vl, h1, h2, h3, h4⟩ := id hp
    refine ⟨_, rfl, p, dx, _, rfl, h1, rfl, p, L, t, rfl, hp, hl, fun b H1 s1 hb => ?_⟩
    have e1 := s1 _ _ h1
    refine ⟨_, rfl, p, C, dx, _, rfl, e1, T.cl, T.n1, (by decide : 3 < 1000), ?_⟩
    refine ⟨_, rfl, p, C, dx, _, rfl, upd_same, T.cl, T.n2, (by decide : 3 < 1000), ?_⟩
    refine ⟨_, rfl, p, C, dx, _, rfl, upd_same, T.cl, T.n3, (by decide : 3 < 1000), ?_⟩
    have kk : LvK p H1 (upd (upd (upd H1 p (.ins C dx (putF "either" (.ref b) (lvF ve vr vl)))) p (.ins C dx (putF "row" .non (putF "either" (.ref b) (lvF ve vr vl))))) p (.ins C dx (putF "last" .non (putF "row" .non (putF "either" (.ref b) (lvF ve vr vl)))))) := LvK.put.trans (LvK.put.trans .put)
    exact q _ ((LvK.same s1).trans kk) ⟨dx, .ref b, .non, .non, upd_same, ⟨b, rfl, hb.tk (kk.tk e1)⟩, rfl, rfl⟩
end
end Onp
set_option maxHeartbeats 8000000
set_option autoImplicit false
/-! which sign may stand where -/
namespace Onp
open PySem PySem.Spec PyProof.Rows L2 HotX L2H LamX
abbrev sCan : Stmt := topS 9
/-- a written table of signs -/
structure SgD (K : PySem.W.Frag) (w : World) (d : Addr) (f : Nat → Option Str) : Prop where
  kd : ∃ es n, KDict K w d es n
  at_ : ∀ c s, f c = some s → ∃ u, PySem.W.nsIn K d (Sx [c]) = some (some u) ∧ RelV (.str s) u
  no : ∀ c, f c = none → PySem.W.nsIn K d (Sx [c]) = some none
theorem SgD.get {K : PySem.W.Frag} {w : World} {d : Addr} {f : Nat → Option Str} (h : SgD K w d f) (c : Nat) : ∃ r, PySem.W.nsIn K d (Sx [c]) = some r ∧ r.isSome = (f c).isSome := by
  cases e : f c with
  | none => exact ⟨none, h.no c e, rfl⟩
  | some s =>
    obtain ⟨u, hu, _⟩ := h.at_ c s e
    exact ⟨some u, hu, rfl⟩
def dsg : Nat → Option Str
  | 33 => some "cent"
  | 46 => some "fill"
  | 36 => some "coin"
  | 58 => some "brim"
  | _ => none
def ksg : Nat → Option Str
  | 42 => some "many"
  | 63 => some "maybe"
  | _ => none
/-- what the tongue has of the top -/
structure TgM (K : PySem.W.Frag) (mg : Str → Option Value) (w : World) (dD dK : Addr) : Prop where
  small : ∃ t, mg "SMALL_LETTERS" = some (.str "abcdefghijklmnopqrstuvwxyz" t)
  d : mg "DEED_OF_SIGN" = some (.ref dD)
  k : mg "KIND_OF_SIGN" = some (.ref dK)
  D : SgD K w dD dsg
  S : SgD K w dK ksg
def lowA : List Nat → Bool
  | [x] => decide (x ∈ smallL)
  | _ => false
/-- may the sign stand behind these -/
def canT (c : Nat) (ah : List Nat) (top : Lv) (deep : Bool) : Bool :=
  if (dsg c).isSome then lowA ah else if (ksg c).isSome || decide (c = 124) then top.l.isSome
  else if decide (c = 41) then top.l.isSome && deep else decide (c ∈ smallL) || decide (c = 45 ∨ c = 40)
/-- levels stand at l -/
structure LsAt (C : Addr) (H : Hp) (l : Addr) (ps : List (Addr × Lv)) (p : Addr × Lv) : Prop where
  at_ : H l = some (.lst ((ps ++ [p]).map fun x => V.ref x.1))
  all : ∀ x ∈ ps ++ [p], LvAt C H x.1 x.2
  nd : ((ps ++ [p]).map (·.1)).Nodup
theorem LsAt.same {C : Addr} {H H' : Hp} {l : Addr} {ps : List (Addr × Lv)} {p : Addr × Lv} (h : LsAt C H l ps p) (s : Same H H') : LsAt C H' l ps p := ⟨s _ _ h.at_, fun x hx => (h.all x hx).same s, h.nd⟩
theorem LsAt.top {C : Addr} {H : Hp} {l : Addr} {ps : List (Addr × Lv)} {p : Addr × Lv} (h : LsAt C H l ps p) : LvAt C H p.1 p.2 := h.all p (List.mem_append_right _ List.mem_cons_self)
theorem at_last {ps : List (Addr × Lv)} {p : Addr × Lv} : atI ((ps ++ [p]).map fun x => V.ref x.1) (-1) = some (.ref p.1) := by
  unfold atI ixN
  rw [if_neg (by decide), List.length_map, List.length_append, List.length_singleton]
  rw [if_pos (by omega)]
  have e2 : ((-1 : Int) + ((ps.length + 1 : Nat) : Int)).toNat = ps.length := by omega
  rw [e2]
  show ((ps ++ [p]).map fun x => V.ref x.1)[ps.length]? = _
  rw [List.getElem?_map, List.getElem?_append_right (Nat.le_refl _), Nat.sub_self]
  rfl
theorem eqSg (c d : Nat) : decide (V.str (Sx [c]) = V.str (Sx [d])) = decide (c = d) := by
  rw [decide_eq_decide]
  exact ⟨fun z => (List.cons.inj (sx_inj (V.str.inj z))).1, fun z => by rw [z]⟩
theorem cps_sx (xs : List Nat) : (Sx xs).cps.toList = xs := sx_cps xs
section
variable {P : Program} {w : World} {K : PySem.W.Frag} {mg : Str → Option Value} {base : Heap}
theorem scCan : FnScope ["sign", "ahead", "levels"] ["sign", "ahead", "levels"] (defScope sCan) := ⟨rfl, rfl, rfl, by decide +kernel, rfl, by decide +kernel, by decide +kernel⟩
def spCan (C : Addr) : Sp := fun vs H Q _ => ∃ (c : Nat) (ah : List Nat) (l : Addr) (ps : List (Addr × Lv)) (p : Addr × Lv), vs = [.str (Sx [c]), .str (Sx ah), .ref l] ∧ ah.length ≤ 1 ∧ LsAt C H l ps p ∧ Q (.bl (canT c ah p.2 (decide (0 < ps.length)))) H
theorem ok_can {f C dD dK : Addr} {fd : FuncData} {k : Nat} (F : Fun K "can_stand" "can_stand" sCan f fd) (T : ClsLv K C) (G : TgM K mg w dD dK) (ml : mg "len" = none) : FnOk P w K mg base CX0 (k + 1) f fd ["sign", "ahead", "levels"] (spCan C) := by
  obtain ⟨tk, gS⟩ := G.small
  obtain ⟨es1, n1, kD⟩ := G.D.kd
  obtain ⟨es2, n2, kK⟩ := G.S.kd
  refine F.ok scCan (fun vs H Q E h => ?_) (fun cdv A outer s H vs Q E hr h => ?_)
  · obtain ⟨c, ah, l, ps, p, rfl, _⟩ := h
    rfl
  · obtain ⟨c, ah, l, ps, p, rfl, hah, hl, q⟩ := h
    refine ⟨_, pss_cons (ps_if (pt_cmpR (op_in_kd kD) (pv 0) (pe_glob (v := .ref dD) rfl G.d rfl) (by rfl)) (pss_one (ps_ret (pe_and (pe_cmpR op_in_str (pv 1) (pe_glob (v := .str "abcdefghijklmnopqrstuvwxyz") rfl gS ⟨_, rfl⟩) (by rfl)) (pe_one (pe_cmpR op_ne (pv 1) pe_str (nomark _)))))) pss_nil)
      (pss_cons (ps_if (PW.pt (pw_or (pt_cmpR (op_in_kd kK) (pv 0) (pe_glob (v := .ref dK) rfl G.k rfl) (by rfl)) (pw_or1 (pt_cmpR op_eq (pv 0) pe_str (nomark _))))) (pss_one (ps_ret (pe_cmpR op_notN1 (pe_fld (pe_ix ix_list (pv 2) (pe_un un_neg pe_int) (fun _ _ => rfl)) rfl) pe_non (nomark _)))) pss_nil)
      (pss_cons (ps_if (pt_cmpR op_eq (pv 0) pe_str (nomark _)) (pss_one (ps_ret (pe_and (pe_cmpR op_notN1 (pe_fld (pe_ix ix_list (pv 2) (pe_un un_neg pe_int) (fun _ _ => rfl)) rfl) pe_non (nomark _)) (pe_one (pe_cmpR op_gt (pe_callB call_len_seq (by rfl) ml PySem.boot_len (pa_cons (pv 2) pa_nil)) pe_int (nomark _)))))) pss_nil)
      (pss_one (ps_ret (pe_or (pe_cmpR op_inS (pv 0) (pe_glob (v := .str "abcdefghijklmnopqrstuvwxyz") rfl gS ⟨_, rfl⟩) (by rfl)) (pe_one (pe_cmpR op_inS (pv 0) pe_str (by rfl)))))))), ?_⟩
    have eB : ("|" : Str) = Sx [124] := by decide +kernel
    have eP : (")" : Str) = Sx [41] := by decide +kernel
    have eN : ("" : Str) = Sx [] := by decide +kernel
    have eH : ("-(" : Str) = Sx [45, 40] := by decide +kernel
    obtain ⟨r1, hr1, er1⟩ := G.D.get c
    obtain ⟨r2, hr2, er2⟩ := G.S.get c
    obtain ⟨dx, ve, vr, vl, h1, h2, h3, h4⟩ := hl.top
    have isl : ∀ b : Bool, b = p.2.l.isSome → (!decide (vl = V.non)) = b := fun b e => by
      rw [e]
      cases el : p.2.l with
      | none =>
        rw [el] at h4
        rw [show vl = V.non from h4]
        rfl
      | some t =>
        rw [el] at h4
        obtain ⟨a, rfl, _⟩ := h4
        rfl
    refine ⟨_, rfl, Sx [c], r1, rfl, rfl, hr1, _, rfl, ?_⟩
    rw [er1]
    unfold canT at q
    cases ed : (dsg c).isSome with
    | true =>
      rw [ed, if_pos rfl] at q
      refine iteT ⟨_, rfl, Sx ah, _, rfl, rfl, ?_⟩
      have ea : ∀ b : Bool, (lowA ah = (b && !decide (V.str (Sx ah) = V.str ""))) → Q (.bl (b && !decide (V.str (Sx ah) = V.str ""))) H := fun b e => by
        rw [← e]
        exact q
      have e1 : lowA ah = ((!(Builtin.Str.occurrences "abcdefghijklmnopqrstuvwxyz" (Sx ah) 0 ("abcdefghijklmnopqrstuvwxyz" : Str).length 1).isEmpty) && !decide (V.str (Sx ah) = V.str "")) := by
        match ah, hah with
        | [], _ => rw [decide_eq_true (show V.str (Sx []) = V.str "" by rw [eN]), Bool.not_true, Bool.and_false]; rfl
        | [x], _ =>
          rw [decide_eq_false (fun z => by rw [eN] at z; cases sx_inj (V.str.inj z)), Bool.not_false, Bool.and_true, small_eq]
          exact (PySem.StrLaws.found_one (Sx smallL) x).symm
      have e2 := ea _ e1
      generalize (!(Builtin.Str.occurrences "abcdefghijklmnopqrstuvwxyz" (Sx ah) 0 ("abcdefghijklmnopqrstuvwxyz" : Str).length 1).isEmpty) = b at e2 ⊢
      refine ⟨b, rfl, ?_⟩
      cases b with
      | true => exact iteT ⟨_, rfl, rfl, e2⟩
      | false => exact iteF e2
    | false =>
    rw [ed, if_neg Bool.false_ne_true] at q
    refine iteF ?_
    refine ⟨_, rfl, Sx [c], r2, rfl, rfl, hr2, _, rfl, ?_⟩
    rw [er2]
    have hlen : ((ps ++ [p]).map fun x => V.ref x.1).length = ps.length + 1 := by rw [List.length_map, List.length_append]; rfl
    have fin2 : ((ksg c).isSome || decide (c = 124)) = true → Q (.bl (!decide (vl = V.non))) H := fun e => by
      rw [e, if_pos rfl] at q
      rw [isl _ rfl]
      exact q
    cases ek : (ksg c).isSome with
    | true =>
      refine iteT (iteT ⟨_, rfl, 1, rfl, l, _, -1, _, rfl, rfl, SqL.of hl.at_, at_last, p.1, C, dx, _, _, rfl, h1, T.cl, T.n3, rfl, rfl, ?_⟩)
      exact fin2 (by rw [ek]; rfl)
    | false =>
    refine iteF ⟨_, rfl, rfl, _, rfl, ?_⟩
    rw [eB, eqSg]
    by_cases c1 : c = 124
    · refine itT c1 ⟨_, rfl, 1, rfl, l, _, -1, _, rfl, rfl, SqL.of hl.at_, at_last, p.1, C, dx, _, _, rfl, h1, T.cl, T.n3, rfl, rfl, ?_⟩
      exact fin2 (by rw [decide_eq_true c1, Bool.or_true])
    rw [ek, decide_eq_false c1, Bool.false_or, if_neg Bool.false_ne_true] at q
    refine itF c1 ?_
    refine ⟨_, rfl, rfl, _, rfl, ?_⟩
    rw [eP, eqSg]
    by_cases c2 : c = 41
    · rw [decide_eq_true c2, if_pos rfl] at q
      refine itT c2 ⟨_, rfl, 1, rfl, l, _, -1, _, rfl, rfl, SqL.of hl.at_, at_last, p.1, C, dx, _, _, rfl, h1, T.cl, T.n3, rfl, rfl, ?_⟩
      rw [isl _ rfl]
      refine ⟨_, rfl, ?_⟩
      cases eL : p.2.l.isSome with
      | true =>
        rw [eL, Bool.true_and] at q
        refine iteT ⟨_, rfl, l, _, rfl, .inl (SqL.of hl.at_), _, _, rfl, rfl, ?_⟩
        rw [hlen]
        have e : decide ((1 : Int) < ((ps.length + 1 : Nat) : Int)) = decide (0 < ps.length) := by
          rw [decide_eq_decide]
          omega
        rw [← e] at q
        exact q
      | false =>
        rw [eL, Bool.false_and] at q
        exact iteF q
    rw [decide_eq_false c2, if_neg Bool.false_ne_true] at q
    refine itF c2 ?_
    refine ⟨_, rfl, c, _, rfl, rfl, _, rfl, ?_⟩
    rw [small_eq, cps_sx]
    by_cases c3 : c ∈ smallL
    · rw [decide_eq_true c3, Bool.true_or] at q
      exact itT c3 q
    · rw [decide_eq_false c3, Bool.false_or] at q
      refine itF c3 ⟨_, rfl, c, _, rfl, rfl, ?_⟩
      rw [eH, cps_sx]
      have e : decide (c ∈ [45, 40]) = decide (c = 45 ∨ c = 40) := by simp
      rw [e]
      exact q
end
end Onp
set_option maxHeartbeats 8000000
set_option autoImplicit false
/-! a sign is taken -/
namespace Onp
open PySem PySem.Spec PyProof.Rows L2 HotX L2H LamX
abbrev sTake : Stmt := topS 10
/-- d[sign], d a written table of signs -/
def tSg (d : Addr) (f : Nat → Option Str) (td ty : TE) : TE := fun σ H Q => td σ H fun x H1 => ty σ H1 fun y H2 => ∃ c s, x = .ref d ∧ y = .str (Sx [c]) ∧ f c = some s ∧ Q (.str s) H2
theorem pe_sg {X : Cx} {d : Addr} {f : Nat → Option Str} {o i : Expr} {pos : Pos} {td ty : TE} (G : SgD X.K X.w d f) (ho : PE X o td) (hi : PE X i ty) (hs : NoSl i) : PE X (.Subscript o i pos) (tSg d f td ty) := by
  obtain ⟨es, n, kd⟩ := G.kd
  refine ⟨fun pins s σ H Q I h => ?_⟩
  refine subD_of PySem.F.slot_dict_getitem.lookup hs (thn (ho.run pins s σ H _ I h) fun u s1 ⟨x, H1, I1, rx, q1⟩ => thn (hi.run pins s1 σ H1 _ I1 q1) fun iv s2 ⟨y, H2, I2, ry, c, z, ex, ey, e, q2⟩ => ?_)
  subst ex
  obtain rfl : u = Value.ref d := rx
  obtain ⟨u0, e0, r0⟩ := G.at_ c z e
  refine ⟨kd_type kd I2, ?_⟩
  exact op_item_kd kd pins s2 σ H2 (.ref d) y (.ref d) iv Q I2 rfl ry ⟨Sx [c], u0, .str z, rfl, ey, e0, r0, q2⟩
def takeT (c : Nat) (bs : List Lv) (top : Lv) : List Lv × Lv :=
  if c = 40 then (bs ++ [top], lv0)
  else if c = 41 then (match top.l, bs.getLast? with
    | some t, some b => (bs.dropLast, b.put (top.whole t))
    | _, _ => (bs, top))
  else if c = 124 then (match top.l with
    | some t => (bs, ⟨some (top.whole t), none, none⟩)
    | none => (bs, top))
  else if c = 45 then (bs, top.put .no)
  else match ksg c with
    | some k => (bs, ⟨top.e, top.r, top.l.map (Tr.one k)⟩)
    | none => match dsg c with
      | some d => (bs, match top.l with
        | some (.lt z _) => ⟨top.e, top.r, some (.lt z d)⟩
        | _ => top)
      | none => (bs, top.put (.lt (Sx [c]) "keep"))
/-- may the sign be taken -/
structure OkT (c : Nat) (bs : List Lv) (top : Lv) : Prop where
  d : (dsg c).isSome = true → ∃ z d, top.l = some (.lt z d)
  k : ((ksg c).isSome = true ∨ c = 124 ∨ c = 41) → top.l.isSome = true
  b : c = 41 → bs ≠ []
/-- all but the levels and their list stays -/
def LsK (l : Addr) (as : List Addr) (H H' : Hp) : Prop := ∀ a o, a ≠ l → a ∉ as → H a = some o → H' a = some o
section
variable {P : Program} {w : World} {K : PySem.W.Frag} {mg : Str → Option Value} {base : Heap}
theorem scTake : FnScope ["sign", "levels", "level"] ["sign", "levels"] (defScope sTake) := ⟨rfl, rfl, rfl, by decide +kernel, rfl, by decide +kernel, by decide +kernel⟩
structure MkLv (K : PySem.W.Frag) (mg : Str → Option Value) (C fI : Addr) (fdI : FuncData) : Prop where
  F : Fun K "__init__" "Level.__init__" sLevI fI fdI
  mak : Mk K C fI
  g : mg "Level" = some (.ref C)
  cl : ClsLv K C
  b : Binds K fdI ["self"] []
def spTake (C : Addr) : Sp := fun vs H Q _ => ∃ (c : Nat) (l : Addr) (ps : List (Addr × Lv)) (p : Addr × Lv), vs = [.str (Sx [c]), .ref l] ∧ LsAt C H l ps p ∧ OkT c (ps.map (·.2)) p.2 ∧ ps.length ≤ 100000 ∧
  ∀ H' (ps' : List (Addr × Lv)) (p' : Addr × Lv), LsAt C H' l ps' p' → (ps'.map (·.2), p'.2) = takeT c (ps.map (·.2)) p.2 → LsK l ((ps ++ [p]).map (·.1)) H H' → (∀ x ∈ ps' ++ [p'], x.1 ∈ (ps ++ [p]).map (·.1) ∨ H x.1 = none) → Q .non H'
theorem LsAt.ne {C : Addr} {H : Hp} {l : Addr} {ps : List (Addr × Lv)} {p : Addr × Lv} (h : LsAt C H l ps p) {x : Addr × Lv} (hx : x ∈ ps ++ [p]) : l ≠ x.1 := fun e => by
  obtain ⟨dx, ve, vr, vl, h1, _⟩ := h.all x hx
  rw [← e, h.at_] at h1
  cases h1
/-- a level of the list is changed: the top, or after a pop the one below -/
theorem LsAt.put {C : Addr} {H H' : Hp} {l : Addr} {ps : List (Addr × Lv)} {p : Addr × Lv} {L' : Lv} (h : LsAt C H l ps p) (k : LvK p.1 H H') (h' : LvAt C H' p.1 L') : LsAt C H' l ps (p.1, L') := by
  have hp : p ∈ ps ++ [p] := List.mem_append_right _ List.mem_cons_self
  obtain ⟨dx, ve, vr, vl, h1, _⟩ := h.all p hp
  refine ⟨k l _ (h.ne hp) (by rw [h.at_, List.map_append, List.map_append]; rfl), fun x hx => ?_, ?_⟩
  · rcases List.mem_append.mp hx with hx | hx
    · have hn := h.nd
      rw [List.map_append, List.nodup_append] at hn
      have ne : x.1 ≠ p.1 := hn.2.2 x.1 (List.mem_map_of_mem hx) p.1 (by simp)
      obtain ⟨dx', ve', vr', vl', g1, _⟩ := h.all x (List.mem_append_left _ hx)
      exact (h.all x (List.mem_append_left _ hx)).tk (k.tk h1) (by rw [k _ _ ne g1, g1])
    · rw [List.mem_singleton.mp hx]
      exact h'
  · have hn := h.nd
    rw [List.map_append] at hn ⊢
    exact hn
theorem LvK.ls {p l : Addr} {as : List Addr} {H H' : Hp} (k : LvK p H H') (h : p ∈ as) : LsK l as H H' := fun a o _ n e => k a o (fun z => n (by rw [z]; exact h)) e
/-- one level more -/
theorem LsAt.push {C : Addr} {H H' : Hp} {l x dx : Addr} {ps : List (Addr × Lv)} {p : Addr × Lv} (h : LsAt C H l ps p) (nx : H x = none) (k : ∀ a o, a ≠ l → H a = some o → H' a = some o) (e : H' l = some (.lst ((ps ++ [p] ++ [(x, lv0)]).map fun x => V.ref x.1))) (ex : H' x = some (.ins C dx (lvF .non .non .non))) : LsAt C H' l (ps ++ [p]) (x, lv0) := by
  have tk : TK H H' := fun a xs ea => k a _ (fun z => by rw [z, h.at_] at ea; cases ea) ea
  refine ⟨e, fun y hy => ?_, ?_⟩
  · rcases List.mem_append.mp hy with hy | hy
    · obtain ⟨dx', ve', vr', vl', g1, _⟩ := h.all y hy
      exact (h.all y hy).tk tk (by rw [k _ _ (fun z => h.ne hy z.symm) g1, g1])
    · rw [List.mem_singleton.mp hy]
      exact ⟨dx, .non, .non, .non, ex, rfl, rfl, rfl⟩
  · rw [List.map_append, List.nodup_append]
    refine ⟨h.nd, by simp, fun a ha b hb z => ?_⟩
    obtain ⟨y, hy, rfl⟩ := List.mem_map.mp ha
    obtain ⟨dx', ve', vr', vl', g1, _⟩ := h.all y hy
    rw [List.map_cons, List.map_nil, List.mem_singleton] at hb
    rw [z, hb, nx] at g1
    cases g1
/-- one level less -/
theorem LsAt.pop {C : Addr} {H H' : Hp} {l : Addr} {ps : List (Addr × Lv)} {b p : Addr × Lv} (h : LsAt C H l (ps ++ [b]) p) (k : ∀ a, a ≠ l → H' a = H a) (e : H' l = some (.lst ((ps ++ [b]).map fun x => V.ref x.1))) : LsAt C H' l ps b := by
  have tk : TK H H' := fun a xs ea => (k a (fun z => by rw [z, h.at_] at ea; cases ea)).trans ea
  refine ⟨e, fun y hy => ?_, ?_⟩
  · have hy' := List.mem_append_left [p] hy
    exact (h.all y hy').tk tk (k _ fun z => h.ne hy' z.symm)
  · have := h.nd
    rw [List.map_append, List.nodup_append] at this
    exact this.1
theorem ok_take {f C fI fP fW fN fJ dD dK : Addr} {fd fdI fdP fdW fdN fdJ : FuncData} {k : Nat} (F : Fun K "take_sign" "take_sign" sTake f fd) (M : MkLv K mg C fI fdI) (G : TgM K mg w dD dK) (J : FnM K mg fJ fdJ "joined" sJoin ["kind", "one", "other"])
    (Pt : Fun K "put" "Level.put" sLevP fP fdP) (bP : Binds K fdP ["self", "tree"] []) (mP : Meth K C "put" fP) (W : Fun K "whole" "Level.whole" sLevW fW fdW) (bW : Binds K fdW ["self"] []) (mW : Meth K C "whole" fW) (N : Fun K "next_row" "Level.next_row" sLevN fN fdN) (bN : Binds K fdN ["self"] []) (mN : Meth K C "next_row" fN) :
    FnOk P w K mg base CX0 (k + 4) f fd ["sign", "levels"] (spTake C) := by
  have T := M.cl
  have GI : FnOk P w K mg base CX0 (k + 2) fI fdI ["self"] (spLevI C) := ok_levI M.F T
  have GP : FnOk P w K mg base CX0 (k + 3) fP fdP ["self", "tree"] (spLevP C) := ok_levP Pt T J
  have GW : FnOk P w K mg base CX0 (k + 3) fW fdW ["self"] (spLevW C) := ok_levW W T J
  have GN : FnOk P w K mg base CX0 (k + 3) fN fdN ["self"] (spLevN C) := ok_levN N T J W bW mW
  refine F.ok scTake (fun vs H Q E h => ?_) (fun cdv A outer s H vs Q E hr h => ?_)
  · obtain ⟨c, l, ps, p, rfl, _⟩ := h
    rfl
  · obtain ⟨c, l, ps, p, rfl, hl, ok, hpl, q⟩ := h
    obtain ⟨es1, n1, kD⟩ := G.D.kd
    obtain ⟨es2, n2, kK⟩ := G.S.kd
    refine ⟨_, pss_cons (ps_set (i := 2) scTake.nd rfl (.inl rfl) (pe_ix ix_list (pv 1) (pe_un un_neg pe_int) (fun _ _ => rfl)))
      (pss_one (ps_if (pt_cmpR op_eq (pv 0) pe_str (nomark _)) (pss_one (ps_expr (pe_bm PySem.F.plainAttrs_list PySem.F.slot_list_append PySem.F.type_list_append mt_append (pv 1) (pa_cons (pe_make0 M.mak GI (hr.mono (by omega)) (by rfl) M.g M.b .nil pass0) pa_nil))))
      (pss_one (ps_if (pt_cmpR op_eq (pv 0) pe_str (nomark _)) (pss_cons (ps_expr (pe_bm0 PySem.F.plainAttrs_list PySem.F.slot_list_pop PySem.F.type_list_pop mt_pop (pv 1))) (pss_one (ps_expr (pe_meth (pe_ix ix_list (pv 1) (pe_un un_neg pe_int) (fun _ _ => rfl)) T.cl mP GP hr bP .nil pass0 (pa_cons (pe_meth0 (pv 2) T.cl mW GW hr bW .nil pass0) pa_nil)))))
      (pss_one (ps_if (pt_cmpR op_eq (pv 0) pe_str (nomark _)) (pss_one (ps_expr (pe_meth0 (pv 2) T.cl mN GN hr bN .nil pass0)))
      (pss_one (ps_if (pt_cmpR op_eq (pv 0) pe_str (nomark _)) (pss_one (ps_expr (pe_meth (pv 2) T.cl mP GP hr bP .nil pass0 (pa_cons (pe_tup (pa_cons pe_str pa_nil)) pa_nil))))
      (pss_one (ps_if (pt_cmpR (op_in_kd kK) (pv 0) (pe_glob (v := .ref dK) rfl G.k rfl) (by rfl)) (pss_one (ps_fld (pv 2) (pe_tup (pa_cons (pe_sg G.S (pe_glob (v := .ref dK) rfl G.k rfl) (pv 0) (fun _ _ => rfl)) (pa_cons (pe_fld (pv 2) rfl) pa_nil))) rfl))
      (pss_one (ps_if (pt_cmpR (op_in_kd kD) (pv 0) (pe_glob (v := .ref dD) rfl G.d rfl) (by rfl)) (pss_one (ps_fld (pv 2) (pe_tup (pa_cons pe_str (pa_cons (pe_ix ix_tup (pe_fld (pv 2) rfl) pe_int (fun _ _ => rfl)) (pa_cons (pe_sg G.D (pe_glob (v := .ref dD) rfl G.d rfl) (pv 0) (fun _ _ => rfl)) pa_nil)))) rfl))
      (pss_one (ps_expr (pe_meth (pv 2) T.cl mP GP hr bP .nil pass0 (pa_cons (pe_tup (pa_cons pe_str (pa_cons (pv 0) (pa_cons pe_str pa_nil)))) pa_nil)))))))))))))))), ?_⟩
    have e0 : ("(" : Str) = Sx [40] := by decide +kernel
    have e1 : (")" : Str) = Sx [41] := by decide +kernel
    have e2 : ("|" : Str) = Sx [124] := by decide +kernel
    have e3 : ("-" : Str) = Sx [45] := by decide +kernel
    obtain ⟨dx, ve, vr, vl, h1, h2, h3, h4⟩ := hl.top
    have pm : p.1 ∈ (ps ++ [p]).map (·.1) := List.mem_map_of_mem (List.mem_append_right _ List.mem_cons_self)
    have old : ∀ {L' : Lv} {H : Hp}, ∀ x ∈ ps ++ [(p.1, L')], x.1 ∈ (ps ++ [p]).map (·.1) ∨ H x.1 = none := fun {L' H} x hx => .inl (by
      rcases List.mem_append.mp hx with hx | hx
      · exact List.mem_map_of_mem (List.mem_append_left _ hx)
      · rw [List.mem_singleton.mp hx]
        exact pm)
    have put : ∀ (L' : Lv) H', LvK p.1 H H' → LvAt C H' p.1 L' → (ps.map (·.2), L') = takeT c (ps.map (·.2)) p.2 → Q .non H' := fun L' H' k h' e => q H' ps (p.1, L') (hl.put k h') e (k.ls pm) old
    refine ⟨_, rfl, 1, rfl, l, _, -1, _, rfl, rfl, SqL.of hl.at_, at_last, ?_⟩
    refine ⟨_, rfl, rfl, _, rfl, ?_⟩
    rw [e0, eqSg]
    by_cases c0 : c = 40
    · refine itT c0 ⟨_, rfl, .inl ⟨rfl, _, SqL.of hl.at_⟩, fun x dx' nx ndx ne => ?_⟩
      refine ⟨x, dx', rfl, upd_same, fun H2 k2 x2 => ⟨rfl, ?_⟩⟩
      have k3 : ∀ a o, H a = some o → H2 a = some o := fun a o e => by
        rw [k2 a (ne_of_none e nx), upd_ne (ne_of_none e nx), upd_ne (ne_of_none e ndx)]
        exact e
      have hlx : x ≠ l := fun z => by
        rw [z, hl.at_] at nx
        cases nx
      refine ⟨l, _, _, rfl, rfl, k3 _ _ hl.at_, by rw [List.length_map, List.length_append, List.length_singleton]; exact Nat.lt_of_le_of_lt (show ps.length + 1 ≤ 100001 by omega) (by decide), ?_⟩
      have k4 : ∀ a o, a ≠ l → H a = some o → (upd H2 l (.lst ((ps ++ [p]).map (fun x => V.ref x.1) ++ [V.ref x]))) a = some o := fun a o n e => by
        rw [upd_ne n]
        exact k3 a o e
      refine q _ (ps ++ [p]) (x, lv0) (hl.push nx k4 (by rw [upd_same]; simp only [List.map_append]; rfl) (by rw [upd_ne hlx]; exact x2)) ?_ (fun a o n _ e => k4 a o n e) fun y hy => ?_
      · unfold takeT
        rw [if_pos c0, List.map_append]
        rfl
      · rcases List.mem_append.mp hy with hy | hy
        · exact .inl (List.mem_map_of_mem hy)
        · rw [List.mem_singleton.mp hy]
          exact .inr nx
    refine itF c0 ?_
    refine ⟨_, rfl, rfl, _, rfl, ?_⟩
    rw [e1, eqSg]
    by_cases c1 : c = 41
    · obtain ⟨t, el⟩ := Option.isSome_iff_exists.mp (ok.k (.inr (.inr c1)))
      obtain ⟨qs, b, rfl⟩ : ∃ qs b, ps = qs ++ [b] := by
        rcases List.eq_nil_or_concat ps with e | ⟨qs, b, e⟩
        · exact absurd (by rw [e]; rfl) (ok.b c1)
        · exact ⟨qs, b, by rw [e, List.concat_eq_append]⟩
      have hlast : ((qs ++ [b] ++ [p]).map fun x => V.ref x.1)[((qs ++ [b] ++ [p]).map fun x => V.ref x.1).length - 1]? = some (.ref p.1) := by
        rw [List.map_append, List.length_append, List.length_map, List.map_cons, List.map_nil, List.length_singleton, Nat.add_sub_cancel, List.getElem?_append_right (by rw [List.length_map]; exact Nat.le_refl _), List.length_map, Nat.sub_self]
        rfl
      refine itT c1 ⟨_, rfl, .inl ⟨rfl, _, SqL.of hl.at_⟩, l, _, .ref p.1, rfl, rfl, hl.at_, hlast, ?_⟩
      have hdl : ((qs ++ [b] ++ [p]).map fun x => V.ref x.1).dropLast = (qs ++ [b]).map fun x => V.ref x.1 := by
        rw [List.map_append, List.map_cons, List.map_nil, List.dropLast_concat]
      rw [hdl]
      have kp : ∀ a, a ≠ l → (upd H l (.lst ((qs ++ [b]).map fun x => V.ref x.1))) a = H a := fun a n => upd_ne n
      have hlp := hl.pop kp upd_same
      have hp : p ∈ qs ++ [b] ++ [p] := List.mem_append_right _ List.mem_cons_self
      have hpt := hl.top.tk (.put hl.at_ fun _ z => nomatch z) (kp p.1 fun z => hl.ne hp z.symm)
      have kl : ∀ a o, a ≠ l → H a = some o → (upd H l (.lst ((qs ++ [b]).map fun x => V.ref x.1))) a = some o := fun a o n e => by rw [kp a n]; exact e
      generalize upd H l (.lst ((qs ++ [b]).map fun x => V.ref x.1)) = H1 at hlp hpt kl
      obtain ⟨dxb, veb, vrb, vlb, b1, b2, b3, b4⟩ := id hlp.top
      obtain ⟨dxp, vep, vrp, vlp, p1, p2, p3, p4⟩ := id hpt
      refine ⟨_, rfl, 1, rfl, l, _, -1, _, rfl, rfl, SqL.of hlp.at_, at_last, b.1, dxb, _, rfl, b1, rfl, ?_⟩
      refine ⟨_, rfl, p.1, dxp, _, rfl, p1, rfl, p.1, p.2, t, rfl, hpt, el, fun a H2 s2 ha => ?_⟩
      refine ⟨b.1, a, b.2, p.2.whole t, rfl, hlp.top.same s2, ha, fun H3 k3 h3 => ?_⟩
      have hl3 := hlp.put ((LvK.same s2).trans k3) h3
      refine q H3 qs (b.1, b.2.put (p.2.whole t)) hl3 ?_ (fun a o n n2 e => ((LvK.same s2).trans k3) a o (fun z => n2 ?_) (kl a o n e)) fun x hx => .inl ?_
      · unfold takeT
        rw [if_neg c0, if_pos c1, el, List.map_append, List.map_cons, List.map_nil, List.getLast?_append]
        simp
      · rw [z]
        exact List.mem_map_of_mem (List.mem_append_left _ (List.mem_append_right _ List.mem_cons_self))
      · rcases List.mem_append.mp hx with hx | hx
        · exact List.mem_map_of_mem (List.mem_append_left _ (List.mem_append_left _ hx))
        · rw [List.mem_singleton.mp hx]
          exact List.mem_map.mpr ⟨b, List.mem_append_left _ (List.mem_append_right _ List.mem_cons_self), rfl⟩
    refine itF c1 ?_
    refine ⟨_, rfl, rfl, _, rfl, ?_⟩
    rw [e2, eqSg]
    by_cases c2 : c = 124
    · obtain ⟨t, el⟩ := Option.isSome_iff_exists.mp (ok.k (.inr (.inl c2)))
      refine itT c2 ⟨_, rfl, p.1, dx, _, rfl, h1, rfl, p.1, p.2, t, rfl, hl.top, el, fun H' k h' => ?_⟩
      refine put _ H' k h' ?_
      unfold takeT
      rw [if_neg c0, if_neg c1, if_pos c2, el]
    refine itF c2 ?_
    refine ⟨_, rfl, rfl, _, rfl, ?_⟩
    rw [e3, eqSg]
    by_cases c3 : c = 45
    · refine itT c3 ⟨_, rfl, p.1, dx, _, rfl, h1, rfl, (by decide : 1 ≤ sizeLine), fun a na => ?_⟩
      have sa := same_upd (o := .tup [.str "nothing"]) na
      refine ⟨p.1, a, p.2, .no, rfl, hl.top.same sa, .no upd_same, fun H' k h' => ?_⟩
      refine put _ H' ((LvK.same sa).trans k) h' ?_
      unfold takeT
      rw [if_neg c0, if_neg c1, if_neg c2, if_pos c3]
    refine itF c3 ?_
    have tr : takeT c (ps.map (·.2)) p.2 = (match ksg c with
    | some k => (ps.map (·.2), ⟨p.2.e, p.2.r, p.2.l.map (Tr.one k)⟩)
    | none => match dsg c with
      | some d => (ps.map (·.2), match p.2.l with
        | some (.lt z _) => ⟨p.2.e, p.2.r, some (.lt z d)⟩
        | _ => p.2)
      | none => (ps.map (·.2), p.2.put (.lt (Sx [c]) "keep"))) := by
      unfold takeT
      rw [if_neg c0, if_neg c1, if_neg c2, if_neg c3]
    rw [tr] at put
    obtain ⟨r1, hr1, er1⟩ := G.D.get c
    obtain ⟨r2, hr2, er2⟩ := G.S.get c
    refine ⟨_, rfl, Sx [c], r2, rfl, rfl, hr2, _, rfl, ?_⟩
    rw [er2]
    cases ek : ksg c with
    | some kd =>
      rw [ek] at put
      obtain ⟨t, el⟩ := Option.isSome_iff_exists.mp (ok.k (.inl (by rw [ek]; rfl)))
      rw [el] at h4
      obtain ⟨b, rfl, hb⟩ := h4
      refine iteT ⟨_, rfl, c, kd, rfl, rfl, ek, _, rfl, p.1, C, dx, _, _, rfl, h1, T.cl, T.n3, rfl, (by decide : 2 ≤ sizeLine), fun a na => ?_⟩
      have sa := same_upd (o := .tup [.str kd, .ref b]) na
      refine ⟨_, rfl, p.1, C, dx, _, rfl, sa _ _ h1, T.cl, T.n3, (by decide : 3 < 1000), ?_⟩
      have kk : LvK p.1 H (upd (upd H a (.tup [.str kd, .ref b])) p.1 (.ins C dx (putF "last" (.ref a) (lvF ve vr (.ref b))))) := (LvK.same sa).trans .put
      have tk := kk.tk h1
      have t2 : TK (upd H a (.tup [.str kd, .ref b])) (upd (upd H a (.tup [.str kd, .ref b])) p.1 (.ins C dx (putF "last" (.ref a) (lvF ve vr (.ref b))))) := .put (sa _ _ h1) fun _ z => nomatch z
      refine put ⟨p.2.e, p.2.r, p.2.l.map (Tr.one kd)⟩ _ kk ⟨dx, ve, vr, .ref a, upd_same, h2.tk tk, h3.tk tk, ?_⟩ rfl
      rw [el]
      exact ⟨a, rfl, .one (t2 _ _ upd_same) (hb.tk tk)⟩
    | none =>
    rw [ek] at put
    refine iteF ?_
    refine ⟨_, rfl, Sx [c], r1, rfl, rfl, hr1, _, rfl, ?_⟩
    rw [er1]
    cases ed : dsg c with
    | some d =>
      rw [ed] at put
      obtain ⟨z, d0, el⟩ := ok.d (by rw [ed]; rfl)
      rw [el] at h4
      obtain ⟨b, rfl, hb⟩ := h4
      have hb' : H b = some (.tup [.str "letter", .str z, .str d0]) := by
        cases hb with
        | lt h => exact h
      refine iteT ⟨_, rfl, p.1, C, dx, _, _, rfl, h1, T.cl, T.n3, rfl, b, _, 1, _, rfl, rfl, SqT.of hb', rfl, _, rfl, c, d, rfl, rfl, ed, (by decide : 3 ≤ sizeLine), fun a na => ?_⟩
      have sa := same_upd (o := .tup [.str "letter", .str z, .str d]) na
      refine ⟨_, rfl, p.1, C, dx, _, rfl, sa _ _ h1, T.cl, T.n3, (by decide : 3 < 1000), ?_⟩
      have kk : LvK p.1 H (upd (upd H a (.tup [.str "letter", .str z, .str d])) p.1 (.ins C dx (putF "last" (.ref a) (lvF ve vr (.ref b))))) := (LvK.same sa).trans .put
      have tk := kk.tk h1
      have t2 : TK (upd H a (.tup [.str "letter", .str z, .str d])) (upd (upd H a (.tup [.str "letter", .str z, .str d])) p.1 (.ins C dx (putF "last" (.ref a) (lvF ve vr (.ref b))))) := .put (sa _ _ h1) fun _ z => nomatch z
      refine put ⟨p.2.e, p.2.r, some (.lt z d)⟩ _ kk ⟨dx, ve, vr, .ref a, upd_same, h2.tk tk, h3.tk tk, ⟨a, rfl, .lt (t2 _ _ upd_same)⟩⟩ ?_
      rw [el]
    | none =>
      rw [ed] at put
      refine iteF ⟨_, rfl, p.1, dx, _, rfl, h1, rfl, _, rfl, (by decide : 3 ≤ sizeLine), fun a na => ?_⟩
      have sa := same_upd (o := .tup [.str "letter", .str (Sx [c]), .str "keep"]) na
      refine ⟨p.1, a, p.2, .lt (Sx [c]) "keep", rfl, hl.top.same sa, .lt upd_same, fun H' k h' => ?_⟩
      exact put _ H' ((LvK.same sa).trans k) h' rfl
end
end Onp
set_option maxHeartbeats 4000000
set_option autoImplicit false
namespace Onp
open PySem PySem.Spec PyProof.Rows L2 HotX L2H LamX
/-! ### a refusal with the field at -/
def atL (wd : Str) (v : V) : List (Str × V) := [("at", v), ("word", .str wd)]
def spAt (C : Addr) (wd : Str) : Sp := fun vs H Q _ => ∃ a v, vs = [.ref a, v] ∧ H a = some (exo a C none) ∧ ∀ dx, H dx = none → dx ≠ a → Q .non (upd (upd H dx (exd dx (atL wd v))) a (exo a C (some dx)))
def tRaiseA (C : Addr) (wd : Str) (te : TE) : L2.St → Hp → XK → Prop := fun σ H Q => te σ H fun v H1 => refuse C (atL wd v) H1 Q
theorem pmk_at {X : Cx} {x wd : Str} {C fI : Addr} {k : Nat} {fd : FuncData} {e : Expr} {te : TE} {p pos : Pos} (T : OexC X.K C) (iC : PySem.W.findIn X.K (.ref C) "__init__" = some (some (.ref fI))) (tI : PySem.W.typeIn X.K (.ref fI) = some (.type "function"))
    (F1 : FnOk X.prog X.w X.K X.mg X.base CX0 k fI fd ["self", "at"] (spAt C wd)) (hr : Room (k + 1) X.A) (hb : Binds X.K fd ["self", "at"] []) (hg : Gl X x) (hm : X.mg x = some (.ref C)) (he : PE X e te) (hs : starEach [e] X.env = [(false, eval e X.env)] := by rfl) (hdb : (x == ("__debug__" : Str)) = false := by decide) :
    L2N.PMk X (.Call (.Name x p) [e] [] pos) (tRaiseA C wd te) := by
  intro pins s σ H Q I h
  refine wpAny_Call_Name_kw (ld_glob I hg hm ?_ hdb)
  refine PySem.W.callWith_K (h₀ := X.base) I.ok.mod.kin T.kC ?_ (by rw [hs]; rfl) (by rfl)
  rw [hs]
  refine Calls.spliced_cons (thn (he.run pins s σ H _ I h) fun u s1 ⟨v, H1, I1, r1, h1⟩ => Calls.spliced_nil ⟨I1.kIn, ?_⟩)
  refine mkRunN T iC tI F1 hr hb I1 (.cons r1 .nil) (by decide : 1 ≤ 1000) fun a ha => ⟨a, v, rfl, upd_same, fun dx ndx ne => ⟨rfl, dx, atL wd v, upd_same, ?_, ?_, ?_⟩⟩
  · rw [upd_ne ne, upd_same]
  · rw [upd_ne ne] at ndx
    exact ndx
  · rw [upd_ne ne] at ndx
    rw [made_heap ha ndx ne]
    exact h1 dx ndx
end Onp
set_option maxHeartbeats 8000000
set_option autoImplicit false
/-! BadText -/
namespace Onp
open PySem PySem.Spec PyProof.Rows L2 HotX L2H LamX
abbrev sInitBadText : Stmt := inClass (topS 2) 0
structure MkBadText (K : PySem.W.Frag) (mg : Str → Option Value) (C fI : Addr) (fdI : FuncData) : Prop where
  T : OexC K C
  iC : PySem.W.findIn K (.ref C) "__init__" = some (some (.ref fI))
  tI : PySem.W.typeIn K (.ref fI) = some (.type "function")
  F : Fun K "__init__" "BadText.__init__" sInitBadText fI fdI
  b : Binds K fdI ["self", "at"] []
  g : mg "BadText" = some (.ref C)
  nw : PySem.W.findIn K (.ref C) "word" = some none
  nm : PySem.W.findIn K (.ref C) "at" = some none
theorem scIBadText : FnScope ["self", "at"] ["self", "at"] (defScope sInitBadText) := ⟨rfl, rfl, rfl, by decide +kernel, rfl, by decide +kernel, by decide +kernel⟩
theorem ok_initBadText {P : Program} {w : World} {K : PySem.W.Frag} {mg : Str → Option Value} {base : Heap} {C fI : Addr} {fdI : FuncData} {k : Nat} (B : MkBadText K mg C fI fdI) : FnOk P w K mg base CX0 (k + 1) fI fdI ["self", "at"] (spAt C "badtext") := by
  refine B.F.ok scIBadText (fun vs H Q E h => ?_) (fun cdv A outer s H vs Q E hr h => ?_)
  · obtain ⟨a, v, rfl, _⟩ := h
    rfl
  · obtain ⟨a, v, rfl, ha, q⟩ := h
    refine ⟨_, pss_cons (ps_ost (pv 0) pe_str) (pss_one (ps_ost (pv 0) (pv 1))), ?_⟩
    refine ⟨_, rfl, a, C, rfl, B.T, B.nw, .inl ⟨ha, fun dx nd ne => ?_⟩⟩
    refine ⟨_, rfl, _, rfl, a, C, rfl, B.T, B.nm, .inr ⟨dx, [("word", .str "badtext")], upd_same, by rw [upd_ne ne, upd_same], by decide, ?_⟩⟩
    have e := q dx nd ne
    rw [← upd_swap ne] at e
    exact e
end Onp
set_option maxHeartbeats 4000000
set_option autoImplicit false
/-! enumerate of a text -/
namespace EnS
open PySem PySem.Spec PyProof.Rows L2
def IteS (z : Str) : It :=
  ⟨fun i _ => i < z.cps.size, fun i H v H' => ∃ T c, v = .ref T ∧ H T = none ∧ H' = upd H T (.tup [.int (i : Nat), .str ⟨#[c]⟩]) ∧ z.cps[i]? = some c, fun i _ => i = z.cps.size⟩
def TnS (z : Str) (t : Tok) (e it : Addr) (i : Nat) (h : Heap) : Prop := (∃ old, IsEnum h e it ((i : Nat) : Int) old) ∧ h.IsStrIter it (strIterType z) z t i
theorem tnS_obj {z : Str} {t : Tok} {e it : Addr} {i : Nat} {h : Heap} (st : TnS z t e it i h) : ∀ c ∈ e :: [it], ∃ o, h.get? c = some o ∧ ∀ v, o.data ≠ .cell v := fun c hc => by
  obtain ⟨⟨old, he⟩, o, ho, _, hd⟩ := st
  rcases List.mem_cons.mp hc with rfl | hc
  · exact ⟨_, he, fun v q => nomatch q⟩
  · obtain rfl := List.mem_singleton.mp hc
    exact ⟨o, ho, fun v q => by rw [hd] at q; cases q⟩
theorem turn_enumS {P : Program} {w : World} {K : PySem.W.Frag} {elts : List Expr} {kk : Nat} {tpos : Pos} {z : Str} {t : Tok} {e it : Addr} (hne : e ≠ it) : Turn P w K (.Tuple elts kk tpos) (IteS z) (e :: [it]) e (TnS z t e it) where
  mem := List.mem_cons_self
  obj := fun i h st => tnS_obj st
  keep := fun i h h' st k => by
    obtain ⟨⟨old, he⟩, o, ho, r⟩ := st
    exact ⟨⟨old, k e List.mem_cons_self _ he⟩, o, k it (List.mem_cons_of_mem _ List.mem_cons_self) _ ho, r⟩
  item := by
    intro X hP hw hK hc i pins s σ H E I hf st go
    subst hP hw hK
    have W := WalksT.enumerateD (A := X.A) (Draws.text (prog := X.prog) (w := X.w) (A := X.A.in1) (by simp [I.ok.hd hc]) it z t) e hne (fun h => hne (List.mem_singleton.mp h)) List.mem_cons_self
    refine W.item i s _ _ go st fun T vals h' tk pv hT isT mid kp => ?_
    obtain ⟨tk2, x, ⟨c, u, hc1, rfl⟩, rfl⟩ := pv
    refine ⟨_, rfl, W.go elts kk tpos i T { s with heap := h', toks := tk } _ _ mid fun h2 st2 kp2 => ?_⟩
    obtain ⟨o, ho, r⟩ := isT
    have hoT : h2.IsTuple T #[.int i tk2, .str ⟨#[c]⟩ u] := ⟨o, kp2 _ _ (W.apart i T _ mid) ho, r⟩
    have new : ObjOk X.prog X.w (upd H T (.tup [.int (i : Nat), .str ⟨#[c]⟩])) h2 T (.tup [.int (i : Nat), .str ⟨#[c]⟩]) := ⟨by show 2 ≤ sizeLine; decide, [.int i tk2, .str ⟨#[c]⟩ u], .cons ⟨_, rfl⟩ (.cons ⟨_, rfl⟩ .nil), hoT⟩
    have I1 : Inv X pins σ (upd H T (.tup [.int (i : Nat), .str ⟨#[c]⟩])) { s with heap := h2, toks := tk } := I.turnedNew (t' := tk) (ch := e :: [it]) (fun b o hb q => kp2 b o hb (kp b o hb q)) hf hT new
    obtain ⟨⟨old2, he2⟩, st3⟩ := st2
    refine ⟨.ref T, _, I1, rfl, ⟨T, c, rfl, I.hok.fresh hT, rfl, hc1⟩, ⟨⟨old2, ?_⟩, st3⟩, fun b hb => ?_⟩
    · rw [show ((i + 1 : Nat) : Int) = (i : Int) + 1 by omega]
      exact he2
    have ne : b ≠ T := fun q => by
      obtain ⟨o', eo', _⟩ := tnS_obj st b hb
      exact absurd (Heap.lt_size eo') (Nat.not_lt_of_le (q ▸ hT))
    rw [upd_ne ne]
    exact (hf b hb).1
  done := by
    intro X hP hw hK hc i pins s σ H E I hf st go
    subst hP hw hK
    have W := WalksT.enumerateD (A := X.A) (Draws.text (prog := X.prog) (w := X.w) (A := X.A.in1) (by simp [I.ok.hd hc]) it z t) e hne (fun h => hne (List.mem_singleton.mp h)) List.mem_cons_self
    rw [show i = z.cps.size from go] at st
    exact W.done s _ _ st fun h' tk kp => ⟨rfl, I.turnedL (t' := tk) (ch := e :: [it]) (fun b o hb q => kp b o hb q) hf⟩
  self := fun A i s Q E st h => by
    obtain ⟨⟨_, he⟩, _⟩ := st
    exact wpAny_pyIter_enum he h
def iEnumS (ta : TA) : TI := fun σ H R => ta σ H fun vs H1 => ∃ z, vs = [.str z] ∧ R (IteS z) H1
theorem pi_enumS {X : Cx} {e : Expr} {ta : TA} {p pos tpos : Pos} {elts : List Expr} {kk : Nat} (hg : Gl X "enumerate") (hm : X.mg "enumerate" = none) (ha : PA X [e] ta) (hs : starEach [e] X.env = [(false, eval e X.env)] := by rfl) :
    PI X (.Tuple elts kk tpos) (.Call (.Name "enumerate" p) [e] [] pos) (iEnumS ta) := by
  refine ⟨fun pins s σ H R I h => Call_ (ld_blt I hg hm boot_enumerate (PyProof.Rows.callWith_type1 (thn (ha.run pos pins s σ H _ I h) fun us s1 q => ?_) hs rfl))⟩
  obtain ⟨vs, H1, I1, r1, z, rfl, q⟩ := q
  cases r1 with
  | cons r rr =>
    cases rr
    obtain ⟨t, rfl⟩ := r
    refine call_enumerate_str fun h' he hit hsz kp => wpAny_pyIter_enum he ?_
    refine ⟨s1.heap.objs.size + 1, _, _, _, H1, rfl, I1.kept (t' := s1.toks) kp, turn_enumS (z := z) (t := t) (Nat.succ_ne_self _), ⟨⟨.none, he⟩, hit⟩, fun b hb => ?_, q⟩
    have hle : s1.heap.objs.size ≤ b := by
      rcases List.mem_cons.mp hb with z | z
      · rw [z]
        exact Nat.le_succ _
      · rw [List.mem_singleton.mp z]
        exact Nat.le_refl _
    exact I1.fpOk hle (I1.hok.fresh hle)
theorem walk_enumS {z : Str} : Walk (IteS z) z.cps.size (fun _ => True) (fun i H v H' => ∃ T c, v = .ref T ∧ H T = none ∧ H' = upd H T (.tup [.int (i : Nat), .str ⟨#[c]⟩]) ∧ z.cps[i]? = some c) :=
  ⟨fun _ _ h _ => h, fun _ _ => rfl, fun _ _ _ _ _ _ y => y⟩
end EnS
set_option maxHeartbeats 8000000
set_option autoImplicit false
/-! read_tolls -/
namespace Onp
open PySem PySem.Spec PyProof.Rows L2 HotX L2H LamX
abbrev sRead' : Stmt := topS 11
abbrev TSt : Type := List Nat × List Lv × Lv
def stepT (s : TSt) (c : Nat) : Option TSt := if canT c s.1 s.2.2 (decide (0 < s.2.1.length)) then some ([c], takeT c s.2.1 s.2.2) else none
def stT (cs : List Nat) : Option TSt := cs.foldlM stepT ([], [], lv0)
theorem stT_snoc (cs : List Nat) (c : Nat) : stT (cs ++ [c]) = (stT cs).bind fun s => stepT s c := by
  unfold stT
  rw [List.foldlM_append]
  cases cs.foldlM stepT ([], [], lv0) with
  | none => rfl
  | some s =>
    show ([c].foldlM stepT s) = stepT s c
    show (stepT s c >>= fun s' => List.foldlM stepT s' []) = stepT s c
    cases stepT s c <;> rfl
/-- what holds of a state -/
structure OkS (s : TSt) : Prop where
  ah : s.1.length ≤ 1
  lo : lowA s.1 = true → ∃ z d, s.2.2.l = some (.lt z d)
theorem low_no : ∀ c ∈ smallL, c ≠ 40 ∧ c ≠ 41 ∧ c ≠ 124 ∧ c ≠ 45 ∧ ksg c = none ∧ dsg c = none := by decide
theorem take_low {c : Nat} (h : c ∈ smallL) (bs : List Lv) (top : Lv) : takeT c bs top = (bs, top.put (.lt (Sx [c]) "keep")) := by
  obtain ⟨h1, h2, h3, h4, h5, h6⟩ := low_no c h
  unfold takeT
  rw [if_neg h1, if_neg h2, if_neg h3, if_neg h4, h5, h6]
theorem can_low {c : Nat} (h : c ∈ smallL) (ah : List Nat) (top : Lv) (deep : Bool) : canT c ah top deep = true := by
  obtain ⟨h1, h2, h3, h4, h5, h6⟩ := low_no c h
  unfold canT
  rw [h6, if_neg (by decide), h5, decide_eq_false h3, if_neg (by decide), decide_eq_false h2, if_neg Bool.false_ne_true, decide_eq_true h]
  rfl
theorem OkS.first : OkS ([], [], lv0) := ⟨Nat.zero_le _, fun h => nomatch h⟩
theorem step_ok {s s' : TSt} {c : Nat} (h : stepT s c = some s') : OkS s' := by
  unfold stepT at h
  split at h
  · obtain rfl := Option.some.inj h
    refine ⟨Nat.le_refl _, fun hl => ?_⟩
    have hc : c ∈ smallL := of_decide_eq_true hl
    show ∃ z d, (takeT c s.2.1 s.2.2).2.l = some (.lt z d)
    rw [take_low hc]
    exact ⟨_, _, rfl⟩
  · cases h
theorem stT_ok {cs : List Nat} {s : TSt} (h : stT cs = some s) : OkS s := by
  rcases List.eq_nil_or_concat cs with e | ⟨r, c, e⟩
  · rw [e] at h
    obtain rfl := Option.some.inj h
    exact .first
  · rw [e, List.concat_eq_append, stT_snoc] at h
    cases e2 : stT r with
    | none => rw [e2] at h; cases h
    | some s0 =>
      rw [e2] at h
      exact step_ok h
theorem can_ok {s : TSt} {c : Nat} (ok : OkS s) (h : canT c s.1 s.2.2 (decide (0 < s.2.1.length)) = true) : OkT c s.2.1 s.2.2 := by
  unfold canT at h
  have k1 : (ksg c).isSome = true ∨ c = 124 ∨ c = 41 → (dsg c).isSome = false := fun h => by
    have hk : ∀ c, (ksg c).isSome = true → c = 42 ∨ c = 63 := fun c e => by
      unfold ksg at e
      split at e <;> first | exact .inl rfl | exact .inr rfl | cases e
    rcases h with h | rfl | rfl
    · rcases hk c h with rfl | rfl <;> rfl
    · rfl
    · rfl
  refine ⟨fun hd => ?_, fun hk => ?_, fun hc => ?_⟩
  · rw [if_pos hd] at h
    exact ok.lo h
  · rw [if_neg (by rw [k1 hk]; exact Bool.false_ne_true)] at h
    rcases hk with hk | hk | hk
    · rw [hk, Bool.true_or, if_pos rfl] at h
      exact h
    · rw [decide_eq_true hk, Bool.or_true, if_pos rfl] at h
      exact h
    · subst hk
      rw [if_neg (by decide)] at h
      rw [if_pos (decide_eq_true rfl), Bool.and_eq_true] at h
      exact h.1
  · subst hc
    rw [if_neg (by decide), if_neg (by decide), if_pos (decide_eq_true rfl), Bool.and_eq_true, decide_eq_true_eq] at h
    intro z
    rw [z] at h
    exact absurd h.2 (Nat.lt_irrefl 0)
theorem take_len (c : Nat) (bs : List Lv) (top : Lv) : (takeT c bs top).1.length ≤ bs.length + 1 := by
  unfold takeT
  split
  · rw [List.length_append]; exact Nat.le_refl _
  split
  · split
    · show bs.dropLast.length ≤ _
      rw [List.length_dropLast]; omega
    · exact Nat.le_succ _
  split
  · split <;> exact Nat.le_succ _
  split
  · exact Nat.le_succ _
  split
  · exact Nat.le_succ _
  split <;> exact Nat.le_succ _
theorem stT_len (cs : List Nat) : ∀ {s : TSt}, stT cs = some s → s.2.1.length ≤ cs.length := by
  have key : ∀ n (cs : List Nat), cs.length = n → ∀ {s : TSt}, stT cs = some s → s.2.1.length ≤ cs.length := by
    intro n
    induction n with
    | zero =>
      intro cs hn s h
      rw [List.length_eq_zero_iff.mp hn] at h
      obtain rfl := Option.some.inj h
      exact Nat.zero_le _
    | succ n ih =>
      intro cs hn s h
      rcases List.eq_nil_or_concat cs with e | ⟨r, c, e⟩
      · rw [e] at hn; cases hn
      · rw [List.concat_eq_append] at e
        subst e
        rw [stT_snoc] at h
        rw [List.length_append, List.length_singleton] at hn ⊢
        cases e2 : stT r with
        | none => rw [e2] at h; cases h
        | some s0 =>
          rw [e2] at h
          have h1 := ih r (by omega) e2
          have h : stepT s0 c = some s := h
          unfold stepT at h
          split at h
          · obtain rfl := Option.some.inj h
            have := take_len c s0.2.1 s0.2.2
            show (takeT c s0.2.1 s0.2.2).1.length ≤ r.length + 1
            omega
          · cases h
  exact fun {s} h => key _ cs rfl h
/-- where a text fails -/
def BadAt (cs : List Nat) (i : Nat) : Prop := (∃ s c, stT (cs.take i) = some s ∧ cs[i]? = some c ∧ stepT s c = none) ∨ (i = cs.length ∧ ∃ s, stT cs = some s ∧ (s.2.1 ≠ [] ∨ s.2.2.l = none))
/-- prefixes of what is read are read -/
theorem stT_pre {cs : List Nat} {i j : Nat} (h : i ≤ j) {s : TSt} (e : stT (cs.take j) = some s) : ∃ s', stT (cs.take i) = some s' := by
  have e2 : cs.take j = cs.take i ++ (cs.take j).drop i := by
    have := List.take_append_drop i (cs.take j)
    rw [List.take_take, Nat.min_eq_left h] at this
    exact this.symm
  rw [e2] at e
  unfold stT at e ⊢
  rw [List.foldlM_append] at e
  cases e3 : (cs.take i).foldlM stepT ([], [], lv0) with
  | none => rw [e3] at e; cases e
  | some s' => exact ⟨s', rfl⟩
theorem bad_next {cs : List Nat} {i : Nat} {s : TSt} {c : Nat} (h1 : stT (cs.take i) = some s) (h2 : cs[i]? = some c) (h3 : stepT s c = none) {j : Nat} (hj : i < j) : stT (cs.take j) = none := by
  cases e : stT (cs.take j) with
  | none => rfl
  | some s' =>
    obtain ⟨s2, e2⟩ := stT_pre (i := i + 1) hj e
    rw [take_next h2, stT_snoc, h1] at e2
    have e2 : stepT s c = some s2 := e2
    rw [h3] at e2
    cases e2
theorem badAt_one {cs : List Nat} {i j : Nat} (h : BadAt cs i) (g : BadAt cs j) : i = j := by
  have full : ∀ {k : Nat} {s : TSt} {c : Nat}, stT (cs.take k) = some s → cs[k]? = some c → stepT s c = none → stT cs = none := fun {k s c} h1 h2 h3 => by
    have hk := (List.getElem?_eq_some_iff.mp h2).1
    have := bad_next h1 h2 h3 hk
    rwa [List.take_length] at this
  rcases h with ⟨s, c, h1, h2, h3⟩ | ⟨rfl, s, h1, _⟩
  · rcases g with ⟨s', c', g1, g2, g3⟩ | ⟨rfl, s', g1, _⟩
    · rcases Nat.lt_trichotomy i j with q | q | q
      · rw [bad_next h1 h2 h3 q] at g1; cases g1
      · exact q
      · rw [bad_next g1 g2 g3 q] at h1; cases h1
    · rw [full h1 h2 h3] at g1; cases g1
  · rcases g with ⟨s', c', g1, g2, g3⟩ | ⟨rfl, _⟩
    · rw [full g1 g2 g3] at h1; cases h1
    · rfl
/-- a text that is read fails nowhere -/
def Reads (cs : List Nat) : Prop := ∃ s, stT cs = some s ∧ s.2.1 = [] ∧ s.2.2.l.isSome = true
theorem reads_bad {cs : List Nat} {i : Nat} (h : Reads cs) (g : BadAt cs i) : False := by
  obtain ⟨s, h1, h2, h3⟩ := h
  rcases g with ⟨s', c', g1, g2, g3⟩ | ⟨_, s', g1, g⟩
  · have := bad_next g1 g2 g3 (List.getElem?_eq_some_iff.mp g2).1
    rw [List.take_length, h1] at this
    cases this
  · rw [h1] at g1
    obtain rfl := Option.some.inj g1
    rcases g with g | g
    · exact g h2
    · rw [g] at h3
      cases h3
/-- what holds while a text is read -/
structure InvT (C : Addr) (H0 H : Hp) (l : Addr) (ps : List (Addr × Lv)) (p : Addr × Lv) (s : TSt) : Prop where
  sm : Same H0 H
  nl : H0 l = none
  nw : ∀ x ∈ ps ++ [p], H0 x.1 = none
  ls : LsAt C H l ps p
  st : (ps.map (·.2), p.2) = s.2
theorem InvT.same {C : Addr} {H0 H H' : Hp} {l : Addr} {ps : List (Addr × Lv)} {p : Addr × Lv} {s : TSt} (h : InvT C H0 H l ps p s) (k : Same H H') : InvT C H0 H' l ps p s := ⟨h.sm.trans k, h.nl, h.nw, h.ls.same k, h.st⟩
theorem InvT.step {C : Addr} {H0 H H' : Hp} {l : Addr} {ps ps' : List (Addr × Lv)} {p p' : Addr × Lv} {s s' : TSt} (h : InvT C H0 H l ps p s) (hl : LsAt C H' l ps' p') (k : LsK l ((ps ++ [p]).map (·.1)) H H') (n : ∀ x ∈ ps' ++ [p'], x.1 ∈ (ps ++ [p]).map (·.1) ∨ H x.1 = none) (e : (ps'.map (·.2), p'.2) = s'.2) : InvT C H0 H' l ps' p' s' := by
  refine ⟨fun a o ea => ?_, h.nl, fun x hx => ?_, hl, e⟩
  · refine k a o (fun z => ?_) (fun z => ?_) (h.sm a o ea)
    · rw [z, h.nl] at ea
      cases ea
    · obtain ⟨y, hy, rfl⟩ := List.mem_map.mp z
      rw [h.nw y hy] at ea
      cases ea
  · rcases n x hx with z | z
    · obtain ⟨y, hy, e⟩ := List.mem_map.mp z
      rw [← e]
      exact h.nw y hy
    · cases ea : H0 x.1 with
      | none => rfl
      | some o =>
        rw [h.sm _ _ ea] at z
        cases z
section
variable {P : Program} {w : World} {K : PySem.W.Frag} {mg : Str → Option Value} {base : Heap}
def NRt : List Str := ["text", "levels", "ahead", "at", "sign"]
theorem scRead' : FnScope NRt ["text"] (defScope sRead') := ⟨rfl, rfl, rfl, by decide +kernel, rfl, by decide +kernel, by decide +kernel⟩
def spReadT (CT : Addr) : Sp := fun vs H Q E => ∃ cs : List Nat, vs = [.str (Sx cs)] ∧ cs.length ≤ 50000 ∧
  (∀ i H', BadAt cs i → Same H H' → refuse CT (atL "badtext" (.int (i : Nat))) H' E) ∧
  (∀ s t b H', stT cs = some s → s.2.1 = [] → s.2.2.l = some t → Same H H' → TrAt H' b (s.2.2.whole t) → Q (.ref b) H')
theorem ok_readT {f C fI fP fW fN fJ fCan fTk dD dK CT iT : Addr} {fd fdI fdP fdW fdN fdJ fdCan fdTk fdiT : FuncData} {k : Nat} (F : Fun K "read_tolls" "read_tolls" sRead' f fd) (M : MkLv K mg C fI fdI) (G : TgM K mg w dD dK) (J : FnM K mg fJ fdJ "joined" sJoin ["kind", "one", "other"])
    (Pt : Fun K "put" "Level.put" sLevP fP fdP) (bP : Binds K fdP ["self", "tree"] []) (mP : Meth K C "put" fP) (W : Fun K "whole" "Level.whole" sLevW fW fdW) (bW : Binds K fdW ["self"] []) (mW : Meth K C "whole" fW) (N : Fun K "next_row" "Level.next_row" sLevN fN fdN) (bN : Binds K fdN ["self"] []) (mN : Meth K C "next_row" fN)
    (Ca : FnM K mg fCan fdCan "can_stand" sCan ["sign", "ahead", "levels"]) (Tk : FnM K mg fTk fdTk "take_sign" sTake ["sign", "levels"]) (ST : MkBadText K mg CT iT fdiT) (ml : mg "len" = none) (me : mg "enumerate" = none) :
    FnOk P w K mg base (L2N.CX P w) (k + 5) f fd ["text"] (spReadT CT) := by
  have T := M.cl
  have GI : FnOk P w K mg base CX0 (k + 2) fI fdI ["self"] (spLevI C) := ok_levI M.F T
  have GW : FnOk P w K mg base CX0 (k + 4) fW fdW ["self"] (spLevW C) := ok_levW W T J
  have GC : FnOk P w K mg base CX0 (k + 4) fCan fdCan ["sign", "ahead", "levels"] (spCan C) := ok_can Ca.F T G ml
  have GT : FnOk P w K mg base CX0 (k + 4) fTk fdTk ["sign", "levels"] (spTake C) := ok_take Tk.F M G J Pt bP mP W bW mW N bN mN
  refine okN F scRead' (fun vs H Q E h => ?_) (fun cdv A outer s H vs Q E hr h => ?_)
  · obtain ⟨cs, rfl, _⟩ := h
    rfl
  · obtain ⟨cs, rfl, hcl, qE, qN⟩ := h
    have hu : (cxOf (L2N.CX P w) P w K mg base NRt "read_tolls" (defScope sRead') f cdv A outer s H E).A.units + 64 < cLine := hr.units
    refine ⟨_, pss_cutM (ps_set (i := 1) scRead'.nd rfl (.inl rfl) (pe_lst (pa_cons (pe_make0 M.mak GI (hr.mono (by omega)) (by rfl) M.g M.b .nil pass0) pa_nil)))
      (pss_cutM (ps_set (i := 2) scRead'.nd rfl (.inl rfl) pe_str)
      (pss_cutM (ps_for (passes_of rfl) rfl (EnS.pi_enumS (by rfl) me (pa_cons (pv 0) pa_nil)) (pg_tup rfl (pgs_cons (pg_name (i := 3) scRead'.nd rfl (.inl rfl)) (pgs_cons (pg_name (i := 4) scRead'.nd rfl (.inl rfl)) pgs_nil)))
        (pss_cons (ps_if (pt_not (pt_val (pe_call GC hr (by rfl) Ca.g Ca.F.kp Ca.b .nil pass0 (pa_cons (pv 4) (pa_cons (pv 2) (pa_cons (pv 1) pa_nil)))))) (pss_one (L2N.ps_raise rfl (L2N.takes_of rfl rfl rfl rfl) (pmk_at (k := k + 3) ST.T ST.iC ST.tI (ok_initBadText ST) hr ST.b (by rfl) ST.g (pv 3) rfl))) pss_nil)
        (pss_cons (ps_expr (pe_call GT hr (by rfl) Tk.g Tk.F.kp Tk.b .nil pass0 (pa_cons (pv 4) (pa_cons (pv 1) pa_nil))))
        (pss_one (ps_set (i := 2) scRead'.nd rfl (.inl rfl) (pv 4))))))
      (pss_cons (ps_if (PW.pt (pw_or (pt_cmpR op_gt (pe_callB call_len_seq (by rfl) ml PySem.boot_len (pa_cons (pv 1) pa_nil)) pe_int (nomark _)) (pw_or1 (pt_cmpR op_isN1 (pe_fld (pe_ix ix_list (pv 1) pe_int (fun _ _ => rfl)) rfl) pe_non (nomark _))))) (pss_one (L2N.ps_raise rfl (L2N.takes_of rfl rfl rfl rfl) (pmk_at (k := k + 3) ST.T ST.iC ST.tI (ok_initBadText ST) hr ST.b (by rfl) ST.g (pe_callB call_len_str (by rfl) ml PySem.boot_len (pa_cons (pv 0) pa_nil)) rfl))) pss_nil)
      (pss_one (ps_ret (pe_meth0 (pe_ix ix_list (pv 1) pe_int (fun _ _ => rfl)) T.cl mW GW hr bW .nil pass0)))))), ?_⟩
    have hbig : 50000 ≤ sizeLine := by decide
    -- the first level
    refine ⟨fun σ' H' => ∃ (l x : Addr), σ' = [some (.str (Sx cs)), some (.ref l), none, none, none] ∧ InvT C H H' l [] (x, lv0) ([], [], lv0), ?_, ?_⟩
    · refine fun x dx nx ndx ne => ⟨x, dx, rfl, upd_same, fun H1 k1 x1 => ⟨rfl, (by decide : 1 ≤ sizeLine), fun l nl => ?_⟩⟩
      have s1 : Same H H1 := fun a o e => by
        rw [k1 a (ne_of_none e nx), upd_ne (ne_of_none e nx), upd_ne (ne_of_none e ndx)]
        exact e
      have s2 := same_upd (o := .lst [.ref x]) nl
      have nl0 : H l = none := by
        cases e : H l with
        | none => rfl
        | some o =>
          rw [s1 _ _ e] at nl
          cases nl
      refine ⟨l, x, rfl, s1.trans s2, nl0, fun y hy => ?_, ⟨upd_same, fun y hy => ?_, by simp⟩, rfl⟩
      · rw [List.mem_singleton.mp hy]
        exact nx
      · rw [List.mem_singleton.mp hy]
        exact ⟨dx, .non, .non, .non, s2 _ _ x1, rfl, rfl, rfl⟩
    rintro σ' H1 ⟨l, x, rfl, iv1⟩
    have eN : ("" : Str) = Sx [] := by decide +kernel
    refine ⟨fun σ' H' => σ' = [some (.str (Sx cs)), some (.ref l), some (.str (Sx [])), none, none] ∧ H' = H1, ?_, ?_⟩
    · refine ⟨?_, rfl⟩
      rw [← eN]
      rfl
    rintro σ' H' ⟨rfl, rfl⟩
    -- sign by sign
    refine ⟨fun σ' H' => ∃ (s : TSt) (ps : List (Addr × Lv)) (p : Addr × Lv) (y3 y4 : Option V), σ' = [some (.str (Sx cs)), some (.ref l), some (.str (Sx s.1)), y3, y4] ∧ InvT C H H' l ps p s ∧ stT cs = some s, ?_, ?_⟩
    · refine ⟨_, rfl, Sx cs, rfl, ?_⟩
      refine for_it EnS.walk_enumS (fun i σ H' => ∃ (s : TSt) (ps : List (Addr × Lv)) (p : Addr × Lv) (y3 y4 : Option V), σ = [some (.str (Sx cs)), some (.ref l), some (.str (Sx s.1)), y3, y4] ∧ InvT C H H' l ps p s ∧ stT (cs.take i) = some s)
        ⟨([], [], lv0), [], (x, lv0), _, _, rfl, iv1, rfl⟩ (fun _ _ _ _ _ => True.intro) ?_ ?_
      rotate_left
      · rintro σ H2 ⟨s, ps, p, y3, y4, rfl, iv, hs⟩
        rw [show (Sx cs).cps.size = cs.length from sx_len cs, List.take_length] at hs
        exact ⟨s, ps, p, _, _, rfl, iv, hs⟩
      rintro i v σ H2 H3 hi ⟨s, ps, p, y3, y4, rfl, iv, hs⟩ ⟨Tq, c, rfl, nT, rfl, hc⟩
      have hi : i < cs.length := by
        rw [show (Sx cs).cps.size = cs.length from sx_len cs] at hi
        exact hi
      have hc : cs[i]? = some c := by
        have : cs.toArray[i]? = some c := hc
        simpa using this
      have sT := same_upd (o := .tup [.int (i : Nat), .str ⟨#[c]⟩]) nT
      have hTq : (upd H2 Tq (.tup [.int (i : Nat), .str ⟨#[c]⟩])) Tq = some (.tup [.int (i : Nat), .str ⟨#[c]⟩]) := upd_same
      have iv3 := iv.same sT
      generalize upd H2 Tq (.tup [.int (i : Nat), .str ⟨#[c]⟩]) = H3 at sT hTq iv3
      refine ⟨Tq, _, rfl, SqT.of hTq, rfl, _, _, rfl, _, _, rfl, rfl, ?_⟩
      have ok := stT_ok hs
      have e1 : ps.map (·.2) = s.2.1 := congrArg Prod.fst iv.st
      have e2 : p.2 = s.2.2 := congrArg Prod.snd iv.st
      have e3 : ps.length = s.2.1.length := by rw [← e1, List.length_map]
      have hpl : ps.length ≤ i := by
        rw [e3]
        have := stT_len _ hs
        rw [List.length_take] at this
        omega
      refine ⟨_, rfl, _, rfl, _, rfl, c, s.1, l, ps, p, rfl, ok.ah, iv3.ls, ?_⟩
      refine ⟨_, rfl, ?_⟩
      rw [e2, e3]
      cases hcan : canT c s.1 s.2.2 (decide (0 < s.2.1.length)) with
      | false =>
        refine iteT ⟨_, rfl, fun d hd => qE i H3 (.inl ⟨s, c, hs, hc, ?_⟩) iv3.sm d hd⟩
        unfold stepT
        rw [hcan]
        rfl
      | true =>
      refine iteF ?_
      have hot := can_ok ok hcan
      refine ⟨_, rfl, _, rfl, c, l, ps, p, rfl, iv3.ls, by rw [e1, e2]; exact hot, by omega, fun H4 ps' p' hl' et lk new => ?_⟩
      rw [e1, e2] at et
      have hst : stepT s c = some ([c], takeT c s.2.1 s.2.2) := by
        unfold stepT
        rw [hcan]
        rfl
      refine ⟨_, rfl, ([c], takeT c s.2.1 s.2.2), ps', p', _, _, rfl, iv3.step hl' lk new et, ?_⟩
      rw [take_next hc, stT_snoc, hs]
      exact hst
    rintro σ' H2 ⟨s, ps, p, y3, y4, rfl, iv, hs⟩
    have e1 : ps.map (·.2) = s.2.1 := congrArg Prod.fst iv.st
    have e2 : p.2 = s.2.2 := congrArg Prod.snd iv.st
    obtain ⟨dx, ve, vr, vl, h1, h2, h3, h4⟩ := id iv.ls.top
    have hl2 := iv.ls.at_
    have hcz : (Sx cs).length = cs.length := sx_len cs
    refine ⟨_, rfl, l, _, rfl, .inl (SqL.of hl2), _, _, rfl, rfl, _, rfl, ?_⟩
    by_cases hps : ps = []
    rotate_left
    · have hlen : (1 : Int) < ((((ps ++ [p]).map fun x => V.ref x.1).length : Nat) : Int) := by
        rw [List.length_map, List.length_append, List.length_singleton]
        have := List.length_pos_iff.mpr hps
        omega
      refine itT hlen (iteT ⟨_, rfl, Sx cs, rfl, by rw [hcz]; omega, fun d hd => ?_⟩)
      rw [hcz]
      refine qE cs.length H2 (.inr ⟨rfl, s, hs, .inl ?_⟩) iv.sm d hd
      rw [← e1]
      exact fun z => hps (List.map_eq_nil_iff.mp z)
    subst hps
    refine itF (by rw [List.length_map]; exact (by decide : ¬ (1 : Int) < 1)) ?_
    refine ⟨_, rfl, l, _, 0, _, rfl, rfl, SqL.of hl2, rfl, p.1, C, dx, _, _, rfl, h1, T.cl, T.n3, rfl, rfl, _, rfl, ?_⟩
    cases el : p.2.l with
    | none =>
      rw [el] at h4
      obtain rfl := h4
      rw [decide_eq_true (rfl : V.non = V.non)]
      refine iteT ⟨_, rfl, Sx cs, rfl, by rw [hcz]; omega, fun d hd => ?_⟩
      rw [hcz]
      exact qE cs.length H2 (.inr ⟨rfl, s, hs, .inr (by rw [← e2]; exact el)⟩) iv.sm d hd
    | some t =>
      rw [el] at h4
      obtain ⟨a, rfl, ha⟩ := h4
      rw [decide_eq_false (show ¬ V.ref a = V.non from fun z => nomatch z)]
      refine iteF ?_
      refine ⟨_, rfl, l, _, 0, _, rfl, rfl, SqL.of hl2, rfl, p.1, dx, _, rfl, h1, rfl, p.1, p.2, t, rfl, iv.ls.top, el, fun b H3 s3 hb => ?_⟩
      rw [e2] at hb el
      exact qN s t b H3 hs e1.symm el (iv.sm.trans s3) hb
end
end Onp
set_option maxHeartbeats 8000000
set_option autoImplicit false
/-! _law_tree -/
namespace Onp
open PySem PySem.Spec PyProof.Rows L2 HotX L2H LamX
abbrev sTree : Stmt := topS 19
/-- a drawn tree of such a depth -/
inductive GTr (ls : List Nat) : Nat → Tr → Prop
  | no {d : Nat} : GTr ls d .no
  | lt {d c : Nat} {x : Str} (hc : c ∈ ls) (hx : x ∈ deedsL) : GTr ls d (.lt (Sx [c]) x)
  | one {d : Nat} {k : Str} {t : Tr} (hk : k = "many" ∨ k = "maybe") (h : GTr ls d t) : GTr ls (d + 1) (.one k t)
  | two {d : Nat} {k : Str} {a b : Tr} (hk : k = "row" ∨ k = "either") (ha : GTr ls d a) (hb : GTr ls d b) : GTr ls (d + 1) (.two k a b)
theorem Keep.tk {g : Bid} {H H' : Hp} (B : Bg H g) (k : Keep g.b H H') : TK H H' := fun a xs e => k a _ (fun z => by
  subst z
  obtain ⟨i, r, s, c, h1, _⟩ := B
  rw [h1] at e
  unfold bagV at e
  cases e) e
section
variable {P : Program} {w : World} {K : PySem.W.Frag} {mg : Str → Option Value} {base : Heap}
def NTr : List Str := ["_law_bag_here", "_law_letters_here", "_law_depth", "_law_act", "_law_tree_here", "_law_other"]
def psTr : List Str := ["_law_bag_here", "_law_letters_here", "_law_depth"]
theorem scTree : FnScope NTr psTr (defScope sTree) := ⟨rfl, rfl, rfl, by decide +kernel, rfl, by decide +kernel, by decide +kernel⟩
def spTree (d : Nat) : Sp := fun vs H Q _ => ∃ (g : Bid) (ls : List Nat) (e : Nat), vs = [.ref g.b, .str (Sx ls), .int (e : Nat)] ∧ e ≤ d ∧ Bg H g ∧ 0 < ls.length ∧ ls.length < 1000 ∧ ∀ (a : Addr) (T : Tr) H', GTr ls d T → TrAt H' a T → Keep g.b H H' → Bg H' g → Q (.ref a) H'
theorem ok_tree {f fP fO fDe : Addr} {fd fdP fdO fdDe : FuncData} (F : FnM K mg f fd "_law_tree" sTree psTr) (Pu : FnM K mg fP fdP "_law_pull" sPull ["_law_bag_here", "_law_many"]) (O : FnM K mg fO fdO "_law_of" sOf ["_law_bag_here", "_law_some"]) (De : FnM K mg fDe fdDe "_law_deed" sDeed ["_law_bag_here"]) (ml : mg "len" = none) (mm : mg "max" = none) :
    ∀ (d k : Nat), FnOk P w K mg base CX0 (k + d + 4) f fd psTr (spTree d) := by
  intro d
  induction d with
  | zero =>
    intro k
    have GP : FnOk P w K mg base CX0 (k + 3) fP fdP ["_law_bag_here", "_law_many"] (spPull K) := ok_pull Pu.F ml
    have GO : FnOk P w K mg base CX0 (k + 3) fO fdO ["_law_bag_here", "_law_some"] spOfS := ok_ofS O.F Pu.F Pu.b Pu.g ml
    have GD : FnOk P w K mg base CX0 (k + 3) fDe fdDe ["_law_bag_here"] spDeed := ok_deed De.F O Pu ml
    refine F.F.ok scTree (fun vs H Q E h => ?_) (fun cdv A outer s H vs Q E hr h => ?_)
    · obtain ⟨g, ls, e, rfl, _⟩ := h
      rfl
    · obtain ⟨g, ls, e, rfl, he, B, l0, l1, q⟩ := h
      refine ⟨_, pss_cons (ps_set (i := 3) scTree.nd rfl (.inl rfl) (pe_call GP hr (by rfl) Pu.g Pu.F.kp Pu.b .nil pass0 (pa_cons (pv 0) (pa_cons pe_int pa_nil))))
        (pss_cons (ps_if (PW.pt (pw_or (pt_cmpR op_eq (pv 2) pe_int (nomark _)) (pw_or1 (pt_cmpR op_eq (pv 3) pe_int (nomark _))))) (pss_cons (ps_if (pt_cmpR op_eq (pe_call GP hr (by rfl) Pu.g Pu.F.kp Pu.b .nil pass0 (pa_cons (pv 0) (pa_cons pe_int pa_nil))) pe_int (nomark _)) (pss_one (ps_ret (pe_tup (pa_cons pe_str pa_nil)))) pss_nil)
          (pss_one (ps_ret (pe_tup (pa_cons pe_str (pa_cons (pe_call GO hr (by rfl) O.g O.F.kp O.b .nil pass0 (pa_cons (pv 0) (pa_cons (pv 1) pa_nil))) (pa_cons (pe_call GD hr (by rfl) De.g De.F.kp De.b .nil pass0 (pa_cons (pv 0) pa_nil)) pa_nil))))))) pss_nil) pss_never), ?_⟩
      refine ⟨_, rfl, g, 8, rfl, by decide, by decide, B, fun ac H1 z0 z1 k1 B1 => ?_⟩
      refine ⟨_, rfl, rfl, _, rfl, itT (by rw [show e = 0 by omega]; rfl) (iteT ?_)⟩
      refine ⟨_, rfl, g, 8, rfl, by decide, by decide, B1, fun z2 H2 z20 z21 k2 B2 => ?_⟩
      refine ⟨rfl, _, rfl, ?_⟩
      by_cases h0 : z2 = 0
      · refine itT (by rw [h0]) ⟨(by decide : 1 ≤ sizeLine), fun a na => ?_⟩
        have sa := same_upd (o := .tup [.str "nothing"]) na
        exact q a .no _ .no (.no upd_same) (k1.trans (k2.trans (.of sa))) (B2.same sa)
      · refine itF (fun z => h0 (V.int.inj z)) ?_
        refine ⟨_, rfl, _, rfl, g, ls, rfl, B2, l0, l1, fun c H3 hc k3 B3 => ?_⟩
        refine ⟨_, rfl, g, rfl, B3, fun x H4 hx k4 B4 => ?_⟩
        refine ⟨(by decide : 3 ≤ sizeLine), fun a na => ?_⟩
        have sa := same_upd (o := .tup [.str "letter", .str (Sx [c]), .str x]) na
        exact q a (.lt (Sx [c]) x) _ (.lt hc hx) (.lt upd_same) (k1.trans (k2.trans (k3.trans (k4.trans (.of sa))))) (B4.same sa)
  | succ d ih =>
    intro k
    have GT : FnOk P w K mg base CX0 (k + (d + 1) + 3) f fd psTr (spTree d) := (ih k).mono (by omega)
    have GP : FnOk P w K mg base CX0 (k + (d + 1) + 3) fP fdP ["_law_bag_here", "_law_many"] (spPull K) := ok_pull Pu.F ml
    have GO' : FnOk P w K mg base CX0 (k + (d + 1) + 3) fO fdO ["_law_bag_here", "_law_some"] (spOf K) := ok_of O.F Pu.F Pu.b Pu.g ml
    have GO : FnOk P w K mg base CX0 (k + (d + 1) + 3) fO fdO ["_law_bag_here", "_law_some"] spOfS := ok_ofS O.F Pu.F Pu.b Pu.g ml
    have GD : FnOk P w K mg base CX0 (k + (d + 1) + 3) fDe fdDe ["_law_bag_here"] spDeed := ok_deed De.F O Pu ml
    refine F.F.ok scTree (fun vs H Q E h => ?_) (fun cdv A outer s H vs Q E hr h => ?_)
    · obtain ⟨g, ls, e, rfl, _⟩ := h
      rfl
    · obtain ⟨g, ls, e, rfl, he, B, l0, l1, q⟩ := h
      refine ⟨_, pss_cons (ps_set (i := 3) scTree.nd rfl (.inl rfl) (pe_call GP hr (by rfl) Pu.g Pu.F.kp Pu.b .nil pass0 (pa_cons (pv 0) (pa_cons pe_int pa_nil))))
        (pss_cutM (ps_if (PW.pt (pw_or (pt_cmpR op_eq (pv 2) pe_int (nomark _)) (pw_or1 (pt_cmpR op_eq (pv 3) pe_int (nomark _))))) (pss_cons (ps_if (pt_cmpR op_eq (pe_call GP hr (by rfl) Pu.g Pu.F.kp Pu.b .nil pass0 (pa_cons (pv 0) (pa_cons pe_int pa_nil))) pe_int (nomark _)) (pss_one (ps_ret (pe_tup (pa_cons pe_str pa_nil)))) pss_nil)
          (pss_one (ps_ret (pe_tup (pa_cons pe_str (pa_cons (pe_call GO hr (by rfl) O.g O.F.kp O.b .nil pass0 (pa_cons (pv 0) (pa_cons (pv 1) pa_nil))) (pa_cons (pe_call GD hr (by rfl) De.g De.F.kp De.b .nil pass0 (pa_cons (pv 0) pa_nil)) pa_nil))))))) pss_nil)
        (pss_cutM (ps_set (i := 4) scTree.nd rfl (.inl rfl) (pe_call GT hr (by rfl) F.g F.F.kp F.b .nil pass0 (pa_cons (pv 0) (pa_cons (pv 1) (pa_cons (pe_op op_sub (pv 2) pe_int) pa_nil)))))
        (pss_cons (ps_if (pt_cmpR op_eq (pv 3) pe_int (nomark _)) (pss_one (ps_ret (pe_tup (pa_cons (pe_call GO' hr (by rfl) O.g O.F.kp O.b .nil pass0 (pa_cons (pv 0) (pa_cons (pe_lst (pa_cons pe_str (pa_cons pe_str pa_nil))) pa_nil))) (pa_cons (pv 4) pa_nil))))) pss_nil)
        (pss_cons (ps_set (i := 5) scTree.nd rfl (.inl rfl) (pe_call GT hr (by rfl) F.g F.F.kp F.b .nil pass0 (pa_cons (pv 0) (pa_cons (pv 1) (pa_cons (pe_callB (call_max2 rfl) (by rfl) mm (by decide +kernel) (pa_cons pe_int (pa_cons (pe_op op_sub (pe_op op_sub (pv 2) pe_int) (pe_call GP hr (by rfl) Pu.g Pu.F.kp Pu.b .nil pass0 (pa_cons (pv 0) (pa_cons pe_int pa_nil)))) pa_nil))) pa_nil)))))
        (pss_one (ps_ret (pe_tup (pa_cons (pe_ix ix_list (pe_lst (pa_cons pe_str (pa_cons pe_str (pa_cons pe_str pa_nil)))) (pe_op op_mod (pv 3) pe_int) (fun _ _ => rfl)) (pa_cons (pv 4) (pa_cons (pv 5) pa_nil)))))))))), ?_⟩
      refine ⟨_, rfl, g, 8, rfl, by decide, by decide, B, fun ac H1 z0 z1 k1 B1 => ?_⟩
      refine ⟨fun σ' H' => σ' = [some (.ref g.b), some (.str (Sx ls)), some (.int (e : Nat)), some (.int ac), none, none] ∧ H' = H1 ∧ 1 ≤ e, ?_, ?_⟩
      · refine ⟨_, rfl, rfl, _, rfl, ?_⟩
        by_cases he0 : e = 0
        · refine itT (by rw [he0]; rfl) (iteT ?_)
          refine ⟨_, rfl, g, 8, rfl, by decide, by decide, B1, fun z2 H2 z20 z21 k2 B2 => ?_⟩
          refine ⟨rfl, _, rfl, ?_⟩
          by_cases h0 : z2 = 0
          · refine itT (by rw [h0]) ⟨(by decide : 1 ≤ sizeLine), fun a na => ?_⟩
            have sa := same_upd (o := .tup [.str "nothing"]) na
            exact q a .no _ .no (.no upd_same) (k1.trans (k2.trans (.of sa))) (B2.same sa)
          · refine itF (fun z => h0 (V.int.inj z)) ?_
            refine ⟨_, rfl, _, rfl, g, ls, rfl, B2, l0, l1, fun c H3 hc k3 B3 => ?_⟩
            refine ⟨_, rfl, g, rfl, B3, fun x H4 hx k4 B4 => ?_⟩
            refine ⟨(by decide : 3 ≤ sizeLine), fun a na => ?_⟩
            have sa := same_upd (o := .tup [.str "letter", .str (Sx [c]), .str x]) na
            exact q a (.lt (Sx [c]) x) _ (.lt hc hx) (.lt upd_same) (k1.trans (k2.trans (k3.trans (k4.trans (.of sa))))) (B4.same sa)
        refine itF (fun z => he0 (by have := V.int.inj z; omega)) ?_
        refine ⟨_, rfl, rfl, _, rfl, ?_⟩
        by_cases hz : ac = 0
        · refine itT (by rw [hz]) ?_
          refine ⟨_, rfl, g, 8, rfl, by decide, by decide, B1, fun z2 H2 z20 z21 k2 B2 => ?_⟩
          refine ⟨rfl, _, rfl, ?_⟩
          by_cases h0 : z2 = 0
          · refine itT (by rw [h0]) ⟨(by decide : 1 ≤ sizeLine), fun a na => ?_⟩
            have sa := same_upd (o := .tup [.str "nothing"]) na
            exact q a .no _ .no (.no upd_same) (k1.trans (k2.trans (.of sa))) (B2.same sa)
          · refine itF (fun z => h0 (V.int.inj z)) ?_
            refine ⟨_, rfl, _, rfl, g, ls, rfl, B2, l0, l1, fun c H3 hc k3 B3 => ?_⟩
            refine ⟨_, rfl, g, rfl, B3, fun x H4 hx k4 B4 => ?_⟩
            refine ⟨(by decide : 3 ≤ sizeLine), fun a na => ?_⟩
            have sa := same_upd (o := .tup [.str "letter", .str (Sx [c]), .str x]) na
            exact q a (.lt (Sx [c]) x) _ (.lt hc hx) (.lt upd_same) (k1.trans (k2.trans (k3.trans (k4.trans (.of sa))))) (B4.same sa)
        · exact itF (fun z => hz (V.int.inj z)) ⟨rfl, rfl, by omega⟩
      rintro σ' H' ⟨rfl, rfl, he1⟩
      -- the first tree
      refine ⟨fun σ' H' => ∃ (a : Addr) (T : Tr), σ' = [some (.ref g.b), some (.str (Sx ls)), some (.int (e : Nat)), some (.int ac), some (.ref a), none] ∧ GTr ls d T ∧ TrAt H' a T ∧ Keep g.b H H' ∧ Bg H' g, ?_, ?_⟩
      · refine ⟨_, rfl, _, rfl, _, rfl, _, _, rfl, rfl, ?_⟩
        exact ⟨g, ls, e - 1, (by rw [show ((e - 1 : Nat) : Int) = (e : Int) - 1 by omega]; rfl), by omega, B1, l0, l1, fun a T H2 hT ha k2 B2 => ⟨_, _, rfl, hT, ha, k1.trans k2, B2⟩⟩
      clear B1 k1
      rintro σ' H1 ⟨a, T, rfl, hT, ha, k1, B1⟩
      refine ⟨_, rfl, rfl, _, rfl, ?_⟩
      by_cases h1 : ac = 1
      · refine itT (by rw [h1]) ⟨_, rfl, (by decide : 2 ≤ sizeLine), fun p np => ?_⟩
        have sp := same_upd (o := .lst [.str "many", .str "maybe"]) np
        refine ⟨g, p, _, rfl, B1.same sp, Bg.ne B1 np, SqL.of upd_same, (by show 0 < 2; decide), (by show 2 < 1000; decide), fun x H3 hx k3 B3 => ?_⟩
        have ha3 := (ha.tk (.of sp)).tk (Keep.tk (B1.same sp) k3)
        have fin : ∀ kd : Str, (kd = "many" ∨ kd = "maybe") → x = .str kd → ∃ v : V, some (some (V.ref a)) = some (some v) ∧ (2 : Nat) ≤ sizeLine ∧ ∀ q', H3 q' = none → Q (.ref q') (upd H3 q' (.tup [x, v])) := fun kd hk ex => by
          refine ⟨_, rfl, (by decide : 2 ≤ sizeLine), fun q' nq => ?_⟩
          rw [ex]
          have sq := same_upd (o := .tup [.str kd, .ref a]) nq
          exact q q' (.one kd T) _ (.one hk hT) (.one upd_same (ha3.tk (.of sq))) (k1.trans ((Keep.of sp).trans (k3.trans (.of sq)))) (B3.same sq)
        simp only [tNil, List.mem_cons, List.not_mem_nil, or_false] at hx
        rcases hx with rfl | rfl
        · exact fin "many" (.inl rfl) rfl
        · exact fin "maybe" (.inr rfl) rfl
      refine itF (fun z => h1 (V.int.inj z)) ?_
      -- the other tree
      refine ⟨_, rfl, _, rfl, _, rfl, _, _, rfl, rfl, _, rfl, g, 2, rfl, by decide, by decide, B1, fun z H2 z20 z21 k2 B2 => ?_⟩
      refine ⟨_, _, rfl, rfl, _, _, rfl, ?_⟩
      obtain ⟨e2, ee, he2⟩ : ∃ e2 : Nat, (if ((e : Nat) : Int) - 1 - z > 0 then ((e : Nat) : Int) - 1 - z else 0) = (e2 : Int) ∧ e2 ≤ d := by
        split
        · exact ⟨(((e : Nat) : Int) - 1 - z).toNat, by omega, by omega⟩
        · exact ⟨0, rfl, Nat.zero_le _⟩
      refine ⟨g, ls, e2, (by rw [← ee]; rfl), he2, B2, l0, l1, fun b U H3 hU hb k3 B3 => ?_⟩
      have k23 := k2.trans k3
      have ha3 := ha.tk (Keep.tk B1 k23)
      refine ⟨(by decide : 3 ≤ sizeLine), fun p np => ?_⟩
      have sp := same_upd (o := .lst [.str "row", .str "row", .str "either"]) np
      have hp : (upd H3 p (.lst [.str "row", .str "row", .str "either"])) p = some (.lst [.str "row", .str "row", .str "either"]) := upd_same
      generalize upd H3 p (.lst [.str "row", .str "row", .str "either"]) = H4 at sp hp
      obtain ⟨kd, hk, hat⟩ : ∃ kd : Str, (kd = "row" ∨ kd = "either") ∧ atI [V.str "row", .str "row", .str "either"] (ac % 3) = some (.str kd) := by
        have hm : ac % 3 = 0 ∨ ac % 3 = 1 ∨ ac % 3 = 2 := by omega
        rcases hm with e | e | e <;> rw [e]
        · exact ⟨"row", .inl rfl, rfl⟩
        · exact ⟨"row", .inl rfl, rfl⟩
        · exact ⟨"either", .inr rfl, rfl⟩
      refine ⟨_, rfl, _, _, rfl, rfl, (by show (0 : Int) < 3; decide), p, _, _, _, rfl, rfl, SqL.of hp, hat, _, rfl, _, rfl, (by decide : 3 ≤ sizeLine), fun q' nq => ?_⟩
      have sq := same_upd (o := .tup [.str kd, .ref a, .ref b]) nq
      have s2 := sp.trans sq
      exact q q' (.two kd T U) _ (.two hk hT hU) (.two upd_same (ha3.tk (.of s2)) (hb.tk (.of s2))) (k1.trans (k23.trans (.of s2))) (B3.same s2)
end
end Onp
set_option maxHeartbeats 8000000
set_option autoImplicit false
/-! _law_signs, _law_text_of -/
namespace Onp
open PySem PySem.Spec PyProof.Rows L2 HotX L2H LamX
abbrev sSigns : Stmt := topS 20
abbrev sTextOf : Stmt := topS 21
def dgn (x : Str) : List Nat := if x = "cent" then [33] else if x = "fill" then [46] else if x = "coin" then [36] else if x = "brim" then [58] else []
def kdT : Tr → Str
  | .no => "nothing"
  | .lt _ _ => "letter"
  | .one k _ => k
  | .two k _ _ => k
def brT (z : List Nat) : List Nat := 40 :: (z ++ [41])
def isTwo (t : Tr) : Bool := decide (kdT t = "row") || decide (kdT t = "either")
def inBr (k : Str) (b : Tr) : Bool := decide (kdT b = "either") || (decide (k = "row") && decide (kdT b = "row"))
/-- a tree's text -/
def textT : Tr → List Nat
  | .no => [45]
  | .lt z d => z.cps.toList ++ dgn d
  | .one k t => (if isTwo t = true then brT (textT t) else textT t) ++ (if k = "many" then [42] else [63])
  | .two k a b =>
    if k = "either" then textT a ++ [124] ++ (if inBr k b = true then brT (textT b) else textT b)
    else (if kdT a = "either" then brT (textT a) else textT a) ++ (if inBr k b = true then brT (textT b) else textT b)
def widT : Nat → Nat
  | 0 => 2
  | d + 1 => 2 * widT d + 5
theorem widT_ge : ∀ d, 2 ≤ widT d
  | 0 => Nat.le_refl _
  | d + 1 => by
    have := widT_ge d
    show 2 ≤ 2 * widT d + 5
    omega
theorem dgn_len (x : Str) : (dgn x).length ≤ 1 := by
  unfold dgn
  repeat (first | split | exact Nat.le_refl _ | exact Nat.zero_le _)
theorem brT_len (z : List Nat) : (brT z).length = z.length + 2 := by
  unfold brT
  rw [List.length_cons, List.length_append, List.length_singleton]
theorem ite_len {c : Prop} [Decidable c] {a b : List Nat} {n : Nat} (h1 : a.length ≤ n) (h2 : b.length ≤ n) : (if c then a else b).length ≤ n := by
  split
  · exact h1
  · exact h2
theorem textT_len {ls : List Nat} {d : Nat} {t : Tr} (h : GTr ls d t) : (textT t).length ≤ widT d := by
  induction h with
  | no => exact Nat.le_trans (by decide) (widT_ge _)
  | @lt d c x hc hx =>
    have h1 := dgn_len x
    have h2 := widT_ge d
    show ((Sx [c]).cps.toList ++ dgn x).length ≤ _
    rw [cps_sx, List.length_append, List.length_singleton]
    omega
  | @one d k t hk h ih =>
    have h0 := brT_len (textT t)
    have h1 : (if isTwo t = true then brT (textT t) else textT t).length ≤ widT d + 2 := ite_len (by omega) (by omega)
    have h2 : (if k = "many" then [42] else [63]).length ≤ 1 := ite_len (Nat.le_refl _) (Nat.le_refl _)
    show ((if isTwo t = true then brT (textT t) else textT t) ++ (if k = "many" then [42] else [63])).length ≤ 2 * widT d + 5
    rw [List.length_append]
    omega
  | @two d k a b hk ha hb ia ib =>
    have ha0 := brT_len (textT a)
    have hb0 := brT_len (textT b)
    have h1 : (if inBr k b = true then brT (textT b) else textT b).length ≤ widT d + 2 := ite_len (by omega) (by omega)
    have h2 : (if kdT a = "either" then brT (textT a) else textT a).length ≤ widT d + 2 := ite_len (by omega) (by omega)
    show (if k = "either" then textT a ++ [124] ++ (if inBr k b = true then brT (textT b) else textT b) else (if kdT a = "either" then brT (textT a) else textT a) ++ (if inBr k b = true then brT (textT b) else textT b)).length ≤ 2 * widT d + 5
    refine ite_len ?_ ?_
    · rw [List.length_append, List.length_append, List.length_singleton]
      omega
    · rw [List.length_append]
      omega
def sgK : List (Key × V) := [(.inr "keep", .str ""), (.inr "cent", .str "!"), (.inr "fill", .str "."), (.inr "coin", .str "$"), (.inr "brim", .str ":")]
theorem sgK_val : ∀ x ∈ deedsL, valV sgK (.inr x) = some (.str (Sx (dgn x))) := by
  intro x hx
  simp only [deedsL, List.mem_cons, List.not_mem_nil, or_false] at hx
  rcases hx with rfl | rfl | rfl | rfl | rfl <;> rfl
theorem sgK_merge : mergeK [] sgK = sgK := rfl
section
variable {P : Program} {w : World} {K : PySem.W.Frag} {mg : Str → Option Value} {base : Heap}
theorem scSigns : FnScope [] [] (defScope sSigns) := ⟨rfl, rfl, rfl, by decide +kernel, rfl, by decide +kernel, by decide +kernel⟩
def spSigns : Sp := fun vs H Q _ => vs = [] ∧ ∀ p H', Same H H' → H' p = some (.dK sgK) → Q (.ref p) H'
theorem ok_signs {f : Addr} {fd : FuncData} {k : Nat} (F : Fun K "_law_signs" "_law_signs" sSigns f fd) : FnOk P w K mg base CX0 (k + 1) f fd [] spSigns := by
  refine F.ok scSigns (fun vs H Q E h => ?_) (fun cdv A outer s H vs Q E hr h => ?_)
  · obtain ⟨rfl, _⟩ := h
    rfl
  · obtain ⟨rfl, q⟩ := h
    refine ⟨_, pss_one (ps_ret (pe_disp (pps_cons pe_str pe_str (pps_cons pe_str pe_str (pps_cons pe_str pe_str (pps_cons pe_str pe_str (pps_cons pe_str pe_str pps_nil))))) rfl rfl (by simp) (by decide))), ?_⟩
    refine fun p np => ⟨upd_same, sgK, rfl, by decide, ?_⟩
    rw [sgK_merge, upd_upd]
    exact q p _ (same_upd np) upd_same
/-! ### _law_text_of -/
def NTo : List Str := ["_law_tree_here", "_law_kind", "_law_first", "_law_last"]
theorem scTextOf : FnScope NTo ["_law_tree_here"] (defScope sTextOf) := ⟨rfl, rfl, rfl, by decide +kernel, rfl, by decide +kernel, by decide +kernel⟩
def spTextOf (d : Nat) : Sp := fun vs H Q _ => ∃ (a : Addr) (T : Tr) (ls : List Nat), vs = [.ref a] ∧ TrAt H a T ∧ GTr ls d T ∧ ∀ H', Same H H' → Q (.str (Sx (textT T))) H'
theorem hd_at {H : Hp} {a : Addr} {T : Tr} (h : TrAt H a T) : ∃ xs, H a = some (.tup (.str (kdT T) :: xs)) := by
  cases h with
  | no h => exact ⟨_, h⟩
  | lt h => exact ⟨_, h⟩
  | one h _ => exact ⟨_, h⟩
  | two h _ _ => exact ⟨_, h⟩
theorem at_hd {α : Type} (x : α) (xs : List α) : atI (x :: xs) 0 = some x := atI_nat (j := 0) rfl
theorem eqStr (x y : Str) : decide (V.str x = V.str y) = decide (x = y) := by
  rw [decide_eq_decide]
  exact ⟨fun z => V.str.inj z, fun z => by rw [z]⟩
theorem in_two (x y z : Str) : inV (.str x) [.str y, .str z] = (decide (x = y) || decide (x = z)) := by
  have h := inV_strs x [y, z]
  show inV (.str x) ([y, z].map V.str) = _
  rw [h, Bool.eq_iff_iff, decide_eq_true_eq, Bool.or_eq_true, decide_eq_true_eq, decide_eq_true_eq]
  simp
def mmK : List (Key × V) := [(.inr "many", .str "*"), (.inr "maybe", .str "?")]
theorem mmK_merge : mergeK [] mmK = mmK := rfl
theorem wid5 {d : Nat} (h : d ≤ 4) : widT d ≤ 200 := by
  rcases d with _ | _ | _ | _ | _ | d
  · decide
  · decide
  · decide
  · decide
  · decide
  · omega
theorem ok_textOf {f fSg : Addr} {fd fdSg : FuncData} (F : FnM K mg f fd "_law_text_of" sTextOf ["_law_tree_here"]) (Sg : FnM K mg fSg fdSg "_law_signs" sSigns []) :
    ∀ (d : Nat), d ≤ 5 → ∀ k, FnOk P w K mg base CX0 (k + d + 2) f fd ["_law_tree_here"] (spTextOf d) := by
  intro d
  induction d with
  | zero =>
    intro _ k
    have GS : FnOk P w K mg base CX0 (k + 1) fSg fdSg [] spSigns := ok_signs Sg.F
    refine F.F.ok scTextOf (fun vs H Q E h => ?_) (fun cdv A outer s H vs Q E hr h => ?_)
    · obtain ⟨a, T, ls, rfl, _⟩ := h
      rfl
    · obtain ⟨a, T, ls, rfl, ha, hT, q⟩ := h
      have hu : (cxOf CX0 P w K mg base NTo "_law_text_of" (defScope sTextOf) f cdv A outer s H E).nox.A.units + 1 < cLine := Nat.lt_of_le_of_lt (Nat.add_le_add_left (by decide) _) hr.units
      refine ⟨_, pss_cons (ps_set (i := 1) scTextOf.nd rfl (.inl rfl) (pe_ix ix_tup (pv 0) pe_int (fun _ _ => rfl)))
        (pss_cons (ps_if (pt_cmpR op_eq (pv 1) pe_str (nomark _)) (pss_one (ps_ret pe_str)) pss_nil)
        (pss_cons (ps_if (pt_cmpR op_eq (pv 1) pe_str (nomark _)) (pss_one (ps_ret (pe_op op_add_str (pe_ix ix_tup (pv 0) pe_int (fun _ _ => rfl)) (pe_dget hu (pe_call0 GS hr (by rfl) Sg.g Sg.F.kp Sg.b .nil pass0) (pe_ix ix_tup (pv 0) pe_int (fun _ _ => rfl)) (fun _ _ => rfl))))) pss_nil)
        pss_never)), ?_⟩
      have eM : ("-" : Str) = Sx [45] := by decide +kernel
      have eO : ("(" : Str) = Sx [40] := by decide +kernel
      have eC : (")" : Str) = Sx [41] := by decide +kernel
      have eB : ("|" : Str) = Sx [124] := by decide +kernel
      have eK : ("*" : Str) = Sx [42] := by decide +kernel
      have eQ : ("?" : Str) = Sx [63] := by decide +kernel
      have hbig : 50000 ≤ sizeLine := by decide
      cases hT with
      | no =>
        cases ha with
        | no h =>
        refine ⟨_, rfl, a, _, 0, _, rfl, rfl, SqT.of h, rfl, ?_⟩
        refine ⟨_, rfl, rfl, _, rfl, itT rfl ?_⟩
        rw [eM]
        exact q H (Same.refl _)
      | @lt _ c x hc hx =>
        cases ha with
        | lt h =>
        refine ⟨_, rfl, a, _, 0, _, rfl, rfl, SqT.of h, rfl, ?_⟩
        refine ⟨_, rfl, rfl, _, rfl, itF (fun z => absurd (V.str.inj z) (by decide +kernel)) ?_⟩
        refine ⟨_, rfl, rfl, _, rfl, itT rfl ?_⟩
        refine ⟨_, rfl, a, _, 1, _, rfl, rfl, SqT.of h, rfl, rfl, fun p H1 s1 hp => ?_⟩
        refine ⟨_, rfl, a, _, 2, _, rfl, rfl, SqT.of (s1 _ _ h), rfl, p, .str (Sx (dgn x)), rfl, (by rw [← sgK_val x hx]; exact DGet.k (k := .inr x) hp), ?_⟩
        refine ⟨Sx [c], Sx (dgn x), rfl, rfl, by rw [sx_len, sx_len, List.length_singleton]; have := dgn_len x; omega, ?_⟩
        rw [sx_app]
        have e : textT (.lt (Sx [c]) x) = [c] ++ dgn x := by
          show (Sx [c]).cps.toList ++ dgn x = _
          rw [cps_sx]
        rw [e] at q
        exact q H1 s1
  | succ d ih =>
    intro hd k
    have GX : FnOk P w K mg base CX0 (k + (d + 1) + 1) f fd ["_law_tree_here"] (spTextOf d) := (ih (by omega) k).mono (by omega)
    have GS : FnOk P w K mg base CX0 (k + (d + 1) + 1) fSg fdSg [] spSigns := ok_signs Sg.F
    refine F.F.ok scTextOf (fun vs H Q E h => ?_) (fun cdv A outer s H vs Q E hr h => ?_)
    · obtain ⟨a, T, ls, rfl, _⟩ := h
      rfl
    · obtain ⟨a, T, ls, rfl, ha, hT, q⟩ := h
      have hu : (cxOf CX0 P w K mg base NTo "_law_text_of" (defScope sTextOf) f cdv A outer s H E).nox.A.units + 1 < cLine := Nat.lt_of_le_of_lt (Nat.add_le_add_left (by decide) _) hr.units
      refine ⟨_, pss_cons (ps_set (i := 1) scTextOf.nd rfl (.inl rfl) (pe_ix ix_tup (pv 0) pe_int (fun _ _ => rfl)))
        (pss_cons (ps_if (pt_cmpR op_eq (pv 1) pe_str (nomark _)) (pss_one (ps_ret pe_str)) pss_nil)
        (pss_cons (ps_if (pt_cmpR op_eq (pv 1) pe_str (nomark _)) (pss_one (ps_ret (pe_op op_add_str (pe_ix ix_tup (pv 0) pe_int (fun _ _ => rfl)) (pe_dget hu (pe_call0 GS hr (by rfl) Sg.g Sg.F.kp Sg.b .nil pass0) (pe_ix ix_tup (pv 0) pe_int (fun _ _ => rfl)) (fun _ _ => rfl))))) pss_nil)
        (pss_cutM (ps_set (i := 2) scTextOf.nd rfl (.inl rfl) (pe_call GX hr (by rfl) F.g F.F.kp F.b .nil pass0 (pa_cons (pe_ix ix_tup (pv 0) pe_int (fun _ _ => rfl)) pa_nil)))
        (pss_cutM (ps_if (pt_cmpR op_in_seq (pv 1) (pe_tup (pa_cons pe_str (pa_cons pe_str pa_nil))) (by rfl)) (pss_cutM (ps_if (pt_cmpR op_in_seq (pe_ix ix_tup (pe_ix ix_tup (pv 0) pe_int (fun _ _ => rfl)) pe_int (fun _ _ => rfl)) (pe_tup (pa_cons pe_str (pa_cons pe_str pa_nil))) (by rfl)) (pss_one (ps_set (i := 2) scTextOf.nd rfl (.inl rfl) (pe_op op_add_str (pe_op op_add_str pe_str (pv 2)) pe_str))) pss_nil) (pss_one (ps_ret (pe_op op_add_str (pv 2) (pe_dget hu (pe_disp (pps_cons pe_str pe_str (pps_cons pe_str pe_str pps_nil)) rfl rfl (by simp) (by decide)) (pv 1) (fun _ _ => rfl)))))) pss_nil)
        (pss_cutM (ps_set (i := 3) scTextOf.nd rfl (.inl rfl) (pe_call GX hr (by rfl) F.g F.F.kp F.b .nil pass0 (pa_cons (pe_ix ix_tup (pv 0) pe_int (fun _ _ => rfl)) pa_nil)))
        (pss_cutM (ps_if (PW.pt (pw_or (pt_cmpR op_eq (pe_ix ix_tup (pe_ix ix_tup (pv 0) pe_int (fun _ _ => rfl)) pe_int (fun _ _ => rfl)) pe_str (nomark _)) (pw_or1 (PW.pt (pw_and (pt_cmpR op_eq (pv 1) pe_str (nomark _)) (pw_and1 (pt_cmpR op_eq (pe_ix ix_tup (pe_ix ix_tup (pv 0) pe_int (fun _ _ => rfl)) pe_int (fun _ _ => rfl)) pe_str (nomark _)))))))) (pss_one (ps_set (i := 3) scTextOf.nd rfl (.inl rfl) (pe_op op_add_str (pe_op op_add_str pe_str (pv 3)) pe_str))) pss_nil)
        (pss_cons (ps_if (pt_cmpR op_eq (pv 1) pe_str (nomark _)) (pss_one (ps_ret (pe_op op_add_str (pe_op op_add_str (pv 2) pe_str) (pv 3)))) pss_nil)
        (pss_cutM (ps_if (pt_cmpR op_eq (pe_ix ix_tup (pe_ix ix_tup (pv 0) pe_int (fun _ _ => rfl)) pe_int (fun _ _ => rfl)) pe_str (nomark _)) (pss_one (ps_set (i := 2) scTextOf.nd rfl (.inl rfl) (pe_op op_add_str (pe_op op_add_str pe_str (pv 2)) pe_str))) pss_nil)
        (pss_one (ps_ret (pe_op op_add_str (pv 2) (pv 3)))))))))))), ?_⟩
      have eM : ("-" : Str) = Sx [45] := by decide +kernel
      have eO : ("(" : Str) = Sx [40] := by decide +kernel
      have eC : (")" : Str) = Sx [41] := by decide +kernel
      have eB : ("|" : Str) = Sx [124] := by decide +kernel
      have eK : ("*" : Str) = Sx [42] := by decide +kernel
      have eQ : ("?" : Str) = Sx [63] := by decide +kernel
      have hbig : 50000 ≤ sizeLine := by decide
      cases hT with
      | no =>
        cases ha with
        | no h =>
        refine ⟨_, rfl, a, _, 0, _, rfl, rfl, SqT.of h, rfl, ?_⟩
        refine ⟨_, rfl, rfl, _, rfl, itT rfl ?_⟩
        rw [eM]
        exact q H (Same.refl _)
      | @lt _ c x hc hx =>
        cases ha with
        | lt h =>
        refine ⟨_, rfl, a, _, 0, _, rfl, rfl, SqT.of h, rfl, ?_⟩
        refine ⟨_, rfl, rfl, _, rfl, itF (fun z => absurd (V.str.inj z) (by decide +kernel)) ?_⟩
        refine ⟨_, rfl, rfl, _, rfl, itT rfl ?_⟩
        refine ⟨_, rfl, a, _, 1, _, rfl, rfl, SqT.of h, rfl, rfl, fun p H1 s1 hp => ?_⟩
        refine ⟨_, rfl, a, _, 2, _, rfl, rfl, SqT.of (s1 _ _ h), rfl, p, .str (Sx (dgn x)), rfl, (by rw [← sgK_val x hx]; exact DGet.k (k := .inr x) hp), ?_⟩
        refine ⟨Sx [c], Sx (dgn x), rfl, rfl, by rw [sx_len, sx_len, List.length_singleton]; have := dgn_len x; omega, ?_⟩
        rw [sx_app]
        have e : textT (.lt (Sx [c]) x) = [c] ++ dgn x := by
          show (Sx [c]).cps.toList ++ dgn x = _
          rw [cps_sx]
        rw [e] at q
        exact q H1 s1
      | @one _ kd t hk ht =>
        cases ha with
        | @one _ b _ _ h hb =>
        have hlt := textT_len ht
        have hd5 : widT d ≤ 200 := wid5 (by omega)
        obtain ⟨ys, hy⟩ := hd_at hb
        have hk2 : (decide (kd = "many") || decide (kd = "maybe")) = true := by
          rcases hk with rfl | rfl <;> rfl
        have n1 : kd ≠ "nothing" := by rcases hk with rfl | rfl <;> decide +kernel
        have n2 : kd ≠ "letter" := by rcases hk with rfl | rfl <;> decide +kernel
        refine ⟨_, rfl, a, _, 0, _, rfl, rfl, SqT.of h, rfl, ?_⟩
        refine ⟨_, rfl, rfl, _, rfl, itF (fun z => n1 (V.str.inj z)) ?_⟩
        refine ⟨_, rfl, rfl, _, rfl, itF (fun z => n2 (V.str.inj z)) ?_⟩
        refine ⟨fun σ' H' => σ' = [some (.ref a), some (.str kd), some (.str (Sx (textT t))), none] ∧ Same H H', ?_, ?_⟩
        · exact ⟨_, rfl, a, _, 1, _, rfl, rfl, SqT.of h, rfl, b, t, ls, rfl, hb, ht, fun H1 s1 => ⟨rfl, s1⟩⟩
        rintro σ' H1 ⟨rfl, s1⟩
        refine ⟨fun _ _ => False, ?_, fun _ _ z => z.elim⟩
        refine ⟨_, rfl, (by decide : 2 ≤ sizeLine), fun p np => ⟨p, _, rfl, .inr (SqT.of upd_same), rfl, rfl, _, rfl, ?_⟩⟩
        have s2 := s1.trans (same_upd (o := .tup [.str "many", .str "maybe"]) np)
        generalize upd H1 p (.tup [.str "many", .str "maybe"]) = H2 at s2
        rw [in_two, hk2]
        refine iteT ?_
        refine ⟨fun σ' H' => σ' = [some (.ref a), some (.str kd), some (.str (Sx (if isTwo t = true then brT (textT t) else textT t))), none] ∧ Same H H', ?_, ?_⟩
        · refine ⟨_, rfl, a, _, 1, _, rfl, rfl, SqT.of (s2 _ _ h), rfl, b, _, 0, .str (kdT t), rfl, rfl, SqT.of (s2 _ _ hy), at_hd _ _, (by decide : 2 ≤ sizeLine), fun p2 np2 => ⟨p2, _, rfl, .inr (SqT.of upd_same), rfl, rfl, _, rfl, ?_⟩⟩
          have s3 := s2.trans (same_upd (o := .tup [.str "row", .str "either"]) np2)
          rw [in_two]
          cases hi : isTwo t with
          | true =>
            rw [show (decide (kdT t = "row") || decide (kdT t = "either")) = true from hi]
            refine iteT ⟨_, rfl, Sx [40], Sx (textT t), by rw [eO], rfl, by rw [sx_len, sx_len, List.length_singleton]; omega, Sx [40] ++ Sx (textT t), Sx [41], rfl, by rw [eC], by rw [sx_app, sx_len, sx_len, List.length_append, List.length_singleton, List.length_singleton]; omega, ?_⟩
            rw [sx_app, sx_app]
            exact ⟨rfl, s3⟩
          | false =>
            rw [show (decide (kdT t = "row") || decide (kdT t = "either")) = false from hi]
            exact iteF ⟨rfl, s3⟩
        rintro σ' H3 ⟨rfl, s3⟩
        have hfl : (if isTwo t = true then brT (textT t) else textT t).length ≤ 300 := ite_len (by rw [brT_len]; omega) (by omega)
        refine ⟨_, rfl, fun p3 np3 => ⟨upd_same, mmK, rfl, by decide, ?_⟩⟩
        rw [mmK_merge, upd_upd]
        have s4 := s3.trans (same_upd (o := .dK mmK) np3)
        have e4 : (upd H3 p3 (.dK mmK)) p3 = some (.dK mmK) := upd_same
        generalize upd H3 p3 (.dK mmK) = H4 at s4 e4
        have hv : valV mmK (.inr kd) = some (.str (Sx (if kd = "many" then [42] else [63]))) := by
          rcases hk with rfl | rfl
          · rw [if_pos rfl, ← eK]
            rfl
          · rw [if_neg (by decide +kernel), ← eQ]
            rfl
        refine ⟨_, rfl, p3, .str (Sx (if kd = "many" then [42] else [63])), rfl, (by rw [← hv]; exact DGet.k (k := .inr kd) e4), ?_⟩
        refine ⟨Sx (if isTwo t = true then brT (textT t) else textT t), Sx (if kd = "many" then [42] else [63]), rfl, rfl, ?_, ?_⟩
        · rw [sx_len, sx_len]
          have : (if kd = "many" then [42] else [63]).length ≤ 1 := ite_len (Nat.le_refl _) (Nat.le_refl _)
          omega
        · rw [sx_app]
          exact q H4 s4
      | @two _ kd t u hk ht hu' =>
        cases ha with
        | @two _ b c _ _ _ h hb hc =>
        have hlt := textT_len ht
        have hlu := textT_len hu'
        have hd5 : widT d ≤ 200 := wid5 (by omega)
        obtain ⟨ys, hy⟩ := hd_at hb
        obtain ⟨zs, hz⟩ := hd_at hc
        have hk2 : (decide (kd = "many") || decide (kd = "maybe")) = false := by
          rcases hk with rfl | rfl <;> decide +kernel
        have n1 : kd ≠ "nothing" := by rcases hk with rfl | rfl <;> decide +kernel
        have n2 : kd ≠ "letter" := by rcases hk with rfl | rfl <;> decide +kernel
        refine ⟨_, rfl, a, _, 0, _, rfl, rfl, SqT.of h, rfl, ?_⟩
        refine ⟨_, rfl, rfl, _, rfl, itF (fun z => n1 (V.str.inj z)) ?_⟩
        refine ⟨_, rfl, rfl, _, rfl, itF (fun z => n2 (V.str.inj z)) ?_⟩
        refine ⟨fun σ' H' => σ' = [some (.ref a), some (.str kd), some (.str (Sx (textT t))), none] ∧ Same H H', ?_, ?_⟩
        · exact ⟨_, rfl, a, _, 1, _, rfl, rfl, SqT.of h, rfl, b, t, ls, rfl, hb, ht, fun H1 s1 => ⟨rfl, s1⟩⟩
        rintro σ' H1 ⟨rfl, s1⟩
        refine ⟨fun σ' H' => σ' = [some (.ref a), some (.str kd), some (.str (Sx (textT t))), none] ∧ Same H H', ?_, ?_⟩
        · refine ⟨_, rfl, (by decide : 2 ≤ sizeLine), fun p np => ⟨p, _, rfl, .inr (SqT.of upd_same), rfl, rfl, _, rfl, ?_⟩⟩
          rw [in_two, hk2]
          exact iteF ⟨rfl, s1.trans (same_upd np)⟩
        rintro σ' H2 ⟨rfl, s2⟩
        refine ⟨fun σ' H' => σ' = [some (.ref a), some (.str kd), some (.str (Sx (textT t))), some (.str (Sx (textT u)))] ∧ Same H H', ?_, ?_⟩
        · exact ⟨_, rfl, a, _, 2, _, rfl, rfl, SqT.of (s2 _ _ h), rfl, c, u, ls, rfl, hc.tk (.of s2), hu', fun H3 s3 => ⟨rfl, s2.trans s3⟩⟩
        rintro σ' H3 ⟨rfl, s3⟩
        have brk : ∀ (v : List Nat), v.length ≤ 200 → Sx [40] ++ Sx v ++ Sx [41] = Sx (brT v) := fun v _ => by
          rw [sx_app, sx_app]
          rfl
        refine ⟨fun σ' H' => σ' = [some (.ref a), some (.str kd), some (.str (Sx (textT t))), some (.str (Sx (if inBr kd u = true then brT (textT u) else textT u)))] ∧ H' = H3, ?_, ?_⟩
        · have yes : inBr kd u = true → (∃ v : V, [some (V.ref a), some (.str kd), some (.str (Sx (textT t))), some (.str (Sx (textT u)))][3]? = some (some v) ∧ ∃ i j, V.str "(" = V.str i ∧ v = V.str j ∧ i.length + j.length ≤ sizeLine ∧ ∃ i' j', V.str (i ++ j) = V.str i' ∧ V.str ")" = V.str j' ∧ i'.length + j'.length ≤ sizeLine ∧ ([some (V.ref a), some (.str kd), some (.str (Sx (textT t))), some (.str (i' ++ j'))] = [some (V.ref a), some (.str kd), some (.str (Sx (textT t))), some (.str (Sx (if inBr kd u = true then brT (textT u) else textT u)))] ∧ H3 = H3)) := fun e => by
            refine ⟨_, rfl, Sx [40], Sx (textT u), by rw [eO], rfl, by rw [sx_len, sx_len, List.length_singleton]; omega, Sx [40] ++ Sx (textT u), Sx [41], rfl, by rw [eC], by rw [sx_app, sx_len, sx_len, List.length_append, List.length_singleton, List.length_singleton]; omega, ?_, rfl⟩
            rw [e, if_pos rfl, brk _ (by omega)]
          refine ⟨_, rfl, a, _, 2, _, rfl, rfl, SqT.of (s3 _ _ h), rfl, c, _, 0, .str (kdT u), rfl, rfl, SqT.of (s3 _ _ hz), at_hd _ _, rfl, _, rfl, ?_⟩
          rw [eqStr]
          by_cases e1 : kdT u = "either"
          · exact itT e1 (iteT (yes (by unfold inBr; rw [decide_eq_true e1, Bool.true_or])))
          refine itF e1 ⟨_, rfl, rfl, _, rfl, ?_⟩
          rw [eqStr]
          by_cases e2 : kd = "row"
          · refine itT e2 ⟨_, rfl, a, _, 2, _, rfl, rfl, SqT.of (s3 _ _ h), rfl, c, _, 0, .str (kdT u), rfl, rfl, SqT.of (s3 _ _ hz), at_hd _ _, rfl, _, rfl, ?_⟩
            rw [eqStr]
            by_cases e3 : kdT u = "row"
            · exact itT e3 (yes (by unfold inBr; rw [decide_eq_true e2, decide_eq_true e3, Bool.true_and, Bool.or_true]))
            · refine itF e3 ⟨?_, rfl⟩
              rw [if_neg (by unfold inBr; rw [decide_eq_false e1, decide_eq_false e3, Bool.and_false]; exact Bool.false_ne_true)]
          · refine itF e2 (iteF ⟨?_, rfl⟩)
            rw [if_neg (by unfold inBr; rw [decide_eq_false e1, decide_eq_false e2, Bool.false_and]; exact Bool.false_ne_true)]
        rintro σ' H' ⟨rfl, rfl⟩
        have hll : (if inBr kd u = true then brT (textT u) else textT u).length ≤ 300 := ite_len (by rw [brT_len]; omega) (by omega)
        have eT : textT (.two kd t u) = if kd = "either" then textT t ++ [124] ++ (if inBr kd u = true then brT (textT u) else textT u) else (if kdT t = "either" then brT (textT t) else textT t) ++ (if inBr kd u = true then brT (textT u) else textT u) := rfl
        rw [eT] at q
        generalize (if inBr kd u = true then brT (textT u) else textT u) = lb at q hll ⊢
        refine ⟨_, rfl, rfl, _, rfl, ?_⟩
        rw [eqStr]
        by_cases e1 : kd = "either"
        · rw [if_pos e1] at q
          refine itT e1 ⟨_, rfl, Sx (textT t), Sx [124], rfl, by rw [eB], by rw [sx_len, sx_len, List.length_singleton]; omega, _, rfl, Sx (textT t) ++ Sx [124], Sx lb, rfl, rfl, by rw [sx_app, sx_len, sx_len, List.length_append, List.length_singleton]; omega, ?_⟩
          rw [sx_app, sx_app]
          exact q _ s3
        rw [if_neg e1] at q
        refine itF e1 ?_
        have hfl : (if kdT t = "either" then brT (textT t) else textT t).length ≤ 300 := ite_len (by rw [brT_len]; omega) (by omega)
        refine ⟨fun σ' H'' => σ' = [some (.ref a), some (.str kd), some (.str (Sx (if kdT t = "either" then brT (textT t) else textT t))), some (.str (Sx lb))] ∧ Same H H'', ?_, ?_⟩
        · refine ⟨_, rfl, a, _, 1, _, rfl, rfl, SqT.of (s3 _ _ h), rfl, b, _, 0, .str (kdT t), rfl, rfl, SqT.of (s3 _ _ hy), at_hd _ _, rfl, _, rfl, ?_⟩
          rw [eqStr]
          by_cases e2 : kdT t = "either"
          · refine itT e2 ⟨_, rfl, Sx [40], Sx (textT t), by rw [eO], rfl, by rw [sx_len, sx_len, List.length_singleton]; omega, Sx [40] ++ Sx (textT t), Sx [41], rfl, by rw [eC], by rw [sx_app, sx_len, sx_len, List.length_append, List.length_singleton, List.length_singleton]; omega, ?_⟩
            rw [brk _ (by omega), if_pos e2]
            exact ⟨rfl, s3⟩
          · rw [if_neg e2]
            exact itF e2 ⟨rfl, s3⟩
        rintro σ' H4 ⟨rfl, s4⟩
        refine ⟨_, rfl, _, rfl, Sx (if kdT t = "either" then brT (textT t) else textT t), Sx lb, rfl, rfl, by rw [sx_len, sx_len]; omega, ?_⟩
        rw [sx_app]
        exact q H4 s4
end
end Onp
set_option maxHeartbeats 8000000
set_option autoImplicit false
/-! a tree's text is read as the tree -/
namespace Onp
open PySem PySem.Spec PyProof.Rows L2 HotX L2H LamX
def runS (s : TSt) (cs : List Nat) : Option TSt := cs.foldlM stepT s
theorem runS_app {s s' : TSt} {a b : List Nat} (h : runS s a = some s') : runS s (a ++ b) = runS s' b := by
  unfold runS at h ⊢
  rw [List.foldlM_append, h]
  rfl
theorem runS_one {s s' : TSt} {c : Nat} (h : stepT s c = some s') : runS s [c] = some s' := by
  show (stepT s c >>= fun x => List.foldlM stepT x []) = some s'
  rw [h]
  rfl
theorem step_low {c : Nat} (h : c ∈ smallL) (ah : List Nat) (bs : List Lv) (top : Lv) : stepT (ah, bs, top) c = some ([c], bs, top.put (.lt (Sx [c]) "keep")) := by
  unfold stepT
  rw [can_low h, if_pos rfl, take_low h]
theorem step_dash (ah : List Nat) (bs : List Lv) (top : Lv) : stepT (ah, bs, top) 45 = some ([45], bs, top.put .no) := rfl
theorem step_open (ah : List Nat) (bs : List Lv) (top : Lv) : stepT (ah, bs, top) 40 = some ([40], bs ++ [top], lv0) := rfl
theorem step_close (ah : List Nat) (bs : List Lv) (b top : Lv) {t : Tr} (h : top.l = some t) : stepT (ah, bs ++ [b], top) 41 = some ([41], bs, b.put (top.whole t)) := by
  unfold stepT
  have hc : canT 41 ah top (decide (0 < (bs ++ [b]).length)) = true := by
    unfold canT
    rw [if_neg (by decide), if_neg (by decide), if_pos (decide_eq_true rfl), h, List.length_append, List.length_singleton, decide_eq_true (Nat.succ_pos _)]
    rfl
  have ht : takeT 41 (bs ++ [b]) top = (bs, b.put (top.whole t)) := by
    unfold takeT
    rw [if_neg (by decide), if_pos rfl, h]
    simp
  show (if canT 41 ah top (decide (0 < (bs ++ [b]).length)) then some ([41], takeT 41 (bs ++ [b]) top) else none) = _
  rw [hc, if_pos rfl, ht]
theorem step_bar (ah : List Nat) (bs : List Lv) (top : Lv) {t : Tr} (h : top.l = some t) : stepT (ah, bs, top) 124 = some ([124], bs, ⟨some (top.whole t), none, none⟩) := by
  unfold stepT
  have hc : canT 124 ah top (decide (0 < bs.length)) = true := by
    unfold canT
    rw [if_neg (by decide), if_pos (by decide), h]
    rfl
  have ht : takeT 124 bs top = (bs, ⟨some (top.whole t), none, none⟩) := by
    unfold takeT
    rw [if_neg (by decide), if_neg (by decide), if_pos rfl, h]
  show (if canT 124 ah top (decide (0 < bs.length)) then some ([124], takeT 124 bs top) else none) = _
  rw [hc, if_pos rfl, ht]
theorem step_kind {c : Nat} {k : Str} (hk : ksg c = some k) (hc4 : c = 42 ∨ c = 63) (ah : List Nat) (bs : List Lv) (top : Lv) (t : Tr) : stepT (ah, bs, top.put t) c = some ([c], bs, top.put (.one k t)) := by
  unfold stepT
  have hd : (dsg c).isSome = false := by rcases hc4 with rfl | rfl <;> rfl
  have hn : c ≠ 40 ∧ c ≠ 41 ∧ c ≠ 124 ∧ c ≠ 45 := by omega
  have hc : canT c ah (top.put t) (decide (0 < bs.length)) = true := by
    unfold canT
    rw [hd, if_neg Bool.false_ne_true, hk]
    rfl
  have ht : takeT c bs (top.put t) = (bs, top.put (.one k t)) := by
    unfold takeT
    rw [if_neg hn.1, if_neg hn.2.1, if_neg hn.2.2.1, if_neg hn.2.2.2, hk]
    rfl
  show (if canT c ah (top.put t) (decide (0 < bs.length)) then some ([c], takeT c bs (top.put t)) else none) = _
  rw [hc, if_pos rfl, ht]
theorem step_deed {c x : Nat} {d : Str} (hd : dsg x = some d) (hx : x = 33 ∨ x = 46 ∨ x = 36 ∨ x = 58) (hc : c ∈ smallL) (bs : List Lv) (top : Lv) : stepT ([c], bs, top.put (.lt (Sx [c]) "keep")) x = some ([x], bs, top.put (.lt (Sx [c]) d)) := by
  unfold stepT
  have hn : x ≠ 40 ∧ x ≠ 41 ∧ x ≠ 124 ∧ x ≠ 45 := by omega
  have hk : ksg x = none := by rcases hx with rfl | rfl | rfl | rfl <;> rfl
  have hcan : canT x [c] (top.put (.lt (Sx [c]) "keep")) (decide (0 < bs.length)) = true := by
    unfold canT
    rw [hd]
    exact decide_eq_true hc
  have ht : takeT x bs (top.put (.lt (Sx [c]) "keep")) = (bs, top.put (.lt (Sx [c]) d)) := by
    unfold takeT
    rw [if_neg hn.1, if_neg hn.2.1, if_neg hn.2.2.1, if_neg hn.2.2.2, hk, hd]
    rfl
  show (if canT x [c] (top.put (.lt (Sx [c]) "keep")) (decide (0 < bs.length)) then some ([x], takeT x bs (top.put (.lt (Sx [c]) "keep"))) else none) = _
  rw [hcan, if_pos rfl, ht]
/-- how a tree's text is read -/
structure Rd3 (T : Tr) : Prop where
  it : isTwo T = false → ∀ ah bs top, ∃ ah', runS (ah, bs, top) (textT T) = some (ah', bs, top.put T)
  row : kdT T ≠ "either" → ∀ ah bs e, ∃ ah' L l, runS (ah, bs, ⟨e, none, none⟩) (textT T) = some (ah', bs, L) ∧ L.e = e ∧ L.l = some l ∧ jn "row" L.r l = T
  all : ∀ ah bs, ∃ ah' L l, runS (ah, bs, lv0) (textT T) = some (ah', bs, L) ∧ L.l = some l ∧ L.whole l = T
theorem Rd3.br {T : Tr} (h : Rd3 T) (ah : List Nat) (bs : List Lv) (top : Lv) : ∃ ah', runS (ah, bs, top) (brT (textT T)) = some (ah', bs, top.put T) := by
  obtain ⟨ah', L, l, h1, h2, h3⟩ := h.all [40] (bs ++ [top])
  refine ⟨[41], ?_⟩
  show runS (ah, bs, top) ([40] ++ (textT T ++ [41])) = _
  rw [runS_app (runS_one (step_open ah bs top)), runS_app h1]
  refine runS_one ?_
  rw [step_close _ _ _ _ h2, h3]
/-- of an item both others follow -/
theorem Rd3.of_it {T : Tr} (hk : kdT T ≠ "either") (h : ∀ ah bs top, ∃ ah', runS (ah, bs, top) (textT T) = some (ah', bs, top.put T)) : Rd3 T := by
  refine ⟨fun _ => h, fun _ ah bs e => ?_, fun ah bs => ?_⟩
  · obtain ⟨ah', h1⟩ := h ah bs ⟨e, none, none⟩
    exact ⟨ah', _, T, h1, rfl, rfl, rfl⟩
  · obtain ⟨ah', h1⟩ := h ah bs lv0
    exact ⟨ah', _, T, h1, rfl, rfl⟩
theorem rd_all {T : Tr} (hr : ∀ ah bs e, ∃ ah' L l, runS (ah, bs, ⟨e, none, none⟩) (textT T) = some (ah', bs, L) ∧ L.e = e ∧ L.l = some l ∧ jn "row" L.r l = T) (ah : List Nat) (bs : List Lv) : ∃ ah' L l, runS (ah, bs, lv0) (textT T) = some (ah', bs, L) ∧ L.l = some l ∧ L.whole l = T := by
  obtain ⟨ah', L, l, h1, h2, h3, h4⟩ := hr ah bs none
  refine ⟨ah', L, l, h1, h3, ?_⟩
  unfold Lv.whole
  rw [h2, h4]
  rfl
theorem rd3 {ls : List Nat} (hls : ∀ c ∈ ls, c ∈ smallL) {d : Nat} {T : Tr} (h : GTr ls d T) : Rd3 T := by
  induction h with
  | no => exact .of_it (by decide +kernel) fun ah bs top => ⟨_, runS_one (step_dash ah bs top)⟩
  | @lt d c x hc hx =>
    have hs := hls c hc
    refine .of_it (show ("letter" : Str) ≠ "either" by decide +kernel) fun ah bs top => ?_
    have e : textT (.lt (Sx [c]) x) = [c] ++ dgn x := by
      show (Sx [c]).cps.toList ++ dgn x = _
      rw [cps_sx]
    rw [e, runS_app (runS_one (step_low hs ah bs top))]
    simp only [deedsL, List.mem_cons, List.not_mem_nil, or_false] at hx
    rcases hx with rfl | rfl | rfl | rfl | rfl
    · exact ⟨[c], rfl⟩
    · exact ⟨_, runS_one (step_deed (x := 33) rfl (by decide) hs bs top)⟩
    · exact ⟨_, runS_one (step_deed (x := 46) rfl (by decide) hs bs top)⟩
    · exact ⟨_, runS_one (step_deed (x := 36) rfl (by decide) hs bs top)⟩
    · exact ⟨_, runS_one (step_deed (x := 58) rfl (by decide) hs bs top)⟩
  | @one d k t hk ht ih =>
    have hk2 : k ≠ "either" := by rcases hk with rfl | rfl <;> decide +kernel
    refine .of_it (show kdT (.one k t) ≠ "either" from hk2) fun ah bs top => ?_
    obtain ⟨a1, h1⟩ : ∃ a1, runS (ah, bs, top) (if isTwo t = true then brT (textT t) else textT t) = some (a1, bs, top.put t) := by
      cases e : isTwo t with
      | true => exact ih.br ah bs top
      | false => exact ih.it e ah bs top
    show ∃ ah', runS (ah, bs, top) ((if isTwo t = true then brT (textT t) else textT t) ++ (if k = "many" then [42] else [63])) = _
    rw [runS_app h1]
    rcases hk with rfl | rfl
    · exact ⟨[42], runS_one (step_kind (c := 42) rfl (.inl rfl) a1 bs top t)⟩
    · exact ⟨[63], runS_one (step_kind (c := 63) rfl (.inr rfl) a1 bs top t)⟩
  | @two d k a b hk ha hb ia ib =>
    have two : isTwo (.two k a b) = true := by
      show (decide (k = "row") || decide (k = "either")) = true
      rcases hk with rfl | rfl
      · rw [decide_eq_true rfl, Bool.true_or]
      · rw [decide_eq_true (rfl : ("either" : Str) = "either"), Bool.or_true]
    have no : ¬ isTwo (.two k a b) = false := by rw [two]; exact fun z => nomatch z
    rcases hk with rfl | rfl
    · have eT : textT (.two "row" a b) = (if kdT a = "either" then brT (textT a) else textT a) ++ (if inBr "row" b = true then brT (textT b) else textT b) := by
        show (if ("row" : Str) = "either" then _ else _) = _
        rw [if_neg (by decide +kernel)]
      have hr : ∀ ah bs e, ∃ ah' L l, runS (ah, bs, ⟨e, none, none⟩) (textT (.two "row" a b)) = some (ah', bs, L) ∧ L.e = e ∧ L.l = some l ∧ jn "row" L.r l = .two "row" a b := fun ah bs e => by
        obtain ⟨a1, L1, l1, h1, g1, g2, g3⟩ : ∃ a1 L1 l1, runS (ah, bs, ⟨e, none, none⟩) (if kdT a = "either" then brT (textT a) else textT a) = some (a1, bs, L1) ∧ L1.e = e ∧ L1.l = some l1 ∧ jn "row" L1.r l1 = a := by
          by_cases hk : kdT a = "either"
          · rw [if_pos hk]
            obtain ⟨a1, h1⟩ := ia.br ah bs ⟨e, none, none⟩
            exact ⟨a1, _, a, h1, rfl, rfl, rfl⟩
          · rw [if_neg hk]
            exact ia.row hk ah bs e
        obtain ⟨a2, h2⟩ : ∃ a2, runS (a1, bs, L1) (if inBr "row" b = true then brT (textT b) else textT b) = some (a2, bs, L1.put b) := by
          cases hi : inBr "row" b with
          | true => exact ib.br a1 bs L1
          | false =>
            refine ib.it ?_ a1 bs L1
            unfold inBr at hi
            rw [decide_eq_true (rfl : ("row" : Str) = "row"), Bool.true_and] at hi
            unfold isTwo
            rw [Bool.or_comm]
            exact hi
        refine ⟨a2, L1.put b, b, ?_, g1, rfl, ?_⟩
        · rw [eT, runS_app h1]
          exact h2
        · unfold Lv.put
          rw [g2]
          show Tr.two "row" (jn "row" L1.r l1) b = _
          rw [g3]
      exact ⟨fun z => (no z).elim, fun _ => hr, rd_all hr⟩
    · have eT : textT (.two "either" a b) = textT a ++ [124] ++ (if inBr "either" b = true then brT (textT b) else textT b) := by
        show (if ("either" : Str) = "either" then _ else _) = _
        rw [if_pos rfl]
      refine ⟨fun z => (no z).elim, fun z => (z rfl).elim, fun ah bs => ?_⟩
      obtain ⟨a1, L1, l1, h1, g1, g2⟩ := ia.all ah bs
      have hb := step_bar a1 bs L1 g1
      rw [g2] at hb
      rw [eT, List.append_assoc, runS_app h1, runS_app (runS_one hb)]
      have hi : inBr "either" b = decide (kdT b = "either") := by
        unfold inBr
        rw [decide_eq_false (show ¬ ("either" : Str) = "row" by decide +kernel), Bool.false_and, Bool.or_false]
      rw [hi]
      by_cases hk : kdT b = "either"
      · rw [decide_eq_true hk, if_pos rfl]
        obtain ⟨a2, h2⟩ := ib.br [124] bs ⟨some a, none, none⟩
        exact ⟨a2, _, b, h2, rfl, rfl⟩
      · rw [decide_eq_false hk, if_neg Bool.false_ne_true]
        obtain ⟨a2, L2, l2, h2, q1, q2, q3⟩ := ib.row hk [124] bs (some a)
        refine ⟨a2, L2, l2, h2, q2, ?_⟩
        unfold Lv.whole
        rw [q1, q3]
        rfl
/-- the plain text, with brackets around it or not -/
theorem rd_text {ls : List Nat} (hls : ∀ c ∈ ls, c ∈ smallL) {d : Nat} {T : Tr} (h : GTr ls d T) : ∃ s t, stT (textT T) = some s ∧ s.2.1 = [] ∧ s.2.2.l = some t ∧ s.2.2.whole t = T := by
  obtain ⟨ah, L, l, h1, h2, h3⟩ := (rd3 hls h).all [] []
  exact ⟨_, l, h1, rfl, h2, h3⟩
end Onp
/-! == of data nested deeper than sixty-four -/
namespace Onp
open PySem PySem.Spec PyProof.Rows L2
section
variable {X : Cx}
def rEqW (K : PySem.W.Frag) (n : Nat) : R2 := fun x y H Q => ∃ d e, Dp K H x d ∧ Dp K H y e ∧ d.canLay0 = true ∧ e.canLay0 = true ∧ d.depth ≤ n ∧ Q (.bl (PyData.eqv d e)) H
theorem op_eqW (n : Nat) (hu : X.A.units + n < cLine) : OpR X (compareOp .Eq) (rEqW X.K n) := by
  intro pins s σ H x y v u Q I rx ry h
  obtain ⟨d, e, hd, he, sd, se, hn, q⟩ := h
  obtain ⟨as, r1⟩ := Dp.reads I d x v hd rx
  obtain ⟨bs, r2⟩ := Dp.reads I e y u he ry
  have hr : X.A.units + min d.depth e.depth < cLine := by
    have := Nat.min_le_left d.depth e.depth
    omega
  exact SeqAt.compareEq_reads r1 r2 sd se hr ⟨.bl _, H, I, rfl, q⟩
end
end Onp
set_option maxHeartbeats 8000000
set_option autoImplicit false
/-! _law_long_ones -/
namespace Onp
open PySem PySem.Spec PyProof.Rows L2 HotX L2H LamX
abbrev sLong : Stmt := topS 23
/-- a tree as data -/
def trD : Tr → PyData
  | .no => .tuple [.str "nothing"]
  | .lt z d => .tuple [.str "letter", .str z, .str d]
  | .one k t => .tuple [.str k, trD t]
  | .two k a b => .tuple [.str k, trD a, trD b]
theorem TrAt.dp {K : PySem.W.Frag} {H : Hp} {a : Addr} {T : Tr} (h : TrAt H a T) : Dp K H (.ref a) (trD T) := by
  induction h with
  | no h => exact .tup (SqT.of h) (.cons (.str _) .nil)
  | lt h => exact .tup (SqT.of h) (.cons (.str _) (.cons (.str _) (.cons (.str _) .nil)))
  | one h _ ih => exact .tup (SqT.of h) (.cons (.str _) (.cons ih .nil))
  | two h _ _ i1 i2 => exact .tup (SqT.of h) (.cons (.str _) (.cons i1 (.cons i2 .nil)))
def tAk : Tr := .lt (Sx [97]) "keep"
def rowT : Nat → Tr
  | 0 => tAk
  | n + 1 => .two "row" (rowT n) tAk
def rowR : Nat → Option Tr
  | 0 => none
  | n + 1 => some (rowT n)
def manyT : Nat → Tr
  | 0 => tAk
  | n + 1 => .one "many" (manyT n)
theorem jn_row : ∀ n, jn "row" (rowR n) tAk = rowT n
  | 0 => rfl
  | n + 1 => rfl
theorem lay_tAk : (trD tAk).canLay0 = true ∧ (trD tAk).depth ≤ 1 := by decide +kernel
theorem lay_rowT (n : Nat) : (trD (rowT n)).canLay0 = true ∧ (trD (rowT n)).depth ≤ n + 1 := by
  have hs : PyData.strOk "row" = true := by decide +kernel
  induction n with
  | zero => exact lay_tAk
  | succ n ih =>
    have h0 := lay_tAk
    show (PyData.tuple [.str "row", trD (rowT n), trD tAk]).canLay0 = true ∧ (PyData.tuple [.str "row", trD (rowT n), trD tAk]).depth ≤ _
    simp only [PyData.canLay0, PyData.canLayAll0, PyData.depth, PyData.depthAll, ih.1, h0.1, hs, Bool.and_true, true_and]
    omega
theorem lay_manyT (n : Nat) : (trD (manyT n)).canLay0 = true ∧ (trD (manyT n)).depth ≤ n + 1 := by
  have hs : PyData.strOk "many" = true := by decide +kernel
  induction n with
  | zero => exact lay_tAk
  | succ n ih =>
    show (PyData.tuple [.str "many", trD (manyT n)]).canLay0 = true ∧ (PyData.tuple [.str "many", trD (manyT n)]).depth ≤ _
    simp only [PyData.canLay0, PyData.canLayAll0, PyData.depth, PyData.depthAll, ih.1, hs, Bool.and_true, true_and]
    omega
theorem stT_stepS {cs : List Nat} {s s' : TSt} {c : Nat} (h : stT cs = some s) (e : stepT s c = some s') : stT (cs ++ [c]) = some s' := by
  rw [stT_snoc, h]
  exact e
theorem long_row (n : Nat) : ∃ ah, stT (List.replicate (n + 1) 97) = some (ah, [], ⟨none, rowR n, some tAk⟩) := by
  induction n with
  | zero => exact ⟨[97], rfl⟩
  | succ n ih =>
    obtain ⟨ah, h⟩ := ih
    refine ⟨[97], ?_⟩
    rw [List.replicate_succ', stT_stepS h (step_low (c := 97) (by decide) ah [] ⟨none, rowR n, some tAk⟩)]
    show some (([97] : List Nat), ([] : List Lv), (⟨none, some (jn "row" (rowR n) tAk), some tAk⟩ : Lv)) = _
    rw [jn_row]
    rfl
theorem long_many (n : Nat) : ∃ ah, stT ([97] ++ List.replicate n 42) = some (ah, [], lv0.put (manyT n)) := by
  induction n with
  | zero => exact ⟨[97], rfl⟩
  | succ n ih =>
    obtain ⟨ah, h⟩ := ih
    refine ⟨[42], ?_⟩
    rw [List.replicate_succ', ← List.append_assoc]
    exact stT_stepS h (step_kind (c := 42) rfl (.inl rfl) ah [] lv0 (manyT n))
section
variable {P : Program} {w : World} {K : PySem.W.Frag} {mg : Str → Option Value} {base : Heap}
theorem passN {X : Cx} : Passes (L2N.CX X.prog X.w) X E0 := fun _ _ _ _ _ _ _ h => by
  obtain ⟨_, _, _, _, _, _, _, _, _, _, _, _, z⟩ := h
  exact z.elim
def NLg : List Str := ["_law_many", "_law_one", "_law_tree_here", "_law_other", "_law_k"]
theorem scLong : FnScope NLg ["_law_many"] (defScope sLong) := ⟨rfl, rfl, rfl, by decide +kernel, rfl, by decide +kernel, by decide +kernel⟩
def spLong : Sp := fun vs H Q _ => ∃ n : Nat, vs = [.int (n : Nat)] ∧ 1 ≤ n ∧ n ≤ 205 ∧ ∀ H', Same H H' → Q (.bl true) H'
theorem ok_long {f fRt CT : Addr} {fd fdRt : FuncData} {k : Nat} (F : Fun K "_law_long_ones" "_law_long_ones" sLong f fd) (Rt : FnM K mg fRt fdRt "read_tolls" sRead' ["text"]) (GR : FnOk P w K mg base (L2N.CX P w) (k + 2) fRt fdRt ["text"] (spReadT CT)) (mr : mg "range" = none) : FnOk P w K mg base CX0 (k + 3) f fd ["_law_many"] spLong := by
  refine F.ok scLong (fun vs H Q E h => ?_) (fun cdv A outer s H vs Q E hr h => ?_)
  · obtain ⟨n, rfl, _⟩ := h
    rfl
  · obtain ⟨n, rfl, hn1, hn2, q⟩ := h
    have hu : (cxOf CX0 P w K mg base NLg "_law_long_ones" (defScope sLong) f cdv A outer s H E).nox.A.units + 206 < cLine := by
      have := hr.un
      show (A.deeper _).units + 206 < cLine
      omega
    refine ⟨_, pss_cutM (ps_set (i := 1) scLong.nd rfl (.inl rfl) (pe_tup (pa_cons pe_str (pa_cons pe_str (pa_cons pe_str pa_nil)))))
      (pss_cutM (ps_par (i := 2) (j := 3) rfl scLong.nd rfl rfl (by decide) rfl rfl (pa_cons (pv 1) (pa_cons (pv 1) pa_nil)) rfl)
      (pss_cutM (ps_for PassesOwn.never rfl (pi_range1 (by rfl) mr (pa_cons (pe_op op_sub (pv 0) pe_int) pa_nil)) (pg_name (i := 4) scLong.nd rfl (.inl rfl))
        (pss_one (ps_par (i := 2) (j := 3) rfl scLong.nd rfl rfl (by decide) rfl rfl (pa_cons (pe_tup (pa_cons pe_str (pa_cons (pv 2) (pa_cons (pv 1) pa_nil)))) (pa_cons (pe_tup (pa_cons pe_str (pa_cons (pv 3) pa_nil))) pa_nil)) rfl)))
      (pss_one (ps_ret (pe_and (pe_cmpR (op_eqW 206 hu) (pe_call GR hr (by rfl) Rt.g Rt.F.kp Rt.b .nil passN (pa_cons (pe_op op_mulS pe_str (pv 0)) pa_nil)) (pv 2) (nomark _))
        (pe_one (pe_cmpR (op_eqW 206 hu) (pe_call GR hr (by rfl) Rt.g Rt.F.kp Rt.b .nil passN (pa_cons (pe_op op_add_str pe_str (pe_op op_mulS pe_str (pe_op op_sub (pv 0) pe_int))) pa_nil)) (pv 3) (nomark _)))))))), ?_⟩
    have ea : ("a" : Str) = Sx [97] := by decide +kernel
    have eK : ("*" : Str) = Sx [42] := by decide +kernel
    have hbig : 50000 ≤ sizeLine := by decide
    refine ⟨fun σ' H' => ∃ o : Addr, σ' = [some (.int (n : Nat)), some (.ref o), none, none, none] ∧ Same H H' ∧ TrAt H' o tAk, ?_, ?_⟩
    · refine ⟨(by decide : 3 ≤ sizeLine), fun o no => ⟨o, rfl, same_upd no, .lt ?_⟩⟩
      rw [upd_same, ea]
    rintro σ' H1 ⟨o, rfl, s1, ho⟩
    refine ⟨fun σ' H' => σ' = [some (.int (n : Nat)), some (.ref o), some (.ref o), some (.ref o), none] ∧ H' = H1, ?_, ?_⟩
    · exact ⟨_, rfl, _, rfl, _, _, rfl, rfl, rfl⟩
    rintro σ' H' ⟨rfl, rfl⟩
    refine ⟨fun σ' H'' => ∃ (t u : Addr) (y : Option V), σ' = [some (.int (n : Nat)), some (.ref o), some (.ref t), some (.ref u), y] ∧ Same H H'' ∧ TrAt H'' t (rowT (n - 1)) ∧ TrAt H'' u (manyT (n - 1)), ?_, ?_⟩
    · refine ⟨_, rfl, _, _, rfl, rfl, (n : Int) - 1, rfl, by omega, by omega, for_range (lo := 0) (n := ((n : Int) - 1).toNat) (fun i σ H'' => ∃ (t u : Addr) (y : Option V), σ = [some (.int (n : Nat)), some (.ref o), some (.ref t), some (.ref u), y] ∧ Same H' H'' ∧ TrAt H'' t (rowT i) ∧ TrAt H'' u (manyT i)) ⟨o, o, _, rfl, Same.refl _, ho, ho⟩ ?_ ?_⟩
      · rintro i σ H2 hi ⟨t, u, y, rfl, s2, ht, hu'⟩
        refine ⟨_, rfl, _, rfl, (by decide : 3 ≤ sizeLine), fun p np => ?_⟩
        have sp := same_upd (o := .tup [.str "row", .ref t, .ref o]) np
        have hp : TrAt (upd H2 p (.tup [.str "row", .ref t, .ref o])) p (rowT (i + 1)) := .two upd_same (ht.tk (.of sp)) ((ho.tk (.of s2)).tk (.of sp))
        generalize upd H2 p (.tup [.str "row", .ref t, .ref o]) = H3 at sp hp
        refine ⟨_, rfl, (by decide : 2 ≤ sizeLine), fun p2 np2 => ⟨_, _, rfl, p, p2, _, rfl, ?_, ?_, ?_⟩⟩
        · exact s2.trans (sp.trans (same_upd np2))
        · exact hp.tk (.of (same_upd np2))
        · exact .one upd_same (hu'.tk (.of (sp.trans (same_upd np2))))
      · rintro σ H2 ⟨t, u, y, rfl, s2, ht, hu'⟩
        rw [show ((n : Int) - 1).toNat = n - 1 by omega] at ht hu'
        exact ⟨t, u, _, rfl, s1.trans s2, ht, hu'⟩
    rintro σ' H2 ⟨t, u, y, rfl, s2, ht, hu'⟩
    obtain ⟨m, rfl⟩ : ∃ m, n = m + 1 := ⟨n - 1, by omega⟩
    simp only [Nat.add_sub_cancel] at ht hu'
    obtain ⟨ah1, r1⟩ := long_row m
    obtain ⟨ah2, r2⟩ := long_many m
    have er : rep (m + 1) [97] = List.replicate (m + 1) 97 := by
      unfold rep
      rw [List.flatten_replicate_singleton]
    have em : rep m [42] = List.replicate m 42 := by
      unfold rep
      rw [List.flatten_replicate_singleton]
    refine ⟨_, rfl, [97], m + 1, by rw [ea], rfl, by omega, by rw [List.length_singleton]; omega, ?_⟩
    rw [er]
    refine ⟨_, rfl, by rw [List.length_replicate]; omega, fun i H3 hb _ => (reads_bad ⟨_, r1, rfl, rfl⟩ hb).elim, fun s t' b H3 hs h1 h2 s3 hb => ?_⟩
    rw [r1] at hs
    obtain rfl := Option.some.inj hs
    obtain rfl := Option.some.inj h2
    have hb1 : TrAt H3 b (rowT m) := by
      have : TrAt H3 b (jn "either" none (jn "row" (rowR m) tAk)) := hb
      rw [jn_row] at this
      exact this
    have lr := lay_rowT m
    refine ⟨_, rfl, trD (rowT m), trD (rowT m), hb1.dp, (ht.tk (.of s3)).dp, lr.1, lr.1, by omega, ?_⟩
    rw [PySem.SeqAt.eqv_refl _ lr.1]
    refine ⟨true, rfl, iteT ?_⟩
    refine ⟨_, rfl, _, _, rfl, rfl, [42], m, by rw [eK], (by show V.int (((m + 1 : Nat) : Int) - 1) = _; congr 1; omega), by omega, by rw [List.length_singleton]; omega, ?_⟩
    rw [em]
    refine ⟨Sx [97], Sx (List.replicate m 42), by rw [ea], rfl, by rw [sx_len, sx_len, List.length_replicate, List.length_singleton]; omega, ?_⟩
    rw [sx_app]
    refine ⟨_, rfl, by rw [List.length_append, List.length_replicate, List.length_singleton]; omega, fun i H4 hb _ => (reads_bad ⟨_, r2, rfl, rfl⟩ hb).elim, fun s t' b2 H4 hs h1 h2 s4 hb2 => ?_⟩
    rw [r2] at hs
    obtain rfl := Option.some.inj hs
    obtain rfl := Option.some.inj h2
    have lm := lay_manyT m
    refine ⟨_, rfl, trD (manyT m), trD (manyT m), TrAt.dp (T := manyT m) hb2, (hu'.tk (.of (s3.trans s4))).dp, lm.1, lm.1, by omega, ?_⟩
    rw [PySem.SeqAt.eqv_refl _ lm.1]
    exact q H4 (s2.trans (s3.trans s4))
end
end Onp
set_option autoImplicit false
namespace Onp
open PySem PySem.Spec PyProof.Rows L2
/-- turns of a comprehension, whatever is done in one -/
theorem lcG {J : It} {n : Nat} {G : Hp → Prop} {Y : Nat → Hp → V → Hp → Prop} (w : Walk J n G Y) {Bd : (Hp → Prop) → V → Hp → Prop} {H0 : Hp} {Qd : Hp → Prop} (Pv : Nat → Hp → Prop) (h0 : Pv 0 H0) (hG : ∀ i H, i ≤ n → Pv i H → G H)
    (hs : ∀ i x H H', i < n → Pv i H → Y i H x H' → Bd (Pv (i + 1)) x H') (hd : ∀ H, Pv n H → Qd H) :
    ∃ W : Nat → Nat → Hp → Prop, (∃ m, W 0 m H0) ∧ ∀ i m H, W i m H → (J.stop i H ∧ Qd H) ∨ (J.go i H ∧ ∃ Nx : Hp → Prop, (∀ H', Nx H' → ∃ m', m' < m ∧ W (i + 1) m' H') ∧ ∀ x H', J.yld i H x H' → Bd Nx x H') := by
  refine ⟨fun i m H => m = n - i ∧ i ≤ n ∧ Pv i H, ⟨n, by simp, Nat.zero_le _, h0⟩, ?_⟩
  rintro i m H ⟨rfl, hi, p⟩
  have q := hG i H hi p
  by_cases hlt : i < n
  · exact .inr ⟨w.goes i H hlt q, Pv (i + 1), fun H' p' => ⟨n - (i + 1), by omega, rfl, hlt, p'⟩, fun x H' y => hs i x H H' hlt p (w.yields i H x H' hlt q y)⟩
  · have e : i = n := by omega
    subst e
    exact .inl ⟨w.stops H q, hd H p⟩
end Onp
set_option maxHeartbeats 8000000
set_option autoImplicit false
/-! _law_count_in -/
namespace Onp
open PySem PySem.Spec PyProof.Rows L2 HotX L2H LamX
abbrev sCount : Stmt := topS 22
section
variable {P : Program} {w : World} {K : PySem.W.Frag} {mg : Str → Option Value} {base : Heap}
def NCn : List Str := ["_law_tree_here", "_law_thing"]
theorem scCount : FnScope NCn ["_law_tree_here"] (defScope sCount) := ⟨rfl, rfl, rfl, by decide +kernel, rfl, by decide +kernel, by decide +kernel⟩
def spCnt (d : Nat) : Sp := fun vs H Q _ => ∃ (a : Addr) (T : Tr) (ls : List Nat) (e : Nat), vs = [.ref a] ∧ e + 1 = d ∧ TrAt H a T ∧ GTr ls e T ∧ ∀ n H', Same H H' → Q (.int n) H'
theorem ok_count {f : Addr} {fd : FuncData} (F : FnM K mg f fd "_law_count_in" sCount ["_law_tree_here"]) (mi : mg "isinstance" = none) (mt : mg "tuple" = none) (ms : mg "sum" = none) :
    ∀ (d k : Nat), FnOk P w K mg base CX0 (k + d + 1) f fd ["_law_tree_here"] (spCnt d) := by
  intro d
  induction d with
  | zero =>
    intro k
    refine F.F.ok scCount (fun vs H Q E h => ?_) (fun cdv A outer s H vs Q E hr h => ?_)
    · obtain ⟨a, T, ls, e, rfl, h, _⟩ := h
      cases h
    · obtain ⟨a, T, ls, e, rfl, h, _⟩ := h
      cases h
  | succ d ih =>
    intro k
    have GX : FnOk P w K mg base CX0 (k + (d + 1)) f fd ["_law_tree_here"] (spCnt d) := ih k
    refine F.F.ok scCount (fun vs H Q E h => ?_) (fun cdv A outer s H vs Q E hr h => ?_)
    · obtain ⟨a, T, ls, e, rfl, _⟩ := h
      rfl
    · obtain ⟨a, T, ls, e, rfl, he, ha, hT, q⟩ := h
      obtain rfl : e = d := by omega
      refine ⟨_, pss_one (ps_ret (pe_op op_add pe_int (pe_callB (cr_sum rfl) (by rfl) ms (by decide +kernel) (pa_cons (pe_lc (own := [("_law_thing", 1)]) (g := gName 1) (tt := tTest (tCB (rIsi K) (tCons (tVar 1) (tCons (tC (.ty "tuple")) tNil)))) (te := tCall (spCnt e) [] E0 (tCons (tVar 1) tNil)) rfl scCount.nd
          (pi_tup (pe_slice sl_tup (pv 0) (po_some pe_int) po_none)) (blkOk_by (own := [("_law_thing", 1)]) (N := NCn) (sc := defScope sCount) (by decide +kernel)) (fun _ _ _ _ _ => pg_name (i := 1) scCount.nd rfl (.inl rfl))
          (fun _ _ _ _ _ => pts_one (pt_val (pe_callB call_isi (by rfl) mi (by decide +kernel) (pa_cons (pv 1) (pa_cons (pe_bltn (v := .ty "tuple") (by rfl) mt (by decide +kernel) rfl) pa_nil)))))
          (fun _ _ _ _ _ => pe_call GX hr (by rfl) F.g F.F.kp F.b .nil pass0 (pa_cons (pv 1) pa_nil))) pa_nil)))), ?_⟩
      -- what stands behind the kind
      obtain ⟨ys, h, hys, hyl⟩ : ∃ ys : List V, H a = some (.tup (.str (kdT T) :: ys)) ∧ (∀ y ∈ ys, (∃ z, y = .str z) ∨ ∃ (b : Addr) (t : Tr) (e' : Nat), y = .ref b ∧ e' + 1 = e ∧ TrAt H b t ∧ GTr ls e' t) ∧ ys.length ≤ 2 := by
        cases hT with
        | no =>
          cases ha with
          | no h => exact ⟨[], h, (fun _ z => nomatch z), Nat.zero_le _⟩
        | @lt _ c x _ _ =>
          cases ha with
          | lt h =>
            refine ⟨[.str (Sx [c]), .str x], h, fun y hy => .inl ?_, Nat.le_refl _⟩
            simp only [List.mem_cons, List.not_mem_nil, or_false] at hy
            rcases hy with rfl | rfl
            · exact ⟨_, rfl⟩
            · exact ⟨_, rfl⟩
        | @one e' _ t _ ht =>
          cases ha with
          | @one _ b _ _ h hb =>
            refine ⟨[.ref b], h, fun y hy => .inr ?_, (show 1 ≤ 2 by decide)⟩
            rw [List.mem_singleton.mp hy]
            exact ⟨b, t, e', rfl, rfl, hb, ht⟩
        | @two e' _ t u _ ht hu =>
          cases ha with
          | @two _ b c _ _ _ h hb hc =>
            refine ⟨[.ref b, .ref c], h, fun y hy => .inr ?_, (show 2 ≤ 2 by decide)⟩
            simp only [List.mem_cons, List.not_mem_nil, or_false] at hy
            rcases hy with rfl | rfl
            · exact ⟨b, t, e', rfl, rfl, hb, ht⟩
            · exact ⟨c, u, e', rfl, rfl, hc, hu⟩
      have e1 : HT.sIx (ys.length + 1) 0 (some 1) = 1 := (HT.sIx_nat (ys.length + 1) 0 1).trans (by omega)
      have hcut : cutV (.str (kdT T) :: ys) (some 1) none = ys := by
        unfold cutV
        rw [HT.sIx_none]
        rw [List.length_cons, e1]
        show (ys.take (ys.length + 1 - 1)) = ys
        rw [Nat.add_sub_cancel, List.take_length]
      refine ⟨_, rfl, 1, rfl, a, _, rfl, SqT.of h, (fun z => by
        have z1 := z.1
        rw [List.length_cons, e1] at z1
        exact absurd z1 (by decide)), fun p np => ?_⟩
      rw [hcut]
      have sp := same_upd (o := .tup ys) np
      have hp : (upd H p (.tup ys)) p = some (.tup ys) := upd_same
      generalize upd H p (.tup ys) = H1 at sp hp
      refine ⟨p, rfl, ⟨_, SqT.of hp⟩, fun D nD => ?_⟩
      refine lcG (walk_tup (xs := ys)) (fun i H' => Same H1 H' ∧ ∃ ns : List Int, H' D = some (.lst (ns.map V.int)) ∧ ns.length ≤ i) ⟨same_upd nD, [], upd_same, Nat.le_refl _⟩ (fun i H' _ ⟨sm, _⟩ => SqT.of (sm _ _ hp)) ?_ ?_
      · rintro i x H2 H3 hi ⟨sm, ns, hD, hnl⟩ ⟨rfl, hx⟩
        have hm := List.mem_of_getElem? hx
        refine ⟨rfl, ?_⟩
        rcases hys x hm with ⟨z, rfl⟩ | ⟨b, t, e', rfl, he', hb, ht⟩
        · refine ⟨_, rfl, _, _, .type "str", .type "tuple", false, rfl, .ty "tuple", .base (.str _), rfl, _, rfl, ?_⟩
          exact iteF ⟨sm, ns, hD, by omega⟩
        · have hb2 : TrAt H3 b t := (hb.tk (.of sp)).tk (.of sm)
          obtain ⟨xs, hbx⟩ := hd_at hb2
          refine ⟨_, rfl, _, _, .type "tuple", .type "tuple", true, rfl, .ty "tuple", tyT (SqT.of hbx), rfl, _, rfl, iteT ?_⟩
          refine ⟨_, rfl, b, t, ls, e', rfl, he', hb2, ht, fun n H4 s4 => ?_⟩
          refine ⟨_, s4 _ _ hD, ?_, fun c o e => ?_, ns ++ [n], ?_, ?_⟩
          · rw [List.length_map]
            exact Nat.lt_of_le_of_lt (show ns.length ≤ 2 by omega) (by decide)
          · rw [upd_ne (ne_of_none e nD)]
            exact s4 _ _ (sm c o e)
          · rw [upd_same, List.map_append]
            rfl
          · rw [List.length_append, List.length_singleton]
            omega
      · rintro H2 ⟨sm, ns, hD, _⟩
        exact ⟨D, ns, rfl, SqL.of hD, _, _, rfl, rfl, q _ H2 (sp.trans sm)⟩
end
end Onp
set_option autoImplicit false
/-! small things that several layers want -/
namespace Onp
open PySem PySem.Spec PyProof.Rows L2
theorem yes2 {σ : L2.St} {H : Hp} {a b : Hp → Prop} (h : a H) : tYes σ H fun c H3 => if c = true then a H3 else b H3 := by
  show if true = true then a H else b H
  rw [if_pos rfl]
  exact h
theorem take_next {α : Type} {xs : List α} {i : Nat} {x : α} (h : xs[i]? = some x) : xs.take (i + 1) = xs.take i ++ [x] := by
  rw [List.take_succ, h]
  rfl
end Onp
set_option maxHeartbeats 16000000
set_option autoImplicit false
namespace Onp
open PySem PySem.Spec PyProof.Rows L2 HotX L2H LamX
abbrev sLaw : Stmt := topS 24
def NL : List Str := ["_law_script", "_law_bag_here", "_law_turn", "_law_letters_here", "_law_tree_here", "_law_text", "_law_some", "_law_texts", "_law_a", "_law_b", "_law_c", "_law_found", "_law_due", "_law_one"]
theorem scLaw : FnScope NL ["_law_script"] (defScope sLaw) := ⟨rfl, rfl, rfl, by decide +kernel, rfl, by decide +kernel, by decide +kernel⟩
def spLaw (K : PySem.W.Frag) : Sp := fun vs H Q _ => ∃ (a : Addr) (ns : List Int), vs = [.ref a] ∧ SqL K H a (ns.map V.int) ∧ ∀ H', Q (.bl true) H'
/-- a text is read as this tree -/
def Rds (cs : List Nat) (T : Tr) : Prop := ∃ s t, stT cs = some s ∧ s.2.1 = [] ∧ s.2.2.l = some t ∧ s.2.2.whole t = T
theorem rds_bad {cs : List Nat} {T : Tr} (hr : Rds cs T) {i : Nat} (hb : BadAt cs i) : False := by
  obtain ⟨s, t, h1, h2, h3, h4⟩ := hr
  exact reads_bad ⟨s, h1, h2, by rw [h3]; rfl⟩ hb
theorem rds_tr {cs : List Nat} {T : Tr} {H : Hp} {s : TSt} {t : Tr} {b : Addr} (hr : Rds cs T) (hs : stT cs = some s) (g2 : s.2.2.l = some t) (hb : TrAt H b (s.2.2.whole t)) : TrAt H b T := by
  obtain ⟨s0, t0, h1, h2, h3, h4⟩ := hr
  rw [h1] at hs
  obtain rfl := Option.some.inj hs
  rw [h3] at g2
  obtain rfl := Option.some.inj g2
  rw [h4] at hb
  exact hb
theorem use_read {CT : Addr} {cs : List Nat} {T : Tr} {H : Hp} {Q : VK} {E : XK} (hr : Rds cs T) (hl : cs.length ≤ 50000) (q : ∀ b H', Same H H' → TrAt H' b T → Q (.ref b) H') : spReadT CT [.str (Sx cs)] H Q E := by
  obtain ⟨s, t, h1, h2, h3, h4⟩ := hr
  refine ⟨cs, rfl, hl, fun i H' hb _ => (reads_bad ⟨s, h1, h2, by rw [h3]; rfl⟩ hb).elim, fun s' t' b H' hs g1 g2 s' hb => ?_⟩
  rw [h1] at hs
  obtain rfl := Option.some.inj hs
  rw [h3] at g2
  obtain rfl := Option.some.inj g2
  rw [h4] at hb
  exact q b H' s' hb
theorem rds_of {cs : List Nat} {ah : List Nat} {L : Lv} {t : Tr} (h : runS ([], [], lv0) cs = some (ah, [], L)) (hl : L.l = some t) : Rds cs (L.whole t) := ⟨_, t, h, rfl, hl, rfl⟩
theorem rds_plain {T : Tr} (r : Rd3 T) : Rds (textT T) T := by
  obtain ⟨ah, L, l, h1, h2, h3⟩ := r.all [] []
  rw [← h3]
  have := rds_of h1 h2
  rw [h3] at this ⊢
  exact this
theorem rds_br {T : Tr} (r : Rd3 T) : Rds ([40] ++ textT T ++ [41]) T := by
  obtain ⟨ah, h⟩ := r.br [] [] lv0
  exact rds_of (L := lv0.put T) h rfl
theorem rds_mm {T : Tr} (r : Rd3 T) : Rds ([40, 40] ++ textT T ++ [41, 42, 41, 63]) (.one "maybe" (.one "many" T)) := by
  obtain ⟨ah, h⟩ := r.br [40] [lv0] lv0
  have e : [40, 40] ++ textT T ++ [41, 42, 41, 63] = [40] ++ (brT (textT T) ++ ([42] ++ ([41] ++ [63]))) := by
    unfold brT
    simp
  refine rds_of (L := lv0.put (.one "maybe" (.one "many" T))) (ah := [63]) ?_ rfl
  rw [e, runS_app (runS_one (step_open [] [] lv0))]
  show runS ([40], [lv0], lv0) _ = _
  rw [runS_app h, runS_app (runS_one (step_kind (c := 42) rfl (.inl rfl) ah [lv0] lv0 T))]
  have hc : stepT ([42], [] ++ [lv0], lv0.put (.one "many" T)) 41 = some ([41], [], lv0.put ((lv0.put (.one "many" T)).whole (.one "many" T))) := step_close [42] [] lv0 _ rfl
  rw [show ([42], [lv0], lv0.put (.one "many" T)) = (([42], [] ++ [lv0], lv0.put (.one "many" T)) : TSt) from rfl, runS_app (runS_one hc)]
  exact runS_one (step_kind (c := 63) rfl (.inr rfl) [41] [] lv0 (.one "many" T))
theorem rds_q {T : Tr} (r : Rd3 T) : Rds ([40] ++ textT T ++ [41, 40, 113, 36, 41]) (.two "row" T (.lt (Sx [113]) "coin")) := by
  have r2 : Rd3 (.lt (Sx [113]) "coin") := rd3 (ls := [113]) (by decide) (d := 0) (.lt (by decide) (by decide +kernel))
  obtain ⟨a1, h1⟩ := r.br [] [] lv0
  obtain ⟨a2, h2⟩ := r2.br a1 [] (lv0.put T)
  have et : textT (.lt (Sx [113]) "coin") = [113, 36] := by
    show (Sx [113]).cps.toList ++ dgn "coin" = _
    rw [cps_sx]
    rfl
  rw [et] at h2
  have e : [40] ++ textT T ++ [41, 40, 113, 36, 41] = brT (textT T) ++ brT [113, 36] := by
    unfold brT
    simp
  refine rds_of (L := (lv0.put T).put (.lt (Sx [113]) "coin")) (ah := a2) ?_ rfl
  rw [e, runS_app h1]
  exact h2
theorem rds_e {T : Tr} (r : Rd3 T) : Rds ([45, 124, 40] ++ textT T ++ [41]) (.two "either" .no T) := by
  have hb : stepT ([45], [], lv0.put .no) 124 = some ([124], [], ⟨some .no, none, none⟩) := step_bar [45] [] (lv0.put .no) (t := .no) rfl
  obtain ⟨a1, h1⟩ := r.br [124] [] ⟨some .no, none, none⟩
  have e : [45, 124, 40] ++ textT T ++ [41] = [45] ++ ([124] ++ brT (textT T)) := by
    unfold brT
    simp
  refine rds_of (L := (⟨some .no, none, none⟩ : Lv).put T) (ah := a1) ?_ rfl
  rw [e, runS_app (runS_one (step_dash [] [] lv0)), runS_app (runS_one hb)]
  exact h1
theorem lvl_str (n : Nat) (z : Str) : Lvl n (.str z) := by cases n <;> exact True.intro
theorem lvl_tr {ls : List Nat} {d : Nat} {T : Tr} (h : GTr ls d T) : ∀ n, d + 1 ≤ n → Lvl n (trD T) := by
  induction h with
  | no =>
    intro n hn
    obtain ⟨m, rfl⟩ : ∃ m, n = m + 1 := ⟨n - 1, by omega⟩
    refine ⟨(by decide : 1 ≤ 1000), fun x hx => ?_⟩
    rw [List.mem_singleton.mp hx]
    exact lvl_str _ _
  | lt _ _ =>
    intro n hn
    obtain ⟨m, rfl⟩ : ∃ m, n = m + 1 := ⟨n - 1, by omega⟩
    refine ⟨(by decide : 3 ≤ 1000), fun x hx => ?_⟩
    simp only [List.mem_cons, List.not_mem_nil, or_false] at hx
    rcases hx with rfl | rfl | rfl <;> exact lvl_str _ _
  | one _ _ ih =>
    intro n hn
    obtain ⟨m, rfl⟩ : ∃ m, n = m + 1 := ⟨n - 1, by omega⟩
    refine ⟨(by decide : 2 ≤ 1000), fun x hx => ?_⟩
    simp only [List.mem_cons, List.not_mem_nil, or_false] at hx
    rcases hx with rfl | rfl
    · exact lvl_str _ _
    · exact ih m (by omega)
  | two _ _ _ i1 i2 =>
    intro n hn
    obtain ⟨m, rfl⟩ : ∃ m, n = m + 1 := ⟨n - 1, by omega⟩
    refine ⟨(by decide : 3 ≤ 1000), fun x hx => ?_⟩
    simp only [List.mem_cons, List.not_mem_nil, or_false] at hx
    rcases hx with rfl | rfl | rfl
    · exact lvl_str _ _
    · exact i1 m (by omega)
    · exact i2 m (by omega)
theorem GTr.up {ls : List Nat} {d : Nat} {T : Tr} (h : GTr ls d T) : ∀ e, d ≤ e → GTr ls e T := by
  induction h with
  | no => exact fun e _ => .no
  | lt h1 h2 => exact fun e _ => .lt h1 h2
  | one hk _ ih =>
    intro e he
    obtain ⟨m, rfl⟩ : ∃ m, e = m + 1 := ⟨e - 1, by omega⟩
    exact .one hk (ih m (by omega))
  | two hk _ _ i1 i2 =>
    intro e he
    obtain ⟨m, rfl⟩ : ∃ m, e = m + 1 := ⟨e - 1, by omega⟩
    exact .two hk (i1 m (by omega)) (i2 m (by omega))
def tA : Tr := .lt (Sx [97]) "keep"
def tB : Tr := .lt (Sx [98]) "cent"
def tC' : Tr := .lt (Sx [99]) "brim"
def f1 : Tr := .two "row" (.two "row" tA tB) tC'
def f2 : Tr := .two "row" tA (.two "row" tB tC')
def f3 : Tr := .two "either" (.two "either" tA tB) tC'
def f4 : Tr := .two "either" (.two "row" tA (.one "maybe" (.one "many" tB))) .no
theorem g_abc : GTr [97, 98, 99] 0 tA ∧ GTr [97, 98, 99] 0 tB ∧ GTr [97, 98, 99] 0 tC' := ⟨.lt (by decide) (by decide +kernel), .lt (by decide) (by decide +kernel), .lt (by decide) (by decide +kernel)⟩
theorem g_f : GTr [97, 98, 99] 4 f1 ∧ GTr [97, 98, 99] 4 f2 ∧ GTr [97, 98, 99] 4 f3 ∧ GTr [97, 98, 99] 4 f4 := by
  obtain ⟨ga, gb, gc⟩ := g_abc
  have up := fun {T : Tr} (h : GTr [97, 98, 99] 0 T) (e : Nat) => h.up e (Nat.zero_le e)
  exact ⟨.two (.inl rfl) (.two (.inl rfl) (up ga 2) (up gb 2)) (up gc 3), .two (.inl rfl) (up ga 3) (.two (.inl rfl) (up gb 2) (up gc 2)), .two (.inr rfl) (.two (.inr rfl) (up ga 2) (up gb 2)) (up gc 3), .two (.inr rfl) (.two (.inl rfl) (up ga 2) (.one (.inr rfl) (.one (.inl rfl) (up gb 0)))) .no⟩
theorem rds_f1 : Rds [97, 98, 33, 99, 58] f1 := ⟨_, _, rfl, rfl, rfl, rfl⟩
theorem rds_f2 : Rds [97, 40, 98, 33, 99, 58, 41] f2 := ⟨_, _, rfl, rfl, rfl, rfl⟩
theorem rds_f3 : Rds [97, 124, 98, 33, 124, 99, 58] f3 := ⟨_, _, rfl, rfl, rfl, rfl⟩
theorem rds_f4 : Rds [97, 98, 33, 42, 63, 124, 45] f4 := ⟨_, _, rfl, rfl, rfl, rfl⟩
theorem fix_eq : ("ab!c:" : Str) = Sx [97, 98, 33, 99, 58] ∧ ("a(b!c:)" : Str) = Sx [97, 40, 98, 33, 99, 58, 41] ∧ ("a|b!|c:" : Str) = Sx [97, 124, 98, 33, 124, 99, 58] ∧ ("ab!*?|-" : Str) = Sx [97, 98, 33, 42, 63, 124, 45] ∧ ("a" : Str) = Sx [97] ∧ ("b" : Str) = Sx [98] ∧ ("c" : Str) = Sx [99] ∧ ("q" : Str) = Sx [113] := by decide +kernel
theorem brk_eq : ("(" : Str) = Sx [40] ∧ (")" : Str) = Sx [41] ∧ ("((" : Str) = Sx [40, 40] ∧ (")*)?" : Str) = Sx [41, 42, 41, 63] ∧ (")(q$)" : Str) = Sx [41, 40, 113, 36, 41] ∧ ("-|(" : Str) = Sx [45, 124, 40] := by decide +kernel
/-- a list of trees -/
structure LTr (H : Hp) (l : Addr) (bs : List Addr) (Ts : List Tr) : Prop where
  at_ : H l = some (.lst (bs.map V.ref))
  len : bs.length = Ts.length
  tr : ∀ (i : Nat) b T, bs[i]? = some b → Ts[i]? = some T → TrAt H b T
theorem LTr.same {H H' : Hp} {l : Addr} {bs : List Addr} {Ts : List Tr} (h : LTr H l bs Ts) (s : Same H H') : LTr H' l bs Ts := ⟨s _ _ h.at_, h.len, fun i b T e1 e2 => (h.tr i b T e1 e2).tk (.of s)⟩
theorem LTr.keep {H H' : Hp} {g : Bid} {l : Addr} {bs : List Addr} {Ts : List Tr} (h : LTr H l bs Ts) (B : Bg H g) (n : l ≠ g.b) (k : Keep g.b H H') : LTr H' l bs Ts := ⟨k _ _ n h.at_, h.len, fun i b T e1 e2 => (h.tr i b T e1 e2).tk (Keep.tk B k)⟩
theorem ltr_dp {K : PySem.W.Frag} {H : Hp} : ∀ {bs : List Addr} {Ts : List Tr}, bs.length = Ts.length → (∀ (i : Nat) b T, bs[i]? = some b → Ts[i]? = some T → TrAt H b T) → DpAll K H (bs.map V.ref) (Ts.map trD)
  | [], [], _, _ => .nil
  | b :: bs, T :: Ts, h, f => .cons (f 0 b T rfl rfl).dp (ltr_dp (by simpa using h) fun i b' T' h1 h2 => f (i + 1) b' T' h1 h2)
  | [], _ :: _, h, _ => by cases h
  | _ :: _, [], h, _ => by cases h
theorem LTr.dp {K : PySem.W.Frag} {H : Hp} {l : Addr} {bs : List Addr} {Ts : List Tr} (h : LTr H l bs Ts) : Dp K H (.ref l) (.list (Ts.map trD)) := .lst (SqL.of h.at_) (ltr_dp h.len h.tr)
theorem LTr.nil {H : Hp} {l : Addr} (h : H l = some (.lst [])) : LTr H l [] [] := ⟨h, rfl, fun _ _ _ z => nomatch z⟩
theorem LTr.snoc {H : Hp} {l b : Addr} {bs : List Addr} {Ts : List Tr} {T : Tr} (h : LTr H l bs Ts) (hb : TrAt H b T) : LTr (upd H l (.lst (bs.map V.ref ++ [V.ref b]))) l (bs ++ [b]) (Ts ++ [T]) := by
  have tk : TK H (upd H l (.lst (bs.map V.ref ++ [V.ref b]))) := .put h.at_ fun _ z => nomatch z
  refine ⟨by rw [upd_same, List.map_append]; rfl, by rw [List.length_append, List.length_append, h.len]; rfl, fun i b' T' e1 e2 => ?_⟩
  by_cases hi : i < bs.length
  · rw [List.getElem?_append_left hi] at e1
    rw [List.getElem?_append_left (by rw [← h.len]; exact hi)] at e2
    exact (h.tr i b' T' e1 e2).tk tk
  · rw [List.getElem?_append_right (by omega)] at e1
    rw [List.getElem?_append_right (by rw [← h.len]; omega)] at e2
    rw [← h.len] at e2
    cases e : i - bs.length with
    | zero =>
      rw [e] at e1 e2
      obtain rfl := Option.some.inj e1
      obtain rfl := Option.some.inj e2
      exact hb.tk tk
    | succ n =>
      rw [e] at e1
      simp at e1
theorem lvl_list {Ts : List Tr} (hl : Ts.length ≤ 1000) (h : ∀ T ∈ Ts, Lvl 9 (trD T)) : Lvl 10 (.list (Ts.map trD)) := by
  refine ⟨by rw [List.length_map]; exact hl, fun d hd => ?_⟩
  obtain ⟨T, hT, rfl⟩ := List.mem_map.mp hd
  exact h T hT
section
variable {P : Program} {w : World} {K : PySem.W.Frag} {mg : Str → Option Value} {base : Heap}
theorem ok_law {f CV fIV CT iT dD dK fB fPu fO fSm fDe fLe fTy fSg fTx fCn fLg fJ fCa fTk fRt fPt fWh fNx : Addr} {fd fdIV fdiT fdB fdPu fdO fdSm fdDe fdLe fdTy fdSg fdTx fdCn fdLg fdJ fdCa fdTk fdRt fdPt fdWh fdNx : FuncData}
    (F : Fun K "law" "law" sLaw f fd)
    (B : FnM K mg fB fdB "_law_bag" sBag ["_law_script"])
    (Pu : FnM K mg fPu fdPu "_law_pull" sPull ["_law_bag_here", "_law_many"])
    (O : FnM K mg fO fdO "_law_of" sOf ["_law_bag_here", "_law_some"])
    (Sm : FnM K mg fSm fdSm "_law_same" sSame ["_law_found", "_law_due"])
    (De : FnM K mg fDe fdDe "_law_deed" sDeed ["_law_bag_here"])
    (Le : FnM K mg fLe fdLe "_law_letters" sLett ["_law_bag_here", "_law_most"])
    (Ty : FnM K mg fTy fdTy "_law_tree" sTree ["_law_bag_here", "_law_letters_here", "_law_depth"])
    (Sg : FnM K mg fSg fdSg "_law_signs" sSigns [])
    (Tx : FnM K mg fTx fdTx "_law_text_of" sTextOf ["_law_tree_here"])
    (Cn : FnM K mg fCn fdCn "_law_count_in" sCount ["_law_tree_here"])
    (Lg : FnM K mg fLg fdLg "_law_long_ones" sLong ["_law_many"])
    (J : FnM K mg fJ fdJ "joined" sJoin ["kind", "one", "other"])
    (Ca : FnM K mg fCa fdCa "can_stand" sCan ["sign", "ahead", "levels"])
    (Tk : FnM K mg fTk fdTk "take_sign" sTake ["sign", "levels"])
    (Rt : FnM K mg fRt fdRt "read_tolls" sRead' ["text"])
    (TV : MkLv K mg CV fIV fdIV)
    (FPt : Fun K "put" "Level.put" sLevP fPt fdPt) (bPt : Binds K fdPt ["self", "tree"] []) (mPt : Meth K CV "put" fPt)
    (FWh : Fun K "whole" "Level.whole" sLevW fWh fdWh) (bWh : Binds K fdWh ["self"] []) (mWh : Meth K CV "whole" fWh)
    (FNx : Fun K "next_row" "Level.next_row" sLevN fNx fdNx) (bNx : Binds K fdNx ["self"] []) (mNx : Meth K CV "next_row" fNx)
    (ST : MkBadText K mg CT iT fdiT) (G : TgM K mg w dD dK) (Bl : Blt mg) (mr : mg "range" = none) (me : mg "enumerate" = none) (mm : mg "max" = none) (ms : mg "sum" = none) :
    FnOk P w K mg base CX0 13 f fd ["_law_script"] (spLaw K) := by
  have GB : FnOk P w K mg base CX0 12 fB fdB ["_law_script"] (spBag K) := ok_bag B.F Bl.list
  have GP : FnOk P w K mg base CX0 12 fPu fdPu ["_law_bag_here", "_law_many"] (spPull K) := ok_pull Pu.F Bl.len
  have GL : FnOk P w K mg base CX0 12 fLe fdLe ["_law_bag_here", "_law_most"] spLett := ok_lett (k := 10) Le.F Pu Bl.len mr
  have GT : FnOk P w K mg base CX0 12 fTy fdTy psTr (spTree 4) := ok_tree Ty Pu O De Bl.len mm 4 4
  have GX : FnOk P w K mg base CX0 12 fTx fdTx ["_law_tree_here"] (spTextOf 4) := ok_textOf Tx Sg 4 (by decide) 6
  have GC : FnOk P w K mg base CX0 12 fCn fdCn ["_law_tree_here"] (spCnt 5) := ok_count Cn Bl.isi Bl.tuple ms 5 6
  have GS : FnOk P w K mg base CX0 12 fSm fdSm ["_law_found", "_law_due"] (spSame K 10) := ok_same Sm.F Sm.b Sm.g Bl 10 1
  have GR11 : FnOk P w K mg base (L2N.CX P w) 11 fRt fdRt ["text"] (spReadT CT) := ok_readT (k := 6) Rt.F TV G J FPt bPt mPt FWh bWh mWh FNx bNx mNx Ca Tk ST Bl.len me
  have GR : FnOk P w K mg base (L2N.CX P w) 12 fRt fdRt ["text"] (spReadT CT) := GR11.mono (by decide)
  have GG : FnOk P w K mg base CX0 12 fLg fdLg ["_law_many"] spLong := ok_long (k := 9) Lg.F Rt GR11 mr
  refine F.ok scLaw (fun vs H Q E h => ?_) (fun cdv A outer s H vs Q E hr h => ?_)
  · obtain ⟨a, ns, rfl, _⟩ := h
    rfl
  · obtain ⟨a, ns, rfl, hS, q⟩ := h
    refine ⟨_, (pss_cons (ps_set (i := 1) scLaw.nd rfl (.inl rfl) (pe_call GB hr (by rfl) B.g B.F.kp B.b .nil pass0 (pa_cons (pv 0) pa_nil)))
      (pss_cutM (ps_for PassesOwn.never rfl (pi_range1 (by rfl) mr (pa_cons pe_int pa_nil)) (pg_name (i := 2) scLaw.nd rfl (.inl rfl))
        (pss_cutM (ps_set (i := 3) scLaw.nd rfl (.inl rfl) (pe_call GL hr (by rfl) Le.g Le.F.kp Le.b .nil pass0 (pa_cons (pv 1) (pa_cons pe_int pa_nil))))
        (pss_cutM (ps_set (i := 4) scLaw.nd rfl (.inl rfl) (pe_call GT hr (by rfl) Ty.g Ty.F.kp Ty.b .nil pass0 (pa_cons (pv 1) (pa_cons (pv 3) (pa_cons pe_int pa_nil)))))
        (pss_one (ps_if (pt_cmpR op_le (pe_call GC hr (by rfl) Cn.g Cn.F.kp Cn.b .nil pass0 (pa_cons (pv 4) pa_nil)) pe_int (nomark _)) (pss_cutM (ps_set (i := 5) scLaw.nd rfl (.inl rfl) (pe_call GX hr (by rfl) Tx.g Tx.F.kp Tx.b .nil pass0 (pa_cons (pv 4) pa_nil)))
        (pss_cutM (ps_if (PW.pt (pw_or (pt_not (pt_val (pe_call GS hr (by rfl) Sm.g Sm.F.kp Sm.b .nil pass0 (pa_cons (pe_call GR hr (by rfl) Rt.g Rt.F.kp Rt.b .nil passN (pa_cons (pv 5) pa_nil)) (pa_cons (pv 4) pa_nil))))) (pw_or1 (pt_not (pt_val (pe_call GS hr (by rfl) Sm.g Sm.F.kp Sm.b .nil pass0 (pa_cons (pe_call GR hr (by rfl) Rt.g Rt.F.kp Rt.b .nil passN (pa_cons (pe_op op_add_str (pe_op op_add_str pe_str (pv 5)) pe_str) pa_nil)) (pa_cons (pv 4) pa_nil)))))))) pss_never pss_nil)
        (pss_cutM (ps_if (pt_not (pt_val (pe_call GS hr (by rfl) Sm.g Sm.F.kp Sm.b .nil pass0 (pa_cons (pe_call GR hr (by rfl) Rt.g Rt.F.kp Rt.b .nil passN (pa_cons (pe_op op_add_str (pe_op op_add_str pe_str (pv 5)) pe_str) pa_nil)) (pa_cons (pe_tup (pa_cons pe_str (pa_cons (pe_tup (pa_cons pe_str (pa_cons (pv 4) pa_nil))) pa_nil))) pa_nil))))) pss_never pss_nil)
        (pss_cutM (ps_set (i := 6) scLaw.nd rfl (.inl rfl) (pe_lst (pa_cons (pe_tup (pa_cons pe_str (pa_cons (pv 4) (pa_cons (pe_tup (pa_cons pe_str (pa_cons pe_str (pa_cons pe_str pa_nil)))) pa_nil)))) (pa_cons (pe_tup (pa_cons pe_str (pa_cons (pe_tup (pa_cons pe_str pa_nil)) (pa_cons (pv 4) pa_nil)))) pa_nil))))
        (pss_cutM (ps_set (i := 7) scLaw.nd rfl (.inl rfl) (pe_lst (pa_cons (pe_op op_add_str (pe_op op_add_str pe_str (pv 5)) pe_str) (pa_cons (pe_op op_add_str (pe_op op_add_str pe_str (pv 5)) pe_str) pa_nil))))
        (pss_one (ps_if (pt_not (pt_val (pe_call GS hr (by rfl) Sm.g Sm.F.kp Sm.b .nil pass0 (pa_cons (pe_lc (own := [("_law_one", 13)]) (g := gName 13) (tt := tYes) (te := tCall (spReadT CT) [] E0 (tCons (tVar 13) tNil)) rfl scLaw.nd (pi_list (pv 7)) (blkOk_by (own := [("_law_one", 13)]) (N := NL) (sc := defScope sLaw) (by decide +kernel)) (fun _ _ _ _ _ => pg_name (i := 13) scLaw.nd rfl (.inl rfl)) (fun _ _ _ _ _ => pts_nil) (fun _ _ _ _ _ => (pe_call GR hr (by rfl) Rt.g Rt.F.kp Rt.b .nil passN (pa_cons (pv 13) pa_nil)))) (pa_cons (pv 6) pa_nil))))) pss_never pss_nil))))))) pss_nil)))))
      (pss_cutM (ps_asg (pe_tup (pa_cons (pe_tup (pa_cons pe_str (pa_cons pe_str (pa_cons pe_str pa_nil)))) (pa_cons (pe_tup (pa_cons pe_str (pa_cons pe_str (pa_cons pe_str pa_nil)))) (pa_cons (pe_tup (pa_cons pe_str (pa_cons pe_str (pa_cons pe_str pa_nil)))) pa_nil)))) (pg_tup rfl (pgs_cons (pg_name (i := 8) scLaw.nd rfl (.inl rfl)) (pgs_cons (pg_name (i := 9) scLaw.nd rfl (.inl rfl)) (pgs_cons (pg_name (i := 10) scLaw.nd rfl (.inl rfl)) pgs_nil)))))
      (pss_cutM (ps_set (i := 11) scLaw.nd rfl (.inl rfl) (pe_lst (pa_cons (pe_call GR hr (by rfl) Rt.g Rt.F.kp Rt.b .nil passN (pa_cons pe_str pa_nil)) (pa_cons (pe_call GR hr (by rfl) Rt.g Rt.F.kp Rt.b .nil passN (pa_cons pe_str pa_nil)) (pa_cons (pe_call GR hr (by rfl) Rt.g Rt.F.kp Rt.b .nil passN (pa_cons pe_str pa_nil)) (pa_cons (pe_call GR hr (by rfl) Rt.g Rt.F.kp Rt.b .nil passN (pa_cons pe_str pa_nil)) pa_nil))))))
      (pss_cutM (ps_set (i := 12) scLaw.nd rfl (.inl rfl) (pe_lst (pa_cons (pe_tup (pa_cons pe_str (pa_cons (pe_tup (pa_cons pe_str (pa_cons (pv 8) (pa_cons (pv 9) pa_nil)))) (pa_cons (pv 10) pa_nil)))) (pa_cons (pe_tup (pa_cons pe_str (pa_cons (pv 8) (pa_cons (pe_tup (pa_cons pe_str (pa_cons (pv 9) (pa_cons (pv 10) pa_nil)))) pa_nil)))) (pa_cons (pe_tup (pa_cons pe_str (pa_cons (pe_tup (pa_cons pe_str (pa_cons (pv 8) (pa_cons (pv 9) pa_nil)))) (pa_cons (pv 10) pa_nil)))) pa_nil)))))
      (pss_cutM (ps_if (pt_not (pt_val (pe_call GG hr (by rfl) Lg.g Lg.F.kp Lg.b .nil pass0 (pa_cons (pe_op op_add pe_int (pe_call GP hr (by rfl) Pu.g Pu.F.kp Pu.b .nil pass0 (pa_cons (pv 1) (pa_cons pe_int pa_nil)))) pa_nil)))) pss_never pss_nil)
      (pss_one (ps_ret (pe_call GS hr (by rfl) Sm.g Sm.F.kp Sm.b .nil pass0 (pa_cons (pv 11) (pa_cons (pe_op op_cat (pv 12) (pe_lst (pa_cons (pe_tup (pa_cons pe_str (pa_cons (pe_tup (pa_cons pe_str (pa_cons (pv 8) (pa_cons (pe_tup (pa_cons pe_str (pa_cons (pe_tup (pa_cons pe_str (pa_cons (pv 9) pa_nil))) pa_nil))) pa_nil)))) (pa_cons (pe_tup (pa_cons pe_str pa_nil)) pa_nil)))) pa_nil))) pa_nil))))))))))), ?_⟩
    have hbig : 50000 ≤ sizeLine := by decide
    obtain ⟨eO, eC, eOO, eM, eQ, eE⟩ := brk_eq
    obtain ⟨x1, x2, x3, x4, ea, eb, ec, eq'⟩ := fix_eq
    refine ⟨_, rfl, a, ns, rfl, hS, fun g H1 nb sm1 Bg1 => ?_⟩
    refine ⟨fun σ' H' => ∃ y2 y3 y4 y5 y6 y7 : Option V, σ' = [some (.ref a), some (.ref g.b), y2, y3, y4, y5, y6, y7, none, none, none, none, none, none] ∧ Bg H' g, ?_, ?_⟩
    · refine ⟨6, rfl, by decide, by decide, for_range (lo := 0) (n := 6) (fun i σ H' => ∃ y2 y3 y4 y5 y6 y7 : Option V, σ = [some (.ref a), some (.ref g.b), y2, y3, y4, y5, y6, y7, none, none, none, none, none, none] ∧ Bg H' g) ⟨_, _, _, _, _, _, rfl, Bg1⟩ ?_ ?_⟩
      rotate_left
      · rintro σ H2 ⟨y2, y3, y4, y5, y6, y7, rfl, B2⟩
        exact ⟨_, _, _, _, _, _, rfl, B2⟩
      rintro i σ H2 hi ⟨y2, y3, y4, y5, y6, y7, rfl, B2⟩
      refine ⟨fun σ' H' => ∃ ls : List Nat, σ' = [some (.ref a), some (.ref g.b), some (.int (0 + (i : Int))), some (.str (Sx ls)), y4, y5, y6, y7, none, none, none, none, none, none] ∧ Bg H' g ∧ letB ls = true ∧ (ls.length : Int) ≤ 3, ?_, ?_⟩
      · exact ⟨_, rfl, g, 3, rfl, by decide, by decide, B2, fun ls H3 hls hll _ k3 B3 => ⟨ls, rfl, B3, hls, hll⟩⟩
      clear B2 H2
      rintro σ' H2 ⟨ls, rfl, B2, hls, hll⟩
      have hsm := letB_small hls
      refine ⟨fun σ' H' => ∃ (t : Addr) (T : Tr), σ' = [some (.ref a), some (.ref g.b), some (.int (0 + (i : Int))), some (.str (Sx ls)), some (.ref t), y5, y6, y7, none, none, none, none, none, none] ∧ Bg H' g ∧ GTr ls 4 T ∧ TrAt H' t T, ?_, ?_⟩
      · refine ⟨_, rfl, _, rfl, g, ls, 4, rfl, by decide, B2, ?_, by omega, fun t T H3 hT ht k3 B3 => ⟨t, T, rfl, B3, hT, ht⟩⟩
        cases ls with
        | nil => cases hls
        | cons => exact Nat.succ_pos _
      clear B2 H2
      rintro σ' H2 ⟨t, T, rfl, B2, hT, ht⟩
      have r3 := rd3 hsm hT
      have hcl : (textT T).length ≤ 200 := Nat.le_trans (textT_len hT) (wid5 (by decide))
      refine ⟨_, rfl, t, T, ls, 4, rfl, rfl, ht, hT, fun n H3 s3 => ?_⟩
      refine ⟨_, _, rfl, rfl, _, rfl, ?_⟩
      by_cases hn : n ≤ 40
      rotate_left
      · exact itF hn ⟨_, _, _, _, _, _, rfl, B2.same s3⟩
      refine itT hn ?_
      have B3 := B2.same s3
      have ht3 := ht.tk (.of s3)
      clear B2 ht s3 H2
      refine ⟨fun σ' H' => σ' = [some (.ref a), some (.ref g.b), some (.int (0 + (i : Int))), some (.str (Sx ls)), some (.ref t), some (.str (Sx (textT T))), y6, y7, none, none, none, none, none, none] ∧ Same H3 H', ?_, ?_⟩
      · exact ⟨_, rfl, t, T, ls, rfl, ht3, hT, fun H4 s4 => ⟨rfl, s4⟩⟩
      rintro σ' H4 ⟨rfl, s4⟩
      -- plainly, and within brackets
      refine ⟨fun σ' H' => σ' = [some (.ref a), some (.ref g.b), some (.int (0 + (i : Int))), some (.str (Sx ls)), some (.ref t), some (.str (Sx (textT T))), y6, y7, none, none, none, none, none, none] ∧ Same H3 H', ?_, ?_⟩
      · refine ⟨_, rfl, _, rfl, (by omega), fun i H' hb _ => (rds_bad (rds_plain r3) hb).elim, fun s t' b H5 hs h1 h2 s5 hb => ?_⟩
        have hb := rds_tr (rds_plain r3) hs h2 hb
        have s35 := s4.trans s5
        refine ⟨_, rfl, .ref b, .ref t, trD T, rfl, hb.dp, (ht3.tk (.of s35)).dp, lvl_tr hT 10 (by decide), fun H6 s6 => ⟨_, rfl, iteF ?_⟩⟩
        refine ⟨_, rfl, Sx [40], Sx (textT T), by rw [eO], rfl, by rw [sx_len, sx_len, List.length_singleton]; omega, Sx [40] ++ Sx (textT T), Sx [41], rfl, by rw [eC], by rw [sx_app, sx_len, sx_len, List.length_append, List.length_singleton, List.length_singleton]; omega, ?_⟩
        rw [sx_app, sx_app]
        refine ⟨_, rfl, (by rw [List.length_append, List.length_append, List.length_singleton, List.length_singleton]; omega), fun i H' hb _ => (rds_bad (rds_br r3) hb).elim, fun s t' b2 H7 hs h1 h2 s7 hb2 => ?_⟩
        have hb2 := rds_tr (rds_br r3) hs h2 hb2
        have s37 := s35.trans (s6.trans s7)
        exact ⟨_, rfl, .ref b2, .ref t, trD T, rfl, hb2.dp, (ht3.tk (.of s37)).dp, lvl_tr hT 10 (by decide), fun H8 s8 => ⟨_, rfl, iteF ⟨rfl, s37.trans s8⟩⟩⟩
      clear s4 H4
      rintro σ' H4 ⟨rfl, s4⟩
      -- many, maybe
      refine ⟨fun σ' H' => σ' = [some (.ref a), some (.ref g.b), some (.int (0 + (i : Int))), some (.str (Sx ls)), some (.ref t), some (.str (Sx (textT T))), y6, y7, none, none, none, none, none, none] ∧ Same H3 H', ?_, ?_⟩
      · refine ⟨_, rfl, Sx [40, 40], Sx (textT T), by rw [eOO], rfl, by rw [sx_len, sx_len]; show 2 + _ ≤ _; omega, Sx [40, 40] ++ Sx (textT T), Sx [41, 42, 41, 63], rfl, by rw [eM], by rw [sx_app, sx_len, sx_len, List.length_append]; show 2 + _ + 4 ≤ _; omega, ?_⟩
        rw [sx_app, sx_app]
        refine ⟨_, rfl, (by rw [List.length_append, List.length_append]; show 2 + _ + 4 ≤ _; omega), fun i H' hb _ => (rds_bad (rds_mm r3) hb).elim, fun s t' b H5 hs h1 h2 s5 hb => ?_⟩
        have hb := rds_tr (rds_mm r3) hs h2 hb
        refine ⟨_, rfl, (by decide : 2 ≤ sizeLine), fun p np => ?_⟩
        have sp := same_upd (o := .tup [.str "many", .ref t]) np
        have hp : TrAt (upd H5 p (.tup [.str "many", .ref t])) p (.one "many" T) := .one upd_same (ht3.tk (.of (s4.trans (s5.trans sp))))
        generalize upd H5 p (.tup [.str "many", .ref t]) = H6 at sp hp
        refine ⟨(by decide : 2 ≤ sizeLine), fun p2 np2 => ?_⟩
        have sp2 := same_upd (o := .tup [.str "maybe", .ref p]) np2
        have hp2 : TrAt (upd H6 p2 (.tup [.str "maybe", .ref p])) p2 (.one "maybe" (.one "many" T)) := .one upd_same (hp.tk (.of sp2))
        have g2 : GTr ls 6 (.one "maybe" (.one "many" T)) := .one (.inr rfl) (.one (.inl rfl) hT)
        exact ⟨.ref b, .ref p2, trD (.one "maybe" (.one "many" T)), rfl, (hb.tk (.of (sp.trans sp2))).dp, hp2.dp, lvl_tr g2 10 (by decide), fun H8 s8 => ⟨_, rfl, iteF ⟨rfl, s4.trans (s5.trans (sp.trans (sp2.trans s8)))⟩⟩⟩
      clear s4 H4
      rintro σ' H4 ⟨rfl, s4⟩
      have ht4 := ht3.tk (.of s4)
      have B4 := B3.same s4
      clear ht3 B3 s4 H3
      -- put together
      refine ⟨fun σ' H' => ∃ l u1 u2 : Addr, σ' = [some (.ref a), some (.ref g.b), some (.int (0 + (i : Int))), some (.str (Sx ls)), some (.ref t), some (.str (Sx (textT T))), some (.ref l), y7, none, none, none, none, none, none] ∧ Same H4 H' ∧ H' l = some (.lst [.ref u1, .ref u2]) ∧ TrAt H' u1 (.two "row" T (.lt (Sx [113]) "coin")) ∧ TrAt H' u2 (.two "either" .no T), ?_, ?_⟩
      · refine ⟨_, rfl, (by decide : 3 ≤ sizeLine), fun p1 np1 => ?_⟩
        have s5 := same_upd (o := .tup [.str "letter", .str "q", .str "coin"]) np1
        have hq : TrAt (upd H4 p1 (.tup [.str "letter", .str "q", .str "coin"])) p1 (.lt (Sx [113]) "coin") := .lt (by rw [upd_same, eq'])
        generalize upd H4 p1 (.tup [.str "letter", .str "q", .str "coin"]) = H5 at s5 hq
        refine ⟨(by decide : 3 ≤ sizeLine), fun u1 nu1 => ?_⟩
        have s6 := same_upd (o := .tup [.str "row", .ref t, .ref p1]) nu1
        have h1 : TrAt (upd H5 u1 (.tup [.str "row", .ref t, .ref p1])) u1 (.two "row" T (.lt (Sx [113]) "coin")) := .two upd_same ((ht4.tk (.of s5)).tk (.of s6)) (hq.tk (.of s6))
        generalize upd H5 u1 (.tup [.str "row", .ref t, .ref p1]) = H6 at s6 h1
        refine ⟨(by decide : 1 ≤ sizeLine), fun p2 np2 => ?_⟩
        have s7 := same_upd (o := .tup [.str "nothing"]) np2
        have hn0 : TrAt (upd H6 p2 (.tup [.str "nothing"])) p2 .no := .no upd_same
        generalize upd H6 p2 (.tup [.str "nothing"]) = H7 at s7 hn0
        refine ⟨_, rfl, (by decide : 3 ≤ sizeLine), fun u2 nu2 => ?_⟩
        have s8 := same_upd (o := .tup [.str "either", .ref p2, .ref t]) nu2
        have h2 : TrAt (upd H7 u2 (.tup [.str "either", .ref p2, .ref t])) u2 (.two "either" .no T) := .two upd_same (hn0.tk (.of s8)) (ht4.tk (.of (s5.trans (s6.trans (s7.trans s8)))))
        generalize upd H7 u2 (.tup [.str "either", .ref p2, .ref t]) = H8 at s8 h2
        refine ⟨(by decide : 2 ≤ sizeLine), fun l nl => ?_⟩
        have s9 := same_upd (o := .lst [.ref u1, .ref u2]) nl
        exact ⟨l, u1, u2, rfl, s5.trans (s6.trans (s7.trans (s8.trans s9))), upd_same, h1.tk (.of (s7.trans (s8.trans s9))), h2.tk (.of s9)⟩
      rintro σ' H5 ⟨l, u1, u2, rfl, s5, hl, hu1, hu2⟩
      have B5 := B4.same s5
      clear ht4 B4 s5 H4
      have xq : [40] ++ textT T ++ [41, 40, 113, 36, 41] = [40] ++ textT T ++ [41, 40, 113, 36, 41] := rfl
      refine ⟨fun σ' H' => ∃ l2 : Addr, σ' = [some (.ref a), some (.ref g.b), some (.int (0 + (i : Int))), some (.str (Sx ls)), some (.ref t), some (.str (Sx (textT T))), some (.ref l), some (.ref l2), none, none, none, none, none, none] ∧ Same H5 H' ∧ H' l2 = some (.lst [.str (Sx ([40] ++ textT T ++ [41, 40, 113, 36, 41])), .str (Sx ([45, 124, 40] ++ textT T ++ [41]))]), ?_, ?_⟩
      · refine ⟨_, rfl, Sx [40], Sx (textT T), by rw [eO], rfl, by rw [sx_len, sx_len, List.length_singleton]; omega, Sx [40] ++ Sx (textT T), Sx [41, 40, 113, 36, 41], rfl, by rw [eQ], by rw [sx_app, sx_len, sx_len, List.length_append]; show 1 + _ + 5 ≤ _; omega, ?_⟩
        refine ⟨_, rfl, Sx [45, 124, 40], Sx (textT T), by rw [eE], rfl, by rw [sx_len, sx_len]; show 3 + _ ≤ _; omega, Sx [45, 124, 40] ++ Sx (textT T), Sx [41], rfl, by rw [eC], by rw [sx_app, sx_len, sx_len, List.length_append]; show 3 + _ + 1 ≤ _; omega, ?_⟩
        rw [sx_app, sx_app, sx_app, sx_app]
        exact ⟨(by decide : 2 ≤ sizeLine), fun l2 nl2 => ⟨l2, rfl, same_upd nl2, upd_same⟩⟩
      rintro σ' H6 ⟨l2, rfl, s6, hl2⟩
      -- both read
      refine ⟨_, rfl, l2, rfl, ⟨_, SqL.of hl2⟩, fun D nD => ?_⟩
      have hTs : ∀ T' ∈ [Tr.two "row" T (.lt (Sx [113]) "coin"), Tr.two "either" .no T], Lvl 9 (trD T') := fun T' h => by
        simp only [List.mem_cons, List.not_mem_nil, or_false] at h
        rcases h with rfl | rfl
        · refine ⟨(by decide : 3 ≤ 1000), fun d hd => ?_⟩
          simp only [List.mem_cons, List.not_mem_nil, or_false] at hd
          rcases hd with rfl | rfl | rfl
          · exact lvl_str _ _
          · exact lvl_tr hT 8 (by decide)
          · exact lvl_tr (ls := [113]) (d := 0) (.lt (by decide) (by decide +kernel)) 8 (by decide)
        · exact lvl_tr (GTr.two (.inr rfl) .no hT) 9 (by decide)
      have hl6 : LTr H6 l [u1, u2] [.two "row" T (.lt (Sx [113]) "coin"), .two "either" .no T] := ⟨s6 _ _ hl, rfl, fun i b T' e1 e2 => by
        match i, e1, e2 with
        | 0, e1, e2 =>
          obtain rfl := Option.some.inj e1
          obtain rfl := Option.some.inj e2
          exact hu1.tk (.of s6)
        | 1, e1, e2 =>
          obtain rfl := Option.some.inj e1
          obtain rfl := Option.some.inj e2
          exact hu2.tk (.of s6)⟩
      refine lc_list (K := K) (a := l2) (xs := [.str (Sx ([40] ++ textT T ++ [41, 40, 113, 36, 41])), .str (Sx ([45, 124, 40] ++ textT T ++ [41]))]) (fun j H' => Same H6 H' ∧ ∃ bs, LTr H' D bs (([Tr.two "row" T (.lt (Sx [113]) "coin"), Tr.two "either" .no T]).take j)) ⟨same_upd nD, [], .nil upd_same⟩ (fun j H' _ ⟨sm, _⟩ => SqL.of (sm _ _ hl2)) ?_ ?_
      · rintro j x H7 hx ⟨sm, bs, hD⟩
        refine ⟨rfl, ?_⟩
        refine yes2 ?_
        have hbl : bs.length ≤ 2 := by
          rw [hD.len, List.length_take]
          exact Nat.min_le_right _ _
        have fin : ∀ (b : Addr) (T' : Tr) H8, Same H7 H8 → TrAt H8 b T' → ([Tr.two "row" T (.lt (Sx [113]) "coin"), Tr.two "either" .no T])[j]? = some T' → ∃ acc : List V, H8 D = some (.lst acc) ∧ acc.length < sizeLine ∧ (Same H6 (upd H8 D (.lst (acc ++ [V.ref b]))) ∧ ∃ bs, LTr (upd H8 D (.lst (acc ++ [V.ref b]))) D bs (([Tr.two "row" T (.lt (Sx [113]) "coin"), Tr.two "either" .no T]).take (j + 1))) := fun b T' H8 s8 hb e => by
          have h8 := hD.same s8
          refine ⟨_, h8.at_, by rw [List.length_map]; exact Nat.lt_of_le_of_lt hbl (by decide), fun c o e => ?_, bs ++ [b], ?_⟩
          · rw [upd_ne (ne_of_none e nD)]
            exact s8 _ _ (sm c o e)
          · rw [take_next e]
            exact h8.snoc hb
        match j, hx with
        | 0, hx =>
          obtain rfl := Option.some.inj hx
          exact ⟨_, rfl, _, rfl, (by rw [List.length_append, List.length_append]; show 1 + _ + 5 ≤ _; omega), fun i H' hb _ => (rds_bad (rds_q r3) hb).elim, fun s t' b H8 hs h1 h2 s8 hb => fin b _ H8 s8 (rds_tr (rds_q r3) hs h2 hb) rfl⟩
        | 1, hx =>
          obtain rfl := Option.some.inj hx
          exact ⟨_, rfl, _, rfl, (by rw [List.length_append, List.length_append]; show 3 + _ + 1 ≤ _; omega), fun i H' hb _ => (rds_bad (rds_e r3) hb).elim, fun s t' b H8 hs h1 h2 s8 hb => fin b _ H8 s8 (rds_tr (rds_e r3) hs h2 hb) rfl⟩
      · rintro H7 ⟨sm, bs, hD⟩
        exact ⟨_, rfl, .ref D, .ref l, .list (([Tr.two "row" T (.lt (Sx [113]) "coin"), Tr.two "either" .no T]).map trD), rfl, hD.dp, (hl6.same sm).dp, lvl_list (show 2 ≤ 1000 by decide) hTs, fun H8 s8 => ⟨_, rfl, iteF ⟨_, _, _, _, _, _, rfl, B5.same (s6.trans (sm.trans s8))⟩⟩⟩
    rintro σ' H2 ⟨y2, y3, y4, y5, y6, y7, rfl, B2⟩
    obtain ⟨ga, gb, gc⟩ := g_abc
    obtain ⟨gf1, gf2, gf3, gf4⟩ := g_f
    -- the written ones
    refine ⟨fun σ' H' => ∃ pa pb pc : Addr, σ' = [some (.ref a), some (.ref g.b), y2, y3, y4, y5, y6, y7, some (.ref pa), some (.ref pb), some (.ref pc), none, none, none] ∧ Bg H' g ∧ TrAt H' pa tA ∧ TrAt H' pb tB ∧ TrAt H' pc tC', ?_, ?_⟩
    · refine ⟨(by decide : 3 ≤ sizeLine), fun pa npa => ?_⟩
      have s1 := same_upd (o := .tup [.str "letter", .str "a", .str "keep"]) npa
      have ha : TrAt (upd H2 pa (.tup [.str "letter", .str "a", .str "keep"])) pa tA := .lt (by rw [upd_same, ea])
      generalize upd H2 pa (.tup [.str "letter", .str "a", .str "keep"]) = H3 at s1 ha
      refine ⟨(by decide : 3 ≤ sizeLine), fun pb npb => ?_⟩
      have s2 := same_upd (o := .tup [.str "letter", .str "b", .str "cent"]) npb
      have hb : TrAt (upd H3 pb (.tup [.str "letter", .str "b", .str "cent"])) pb tB := .lt (by rw [upd_same, eb])
      generalize upd H3 pb (.tup [.str "letter", .str "b", .str "cent"]) = H4 at s2 hb
      refine ⟨(by decide : 3 ≤ sizeLine), fun pc npc => ?_⟩
      have s3 := same_upd (o := .tup [.str "letter", .str "c", .str "brim"]) npc
      have hc : TrAt (upd H4 pc (.tup [.str "letter", .str "c", .str "brim"])) pc tC' := .lt (by rw [upd_same, ec])
      generalize upd H4 pc (.tup [.str "letter", .str "c", .str "brim"]) = H5 at s3 hc
      refine ⟨(by decide : 3 ≤ sizeLine), fun pt npt => ?_⟩
      have s4 := same_upd (o := .tup [.ref pa, .ref pb, .ref pc]) npt
      refine ⟨pt, _, rfl, SqT.of upd_same, rfl, _, _, rfl, _, _, rfl, _, _, rfl, rfl, pa, pb, pc, rfl, B2.same (s1.trans (s2.trans (s3.trans s4))), ha.tk (.of (s2.trans (s3.trans s4))), hb.tk (.of (s3.trans s4)), hc.tk (.of s4)⟩
    clear B2 H2
    rintro σ' H2 ⟨pa, pb, pc, rfl, B2, ha, hb, hc⟩
    refine ⟨fun σ' H' => ∃ (l : Addr) (bs : List Addr), σ' = [some (.ref a), some (.ref g.b), y2, y3, y4, y5, y6, y7, some (.ref pa), some (.ref pb), some (.ref pc), some (.ref l), none, none] ∧ Same H2 H' ∧ LTr H' l bs [f1, f2, f3, f4] ∧ l ≠ g.b, ?_, ?_⟩
    · refine ⟨[97, 98, 33, 99, 58], by rw [x1]; rfl, (by decide), fun i H' hb _ => (rds_bad rds_f1 hb).elim, fun s t' b1 H3 hs h1 h2 s3 g1 => ?_⟩
      have g1 := rds_tr rds_f1 hs h2 g1
      refine ⟨[97, 40, 98, 33, 99, 58, 41], by rw [x2]; rfl, (by decide), fun i H' hb _ => (rds_bad rds_f2 hb).elim, fun s t' b2 H4 hs h1 h2 s4 g2 => ?_⟩
      have g2 := rds_tr rds_f2 hs h2 g2
      refine ⟨[97, 124, 98, 33, 124, 99, 58], by rw [x3]; rfl, (by decide), fun i H' hb _ => (rds_bad rds_f3 hb).elim, fun s t' b3 H5 hs h1 h2 s5 g3 => ?_⟩
      have g3 := rds_tr rds_f3 hs h2 g3
      refine ⟨[97, 98, 33, 42, 63, 124, 45], by rw [x4]; rfl, (by decide), fun i H' hb _ => (rds_bad rds_f4 hb).elim, fun s t' b4 H6 hs h1 h2 s6 g4 => ?_⟩
      have g4 := rds_tr rds_f4 hs h2 g4
      refine ⟨(by decide : 4 ≤ sizeLine), fun l nl => ?_⟩
      have sl := same_upd (o := .lst [.ref b1, .ref b2, .ref b3, .ref b4]) nl
      have B6 := B2.same (s3.trans (s4.trans (s5.trans s6)))
      refine ⟨l, [b1, b2, b3, b4], rfl, s3.trans (s4.trans (s5.trans (s6.trans sl))), ⟨upd_same, rfl, fun i b T e1 e2 => ?_⟩, B6.ne nl⟩
      match i, e1, e2 with
      | 0, e1, e2 =>
        obtain rfl := Option.some.inj e1
        obtain rfl := Option.some.inj e2
        exact g1.tk (.of (s4.trans (s5.trans (s6.trans sl))))
      | 1, e1, e2 =>
        obtain rfl := Option.some.inj e1
        obtain rfl := Option.some.inj e2
        exact g2.tk (.of (s5.trans (s6.trans sl)))
      | 2, e1, e2 =>
        obtain rfl := Option.some.inj e1
        obtain rfl := Option.some.inj e2
        exact g3.tk (.of (s6.trans sl))
      | 3, e1, e2 =>
        obtain rfl := Option.some.inj e1
        obtain rfl := Option.some.inj e2
        exact g4.tk (.of sl)
    rintro σ' H3 ⟨lf, bf, rfl, s3, hlf, nlf⟩
    have B3 := B2.same s3
    have ha3 := ha.tk (.of s3)
    have hb3 := hb.tk (.of s3)
    have hc3 := hc.tk (.of s3)
    clear B2 ha hb hc s3 H2
    refine ⟨fun σ' H' => ∃ (l : Addr) (bs : List Addr), σ' = [some (.ref a), some (.ref g.b), y2, y3, y4, y5, y6, y7, some (.ref pa), some (.ref pb), some (.ref pc), some (.ref lf), some (.ref l), none] ∧ Same H3 H' ∧ LTr H' l bs [f1, f2, f3] ∧ l ≠ g.b, ?_, ?_⟩
    · have sxl : ∀ {H : Hp} (o : List V) {p : Addr}, H p = none → Same H (upd H p (.tup o)) := fun {H} o {p} h => same_upd h
      refine ⟨_, rfl, _, rfl, (by decide : 3 ≤ sizeLine), fun p1 n1 => ?_⟩
      have t1 := sxl [.str "row", .ref pa, .ref pb] n1
      have k1 : TrAt (upd H3 p1 (.tup [.str "row", .ref pa, .ref pb])) p1 (.two "row" tA tB) := .two upd_same (ha3.tk (.of t1)) (hb3.tk (.of t1))
      generalize upd H3 p1 (.tup [.str "row", .ref pa, .ref pb]) = G1 at t1 k1
      refine ⟨_, rfl, (by decide : 3 ≤ sizeLine), fun p2 n2 => ?_⟩
      have t2 := sxl [.str "row", .ref p1, .ref pc] n2
      have k2 : TrAt (upd G1 p2 (.tup [.str "row", .ref p1, .ref pc])) p2 f1 := .two upd_same (k1.tk (.of t2)) (hc3.tk (.of (t1.trans t2)))
      generalize upd G1 p2 (.tup [.str "row", .ref p1, .ref pc]) = G2 at t2 k2
      have w2 := t1.trans t2
      refine ⟨_, rfl, _, rfl, _, rfl, (by decide : 3 ≤ sizeLine), fun p3 n3 => ?_⟩
      have t3 := sxl [.str "row", .ref pb, .ref pc] n3
      have k3 : TrAt (upd G2 p3 (.tup [.str "row", .ref pb, .ref pc])) p3 (.two "row" tB tC') := .two upd_same (hb3.tk (.of (w2.trans t3))) (hc3.tk (.of (w2.trans t3)))
      generalize upd G2 p3 (.tup [.str "row", .ref pb, .ref pc]) = G3 at t3 k3
      have w3 := w2.trans t3
      refine ⟨(by decide : 3 ≤ sizeLine), fun p4 n4 => ?_⟩
      have t4 := sxl [.str "row", .ref pa, .ref p3] n4
      have k4 : TrAt (upd G3 p4 (.tup [.str "row", .ref pa, .ref p3])) p4 f2 := .two upd_same (ha3.tk (.of (w3.trans t4))) (k3.tk (.of t4))
      generalize upd G3 p4 (.tup [.str "row", .ref pa, .ref p3]) = G4 at t4 k4
      have w4 := w3.trans t4
      refine ⟨_, rfl, _, rfl, (by decide : 3 ≤ sizeLine), fun p5 n5 => ?_⟩
      have t5 := sxl [.str "either", .ref pa, .ref pb] n5
      have k5 : TrAt (upd G4 p5 (.tup [.str "either", .ref pa, .ref pb])) p5 (.two "either" tA tB) := .two upd_same (ha3.tk (.of (w4.trans t5))) (hb3.tk (.of (w4.trans t5)))
      generalize upd G4 p5 (.tup [.str "either", .ref pa, .ref pb]) = G5 at t5 k5
      have w5 := w4.trans t5
      refine ⟨_, rfl, (by decide : 3 ≤ sizeLine), fun p6 n6 => ?_⟩
      have t6 := sxl [.str "either", .ref p5, .ref pc] n6
      have k6 : TrAt (upd G5 p6 (.tup [.str "either", .ref p5, .ref pc])) p6 f3 := .two upd_same (k5.tk (.of t6)) (hc3.tk (.of (w5.trans t6)))
      generalize upd G5 p6 (.tup [.str "either", .ref p5, .ref pc]) = G6 at t6 k6
      have w6 := w5.trans t6
      refine ⟨(by decide : 3 ≤ sizeLine), fun l nl => ?_⟩
      have sl := same_upd (o := .lst [.ref p2, .ref p4, .ref p6]) nl
      refine ⟨l, [p2, p4, p6], rfl, w6.trans sl, ⟨upd_same, rfl, fun i b T e1 e2 => ?_⟩, (B3.same w6).ne nl⟩
      match i, e1, e2 with
      | 0, e1, e2 =>
        obtain rfl := Option.some.inj e1
        obtain rfl := Option.some.inj e2
        exact k2.tk (.of (t3.trans (t4.trans (t5.trans (t6.trans sl)))))
      | 1, e1, e2 =>
        obtain rfl := Option.some.inj e1
        obtain rfl := Option.some.inj e2
        exact k4.tk (.of (t5.trans (t6.trans sl)))
      | 2, e1, e2 =>
        obtain rfl := Option.some.inj e1
        obtain rfl := Option.some.inj e2
        exact k6.tk (.of sl)
    rintro σ' H4 ⟨ld, bd, rfl, s4, hld, nld⟩
    have B4 := B3.same s4
    have ha4 := ha3.tk (.of s4)
    have hb4 := hb3.tk (.of s4)
    have hlf4 := hlf.same s4
    clear B3 ha3 hb3 hc3 hlf s4 H3
    -- long ones
    refine ⟨fun σ' H' => σ' = [some (.ref a), some (.ref g.b), y2, y3, y4, y5, y6, y7, some (.ref pa), some (.ref pb), some (.ref pc), some (.ref lf), some (.ref ld), none] ∧ TrAt H' pa tA ∧ TrAt H' pb tB ∧ LTr H' lf bf [f1, f2, f3, f4] ∧ LTr H' ld bd [f1, f2, f3], ?_, ?_⟩
    · refine ⟨_, rfl, g, 51, rfl, by decide, by decide, B4, fun z H5 z0 z1 k5 B5 => ⟨_, _, rfl, rfl, (150 + z).toNat, ?_, by omega, by omega, fun H6 s6 => ⟨_, rfl, iteF ?_⟩⟩⟩
      · rw [Int.toNat_of_nonneg (by omega)]
        rfl
      · exact ⟨rfl, (ha4.tk (Keep.tk B4 k5)).tk (.of s6), (hb4.tk (Keep.tk B4 k5)).tk (.of s6), (hlf4.keep B4 nlf k5).same s6, (hld.keep B4 nld k5).same s6⟩
    clear ha4 hb4 hlf4 hld B4 H4
    rintro σ' H4 ⟨rfl, ha, hb, hlf, hld⟩
    refine ⟨_, rfl, _, rfl, _, rfl, _, rfl, (by decide : 2 ≤ sizeLine), fun p1 n1 => ?_⟩
    have t1 := same_upd (o := .tup [.str "many", .ref pb]) n1
    have k1 : TrAt (upd H4 p1 (.tup [.str "many", .ref pb])) p1 (.one "many" tB) := .one upd_same (hb.tk (.of t1))
    generalize upd H4 p1 (.tup [.str "many", .ref pb]) = G1 at t1 k1
    refine ⟨(by decide : 2 ≤ sizeLine), fun p2 n2 => ?_⟩
    have t2 := same_upd (o := .tup [.str "maybe", .ref p1]) n2
    have k2 : TrAt (upd G1 p2 (.tup [.str "maybe", .ref p1])) p2 (.one "maybe" (.one "many" tB)) := .one upd_same (k1.tk (.of t2))
    generalize upd G1 p2 (.tup [.str "maybe", .ref p1]) = G2 at t2 k2
    refine ⟨(by decide : 3 ≤ sizeLine), fun p3 n3 => ?_⟩
    have t3 := same_upd (o := .tup [.str "row", .ref pa, .ref p2]) n3
    have k3 : TrAt (upd G2 p3 (.tup [.str "row", .ref pa, .ref p2])) p3 (.two "row" tA (.one "maybe" (.one "many" tB))) := .two upd_same (ha.tk (.of (t1.trans (t2.trans t3)))) (k2.tk (.of t3))
    generalize upd G2 p3 (.tup [.str "row", .ref pa, .ref p2]) = G3 at t3 k3
    refine ⟨(by decide : 1 ≤ sizeLine), fun p4 n4 => ?_⟩
    have t4 := same_upd (o := .tup [.str "nothing"]) n4
    have k4 : TrAt (upd G3 p4 (.tup [.str "nothing"])) p4 .no := .no upd_same
    generalize upd G3 p4 (.tup [.str "nothing"]) = G4 at t4 k4
    refine ⟨(by decide : 3 ≤ sizeLine), fun p5 n5 => ?_⟩
    have t5 := same_upd (o := .tup [.str "either", .ref p3, .ref p4]) n5
    have k5 : TrAt (upd G4 p5 (.tup [.str "either", .ref p3, .ref p4])) p5 f4 := .two upd_same (k3.tk (.of (t4.trans t5))) (k4.tk (.of t5))
    generalize upd G4 p5 (.tup [.str "either", .ref p3, .ref p4]) = G5 at t5 k5
    have w5 := t1.trans (t2.trans (t3.trans (t4.trans t5)))
    refine ⟨(by decide : 1 ≤ sizeLine), fun l4 n6 => ?_⟩
    have t6 := same_upd (o := .lst [.ref p5]) n6
    have e6 : (upd G5 l4 (.lst [.ref p5])) l4 = some (.lst [.ref p5]) := upd_same
    have k6 := k5.tk (.of t6)
    generalize upd G5 l4 (.lst [.ref p5]) = G6 at t6 e6 k6
    have hl := hld.same (w5.trans t6)
    refine ⟨ld, l4, _, _, rfl, rfl, hl.at_, e6, by rw [List.length_map, hl.len]; exact (by decide : 3 + 1 ≤ sizeLine), fun l5 n7 => ?_⟩
    have t7 := same_upd (o := .lst (bd.map V.ref ++ [.ref p5])) n7
    have hdue : LTr (upd G6 l5 (.lst (bd.map V.ref ++ [.ref p5]))) l5 (bd ++ [p5]) [f1, f2, f3, f4] := by
      refine ⟨by rw [upd_same, List.map_append]; rfl, by rw [List.length_append, hl.len]; rfl, fun i b T e1 e2 => ?_⟩
      have h3 := hl.len
      by_cases hi : i < bd.length
      · rw [List.getElem?_append_left hi] at e1
        have hi3 : i < 3 := by rw [h3] at hi; exact hi
        refine (hl.tr i b T e1 ?_).tk (.of t7)
        match i, hi3, e2 with
        | 0, _, e2 => exact e2
        | 1, _, e2 => exact e2
        | 2, _, e2 => exact e2
      · rw [List.getElem?_append_right (by omega)] at e1
        have hi4 := (List.getElem?_eq_some_iff.mp e2).1
        have hi4 : i < 4 := hi4
        have h3 : bd.length = 3 := h3
        obtain rfl : i = 3 := by omega
        rw [h3] at e1
        obtain rfl := Option.some.inj e1
        obtain rfl := Option.some.inj e2
        exact k6.tk (.of t7)
    have hfo := hlf.same (w5.trans (t6.trans t7))
    refine ⟨.ref lf, .ref l5, .list ([f1, f2, f3, f4].map trD), rfl, hfo.dp, hdue.dp, lvl_list (by decide) fun T hT => ?_, fun H8 _ => q H8⟩
    simp only [List.mem_cons, List.not_mem_nil, or_false] at hT
    rcases hT with rfl | rfl | rfl | rfl
    · exact lvl_tr gf1 9 (by decide)
    · exact lvl_tr gf2 9 (by decide)
    · exact lvl_tr gf3 9 (by decide)
    · exact lvl_tr gf4 9 (by decide)
end
end Onp
set_option maxHeartbeats 4000000
namespace Onp
open PySem PySem.Spec PyProof.Rows L2
theorem sgD_of {K : PySem.W.Frag} {w : World} {a : Addr} {f : Nat → Option Str} {kvs : List (Str × He.Dv)} (kd : ∃ es n, KDict K w a es n) (hv : He.valsB K a kvs = true) (ho : onlyB K a (kvs.map (·.1)) = true) (h1 : ∀ c s, f c = some s → (Sx [c], He.Dv.str s) ∈ kvs) (h2 : ∀ c, f c = none → Sx [c] ∉ kvs.map (·.1)) : SgD K w a f := by
  refine ⟨kd, fun c s e => ?_, fun c e => onlyB_no ho (h2 c e)⟩
  obtain ⟨u, hu, hr⟩ := He.valsB_ok hv (h1 c s e)
  exact ⟨u, hu, hr⟩
theorem sgKeys : ("!" : Str) = Sx [33] ∧ ("." : Str) = Sx [46] ∧ ("$" : Str) = Sx [36] ∧ (":" : Str) = Sx [58] ∧ ("*" : Str) = Sx [42] ∧ ("?" : Str) = Sx [63] := by decide +kernel
theorem dsgT_in (c : Nat) (s : Str) (h : dsg c = some s) : (Sx [c], He.Dv.str s) ∈ dsgT := by
  obtain ⟨e1, e2, e3, e4, _, _⟩ := sgKeys
  unfold dsgT
  rw [e1, e2, e3, e4]
  unfold dsg at h
  split at h <;> first | (obtain rfl := Option.some.inj h; simp) | cases h
theorem ksgT_in (c : Nat) (s : Str) (h : ksg c = some s) : (Sx [c], He.Dv.str s) ∈ ksgT := by
  obtain ⟨_, _, _, _, e5, e6⟩ := sgKeys
  unfold ksgT
  rw [e5, e6]
  unfold ksg at h
  split at h <;> first | (obtain rfl := Option.some.inj h; simp) | cases h
theorem dsgT_no (c : Nat) (h : dsg c = none) : Sx [c] ∉ dsgT.map (·.1) := by
  obtain ⟨e1, e2, e3, e4, _, _⟩ := sgKeys
  unfold dsgT
  rw [e1, e2, e3, e4]
  intro z
  simp only [List.map_cons, List.map_nil, List.mem_cons, List.not_mem_nil, or_false] at z
  have k : ∀ d, Sx [c] = Sx [d] → c = d := fun d e => (List.cons.inj (sx_inj e)).1
  rcases z with z | z | z | z <;> (rw [k _ z] at h; cases h)
theorem ksgT_no (c : Nat) (h : ksg c = none) : Sx [c] ∉ ksgT.map (·.1) := by
  obtain ⟨_, _, _, _, e5, e6⟩ := sgKeys
  unfold ksgT
  rw [e5, e6]
  intro z
  simp only [List.map_cons, List.map_nil, List.mem_cons, List.not_mem_nil, or_false] at z
  have k : ∀ d, Sx [c] = Sx [d] → c = d := fun d e => (List.cons.inj (sx_inj e)).1
  rcases z with z | z <;> (rw [k _ z] at h; cases h)
end Onp
set_option maxHeartbeats 8000000
namespace Onp
open PySem PySem.Spec PyProof.Rows L2 HotX L2H LamX
theorem all_mk {l : PySem.W.OpenLaw} {w : World} {K : PySem.W.Frag} {h : Heap} {mg : Str → Option Value} {fa : Addr} (X : K.In h) (G : h.Ns mainGlobals mg) (hfa : mg "law" = some (.ref fa)) (c : He.SaysX fas fns sgTabs tfs exK w h K) :
    LamX.LawAtS l w K CX0 13 63 "_law_script" mg fa h := by
  have cd := c.t.d
  obtain ⟨fdB, DB⟩ := cd.def_ 0 (d := d_B) rfl
  have FB : Fun K "_law_bag" "_law_bag" sBag (He.ga K "_law_bag") fdB := fun_of (kws := []) DB
  have bB := FB.binds (ps := ["_law_script"]) fun _ _ _ _ _ _ us hl => match us, hl with | [_], _ => rfl
  have NB := He.glo_ok X G (cd.fact 0 (f := .glo "_law_bag") rfl)
  obtain ⟨fdPu, DPu⟩ := cd.def_ 1 (d := d_Pu) rfl
  have FPu : Fun K "_law_pull" "_law_pull" sPull (He.ga K "_law_pull") fdPu := fun_of (kws := []) DPu
  have bPu := FPu.binds (ps := ["_law_bag_here", "_law_many"]) fun _ _ _ _ _ _ us hl => match us, hl with | [_, _], _ => rfl
  have NPu := He.glo_ok X G (cd.fact 1 (f := .glo "_law_pull") rfl)
  obtain ⟨fdO, DO⟩ := cd.def_ 2 (d := d_O) rfl
  have FO : Fun K "_law_of" "_law_of" sOf (He.ga K "_law_of") fdO := fun_of (kws := []) DO
  have bO := FO.binds (ps := ["_law_bag_here", "_law_some"]) fun _ _ _ _ _ _ us hl => match us, hl with | [_, _], _ => rfl
  have NO := He.glo_ok X G (cd.fact 2 (f := .glo "_law_of") rfl)
  obtain ⟨fdSm, DSm⟩ := cd.def_ 3 (d := d_Sm) rfl
  have FSm : Fun K "_law_same" "_law_same" sSame (He.ga K "_law_same") fdSm := fun_of (kws := []) DSm
  have bSm := FSm.binds (ps := ["_law_found", "_law_due"]) fun _ _ _ _ _ _ us hl => match us, hl with | [_, _], _ => rfl
  have NSm := He.glo_ok X G (cd.fact 3 (f := .glo "_law_same") rfl)
  obtain ⟨fdDe, DDe⟩ := cd.def_ 4 (d := d_De) rfl
  have FDe : Fun K "_law_deed" "_law_deed" sDeed (He.ga K "_law_deed") fdDe := fun_of (kws := []) DDe
  have bDe := FDe.binds (ps := ["_law_bag_here"]) fun _ _ _ _ _ _ us hl => match us, hl with | [_], _ => rfl
  have NDe := He.glo_ok X G (cd.fact 4 (f := .glo "_law_deed") rfl)
  obtain ⟨fdLe, DLe⟩ := cd.def_ 5 (d := d_Le) rfl
  have FLe : Fun K "_law_letters" "_law_letters" sLett (He.ga K "_law_letters") fdLe := fun_of (kws := []) DLe
  have bLe := FLe.binds (ps := ["_law_bag_here", "_law_most"]) fun _ _ _ _ _ _ us hl => match us, hl with | [_, _], _ => rfl
  have NLe := He.glo_ok X G (cd.fact 5 (f := .glo "_law_letters") rfl)
  obtain ⟨fdTy, DTy⟩ := cd.def_ 6 (d := d_Ty) rfl
  have FTy : Fun K "_law_tree" "_law_tree" sTree (He.ga K "_law_tree") fdTy := fun_of (kws := []) DTy
  have bTy := FTy.binds (ps := ["_law_bag_here", "_law_letters_here", "_law_depth"]) fun _ _ _ _ _ _ us hl => match us, hl with | [_, _, _], _ => rfl
  have NTy := He.glo_ok X G (cd.fact 6 (f := .glo "_law_tree") rfl)
  obtain ⟨fdSg, DSg⟩ := cd.def_ 7 (d := d_Sg) rfl
  have FSg : Fun K "_law_signs" "_law_signs" sSigns (He.ga K "_law_signs") fdSg := fun_of (kws := []) DSg
  have bSg := FSg.binds (ps := []) fun _ _ _ _ _ _ us hl => match us, hl with | [], _ => rfl
  have NSg := He.glo_ok X G (cd.fact 7 (f := .glo "_law_signs") rfl)
  obtain ⟨fdTx, DTx⟩ := cd.def_ 8 (d := d_Tx) rfl
  have FTx : Fun K "_law_text_of" "_law_text_of" sTextOf (He.ga K "_law_text_of") fdTx := fun_of (kws := []) DTx
  have bTx := FTx.binds (ps := ["_law_tree_here"]) fun _ _ _ _ _ _ us hl => match us, hl with | [_], _ => rfl
  have NTx := He.glo_ok X G (cd.fact 8 (f := .glo "_law_text_of") rfl)
  obtain ⟨fdCn, DCn⟩ := cd.def_ 9 (d := d_Cn) rfl
  have FCn : Fun K "_law_count_in" "_law_count_in" sCount (He.ga K "_law_count_in") fdCn := fun_of (kws := []) DCn
  have bCn := FCn.binds (ps := ["_law_tree_here"]) fun _ _ _ _ _ _ us hl => match us, hl with | [_], _ => rfl
  have NCn := He.glo_ok X G (cd.fact 9 (f := .glo "_law_count_in") rfl)
  obtain ⟨fdLg, DLg⟩ := cd.def_ 10 (d := d_Lg) rfl
  have FLg : Fun K "_law_long_ones" "_law_long_ones" sLong (He.ga K "_law_long_ones") fdLg := fun_of (kws := []) DLg
  have bLg := FLg.binds (ps := ["_law_many"]) fun _ _ _ _ _ _ us hl => match us, hl with | [_], _ => rfl
  have NLg := He.glo_ok X G (cd.fact 10 (f := .glo "_law_long_ones") rfl)
  obtain ⟨fdJ, DJ⟩ := cd.def_ 11 (d := d_J) rfl
  have FJ : Fun K "joined" "joined" sJoin (He.ga K "joined") fdJ := fun_of (kws := []) DJ
  have bJ := FJ.binds (ps := ["kind", "one", "other"]) fun _ _ _ _ _ _ us hl => match us, hl with | [_, _, _], _ => rfl
  have NJ := He.glo_ok X G (cd.fact 11 (f := .glo "joined") rfl)
  obtain ⟨fdCa, DCa⟩ := cd.def_ 12 (d := d_Ca) rfl
  have FCa : Fun K "can_stand" "can_stand" sCan (He.ga K "can_stand") fdCa := fun_of (kws := []) DCa
  have bCa := FCa.binds (ps := ["sign", "ahead", "levels"]) fun _ _ _ _ _ _ us hl => match us, hl with | [_, _, _], _ => rfl
  have NCa := He.glo_ok X G (cd.fact 12 (f := .glo "can_stand") rfl)
  obtain ⟨fdTk, DTk⟩ := cd.def_ 13 (d := d_Tk) rfl
  have FTk : Fun K "take_sign" "take_sign" sTake (He.ga K "take_sign") fdTk := fun_of (kws := []) DTk
  have bTk := FTk.binds (ps := ["sign", "levels"]) fun _ _ _ _ _ _ us hl => match us, hl with | [_, _], _ => rfl
  have NTk := He.glo_ok X G (cd.fact 13 (f := .glo "take_sign") rfl)
  obtain ⟨fdRt, DRt⟩ := cd.def_ 14 (d := d_Rt) rfl
  have FRt : Fun K "read_tolls" "read_tolls" sRead' (He.ga K "read_tolls") fdRt := fun_of (kws := []) DRt
  have bRt := FRt.binds (ps := ["text"]) fun _ _ _ _ _ _ us hl => match us, hl with | [_], _ => rfl
  have NRt := He.glo_ok X G (cd.fact 14 (f := .glo "read_tolls") rfl)
  obtain ⟨fdL, DL⟩ := cd.def_ 15 (d := d_L) rfl
  have FL : Fun K "law" "law" sLaw (He.ga K "law") fdL := fun_of (kws := []) DL
  have bL := FL.binds (ps := ["_law_script"]) fun _ _ _ _ _ _ us hl => match us, hl with | [_], _ => rfl
  have NL := He.glo_ok X G (cd.fact 15 (f := .glo "law") rfl)
  have y_isinstance := He.free_ok X G (cd.fact 16 (f := .free "isinstance") rfl)
  have y_list := He.free_ok X G (cd.fact 17 (f := .free "list") rfl)
  have y_tuple := He.free_ok X G (cd.fact 18 (f := .free "tuple") rfl)
  have y_bool := He.free_ok X G (cd.fact 19 (f := .free "bool") rfl)
  have y_int := He.free_ok X G (cd.fact 20 (f := .free "int") rfl)
  have y_str := He.free_ok X G (cd.fact 21 (f := .free "str") rfl)
  have y_len := He.free_ok X G (cd.fact 22 (f := .free "len") rfl)
  have y_all := He.free_ok X G (cd.fact 23 (f := .free "all") rfl)
  have y_zip := He.free_ok X G (cd.fact 24 (f := .free "zip") rfl)
  have y_range := He.free_ok X G (cd.fact 25 (f := .free "range") rfl)
  have y_enumerate := He.free_ok X G (cd.fact 26 (f := .free "enumerate") rfl)
  have y_max := He.free_ok X G (cd.fact 27 (f := .free "max") rfl)
  have y_sum := He.free_ok X G (cd.fact 28 (f := .free "sum") rfl)
  obtain ⟨tk0, gk0⟩ := He.str_ok X G (cd.fact 29 (f := .str "SMALL_LETTERS" "abcdefghijklmnopqrstuvwxyz") rfl)
  have gLv := He.glo_ok X G (cd.fact 30 (f := .glo "Level") rfl)
  have clLv := He.cls_ok (cd.fact 31 (f := .cls "Level") rfl)
  have n1Lv := He.noat_ok (cd.fact 32 (f := .noat "Level" "either") rfl)
  have n2Lv := He.noat_ok (cd.fact 33 (f := .noat "Level" "row") rfl)
  have n3Lv := He.noat_ok (cd.fact 34 (f := .noat "Level" "last") rfl)
  have mkLv := He.mkr_ok (cd.fact 35 (f := .mkr "Level") rfl)
  obtain ⟨fdILv, DILv⟩ := cd.def_ 16 (d := d_ILv) rfl
  have FILv : Fun K "__init__" "Level.__init__" sLevI (He.ma K (He.ga K "Level") "__init__") fdILv := fun_of (kws := []) DILv
  have bILv := FILv.binds (ps := ["self"]) fun _ _ _ _ _ _ us hl => match us, hl with | [_], _ => rfl
  have CLv : ClsLv K (He.ga K "Level") := ⟨clLv, n1Lv, n2Lv, n3Lv⟩
  have TLv : MkLv K mg (He.ga K "Level") (He.ma K (He.ga K "Level") "__init__") fdILv := ⟨FILv, mkLv, gLv, CLv, bILv⟩
  have mPt := He.meth_ok (cd.fact 36 (f := .meth "Level" "put") rfl)
  obtain ⟨fdPt, DPt⟩ := cd.def_ 17 (d := d_Pt) rfl
  have FPt : Fun K "put" "Level.put" sLevP (He.ma K (He.ga K "Level") "put") fdPt := fun_of (kws := []) DPt
  have bPt := FPt.binds (ps := ["self", "tree"]) fun _ _ _ _ _ _ us hl => match us, hl with | [_, _], _ => rfl
  have mWh := He.meth_ok (cd.fact 37 (f := .meth "Level" "whole") rfl)
  obtain ⟨fdWh, DWh⟩ := cd.def_ 18 (d := d_Wh) rfl
  have FWh : Fun K "whole" "Level.whole" sLevW (He.ma K (He.ga K "Level") "whole") fdWh := fun_of (kws := []) DWh
  have bWh := FWh.binds (ps := ["self"]) fun _ _ _ _ _ _ us hl => match us, hl with | [_], _ => rfl
  have mNx := He.meth_ok (cd.fact 38 (f := .meth "Level" "next_row") rfl)
  obtain ⟨fdNx, DNx⟩ := cd.def_ 19 (d := d_Nx) rfl
  have FNx : Fun K "next_row" "Level.next_row" sLevN (He.ma K (He.ga K "Level") "next_row") fdNx := fun_of (kws := []) DNx
  have bNx := FNx.binds (ps := ["self"]) fun _ _ _ _ _ _ us hl => match us, hl with | [_], _ => rfl
  have hx := c.more
  obtain ⟨x0, hx⟩ := He.ba hx
  obtain ⟨x1, hx⟩ := He.ba hx
  obtain ⟨x2, hx⟩ := He.ba hx
  obtain ⟨x3, hx⟩ := He.ba hx
  obtain ⟨x4, hx⟩ := He.ba hx
  have x5 := hx
  have ET_ := errQ_ok x1
  obtain ⟨fdIT_, DIT_⟩ := cd.def_ 20 (d := d_IT_) rfl
  have FIT_ : Fun K "__init__" "BadText.__init__" sInitBadText (He.ma K (He.ga K "BadText") "__init__") fdIT_ := fun_of (kws := []) DIT_
  have bIT_ := FIT_.binds (ps := ["self", "at"]) fun _ _ _ _ _ _ us hl => match us, hl with | [_, _], _ => rfl
  have MT_ : MkBadText K mg (He.ga K "BadText") (He.ma K (He.ga K "BadText") "__init__") fdIT_ := ⟨ET_.oex, ET_.iC, ET_.tI, FIT_, bIT_, He.glo_ok X G (cd.fact 40 (f := .glo "BadText") rfl), ET_.wd, cd.fact 39 rfl |> He.noat_ok⟩
  have hT : ∀ p ∈ tfs.map (He.cT K), h.get? p.2 = some { cls := .none, data := .fields #[] } := fun p hp => by
    obtain ⟨z, hz, rfl⟩ := List.mem_map.mp hp
    exact c.empty z hz
  have hO : ∀ p ∈ tfs.map (He.cT K), K.lookup p.2 = none := fun p hp => by
    obtain ⟨z, hz, rfl⟩ := List.mem_map.mp hp
    exact c.out z hz
  have hC : ∀ p ∈ tfs.map (He.cT K), PySem.W.CodeHd h p.1 p.2 := fun p hp => by
    obtain ⟨z, hz, rfl⟩ := List.mem_map.mp hp
    exact PySem.W.codeHd_of_K X (c.hd z hz)
  have e := hfa.symm.trans NL
  cases e
  obtain ⟨oc_, od_, kV_, doc_, pm_, an_, cdv_, ct_, osl_, rfl, lk_, hcd_⟩ := id FL.ex
  have SgDd : SgD K w (He.ga K "DEED_OF_SIGN") dsg := sgD_of (c.t.tab 0) x2 x3 dsgT_in dsgT_no
  have SgKk : SgD K w (He.ga K "KIND_OF_SIGN") ksg := sgD_of (c.t.tab 1) x4 x5 ksgT_in ksgT_no
  have NDs := He.glo_ok X G (cd.fact 41 (f := .glo "DEED_OF_SIGN") rfl)
  have NKs := He.glo_ok X G (cd.fact 42 (f := .glo "KIND_OF_SIGN") rfl)
  have TG : TgM K mg w (He.ga K "DEED_OF_SIGN") (He.ga K "KIND_OF_SIGN") := ⟨⟨_, gk0⟩, NDs, NKs, SgDd, SgKk⟩
  refine ⟨_, [], spLaw K, (fun _ z => nomatch z), (fun _ z => nomatch z), (fun _ z => nomatch z), fun s v => .of_eq rfl, fun H a ns hl hb hH hS => ⟨a, ns, rfl, hS, fun _ => rfl⟩, fun base KB GB TB =>
    ok_law FL ⟨FB, bB, NB⟩ ⟨FPu, bPu, NPu⟩ ⟨FO, bO, NO⟩ ⟨FSm, bSm, NSm⟩ ⟨FDe, bDe, NDe⟩ ⟨FLe, bLe, NLe⟩ ⟨FTy, bTy, NTy⟩ ⟨FSg, bSg, NSg⟩ ⟨FTx, bTx, NTx⟩ ⟨FCn, bCn, NCn⟩ ⟨FLg, bLg, NLg⟩ ⟨FJ, bJ, NJ⟩ ⟨FCa, bCa, NCa⟩ ⟨FTk, bTk, NTk⟩ ⟨FRt, bRt, NRt⟩
      TLv FPt bPt mPt FWh bWh mWh FNx bNx mNx
      MT_ TG ⟨y_isinstance, y_list, y_tuple, y_bool, y_int, y_str, y_len, y_all, y_zip⟩ y_range y_enumerate y_max y_sum⟩
end Onp
open PySem PySem.W PySem.Calls PyProof.Rows
set_option maxRecDepth 100000 in
set_option maxHeartbeats 0 in
theorem PySem.Challenge.cw_onepurse_k43_tolls_read_holds : PySem.Challenge.rw_onepurse_k43_tolls_read.Holds := by
  w_on; o_law
  refine HandSHeadRun.head_any (r := OpenLaw.row PySem.Challenge.rw_onepurse_k43_tolls_read) (q := view (OpenLaw.row PySem.Challenge.rw_onepurse_k43_tolls_read).prog [24]) (H := Onp.hk) (ob := Onp.ob) (M := 9500) (loose := Onp.loose) (d := HandSHeadRun.topDef (OpenLaw.row PySem.Challenge.rw_onepurse_k43_tolls_read).prog 24) (kwd := []) Onp.ob_eq
    (by kernel_rfl) (fun s => by kernel_rfl) Onp.run (by kernel_rfl) (by kernel_rfl) (by kernel_rfl) (by rfl) (by first | assumption | decide +kernel) (by decide +kernel) ⟨rfl, rfl, rfl, rfl, rfl, by decide +kernel⟩ ?hw ?hc
  case hw => w_witness2
  case hc =>
    refine LamX.walk_ofTsE (l := PySem.Challenge.rw_onepurse_k43_tolls_read) (n := 63) (k := 13) (x := "_law_script") (CX := fun _ => L2.CX0) rfl (by decide) (by kernel_rfl) ⟨rfl, by decide, by decide⟩ ?F (fun _ _ _ _ _ h => h)
    intro w mg fa h Y G hmg0
    obtain ⟨K, KX, c⟩ := Y
    have en : (HandSHeadRun.topDef (OpenLaw.row PySem.Challenge.rw_onepurse_k43_tolls_read).prog 24).name = ("law" : PySem.Str) := by kernel_rfl
    rw [en] at hmg0
    exact ⟨K, KX, Onp.all_mk KX G hmg0 c⟩
