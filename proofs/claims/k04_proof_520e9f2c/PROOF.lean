import PyProof.Rows.All
import Wide.All
import OpenK.AllK
import Wide.FinOn
import PyProof.MaxThree
import HandS.Base
import HandS.Call
import HandS.List
import HandS.Comp
import HandS.Ends
import HandS.Iter
import HandS.Text
import HandS.Words
import HandS.Wide
import HandS.Codes
import HandS.Strs
import PySem.Challenge.RW_onepurse_k04_whole_rows_gone_again_and_a
set_option Elab.async false
set_option linter.all false
set_option maxRecDepth 100000
/-! rules of my own: o[i] read by values (for o[i] += e), max of three ints, max of a tuple of ints -/
namespace Onp
open PySem PySem.Spec PyProof.Rows L2
section
variable {X : Cx}
def rGetL (K : PySem.W.Frag) : V → V → Hp → VK → Prop := fun x y H Q => ∃ p xs, ∃ (j : Nat), ∃ v, x = .ref p ∧ y = .int (j : Int) ∧ SqL K H p xs ∧ xs[j]? = some v ∧ Q v H
theorem get_list : PGet X (rGetL X.K) := by
  intro pins s σ H o i ov iv Q I ro ri h
  obtain ⟨p, xs, j, v, rfl, rfl, hq, hx, q⟩ := h
  cases ro
  obtain ⟨t, rfl⟩ := ri
  obtain ⟨its, r, pl, hz⟩ := I.list hq
  obtain ⟨w, ew, rw'⟩ := r.get hx
  have hl := r.length
  have hn := line63
  have hj : j < xs.length := (List.getElem?_eq_some_iff.mp hx).1
  exact wpAny_getItem_list pl.isList (by omega) (by omega) (by simpa using ew) ⟨v, H, I, rw', q⟩
theorem vals3 {x y z : V} {us : List Value} (r : Vals [x, y, z] us) : ∃ u w' v', us = [u, w', v'] ∧ RelV x u ∧ RelV y w' ∧ RelV z v' := by
  cases r with
  | cons r1 r2 =>
    cases r2 with
    | cons r3 r4 =>
      cases r4 with
      | cons r5 r6 =>
        cases r6
        exact ⟨_, _, _, rfl, r1, r3, r5⟩
theorem call_max3 (hc : X.calm = true) : CallR X (.builtin "max") (fun xs H Q => ∃ i j k : Int, xs = [.int i, .int j, .int k] ∧ Q (.int (max (max i j) k)) H) := by
  intro pins s σ H xs us Q I r h
  obtain ⟨i, j, k, rfl, q⟩ := h
  obtain ⟨u, w', v', rfl, ⟨t, rfl⟩, ⟨t', rfl⟩, ⟨t'', rfl⟩⟩ := vals3 r
  refine max_three_ints (I.ok.hd hc) fun h' tk k' => ⟨_, H, I.kept k', ?_, q⟩
  by_cases h1 : j > i
  · rw [if_pos h1]
    by_cases h2 : k > j
    · rw [if_pos h2]
      exact ⟨_, by rw [show max (max i j) k = k by omega]⟩
    · rw [if_neg h2]
      exact ⟨_, by rw [show max (max i j) k = j by omega]⟩
  · rw [if_neg h1]
    by_cases h2 : k > i
    · rw [if_pos h2]
      exact ⟨_, by rw [show max (max i j) k = k by omega]⟩
    · rw [if_neg h2]
      exact ⟨_, by rw [show max (max i j) k = i by omega]⟩
/-- max(t) of a tuple of ints -/
theorem max_tupRaw {prog : Program} {w : World} {A : Around} {E : Value → Shared → Prop} {s : Shared} {l : Addr} {xs : Array (Int × Tok)} {Q : Value → Shared → Prop} (hh : A.handled = none) (hl : s.heap.IsTuple l (intItems xs)) (hne : 0 < xs.size)
    (h : ∀ v h' tk, (intItems xs)[argBest (fun i j => decide (numAt xs i > numAt xs j)) (xs.size - 1)]? = some v → (∀ b o, s.heap.get? b = some o → h'.get? b = some o) → Q v { s with heap := h', toks := tk }) :
    wpAny (model prog w) A (call (.builtin "max") [.ref l]) Q E s := by
  have hlt : l < s.heap.objs.size := by obtain ⟨_, e, _⟩ := hl; exact Heap.lt_size e
  refine call_max_walk (wpAny_pyIter_tuple hl ?_)
  refine ⟨_, [s.heap.objs.size, l], [s.heap.objs.size], _, _, _, _, rfl, Walks.tuple (A := A.in1) hh _ l (Nat.ne_of_lt hlt) (intItems xs), ⟨⟨_, Heap.get?_push_size _ rfl, rfl, rfl⟩, hl.push _⟩, fun b hb => ?_, by simpa [intItems] using hne, CmpOf.ints_gt (numAt xs) (fun _ _ => intItems_at), fun v h' tk hP hk => ?_⟩
  · show b < (s.heap.push _).objs.size
    rw [Heap.size_push]
    rcases List.mem_cons.mp hb with rfl | hb
    · exact Nat.lt_succ_self _
    · rcases List.mem_cons.mp hb with rfl | hb
      · exact Nat.lt_succ_of_lt hlt
      · cases hb
  · refine h v h' tk (by simpa [intItems] using hP) fun b o e => ?_
    refine hk b o (fun hm => ?_) (Heap.get?_push_of_some _ e)
    rcases List.mem_cons.mp hm with e1 | hm
    · exact absurd (e1 ▸ Heap.lt_size e) (Nat.lt_irrefl _)
    · cases hm
def rMaxT (K : PySem.W.Frag) : List V → Hp → VK → Prop := fun vs H Q => ∃ (a : Addr) (ns : List Int), vs = [V.ref a] ∧ SqT K H a (ns.map V.int) ∧ 0 < ns.length ∧ ∀ m, m ∈ ns → (∀ y, y ∈ ns → y ≤ m) → Q (.int m) H
theorem cr_maxT (hc : X.calm = true) : CallR X (.builtin "max") (rMaxT X.K) := by
  intro pins s σ H vs us Q I r h
  obtain ⟨a, ns, rfl, hs, hne, q⟩ := h
  obtain ⟨its, rv, ht, _⟩ := I.tuple hs
  rw [Vals.ref1 r]
  have hi := rv.ints
  obtain ⟨xs, e⟩ := hi.allInts.items
  have hn : numsOf (intItems xs).toList = ns := by rw [← e]; exact hi.numsOf
  rw [nums_intItems] at hn
  subst hn
  have hl : s.heap.IsTuple a its.toArray := ht
  rw [e] at hl
  have hsz : 0 < xs.size := by simpa using hne
  refine max_tupRaw (I.ok.hd hc) hl hsz fun v h' tk hv hk => ?_
  obtain ⟨t, rfl⟩ := intItems_at hv
  obtain ⟨h1, h2⟩ := argBest_gt (numAt xs) (xs.size - 1)
  refine ⟨.int _, H, I.kept hk, ⟨_, rfl⟩, q _ ?_ fun a ha => ?_⟩
  · rw [numAt_eq]; exact PySem.getD_mem (by rw [List.length_map, Array.length_toList]; omega)
  · obtain ⟨j, hj, rfl⟩ := mem_getD ha
    rw [List.length_map, Array.length_toList] at hj
    rw [← numAt_eq]; exact h2 j (by omega)
end
end Onp
set_option maxHeartbeats 4000000
namespace Onp
open PySem PySem.Spec PyProof.Rows L2
def topS (i : Nat) : Stmt := PySem.Challenge.pw_onepurse_k04_whole_rows_gone_again_and_a.main.body.getD i (.Pass ⟨0, 0, 0, 0⟩)
abbrev sBag : Stmt := topS 15
abbrev sPull : Stmt := topS 16
abbrev sOf : Stmt := topS 17
/-! ### heaps: all but b stays -/
def Keep (b : Addr) (H H' : Hp) : Prop := ∀ a o, a ≠ b → H a = some o → H' a = some o
theorem Keep.refl {b : Addr} (H : Hp) : Keep b H H := fun _ _ _ h => h
theorem Keep.trans {b : Addr} {H H1 H2 : Hp} (x : Keep b H H1) (y : Keep b H1 H2) : Keep b H H2 := fun a o n h => y a o n (x a o n h)
theorem Keep.of {b : Addr} {H H' : Hp} (s : Same H H') : Keep b H H' := fun a o _ h => s a o h
theorem Keep.upd {b : Addr} {H : Hp} {o : HO} : Keep b H (upd H b o) := fun a x n h => by rw [upd_ne n]; exact h
theorem same_upd {H : Hp} {p : Addr} {o : HO} (h : H p = none) : Same H (upd H p o) := fun b x e => by
  rw [upd_ne (ne_of_none e h)]
  exact e
theorem Keep.new {b p : Addr} {H : Hp} {o : HO} (h : H p = none) : Keep b H (L2.upd H p o) := .of (same_upd h)
theorem Keep.seqL {K : PySem.W.Frag} {b a : Addr} {H H' : Hp} {xs : List V} (k : Keep b H H') (n : a ≠ b) (h : SqL K H a xs) : SqL K H' a xs := by
  rcases h with (h | ⟨o, h⟩) | h
  · exact .inl (.inl (k _ _ n h))
  · exact .inl (.inr ⟨o, k _ _ n h⟩)
  · exact .inr h
theorem Keep.seqT {K : PySem.W.Frag} {b a : Addr} {H H' : Hp} {xs : List V} (k : Keep b H H') (n : a ≠ b) (h : SqT K H a xs) : SqT K H' a xs := by
  rcases h with (h | ⟨o, h⟩) | h
  · exact .inl (.inl (k _ _ n h))
  · exact .inl (.inr ⟨o, k _ _ n h⟩)
  · exact .inr h
theorem same_seqT {K : PySem.W.Frag} {H H' : Hp} {a : Addr} {xs : List V} (e : Same H H') (h : SqT K H a xs) : SqT K H' a xs := by
  rcases h with (h | ⟨o, h⟩) | h
  · exact .inl (.inl (e _ _ h))
  · exact .inl (.inr ⟨o, e _ _ h⟩)
  · exact .inr h
/-! ### the bag: where it stands, where its list stands, the list -/
structure Bid where
  b : Addr
  l : Addr
  ns : List Int
def bagV (l : Addr) (i : Nat) (r s c : Int) : HO := .lst [.ref l, .int i, .int r, .int s, .int c]
def Bg (H : Hp) (g : Bid) : Prop := ∃ (i : Nat) (r s c : Int), H g.b = some (bagV g.l i r s c) ∧ H g.l = some (.lst (g.ns.map V.int)) ∧ g.l ≠ g.b
theorem Bg.same {H H' : Hp} {g : Bid} (x : Bg H g) (s : Same H H') : Bg H' g := by
  obtain ⟨i, r, z, c, h1, h2, h3⟩ := x
  exact ⟨i, r, z, c, s _ _ h1, s _ _ h2, h3⟩
theorem Bg.new {H : Hp} {g : Bid} {p : Addr} {o : HO} (x : Bg H g) (h : H p = none) : Bg (upd H p o) g := x.same (same_upd h)
theorem Bg.ne {H : Hp} {g : Bid} {p : Addr} (x : Bg H g) (h : H p = none) : p ≠ g.b := by
  obtain ⟨i, r, z, c, h1, h2, h3⟩ := x
  exact (ne_of_none h1 h).symm
theorem Bg.neL {H : Hp} {g : Bid} {p : Addr} (x : Bg H g) (h : H p = none) : p ≠ g.l := by
  obtain ⟨i, r, z, c, h1, h2, h3⟩ := x
  exact (ne_of_none h2 h).symm
theorem Bg.put {H : Hp} {g : Bid} {p : Addr} {o : HO} (x : Bg H g) (h1 : p ≠ g.b) (h2 : p ≠ g.l) : Bg (upd H p o) g := by
  obtain ⟨i, r, z, c, e1, e2, e3⟩ := x
  exact ⟨i, r, z, c, by rw [upd_ne h1.symm]; exact e1, by rw [upd_ne h2.symm]; exact e2, e3⟩
theorem cut63 (xs : List V) : cutV xs none (some 63) = xs.take 63 := by
  unfold cutV
  rw [HT.sIx_none, show HT.sIx xs.length xs.length (some 63) = min 63 xs.length from HT.sIx_nat xs.length xs.length 63]
  rw [List.drop_zero, Nat.sub_zero]
  by_cases h : xs.length ≤ 63
  · rw [List.take_of_length_le h, List.take_of_length_le (by omega)]
  · rw [show min 63 xs.length = 63 by omega]
section
variable {P : Program} {w : World} {K : PySem.W.Frag} {mg : Str → Option Value} {base : Heap}
def spBag (K : PySem.W.Frag) : Sp := fun vs H Q _ => ∃ (a : Addr) (ns : List Int), vs = [.ref a] ∧ SqL K H a (ns.map V.int) ∧
  ∀ (g : Bid) H', H g.b = none → Same H H' → Bg H' g → Q (.ref g.b) H'
theorem scBag : FnScope ["_law_script", "_law_seed", "_law_cell"] ["_law_script"] (defScope sBag) := ⟨rfl, rfl, rfl, by decide +kernel, rfl, by decide +kernel, by decide +kernel⟩
theorem ok_bag {f : Addr} {fd : FuncData} {k : Nat} (F : Fun K "_law_bag" "_law_bag" sBag f fd) (ml : mg "list" = none) : FnOk P w K mg base CX0 (k + 1) f fd ["_law_script"] (spBag K) := by
  refine F.ok scBag (fun vs H Q E h => ?_) (fun cdv A outer s H vs Q E hr h => ?_)
  · obtain ⟨a, ns, rfl, _⟩ := h
    rfl
  · obtain ⟨a, ns, rfl, hS, q⟩ := h
    refine ⟨_, pss_cons (ps_set (i := 1) scBag.nd rfl (.inl rfl) pe_int)
      (pss_cons (ps_for PassesOwn.never rfl (pi_list (pe_slice sl_list (pv 0) po_none (po_some pe_int))) (pg_name (i := 2) scBag.nd rfl (.inl rfl))
        (pss_one (ps_set (i := 1) scBag.nd rfl (.inl rfl) (pe_op op_mod (pe_op op_add (pe_op op_add (pe_op op_mul (pv 1) pe_int) (pv 2)) pe_int) pe_int))))
      (pss_one (ps_ret (pe_lst (pa_cons (pe_callTy call_list_of (by rfl) ml (by decide +kernel) (pa_cons (pe_slice sl_list (pv 0) po_none (po_some pe_int)) pa_nil))
        (pa_cons pe_int (pa_cons pe_int (pa_cons (pv 1) (pa_cons pe_int pa_nil))))))))), ?_⟩
    refine ⟨.ref a, rfl, 63, rfl, a, ns.map V.int, rfl, hS, fun p np => ?_⟩
    have s1 : Same H (upd H p (.lst (cutV (ns.map V.int) none (some 63)))) := same_upd np
    refine ⟨p, rfl, ⟨_, SqL.of upd_same⟩, for_list (K := K) (a := p) (xs := cutV (ns.map V.int) none (some 63))
      (fun i σ H' => ∃ (z : Int) (y : Option V), σ = [some (.ref a), some (.int z), y] ∧ H' = upd H p (.lst (cutV (ns.map V.int) none (some 63))))
      ⟨37, none, rfl, rfl⟩ (fun i σ H' _ ⟨z, y, _, e⟩ => by rw [e]; exact SqL.of upd_same) ?_ ?_⟩
    · rintro i x σ H' hi ⟨z, y, rfl, rfl⟩
      obtain ⟨n, rfl⟩ : ∃ n, x = V.int n := by
        rw [cut63, ← List.map_take, List.getElem?_map] at hi
        cases e : (ns.take 63)[i]? with
        | none => rw [e] at hi; cases hi
        | some u => rw [e] at hi; exact ⟨u, (Option.some.inj hi).symm⟩
      exact ⟨_, rfl, _, _, rfl, rfl, .inr ⟨by decide, by decide⟩, _, rfl, _, _, rfl, rfl, _, _, rfl, rfl, _, _, rfl, rfl, (by show (0 : Int) < 2147483629; decide), _, _, rfl, rfl⟩
    · rintro σ H' ⟨z, y, rfl, rfl⟩
      refine ⟨.ref a, rfl, 63, rfl, a, ns.map V.int, rfl, s1.seq hS, fun p2 np2 => ?_⟩
      refine ⟨p2, _, rfl, .inl (SqL.of upd_same), fun l nl => ?_⟩
      refine ⟨_, rfl, (by show 5 ≤ sizeLine; decide), fun b nb => ?_⟩
      have s2 := s1.trans (same_upd (o := .lst (cutV (ns.map V.int) none (some 63))) np2)
      have s3 := s2.trans (same_upd (o := .lst (cutV (ns.map V.int) none (some 63))) nl)
      have s4 := s3.trans (same_upd (o := .lst [.ref l, .int 0, .int 0, .int z, .int 0]) nb)
      refine q ⟨b, l, ns.take 63⟩ _ (s3.free nb) s4 ⟨0, 0, z, 0, upd_same, ?_, ?_⟩
      · show upd _ b _ l = _
        rw [upd_ne (ne_of_none upd_same nb), upd_same, cut63, List.map_take]
      · exact ne_of_none upd_same nb
/-! ### pull -/
def spPull (K : PySem.W.Frag) : Sp := fun vs H Q _ => ∃ (g : Bid) (m : Int), vs = [.ref g.b, .int m] ∧ 0 < m ∧ m.natAbs < 2 ^ 200 ∧ Bg H g ∧
  ∀ (z : Int) H', 0 ≤ z → z < m → Keep g.b H H' → Bg H' g → Q (.int z) H'
theorem scPull : FnScope ["_law_bag_here", "_law_many", "_law_rest", "_law_cell", "_law_one", "_law_two"] ["_law_bag_here", "_law_many"] (defScope sPull) := ⟨rfl, rfl, rfl, by decide +kernel, rfl, by decide +kernel, by decide +kernel⟩
theorem upd_bag {H : Hp} {b : Addr} {o o' : HO} : Keep b H (upd (upd H b o) b o') := by
  rw [upd_upd]
  exact Keep.upd
theorem mod_lo {a m : Int} (h : 0 < m) : 0 ≤ a % m := Int.emod_nonneg _ (by omega)
theorem mod_hi {a m : Int} (h : 0 < m) : a % m < m := Int.emod_lt_of_pos _ h
theorem ok_pull {f : Addr} {fd : FuncData} {k : Nat} (F : Fun K "_law_pull" "_law_pull" sPull f fd) (ml : mg "len" = none) : FnOk P w K mg base CX0 (k + 1) f fd ["_law_bag_here", "_law_many"] (spPull K) := by
  refine F.ok scPull (fun vs H Q E h => ?_) (fun cdv A outer s H vs Q E hr h => ?_)
  · obtain ⟨a, ns, rfl, _⟩ := h
    rfl
  · obtain ⟨⟨b, l, ns⟩, m, rfl, m0, m1, ⟨i, r, sd, c, hb, hl0, nlb⟩, q⟩ := h
    have hl : SqL K H l (ns.map V.int) := SqL.of hl0
    refine ⟨_, pss_cons (ps_augS (pv 0) pe_int get_list pe_int ip_add set_list)
      (pss_cons (ps_if (pt_cmpR op_gt (pe_ix ix_list (pv 0) pe_int (fun _ _ => rfl)) pe_int (nomark _))
        (pss_cons (ps_set (i := 2) scPull.nd rfl (.inl rfl) (pe_ix ix_list (pv 0) pe_int (fun _ _ => rfl)))
        (pss_cons (ps_asg (pe_op op_fdivW (pv 2) (pv 1)) (pg_sub (pv 0) pe_int set_list))
        (pss_one (ps_ret (pe_op op_mod (pv 2) (pv 1)))))) pss_nil)
      (pss_cons (ps_set (i := 3) scPull.nd rfl (.inl rfl) (pe_ix ix_list (pv 0) pe_int (fun _ _ => rfl)))
      (C8.pss_cut (ps_if (pt_cmpR op_lt (pe_ix ix_list (pv 0) pe_int (fun _ _ => rfl)) (pe_callB call_len_seq (by rfl) ml PySem.boot_len (pa_cons (pe_ix ix_list (pv 0) pe_int (fun _ _ => rfl)) pa_nil)) (nomark _))
        (pss_cons (ps_set (i := 3) scPull.nd rfl (.inl rfl) (pe_ix ix_list (pe_ix ix_list (pv 0) pe_int (fun _ _ => rfl)) (pe_ix ix_list (pv 0) pe_int (fun _ _ => rfl)) (fun _ _ => rfl)))
        (pss_one (ps_augS (pv 0) pe_int get_list pe_int ip_add set_list))) pss_nil)
      (pss_cons (ps_if (pt_cmpR op_ge (pv 3) (pe_op op_pow pe_int pe_int) (nomark _))
        (pss_cons (ps_asg (pe_op op_fdivW (pv 3) (pv 1)) (pg_sub (pv 0) pe_int set_list))
        (pss_one (ps_ret (pe_op op_mod (pv 3) (pv 1))))) pss_nil)
      (pss_cons (ps_set (i := 4) scPull.nd rfl (.inl rfl) (pe_op op_mod (pe_op op_add (pe_op op_add (pe_op op_add (pe_op op_mul (pv 3) pe_int) (pe_op op_mul (pe_ix ix_list (pv 0) pe_int (fun _ _ => rfl)) pe_int)) (pe_op op_mul (pe_ix ix_list (pv 0) pe_int (fun _ _ => rfl)) pe_int)) pe_int) pe_int))
      (pss_cons (ps_set (i := 5) scPull.nd rfl (.inl rfl) (pe_op op_mod (pe_op op_add (pe_op op_add (pe_op op_mul (pv 4) (pe_op op_add (pe_op op_mod (pv 4) pe_int) pe_int)) (pe_op op_mul (pe_ix ix_list (pv 0) pe_int (fun _ _ => rfl)) pe_int)) (pe_op op_mod (pe_ix ix_list (pv 0) pe_int (fun _ _ => rfl)) pe_int)) pe_int))
      (pss_cons (ps_asg (pe_op op_mod (pe_op op_add (pe_op op_mul (pe_ix ix_list (pv 0) pe_int (fun _ _ => rfl)) pe_int) (pv 5)) pe_int) (pg_sub (pv 0) pe_int set_list))
      (pss_one (ps_ret (pe_op op_mod (pe_op op_fdiv (pv 5) pe_int) (pv 1))))))))))), ?_⟩
    -- bag[4] += 1
    refine ⟨.ref b, rfl, b, _, 4, .int c, rfl, rfl, SqL.of hb, rfl, c, 1, rfl, rfl, b, _, 4, 4, rfl, rfl, hb, rfl, ?_⟩
    -- if bag[2] > 0
    refine ⟨.ref b, rfl, b, _, 2, .int r, rfl, rfl, SqL.of upd_same, rfl, r, 0, rfl, rfl, _, rfl, ite2 (fun _ => ?_) (fun _ => ?_)⟩
    · refine ⟨.ref b, rfl, b, _, 2, .int r, rfl, rfl, SqL.of upd_same, rfl, ?_⟩
      refine ⟨_, rfl, _, rfl, r, m, rfl, rfl, wide_div m0 m1 (by decide) (by decide), .ref b, rfl, b, _, 2, 2, rfl, rfl, upd_same, rfl, ?_⟩
      refine ⟨_, rfl, _, rfl, r, m, rfl, rfl, m0, q _ _ (mod_lo m0) (mod_hi m0) upd_bag ⟨i, r / m, sd, c + 1, upd_same, ?_, nlb⟩⟩
      exact upd_bag _ _ nlb hl0
    · -- cell = bag[3]
      refine ⟨.ref b, rfl, b, _, 3, .int sd, rfl, rfl, SqL.of upd_same, rfl, ?_⟩
      refine ⟨fun σ H1 => ∃ (i' : Nat) (z : Int), σ = [some (.ref b), some (.int m), none, some (.int z), none, none] ∧ H1 = upd H b (bagV l i' r sd (c + 1)), ?_, ?_⟩
      · refine ⟨.ref b, rfl, b, _, 1, .int i, rfl, rfl, SqL.of upd_same, rfl, .ref b, rfl, b, _, 0, .ref l, rfl, rfl, SqL.of upd_same, rfl, l, ns.map V.int, rfl, .inl (Keep.upd.seqL nlb hl), i, ((ns.map V.int).length : Int), rfl, rfl, _, rfl, ite2 (fun hi => ?_) (fun _ => ?_)⟩
        · have hi' : i < ns.length := by
            have := of_decide_eq_true hi
            rw [List.length_map] at this
            omega
          have gi : (ns.map V.int)[i]? = some (.int ns[i]) := by
            rw [List.getElem?_map, List.getElem?_eq_getElem hi']
            rfl
          refine ⟨.ref b, rfl, b, _, 0, .ref l, rfl, rfl, SqL.of upd_same, rfl, .ref b, rfl, b, _, 1, .int i, rfl, rfl, SqL.of upd_same, rfl, l, ns.map V.int, i, .int ns[i], rfl, rfl, Keep.upd.seqL nlb hl, atI_nat gi, ?_⟩
          refine ⟨.ref b, rfl, b, _, 1, .int i, rfl, rfl, SqL.of upd_same, rfl, i, 1, rfl, rfl, b, _, 1, 1, rfl, rfl, upd_same, rfl, i + 1, ns[i], rfl, ?_⟩
          rw [upd_upd]
          rfl
        · exact ⟨i, sd, rfl, rfl⟩
      · rintro σ H1 ⟨i', z, rfl, rfl⟩
        have hb1 : (upd H b (bagV l i' r sd (c + 1))) b = some (bagV l i' r sd (c + 1)) := upd_same
        refine ⟨.int z, rfl, 10, 18, rfl, rfl, ⟨by decide, by decide, by decide⟩, z, _, rfl, rfl, _, rfl, ite2 (fun _ => ?_) (fun _ => ?_)⟩
        · refine ⟨_, rfl, _, rfl, z, m, rfl, rfl, wide_div m0 m1 (by decide) (by decide), .ref b, rfl, b, _, 2, 2, rfl, rfl, upd_same, rfl, ?_⟩
          refine ⟨_, rfl, _, rfl, z, m, rfl, rfl, m0, q _ _ (mod_lo m0) (mod_hi m0) upd_bag ⟨i', z / m, sd, c + 1, upd_same, ?_, nlb⟩⟩
          exact upd_bag _ _ nlb hl0
        · -- one
          refine ⟨_, rfl, _, _, rfl, rfl, .inr ⟨by decide, by decide⟩, .ref b, rfl, b, _, 3, .int sd, rfl, rfl, SqL.of upd_same, rfl, _, _, rfl, rfl, .inr ⟨by decide, by decide⟩, _, _, rfl, rfl, .ref b, rfl, b, _, 4, .int (c + 1), rfl, rfl, SqL.of upd_same, rfl, _, _, rfl, rfl, .inr ⟨by decide, by decide⟩, _, _, rfl, rfl, _, _, rfl, rfl, _, _, rfl, rfl, (by show (0 : Int) < 2147483629; decide), ?_⟩
          have o0 := mod_lo (a := z * 48271 + sd * 40503 + (c + 1) * 69621 + 9176) (m := 2147483629) (by decide)
          have o1 := mod_hi (a := z * 48271 + sd * 40503 + (c + 1) * 69621 + 9176) (m := 2147483629) (by decide)
          generalize hone : (z * 48271 + sd * 40503 + (c + 1) * 69621 + 9176) % 2147483629 = one at o0 o1
          -- two
          refine ⟨_, rfl, _, rfl, _, _, rfl, rfl, (by show (0 : Int) < 65521; decide), _, _, rfl, rfl, _, _, rfl, rfl, .inl ⟨?_, ?_⟩, .ref b, rfl, b, _, 4, .int (c + 1), rfl, rfl, SqL.of upd_same, rfl, _, _, rfl, rfl, .inr ⟨by decide, by decide⟩, _, _, rfl, rfl, .ref b, rfl, b, _, 3, .int sd, rfl, rfl, SqL.of upd_same, rfl, _, _, rfl, rfl, (by show (0 : Int) < 104729; decide), _, _, rfl, rfl, _, _, rfl, rfl, (by show (0 : Int) < 998244353; decide), ?_⟩
          · rw [hone]; omega
          · rw [hone]; omega
          refine ⟨.ref b, rfl, b, _, 3, .int sd, rfl, rfl, SqL.of upd_same, rfl, _, _, rfl, rfl, .inr ⟨by decide, by decide⟩, _, rfl, _, _, rfl, rfl, _, _, rfl, rfl, (by show (0 : Int) < 2147483563; decide), .ref b, rfl, b, _, 3, 3, rfl, rfl, upd_same, rfl, ?_⟩
          refine ⟨_, rfl, _, _, rfl, rfl, ⟨by decide, by decide⟩, _, rfl, _, _, rfl, rfl, m0, q _ _ (mod_lo m0) (mod_hi m0) upd_bag ⟨i', r, _, c + 1, upd_same, ?_, nlb⟩⟩
          exact upd_bag _ _ nlb hl0
/-! ### one of a list -/
def spOf (K : PySem.W.Frag) : Sp := fun vs H Q _ => ∃ (g : Bid) (p : Addr) (xs : List V), vs = [.ref g.b, .ref p] ∧ Bg H g ∧ p ≠ g.b ∧ SqL K H p xs ∧ 0 < xs.length ∧ xs.length < 1000 ∧
  ∀ v H', v ∈ xs → Keep g.b H H' → Bg H' g → Q v H'
theorem scOf : FnScope ["_law_bag_here", "_law_some"] ["_law_bag_here", "_law_some"] (defScope sOf) := ⟨rfl, rfl, rfl, by decide +kernel, rfl, by decide +kernel, by decide +kernel⟩
theorem ok_of {f fP : Addr} {fd fdP : FuncData} {k : Nat} (F : Fun K "_law_of" "_law_of" sOf f fd) (FP : Fun K "_law_pull" "_law_pull" sPull fP fdP) (bP : Binds K fdP ["_law_bag_here", "_law_many"] []) (gP : mg "_law_pull" = some (.ref fP)) (ml : mg "len" = none) : FnOk P w K mg base CX0 (k + 2) f fd ["_law_bag_here", "_law_some"] (spOf K) := by
  have GP : FnOk P w K mg base CX0 (k + 1) fP fdP ["_law_bag_here", "_law_many"] (spPull K) := ok_pull FP ml
  refine F.ok scOf (fun vs H Q E h => ?_) (fun cdv A outer s H vs Q E hr h => ?_)
  · obtain ⟨b, p, xs, rfl, _⟩ := h
    rfl
  · obtain ⟨b, p, xs, rfl, B, npb, hx, h0, hlen, q⟩ := h
    refine ⟨_, pss_one (ps_ret (pe_ix ix_list (pv 1) (pe_call GP hr (by rfl) gP FP.kp bP .nil pass0 (pa_cons (pv 0) (pa_cons (pe_callB call_len_seq (by rfl) ml PySem.boot_len (pa_cons (pv 1) pa_nil)) pa_nil))) (fun _ _ => rfl))), ?_⟩
    refine ⟨.ref p, rfl, .ref b.b, rfl, .ref p, rfl, p, xs, rfl, .inl hx, b, (xs.length : Int), rfl, by omega, ?_, B, fun z H' z0 z1 kp B' => ?_⟩
    · exact Nat.lt_trans (show ((xs.length : Int)).natAbs < 2 ^ 64 by omega) (by decide)
    · have e : z = ((z.toNat : Nat) : Int) := by omega
      have hz1 : z.toNat < xs.length := by omega
      rw [e]
      exact ⟨p, xs, z.toNat, xs[z.toNat], rfl, rfl, kp.seqL npb hx, atI_nat (List.getElem?_eq_getElem hz1), q _ _ (List.getElem_mem hz1) kp B'⟩
end
end Onp
set_option maxHeartbeats 4000000
namespace Onp
open PySem PySem.Spec PyProof.Rows L2
abbrev sNeedD : Stmt := topS 7
abbrev sNeedM : Stmt := topS 8
abbrev sSpend : Stmt := topS 9
abbrev sPeak : Stmt := topS 10
abbrev sMarkOf : Stmt := topS 11
abbrev sBehind : Stmt := topS 12
abbrev sAgain : Stmt := topS 13
abbrev sDeed : Stmt := topS 18
/-! ### the mirror -/
inductive Dd where
  | keep | cent | fill | coin | brim
  deriving DecidableEq
def Dd.nm : Dd → Str
  | .keep => "keep" | .cent => "cent" | .fill => "fill" | .coin => "coin" | .brim => "brim"
def Dd.rk : Dd → Nat
  | .keep => 0 | .cent => 1 | .fill => 2 | .coin => 3 | .brim => 4
def deedsL : List Str := ["keep", "cent", "fill", "coin", "brim"]
def marksL : List Str := ["brim", "fill", "keep", "cent", "coin", "dear", "shut"]
def makingL : List Str := ["keep", "cent", "fill", "coin", "brim", "dear", "shut"]
def mkn (i : Nat) : Str := makingL.getD i "shut"
theorem nm_mkn (d : Dd) : d.nm = mkn d.rk := by cases d <;> rfl
theorem rk_lt (d : Dd) : d.rk < 5 := by cases d <;> decide
def dv (d : Dd) : V := .str d.nm
def stp (p : Int × Int) : Dd → Int × Int
  | .keep => p
  | .cent => (p.1 + 1, p.2)
  | .fill => (0, p.2)
  | .coin => (0, p.2 + 1)
  | .brim => (0, 0)
/-- purses and greatest so far -/
def goP (s : (Int × Int) × Int) (d : Dd) : (Int × Int) × Int := (stp s.1 d, max (max s.2 (stp s.1 d).1) (stp s.1 d).2)
def run (ds : List Dd) : (Int × Int) × Int := ds.foldl goP ((0, 0), 0)
def mrk (ds : List Dd) : Nat := ds.foldl (fun m d => max m d.rk) 0
theorem mkn_at : ∀ i, i < 7 → makingL[i]? = some (mkn i) ∧ (∀ m, m < i → makingL[m]? ≠ some (mkn i)) ∧ inV (.str (mkn i)) (marksL.map V.str) = true
  | 0, _ => by decide +kernel
  | 1, _ => by decide +kernel
  | 2, _ => by decide +kernel
  | 3, _ => by decide +kernel
  | 4, _ => by decide +kernel
  | 5, _ => by decide +kernel
  | 6, _ => by decide +kernel
  | n + 7, h => by omega
theorem deed_in (d : Dd) : inV (dv d) (deedsL.map V.str) = true := by cases d <;> decide +kernel
theorem flat_strs (ys : List Str) : (ys.map V.str).all flatV = true := by
  rw [List.all_map]
  exact List.all_eq_true.mpr fun _ _ => rfl
theorem itT {c A B : Prop} [Decidable c] (hc : c) (h : A) : if decide c = true then A else B := by
  rw [if_pos (decide_eq_true hc)]; exact h
theorem itF {c A B : Prop} [Decidable c] (hc : ¬ c) (h : B) : if decide c = true then A else B := by
  rw [if_neg (by rw [decide_eq_false hc]; decide)]; exact h
/-- the tuples of the top -/
structure Tups (K : PySem.W.Frag) (mg : Str → Option Value) (tD tM tK : Addr) : Prop where
  gD : mg "DEEDS" = some (.ref tD)
  gM : mg "MARKS" = some (.ref tM)
  gK : mg "MAKING" = some (.ref tK)
  hD : ∀ H, SqT K H tD (deedsL.map V.str)
  hM : ∀ H, SqT K H tM (marksL.map V.str)
  hK : ∀ H, SqT K H tK (makingL.map V.str)
  kK : ∃ o, K.lookup tK = some o ∧ o.cls = .type "tuple" ∧ o.dict = none
section
variable {P : Program} {w : World} {K : PySem.W.Frag} {mg : Str → Option Value} {base : Heap} {tD tM tK : Addr}
/-! ### need_deed, need_mark -/
def spNeedD : Sp := fun vs H Q _ => ∃ d : Dd, vs = [dv d] ∧ Q .non H
theorem scNeedD : FnScope ["deed"] ["deed"] (defScope sNeedD) := ⟨rfl, rfl, rfl, by decide +kernel, rfl, by decide +kernel, by decide +kernel⟩
theorem ok_needD {f : Addr} {fd : FuncData} {k : Nat} (F : Fun K "need_deed" "need_deed" sNeedD f fd) (T : Tups K mg tD tM tK) : FnOk P w K mg base CX0 (k + 1) f fd ["deed"] spNeedD := by
  refine F.ok scNeedD (fun vs H Q E h => ?_) (fun cdv A outer s H vs Q E hr h => ?_)
  · obtain ⟨d, rfl, _⟩ := h
    rfl
  · obtain ⟨d, rfl, q⟩ := h
    refine ⟨_, pss_one (ps_if (pt_cmpR op_notIn_seq (pv 0) (pe_glob (v := .ref tD) rfl T.gD rfl) (by rfl)) pss_never pss_nil), ?_⟩
    refine ⟨_, rfl, tD, _, rfl, .inr (T.hD _), rfl, flat_strs _, _, rfl, ite2 (fun h => ?_) (fun _ => q)⟩
    rw [deed_in d] at h
    exact absurd h (by decide)
def spNeedM : Sp := fun vs H Q _ => ∃ i, i < 7 ∧ vs = [.str (mkn i)] ∧ Q .non H
theorem scNeedM : FnScope ["mark"] ["mark"] (defScope sNeedM) := ⟨rfl, rfl, rfl, by decide +kernel, rfl, by decide +kernel, by decide +kernel⟩
theorem ok_needM {f : Addr} {fd : FuncData} {k : Nat} (F : Fun K "need_mark" "need_mark" sNeedM f fd) (T : Tups K mg tD tM tK) : FnOk P w K mg base CX0 (k + 1) f fd ["mark"] spNeedM := by
  refine F.ok scNeedM (fun vs H Q E h => ?_) (fun cdv A outer s H vs Q E hr h => ?_)
  · obtain ⟨i, _, rfl, _⟩ := h
    rfl
  · obtain ⟨i, hi, rfl, q⟩ := h
    refine ⟨_, pss_one (ps_if (pt_cmpR op_notIn_seq (pv 0) (pe_glob (v := .ref tM) rfl T.gM rfl) (by rfl)) pss_never pss_nil), ?_⟩
    refine ⟨_, rfl, tM, _, rfl, .inr (T.hM _), rfl, flat_strs _, _, rfl, ite2 (fun h => ?_) (fun _ => q)⟩
    rw [(mkn_at i hi).2.2] at h
    exact absurd h (by decide)
/-! ### spend -/
def spSpend (K : PySem.W.Frag) : Sp := fun vs H Q _ => ∃ (t : Addr) (x y : Int) (d : Dd), vs = [.ref t, dv d] ∧ SqT K H t [.int x, .int y] ∧
  ∀ p H', H p = none → H' = upd H p (.tup [.int (stp (x, y) d).1, .int (stp (x, y) d).2]) → Q (.ref p) H'
theorem scSpend : FnScope ["purses", "deed", "lesser", "greater"] ["purses", "deed"] (defScope sSpend) := ⟨rfl, rfl, rfl, by decide +kernel, rfl, by decide +kernel, by decide +kernel⟩
theorem ok_spend {f fN : Addr} {fd fdN : FuncData} {k : Nat} (F : Fun K "spend" "spend" sSpend f fd) (FN : Fun K "need_deed" "need_deed" sNeedD fN fdN) (bN : Binds K fdN ["deed"] []) (gN : mg "need_deed" = some (.ref fN)) (T : Tups K mg tD tM tK) :
    FnOk P w K mg base CX0 (k + 2) f fd ["purses", "deed"] (spSpend K) := by
  have GN : FnOk P w K mg base CX0 (k + 1) fN fdN ["deed"] spNeedD := ok_needD FN T
  refine F.ok scSpend (fun vs H Q E h => ?_) (fun cdv A outer s H vs Q E hr h => ?_)
  · obtain ⟨t, x, y, d, rfl, _⟩ := h
    rfl
  · obtain ⟨t, x, y, d, rfl, ht, q⟩ := h
    refine ⟨_, pss_cons (ps_expr (pe_call GN hr (by rfl) gN FN.kp bN .nil pass0 (pa_cons (pv 1) pa_nil)))
      (pss_cons (ps_asg (pv 0) (pg_tup rfl (pgs_cons (pg_name (i := 2) scSpend.nd rfl (.inl rfl)) (pgs_cons (pg_name (i := 3) scSpend.nd rfl (.inl rfl)) pgs_nil))))
      (pss_cons (ps_if (pt_cmpR op_eq (pv 1) pe_str (nomark _)) (pss_one (ps_ret (pe_tup (pa_cons (pe_op op_add (pv 2) pe_int) (pa_cons (pv 3) pa_nil))))) pss_nil)
      (pss_cons (ps_if (pt_cmpR op_eq (pv 1) pe_str (nomark _)) (pss_one (ps_ret (pe_tup (pa_cons pe_int (pa_cons (pv 3) pa_nil))))) pss_nil)
      (pss_cons (ps_if (pt_cmpR op_eq (pv 1) pe_str (nomark _)) (pss_one (ps_ret (pe_tup (pa_cons pe_int (pa_cons (pe_op op_add (pv 3) pe_int) pa_nil))))) pss_nil)
      (pss_cons (ps_if (pt_cmpR op_eq (pv 1) pe_str (nomark _)) (pss_one (ps_ret (pe_tup (pa_cons pe_int (pa_cons pe_int pa_nil))))) pss_nil)
      (pss_one (ps_ret (pe_tup (pa_cons (pv 2) (pa_cons (pv 3) pa_nil)))))))))), ?_⟩
    refine ⟨_, rfl, d, rfl, ?_⟩
    refine ⟨_, rfl, t, _, rfl, ht, rfl, _, _, rfl, _, _, rfl, rfl, ?_⟩
    have z : (2 : Nat) ≤ sizeLine := by decide
    refine ⟨_, rfl, rfl, _, rfl, ?_⟩
    cases d with
    | cent => exact itT (by decide +kernel) ⟨_, rfl, _, _, rfl, rfl, _, rfl, z, fun p np => q p _ np rfl⟩
    | fill =>
      refine itF (by decide +kernel) ⟨_, rfl, rfl, _, rfl, ?_⟩
      exact itT (by decide +kernel) ⟨_, rfl, z, fun p np => q p _ np rfl⟩
    | coin =>
      refine itF (by decide +kernel) ⟨_, rfl, rfl, _, rfl, ?_⟩
      refine itF (by decide +kernel) ⟨_, rfl, rfl, _, rfl, ?_⟩
      exact itT (by decide +kernel) ⟨_, rfl, _, _, rfl, rfl, z, fun p np => q p _ np rfl⟩
    | brim =>
      refine itF (by decide +kernel) ⟨_, rfl, rfl, _, rfl, ?_⟩
      refine itF (by decide +kernel) ⟨_, rfl, rfl, _, rfl, ?_⟩
      refine itF (by decide +kernel) ⟨_, rfl, rfl, _, rfl, ?_⟩
      exact itT (by decide +kernel) ⟨z, fun p np => q p _ np rfl⟩
    | keep =>
      refine itF (by decide +kernel) ⟨_, rfl, rfl, _, rfl, ?_⟩
      refine itF (by decide +kernel) ⟨_, rfl, rfl, _, rfl, ?_⟩
      refine itF (by decide +kernel) ⟨_, rfl, rfl, _, rfl, ?_⟩
      refine itF (by decide +kernel) ⟨_, rfl, _, rfl, z, fun p np => q p _ np rfl⟩
/-! ### behind, again -/
def spBehind : Sp := fun vs H Q _ => ∃ i j : Nat, i < 7 ∧ j < 7 ∧ vs = [.str (mkn i), .str (mkn j)] ∧ Q (.str (mkn (max i j))) H
theorem scBehind : FnScope ["one", "other"] ["one", "other"] (defScope sBehind) := ⟨rfl, rfl, rfl, by decide +kernel, rfl, by decide +kernel, by decide +kernel⟩
theorem ok_behind {f fN : Addr} {fd fdN : FuncData} {k : Nat} (F : Fun K "behind" "behind" sBehind f fd) (FN : Fun K "need_mark" "need_mark" sNeedM fN fdN) (bN : Binds K fdN ["mark"] []) (gN : mg "need_mark" = some (.ref fN)) (T : Tups K mg tD tM tK) (mm : mg "max" = none) :
    FnOk P w K mg base CX0 (k + 2) f fd ["one", "other"] spBehind := by
  have GN : FnOk P w K mg base CX0 (k + 1) fN fdN ["mark"] spNeedM := ok_needM FN T
  refine F.ok scBehind (fun vs H Q E h => ?_) (fun cdv A outer s H vs Q E hr h => ?_)
  · obtain ⟨i, j, _, _, rfl, _⟩ := h
    rfl
  · obtain ⟨i, j, hi, hj, rfl, q⟩ := h
    refine ⟨_, pss_cons (ps_expr (pe_call GN hr (by rfl) gN FN.kp bN .nil pass0 (pa_cons (pv 0) pa_nil)))
      (pss_cons (ps_expr (pe_call GN hr (by rfl) gN FN.kp bN .nil pass0 (pa_cons (pv 1) pa_nil)))
      (pss_one (ps_ret (pe_ix ix_tup (pe_glob (v := .ref tK) rfl T.gK rfl) (pe_callB (call_max2 rfl) (by rfl) mm (by decide +kernel)
        (pa_cons (pe_bm PySem.F.plainAttrs_tuple PySem.F.slot_tuple_index PySem.F.type_tuple_index mt_tup_index (pe_glob (v := .ref tK) rfl T.gK rfl) (pa_cons (pv 0) pa_nil))
        (pa_cons (pe_bm PySem.F.plainAttrs_tuple PySem.F.slot_tuple_index PySem.F.type_tuple_index mt_tup_index (pe_glob (v := .ref tK) rfl T.gK rfl) (pa_cons (pv 1) pa_nil)) pa_nil))) (fun _ _ => rfl))))), ?_⟩
    refine ⟨_, rfl, i, hi, rfl, ?_⟩
    refine ⟨_, rfl, j, hj, rfl, ?_⟩
    obtain ⟨o, ho⟩ := T.kK
    refine ⟨.inr (.inl ⟨rfl, o, ho⟩), _, rfl, tK, makingL, mkn i, i, rfl, rfl, T.hK _, (mkn_at i hi).1, (mkn_at i hi).2.1, ?_⟩
    refine ⟨.inr (.inl ⟨rfl, o, ho⟩), _, rfl, tK, makingL, mkn j, j, rfl, rfl, T.hK _, (mkn_at j hj).1, (mkn_at j hj).2.1, ?_⟩
    have e : (if (j : Int) > (i : Int) then (j : Int) else (i : Int)) = ((max i j : Nat) : Int) := by split <;> omega
    refine ⟨(i : Int), (j : Int), rfl, ?_⟩
    rw [e]
    refine ⟨tK, makingL.map V.str, _, .str (mkn (max i j)), rfl, rfl, T.hK _, atI_nat ?_, q⟩
    rw [List.getElem?_map, (mkn_at (max i j) (by omega)).1]
    rfl
/-- again of a mark -/
def agn (i : Nat) : Nat := if i = 1 ∨ i = 3 then 5 else i
def spAgain : Sp := fun vs H Q _ => ∃ i : Nat, i < 7 ∧ vs = [.str (mkn i)] ∧ ∀ H', Same H H' → Q (.str (mkn (agn i))) H'
theorem scAgain : FnScope ["mark"] ["mark"] (defScope sAgain) := ⟨rfl, rfl, rfl, by decide +kernel, rfl, by decide +kernel, by decide +kernel⟩
theorem agn_in : ∀ i, i < 7 → inV (.str (mkn i)) [.str "cent", .str "coin"] = decide (i = 1 ∨ i = 3)
  | 0, _ => by decide +kernel
  | 1, _ => by decide +kernel
  | 2, _ => by decide +kernel
  | 3, _ => by decide +kernel
  | 4, _ => by decide +kernel
  | 5, _ => by decide +kernel
  | 6, _ => by decide +kernel
  | n + 7, h => by omega
theorem ok_again {f fN : Addr} {fd fdN : FuncData} {k : Nat} (F : Fun K "again" "again" sAgain f fd) (FN : Fun K "need_mark" "need_mark" sNeedM fN fdN) (bN : Binds K fdN ["mark"] []) (gN : mg "need_mark" = some (.ref fN)) (T : Tups K mg tD tM tK) :
    FnOk P w K mg base CX0 (k + 2) f fd ["mark"] spAgain := by
  have GN : FnOk P w K mg base CX0 (k + 1) fN fdN ["mark"] spNeedM := ok_needM FN T
  refine F.ok scAgain (fun vs H Q E h => ?_) (fun cdv A outer s H vs Q E hr h => ?_)
  · obtain ⟨i, _, rfl, _⟩ := h
    rfl
  · obtain ⟨i, hi, rfl, q⟩ := h
    refine ⟨_, pss_cons (ps_expr (pe_call GN hr (by rfl) gN FN.kp bN .nil pass0 (pa_cons (pv 0) pa_nil)))
      (pss_one (ps_ret (pe_ifExp (pt_cmpR op_in_seq (pv 0) (pe_tup (pa_cons pe_str (pa_cons pe_str pa_nil))) (by rfl)) pe_str (pv 0)))), ?_⟩
    refine ⟨_, rfl, i, hi, rfl, ?_⟩
    refine ⟨_, rfl, (by decide : 2 ≤ sizeLine), fun p np => ?_⟩
    refine ⟨p, [.str "cent", .str "coin"], rfl, .inr (SqT.of upd_same), rfl, rfl, _, rfl, ?_⟩
    show if inV (.str (mkn i)) [.str "cent", .str "coin"] = true then _ else _
    rw [agn_in i hi]
    have s1 : Same H (upd H p (.tup [.str "cent", .str "coin"])) := same_upd np
    by_cases h : i = 1 ∨ i = 3
    · refine itT h ?_
      have e : mkn (agn i) = "dear" := by unfold agn; rw [if_pos h]; rfl
      have := q _ s1
      rw [e] at this
      exact this
    · refine itF h ?_
      have e : agn i = i := by unfold agn; rw [if_neg h]
      have := q _ s1
      rw [e] at this
      exact ⟨_, rfl, this⟩
/-! ### peak, mark_of -/
theorem at_dv {ds : List Dd} {i : Nat} {x : V} (h : (ds.map dv)[i]? = some x) : ∃ d, ds[i]? = some d ∧ x = dv d := by
  rw [List.getElem?_map] at h
  cases e : ds[i]? with
  | none => rw [e] at h; cases h
  | some d => rw [e] at h; exact ⟨d, rfl, (Option.some.inj h).symm⟩
theorem take_more {α : Type} {l : List α} {i : Nat} {x : α} (h : l[i]? = some x) : l.take (i + 1) = l.take i ++ [x] := by
  rw [List.take_add_one, h]; rfl
theorem run_more {ds : List Dd} {i : Nat} {d : Dd} (h : ds[i]? = some d) : run (ds.take (i + 1)) = goP (run (ds.take i)) d := by
  unfold run
  rw [take_more h, List.foldl_append]
  rfl
theorem mrk_more {ds : List Dd} {i : Nat} {d : Dd} (h : ds[i]? = some d) : mrk (ds.take (i + 1)) = max (mrk (ds.take i)) d.rk := by
  unfold mrk
  rw [take_more h, List.foldl_append]
  rfl
theorem mrk_foldl (ds : List Dd) : ∀ m, m < 5 → ds.foldl (fun m d => max m d.rk) m < 5 := by
  induction ds with
  | nil => intro m h; exact h
  | cons d r ih =>
    intro m h
    have := rk_lt d
    exact ih (max m d.rk) (by omega)
theorem mrk_lt (ds : List Dd) : mrk ds < 5 := mrk_foldl ds 0 (by decide)
def spPeak (K : PySem.W.Frag) : Sp := fun vs H Q _ => ∃ (a : Addr) (ds : List Dd), vs = [.ref a] ∧ SqL K H a (ds.map dv) ∧ ∀ H', Same H H' → Q (.int (run ds).2) H'
theorem scPeak : FnScope ["deeds", "purses", "highest", "deed"] ["deeds"] (defScope sPeak) := ⟨rfl, rfl, rfl, by decide +kernel, rfl, by decide +kernel, by decide +kernel⟩
theorem ok_peak {f fS fN : Addr} {fd fdS fdN : FuncData} {k : Nat} (F : Fun K "peak" "peak" sPeak f fd) (FS : Fun K "spend" "spend" sSpend fS fdS) (bS : Binds K fdS ["purses", "deed"] []) (gS : mg "spend" = some (.ref fS))
    (FN : Fun K "need_deed" "need_deed" sNeedD fN fdN) (bN : Binds K fdN ["deed"] []) (gN : mg "need_deed" = some (.ref fN)) (T : Tups K mg tD tM tK) (mm : mg "max" = none) :
    FnOk P w K mg base CX0 (k + 3) f fd ["deeds"] (spPeak K) := by
  have GS : FnOk P w K mg base CX0 (k + 2) fS fdS ["purses", "deed"] (spSpend K) := ok_spend FS FN bN gN T
  refine F.ok scPeak (fun vs H Q E h => ?_) (fun cdv A outer s H vs Q E hr h => ?_)
  · obtain ⟨a, ds, rfl, _⟩ := h
    rfl
  · obtain ⟨a, ds, rfl, ha, q⟩ := h
    refine ⟨_, pss_cons (ps_set (i := 1) scPeak.nd rfl (.inl rfl) (pe_tup (pa_cons pe_int (pa_cons pe_int pa_nil))))
      (pss_cons (ps_set (i := 2) scPeak.nd rfl (.inl rfl) pe_int)
      (pss_cons (ps_for PassesOwn.never rfl (pi_list (pv 0)) (pg_name (i := 3) scPeak.nd rfl (.inl rfl))
        (pss_cons (ps_set (i := 1) scPeak.nd rfl (.inl rfl) (pe_call GS hr (by rfl) gS FS.kp bS .nil pass0 (pa_cons (pv 1) (pa_cons (pv 3) pa_nil))))
        (pss_one (ps_set (i := 2) scPeak.nd rfl (.inl rfl) (pe_callB (call_max3 rfl) (by rfl) mm (by decide +kernel) (pa_cons (pv 2) (pa_cons (pe_ix ix_tup (pv 1) pe_int (fun _ _ => rfl)) (pa_cons (pe_ix ix_tup (pv 1) pe_int (fun _ _ => rfl)) pa_nil))))))))
      (pss_one (ps_ret (pv 2))))), ?_⟩
    refine ⟨(by decide : 2 ≤ sizeLine), fun p np => ?_⟩
    have s1 : Same H (upd H p (.tup [.int 0, .int 0])) := same_upd np
    refine ⟨_, rfl, a, rfl, ⟨_, s1.seq ha⟩, for_list (K := K) (a := a) (xs := ds.map dv)
      (fun i σ H' => ∃ (t : Addr) (y : Option V), σ = [some (.ref a), some (.ref t), some (.int (run (ds.take i)).2), y] ∧ Same H H' ∧ H' t = some (.tup [.int (run (ds.take i)).1.1, .int (run (ds.take i)).1.2]))
      ⟨p, none, rfl, s1, upd_same⟩ (fun i σ H' _ ⟨_, _, _, sm, _⟩ => sm.seq ha) ?_ ?_⟩
    · rintro i x σ H' hi ⟨t, y, rfl, sm, et⟩
      obtain ⟨d, hd, rfl⟩ := at_dv hi
      refine ⟨_, rfl, _, rfl, t, _, _, d, rfl, SqT.of et, fun p2 H2 np2 e2 => ?_⟩
      subst e2
      refine ⟨_, rfl, _, rfl, p2, _, 0, _, rfl, rfl, SqT.of upd_same, rfl, _, rfl, p2, _, 1, _, rfl, rfl, SqT.of upd_same, rfl, _, _, _, rfl, ?_⟩
      refine ⟨p2, some (dv d), ?_, sm.trans (same_upd np2), ?_⟩
      · rw [run_more hd]
        rfl
      · rw [run_more hd]
        exact upd_same
    · rintro σ H' ⟨t, y, rfl, sm, et⟩
      rw [List.length_map, List.take_length]
      exact ⟨_, rfl, q _ sm⟩
def spMarkOf (K : PySem.W.Frag) : Sp := fun vs H Q _ => ∃ (a : Addr) (ds : List Dd), vs = [.ref a] ∧ SqL K H a (ds.map dv) ∧ Q (.str (mkn (mrk ds))) H
theorem scMarkOf : FnScope ["deeds", "made", "deed"] ["deeds"] (defScope sMarkOf) := ⟨rfl, rfl, rfl, by decide +kernel, rfl, by decide +kernel, by decide +kernel⟩
theorem ok_markOf {f fB fN fM : Addr} {fd fdB fdN fdM : FuncData} {k : Nat} (F : Fun K "mark_of" "mark_of" sMarkOf f fd) (FB : Fun K "behind" "behind" sBehind fB fdB) (bB : Binds K fdB ["one", "other"] []) (gB : mg "behind" = some (.ref fB))
    (FN : Fun K "need_deed" "need_deed" sNeedD fN fdN) (bN : Binds K fdN ["deed"] []) (gN : mg "need_deed" = some (.ref fN)) (FM : Fun K "need_mark" "need_mark" sNeedM fM fdM) (bM : Binds K fdM ["mark"] []) (gM : mg "need_mark" = some (.ref fM)) (T : Tups K mg tD tM tK) (mm : mg "max" = none) :
    FnOk P w K mg base CX0 (k + 3) f fd ["deeds"] (spMarkOf K) := by
  have GB : FnOk P w K mg base CX0 (k + 2) fB fdB ["one", "other"] spBehind := ok_behind FB FM bM gM T mm
  have GN : FnOk P w K mg base CX0 (k + 1) fN fdN ["deed"] spNeedD := ok_needD FN T
  refine F.ok scMarkOf (fun vs H Q E h => ?_) (fun cdv A outer s H vs Q E hr h => ?_)
  · obtain ⟨a, ds, rfl, _⟩ := h
    rfl
  · obtain ⟨a, ds, rfl, ha, q⟩ := h
    refine ⟨_, pss_cons (ps_set (i := 1) scMarkOf.nd rfl (.inl rfl) pe_str)
      (pss_cons (ps_for PassesOwn.never rfl (pi_list (pv 0)) (pg_name (i := 2) scMarkOf.nd rfl (.inl rfl))
        (pss_cons (ps_expr (pe_call GN (hr.mono (by omega)) (by rfl) gN FN.kp bN .nil pass0 (pa_cons (pv 2) pa_nil)))
        (pss_one (ps_set (i := 1) scMarkOf.nd rfl (.inl rfl) (pe_call GB hr (by rfl) gB FB.kp bB .nil pass0 (pa_cons (pv 1) (pa_cons (pv 2) pa_nil)))))))
      (pss_one (ps_ret (pv 1)))), ?_⟩
    refine ⟨_, rfl, a, rfl, ⟨_, ha⟩, for_list (K := K) (a := a) (xs := ds.map dv)
      (fun i σ H' => ∃ (y : Option V), σ = [some (.ref a), some (.str (mkn (mrk (ds.take i)))), y] ∧ H' = H)
      ⟨none, rfl, rfl⟩ (fun i σ H' _ ⟨_, _, e⟩ => by rw [e]; exact ha) ?_ ?_⟩
    · rintro i x σ H' hi ⟨y, rfl, rfl⟩
      obtain ⟨d, hd, rfl⟩ := at_dv hi
      have h1 := mrk_lt (ds.take i)
      have h2 := rk_lt d
      refine ⟨_, rfl, d, rfl, ?_⟩
      refine ⟨_, rfl, _, rfl, mrk (ds.take i), d.rk, by omega, by omega, ?_, ?_⟩
      · rw [← nm_mkn]
        rfl
      · refine ⟨some (dv d), ?_, rfl⟩
        rw [mrk_more hd]
        rfl
    · rintro σ H' ⟨y, rfl, rfl⟩
      rw [List.length_map, List.take_length]
      exact ⟨_, rfl, q⟩
end
end Onp
namespace Onp
open PySem PySem.Spec PyProof.Rows L2
/-! ### the mathematics of rows gone again and again -/
def fin (p : Int × Int) (ds : List Dd) : Int × Int := ds.foldl stp p
def top : Int × Int → List Dd → Int
  | _, [] => 0
  | p, d :: r => max (max (stp p d).1 (stp p d).2) (top (stp p d) r)
theorem top_nn : ∀ (ds : List Dd) (p : Int × Int), 0 ≤ top p ds
  | [], _ => Int.le_refl 0
  | d :: r, p => by
    have := top_nn r (stp p d)
    unfold top
    omega
theorem fold_fin : ∀ (ds : List Dd) (p : Int × Int) (h : Int), (ds.foldl goP (p, h)).1 = fin p ds
  | [], _, _ => rfl
  | d :: r, p, h => fold_fin r (stp p d) _
theorem fold_top : ∀ (ds : List Dd) (p : Int × Int) (h : Int), 0 ≤ h → (ds.foldl goP (p, h)).2 = max h (top p ds)
  | [], p, h, h0 => by
    show h = max h 0
    omega
  | d :: r, p, h, h0 => by
    have ih := fold_top r (stp p d) (max (max h (stp p d).1) (stp p d).2) (by omega)
    show (r.foldl goP (stp p d, max (max h (stp p d).1) (stp p d).2)).2 = max h (max (max (stp p d).1 (stp p d).2) (top (stp p d) r))
    rw [ih]
    omega
theorem run_top (ds : List Dd) : (run ds).2 = top (0, 0) ds := by
  have := fold_top ds (0, 0) 0 (Int.le_refl 0)
  have h := top_nn ds (0, 0)
  unfold run
  omega
theorem run_fin (ds : List Dd) : (run ds).1 = fin (0, 0) ds := fold_fin ds (0, 0) 0
theorem fin_app (a b : List Dd) (p : Int × Int) : fin p (a ++ b) = fin (fin p a) b := by
  unfold fin; rw [List.foldl_append]
theorem top_app : ∀ (a b : List Dd) (p : Int × Int), top p (a ++ b) = max (top p a) (top (fin p a) b)
  | [], b, p => by
    have := top_nn b p
    show top p b = max 0 (top p b)
    omega
  | d :: r, b, p => by
    have ih := top_app r b (stp p d)
    show max (max (stp p d).1 (stp p d).2) (top (stp p d) (r ++ b)) = max (max (max (stp p d).1 (stp p d).2) (top (stp p d) r)) (top (fin (stp p d) r) b)
    rw [ih]
    omega
theorem stp_shift {p q : Int × Int} {c : Int} (c0 : 0 ≤ c) (h1 : p.1 ≤ q.1 + c) (h2 : p.2 ≤ q.2 + c) (d : Dd) : (stp p d).1 ≤ (stp q d).1 + c ∧ (stp p d).2 ≤ (stp q d).2 + c := by
  cases d
  · exact ⟨h1, h2⟩
  · exact ⟨show p.1 + 1 ≤ q.1 + 1 + c by omega, h2⟩
  · exact ⟨show (0 : Int) ≤ 0 + c by omega, h2⟩
  · exact ⟨show (0 : Int) ≤ 0 + c by omega, show p.2 + 1 ≤ q.2 + 1 + c by omega⟩
  · exact ⟨show (0 : Int) ≤ 0 + c by omega, show (0 : Int) ≤ 0 + c by omega⟩
theorem top_shift : ∀ (ds : List Dd) {p q : Int × Int} {c : Int}, 0 ≤ c → p.1 ≤ q.1 + c → p.2 ≤ q.2 + c → top p ds ≤ top q ds + c
  | [], p, q, c, c0, _, _ => by
    show (0 : Int) ≤ 0 + c
    omega
  | d :: r, p, q, c, c0, h1, h2 => by
    obtain ⟨a, b⟩ := stp_shift c0 h1 h2 d
    have ih := top_shift r c0 a b
    show max (max (stp p d).1 (stp p d).2) (top (stp p d) r) ≤ max (max (stp q d).1 (stp q d).2) (top (stp q d) r) + c
    omega
theorem stp_nn {p : Int × Int} (h1 : 0 ≤ p.1) (h2 : 0 ≤ p.2) (d : Dd) : 0 ≤ (stp p d).1 ∧ 0 ≤ (stp p d).2 := by
  cases d
  · exact ⟨h1, h2⟩
  · exact ⟨show 0 ≤ p.1 + 1 by omega, h2⟩
  · exact ⟨Int.le_refl 0, h2⟩
  · exact ⟨Int.le_refl 0, show 0 ≤ p.2 + 1 by omega⟩
  · exact ⟨Int.le_refl 0, Int.le_refl 0⟩
theorem fin_nn : ∀ (ds : List Dd) {p : Int × Int}, 0 ≤ p.1 → 0 ≤ p.2 → 0 ≤ (fin p ds).1 ∧ 0 ≤ (fin p ds).2
  | [], p, h1, h2 => ⟨h1, h2⟩
  | d :: r, p, h1, h2 => fin_nn r (stp_nn h1 h2 d).1 (stp_nn h1 h2 d).2
theorem fin_le : ∀ (ds : List Dd) (p : Int × Int), (fin p ds).1 ≤ max p.1 (top p ds) ∧ (fin p ds).2 ≤ max p.2 (top p ds)
  | [], p => ⟨by show p.1 ≤ max p.1 0; omega, by show p.2 ≤ max p.2 0; omega⟩
  | d :: r, p => by
    have ih := fin_le r (stp p d)
    show (fin (stp p d) r).1 ≤ max p.1 (max (max (stp p d).1 (stp p d).2) (top (stp p d) r)) ∧ (fin (stp p d) r).2 ≤ max p.2 (max (max (stp p d).1 (stp p d).2) (top (stp p d) r))
    omega
theorem fin0_le (ds : List Dd) : (fin (0, 0) ds).1 ≤ top (0, 0) ds ∧ (fin (0, 0) ds).2 ≤ top (0, 0) ds := by
  have h1 := fin_le ds (0, 0)
  have h2 := top_nn ds (0, 0)
  simp only at h1
  omega
/-- M5 -/
theorem peak_app (a b : List Dd) : (run a).2 ≤ (run (a ++ b)).2 ∧ (run (a ++ b)).2 ≤ (run a).2 + (run b).2 := by
  rw [run_top, run_top, run_top, top_app]
  have h1 := fin0_le a
  have h0 := top_nn a (0, 0)
  have hb := top_nn b (0, 0)
  have h2 := top_shift b (p := fin (0, 0) a) (q := (0, 0)) h0 (by simp only; omega) (by simp only; omega)
  omega
/-- M6 -/
theorem pre_le (ds : List Dd) (i : Nat) : (run (ds.take i)).1.1 ≤ (run ds).2 ∧ (run (ds.take i)).1.2 ≤ (run ds).2 := by
  have e : run ds = run (ds.take i ++ ds.drop i) := by rw [List.take_append_drop]
  rw [e, run_fin, run_top, top_app]
  have h := fin0_le (ds.take i)
  omega
/-! marks -/
theorem mrk_fold : ∀ (ds : List Dd) (m : Nat), ds.foldl (fun m d => max m d.rk) m = max m (mrk ds)
  | [], m => by show m = max m 0; omega
  | d :: r, m => by
    show r.foldl (fun m d => max m d.rk) (max m d.rk) = max m (r.foldl (fun m d => max m d.rk) (max 0 d.rk))
    rw [mrk_fold r, mrk_fold r (max 0 d.rk)]
    omega
theorem mrk_app (a b : List Dd) : mrk (a ++ b) = max (mrk a) (mrk b) := by
  have : mrk (a ++ b) = b.foldl (fun m d => max m d.rk) (mrk a) := by unfold mrk; rw [List.foldl_append]
  rw [this, mrk_fold]
theorem mrk_cons (d : Dd) (r : List Dd) : mrk (d :: r) = max d.rk (mrk r) := by
  have : mrk (d :: r) = r.foldl (fun m d => max m d.rk) (max 0 d.rk) := rfl
  rw [this, mrk_fold]
  omega
theorem mrk_ge : ∀ {ds : List Dd} {d : Dd}, d ∈ ds → d.rk ≤ mrk ds
  | e :: r, d, h => by
    rw [mrk_cons]
    rcases List.mem_cons.mp h with rfl | h
    · omega
    · have := mrk_ge h
      omega
theorem mrk_mem : ∀ {ds : List Dd}, 0 < mrk ds → ∃ d ∈ ds, d.rk = mrk ds
  | [], h => absurd h (by decide)
  | e :: r, h => by
    rw [mrk_cons] at h ⊢
    by_cases c : mrk r ≤ e.rk
    · exact ⟨e, List.mem_cons_self, by omega⟩
    · obtain ⟨d, hd, e1⟩ := mrk_mem (ds := r) (by omega)
      exact ⟨d, List.mem_cons_of_mem _ hd, by omega⟩
def rep (n : Nat) (ds : List Dd) : List Dd := (List.replicate n ds).flatten
theorem rep_succ (n : Nat) (ds : List Dd) : rep (n + 1) ds = ds ++ rep n ds := by
  unfold rep; rw [List.replicate_succ, List.flatten_cons]
/-- M4 -/
theorem mrk_rep (ds : List Dd) : ∀ n, mrk (rep (n + 1) ds) = mrk ds
  | 0 => by rw [rep_succ, mrk_app]; show max (mrk ds) 0 = mrk ds; omega
  | n + 1 => by rw [rep_succ, mrk_app, mrk_rep ds n]; omega
/-! M1 -/
theorem grow1 : ∀ (ds : List Dd) (p : Int × Int), (∀ d ∈ ds, d.rk ≤ 1) → p.1 ≤ (fin p ds).1 ∧ ((∃ d ∈ ds, d.rk = 1) → p.1 + 1 ≤ (fin p ds).1)
  | [], p, _ => ⟨Int.le_refl _, fun ⟨_, h, _⟩ => by cases h⟩
  | d :: r, p, h => by
    have ih := grow1 r (stp p d) fun x hx => h x (List.mem_cons_of_mem _ hx)
    have hd := h d List.mem_cons_self
    have e : fin p (d :: r) = fin (stp p d) r := rfl
    rw [e]
    cases d
    · have e1 : stp p .keep = p := rfl
      rw [e1] at ih ⊢
      refine ⟨ih.1, fun ⟨x, hx, hr⟩ => ?_⟩
      rcases List.mem_cons.mp hx with rfl | hx
      · exact absurd hr (by decide)
      · exact ih.2 ⟨x, hx, hr⟩
    · have e1 : (stp p .cent).1 = p.1 + 1 := rfl
      rw [e1] at ih
      exact ⟨by omega, fun _ => ih.1⟩
    · exact absurd hd (by decide)
    · exact absurd hd (by decide)
    · exact absurd hd (by decide)
theorem grow3 : ∀ (ds : List Dd) (p : Int × Int), (∀ d ∈ ds, d.rk ≤ 3) → p.2 ≤ (fin p ds).2 ∧ ((∃ d ∈ ds, d.rk = 3) → p.2 + 1 ≤ (fin p ds).2)
  | [], p, _ => ⟨Int.le_refl _, fun ⟨_, h, _⟩ => by cases h⟩
  | d :: r, p, h => by
    have ih := grow3 r (stp p d) fun x hx => h x (List.mem_cons_of_mem _ hx)
    have hd := h d List.mem_cons_self
    have e : fin p (d :: r) = fin (stp p d) r := rfl
    rw [e]
    have skip : ∀ d' : Dd, d'.rk ≠ 3 → (∃ x ∈ d' :: r, x.rk = 3) → ∃ x ∈ r, x.rk = 3 := fun d' hn ⟨x, hx, hr⟩ => by
      rcases List.mem_cons.mp hx with rfl | hx
      · exact absurd hr hn
      · exact ⟨x, hx, hr⟩
    cases d
    · exact ⟨ih.1, fun q => ih.2 (skip _ (by decide) q)⟩
    · exact ⟨ih.1, fun q => ih.2 (skip _ (by decide) q)⟩
    · exact ⟨ih.1, fun q => ih.2 (skip _ (by decide) q)⟩
    · have e1 : (stp p .coin).2 = p.2 + 1 := rfl
      rw [e1] at ih
      exact ⟨by omega, fun _ => ih.1⟩
    · exact absurd hd (by decide)
theorem grown {ds : List Dd} (g : Int × Int → Int) (hg : ∀ p, g p + 1 ≤ g (fin p ds)) : ∀ (n : Nat) (p : Int × Int), g p + n ≤ g (fin p (rep n ds))
  | 0, p => by show g p + 0 ≤ g p; omega
  | n + 1, p => by
    rw [rep_succ, fin_app]
    have h1 := hg p
    have h2 := grown g hg n (fin p ds)
    push_cast
    omega
theorem dear_rep {ds : List Dd} (h : agn (mrk ds) = 5) (n : Nat) : (n : Int) ≤ (run (rep n ds)).2 := by
  have hl := mrk_lt ds
  rw [run_top]
  have f := fin0_le (rep n ds)
  have c : mrk ds = 1 ∨ mrk ds = 3 := by
    unfold agn at h
    split at h
    · assumption
    · omega
  rcases c with c | c
  · have g := grown (ds := ds) (fun p => p.1) (fun p => (grow1 ds p fun d hd => by have := mrk_ge hd; omega).2 (by obtain ⟨d, hd, e⟩ := mrk_mem (ds := ds) (by omega); exact ⟨d, hd, by omega⟩)) n (0, 0)
    simp only at g
    omega
  · have g := grown (ds := ds) (fun p => p.2) (fun p => (grow3 ds p fun d hd => by have := mrk_ge hd; omega).2 (by obtain ⟨d, hd, e⟩ := mrk_mem (ds := ds) (by omega); exact ⟨d, hd, by omega⟩)) n (0, 0)
    simp only at g
    omega
/-! M2 -/
theorem rep_top {ds : List Dd} {t : Int} (C : Int × Int → Prop) (h0 : ∀ p, C p → 0 ≤ p.1 ∧ 0 ≤ p.2 ∧ p.1 ≤ t ∧ p.2 ≤ t) (hs : ∀ p, C p → C (fin p ds)) (ht : top (0, 0) ds ≤ t) : ∀ (n : Nat) (p : Int × Int), C p → top p (rep n ds) ≤ 2 * t
  | 0, p, c => by
    have := h0 p c
    show (0 : Int) ≤ 2 * t
    omega
  | n + 1, p, c => by
    rw [rep_succ, top_app]
    have ih := rep_top C h0 hs ht n (fin p ds) (hs p c)
    obtain ⟨a, b, c1, c2⟩ := h0 p c
    have sh := top_shift ds (p := p) (q := (0, 0)) (c := t) (by omega) (by simp only; omega) (by simp only; omega)
    omega
theorem fst_dep : ∀ (ds : List Dd) {p q : Int × Int}, p.1 = q.1 → (fin p ds).1 = (fin q ds).1
  | [], _, _, h => h
  | d :: r, p, q, h => by
    refine fst_dep r (p := stp p d) (q := stp q d) ?_
    cases d
    · exact h
    · show p.1 + 1 = q.1 + 1
      omega
    · rfl
    · rfl
    · rfl
theorem fill_fin : ∀ (ds : List Dd) (p q : Int × Int), (∃ d ∈ ds, 2 ≤ d.rk) → (fin p ds).1 = (fin q ds).1
  | [], _, _, ⟨_, h, _⟩ => by cases h
  | d :: r, p, q, ⟨x, hx, hr⟩ => by
    show (fin (stp p d) r).1 = (fin (stp q d) r).1
    by_cases c : 2 ≤ d.rk
    · refine fst_dep r ?_
      cases d
      · exact absurd c (by decide)
      · exact absurd c (by decide)
      · rfl
      · rfl
      · rfl
    · refine fill_fin r _ _ ⟨x, ?_, hr⟩
      rcases List.mem_cons.mp hx with rfl | hx
      · exact absurd hr c
      · exact hx
theorem brim_fin : ∀ (ds : List Dd) (p q : Int × Int), (∃ d ∈ ds, d.rk = 4) → fin p ds = fin q ds
  | [], _, _, ⟨_, h, _⟩ => by cases h
  | d :: r, p, q, ⟨x, hx, hr⟩ => by
    show fin (stp p d) r = fin (stp q d) r
    by_cases c : d.rk = 4
    · cases d
      · exact absurd c (by decide)
      · exact absurd c (by decide)
      · exact absurd c (by decide)
      · exact absurd c (by decide)
      · rfl
    · refine brim_fin r _ _ ⟨x, ?_, hr⟩
      rcases List.mem_cons.mp hx with rfl | hx
      · exact absurd hr c
      · exact hx
theorem snd_keep : ∀ (ds : List Dd) (p : Int × Int), (∀ d ∈ ds, d.rk ≤ 2) → (fin p ds).2 = p.2
  | [], _, _ => rfl
  | d :: r, p, h => by
    have ih := snd_keep r (stp p d) fun x hx => h x (List.mem_cons_of_mem _ hx)
    have hd := h d List.mem_cons_self
    show (fin (stp p d) r).2 = p.2
    rw [ih]
    cases d
    · rfl
    · rfl
    · rfl
    · exact absurd hd (by decide)
    · exact absurd hd (by decide)
theorem fst_keep : ∀ (ds : List Dd) (p : Int × Int), (∀ d ∈ ds, d.rk ≤ 0) → fin p ds = p
  | [], _, _ => rfl
  | d :: r, p, h => by
    have ih := fst_keep r (stp p d) fun x hx => h x (List.mem_cons_of_mem _ hx)
    have hd := h d List.mem_cons_self
    show fin (stp p d) r = p
    rw [ih]
    cases d
    · rfl
    · exact absurd hd (by decide)
    · exact absurd hd (by decide)
    · exact absurd hd (by decide)
    · exact absurd hd (by decide)
theorem cheap_rep {ds : List Dd} (h : agn (mrk ds) ≠ 5) (n : Nat) : (run (rep n ds)).2 ≤ 2 * (run ds).2 := by
  have hl := mrk_lt ds
  rw [run_top, run_top]
  have t0 := top_nn ds (0, 0)
  have f0 := fin0_le ds
  have fn := fin_nn ds (p := (0, 0)) (Int.le_refl 0) (Int.le_refl 0)
  have c : mrk ds = 0 ∨ mrk ds = 2 ∨ mrk ds = 4 := by
    unfold agn at h
    split at h
    · exact absurd rfl h
    · omega
  rcases c with c | c | c
  · refine rep_top (fun p => p = (0, 0)) (fun p hp => ?_) (fun p hp => ?_) (Int.le_refl _) n (0, 0) rfl
    · subst hp
      simp only
      omega
    · subst hp
      exact fst_keep ds _ fun d hd => by have := mrk_ge hd; omega
  · have ex : ∃ d ∈ ds, 2 ≤ d.rk := by
      obtain ⟨d, hd, e⟩ := mrk_mem (ds := ds) (by omega)
      exact ⟨d, hd, by omega⟩
    refine rep_top (fun p => 0 ≤ p.1 ∧ p.1 ≤ top (0, 0) ds ∧ p.2 = 0) (fun p hp => by omega) (fun p hp => ?_) (Int.le_refl _) n (0, 0) ⟨Int.le_refl 0, t0, rfl⟩
    have e1 := fill_fin ds p (0, 0) ex
    have e2 := snd_keep ds p fun d hd => by have := mrk_ge hd; omega
    omega
  · have ex : ∃ d ∈ ds, d.rk = 4 := by
      obtain ⟨d, hd, e⟩ := mrk_mem (ds := ds) (by omega)
      exact ⟨d, hd, by omega⟩
    refine rep_top (fun p => 0 ≤ p.1 ∧ 0 ≤ p.2 ∧ p.1 ≤ top (0, 0) ds ∧ p.2 ≤ top (0, 0) ds) (fun p hp => hp) (fun p hp => ?_) (Int.le_refl _) n (0, 0) ⟨Int.le_refl 0, Int.le_refl 0, t0, t0⟩
    rw [brim_fin ds p (0, 0) ex]
    omega
theorem rep_dv (n : Nat) (ds : List Dd) : (List.replicate n (ds.map dv)).flatten = (rep n ds).map dv := by
  unfold rep
  rw [List.map_flatten, List.map_replicate]
end Onp
set_option maxHeartbeats 8000000
namespace Onp
open PySem PySem.Spec PyProof.Rows L2
abbrev sLaw : Stmt := topS 19
section
variable {P : Program} {w : World} {K : PySem.W.Frag} {mg : Str → Option Value} {base : Heap} {tD tM tK : Addr}
/-! ### _law_deed -/
def ten : List Dd := [.keep, .cent, .fill, .coin, .brim, .keep, .cent, .cent, .coin, .fill]
def spDeed (K : PySem.W.Frag) : Sp := fun vs H Q _ => ∃ (g : Bid), vs = [.ref g.b] ∧ Bg H g ∧ ∀ (d : Dd) H', Keep g.b H H' → Bg H' g → Q (dv d) H'
theorem scDeed : FnScope ["_law_bag_here"] ["_law_bag_here"] (defScope sDeed) := ⟨rfl, rfl, rfl, by decide +kernel, rfl, by decide +kernel, by decide +kernel⟩
theorem ok_deed {f fO fP : Addr} {fd fdO fdP : FuncData} {k : Nat} (F : Fun K "_law_deed" "_law_deed" sDeed f fd) (FO : Fun K "_law_of" "_law_of" sOf fO fdO) (bO : Binds K fdO ["_law_bag_here", "_law_some"] []) (gO : mg "_law_of" = some (.ref fO))
    (FP : Fun K "_law_pull" "_law_pull" sPull fP fdP) (bP : Binds K fdP ["_law_bag_here", "_law_many"] []) (gP : mg "_law_pull" = some (.ref fP)) (ml : mg "len" = none) : FnOk P w K mg base CX0 (k + 3) f fd ["_law_bag_here"] (spDeed K) := by
  have GO : FnOk P w K mg base CX0 (k + 2) fO fdO ["_law_bag_here", "_law_some"] (spOf K) := ok_of FO FP bP gP ml
  refine F.ok scDeed (fun vs H Q E h => ?_) (fun cdv A outer s H vs Q E hr h => ?_)
  · obtain ⟨b, rfl, _⟩ := h
    rfl
  · obtain ⟨b, rfl, B, q⟩ := h
    refine ⟨_, pss_one (ps_ret (pe_call GO hr (by rfl) gO FO.kp bO .nil pass0 (pa_cons (pv 0) (pa_cons (pe_lst (pa_cons pe_str (pa_cons pe_str (pa_cons pe_str (pa_cons pe_str (pa_cons pe_str (pa_cons pe_str (pa_cons pe_str (pa_cons pe_str (pa_cons pe_str (pa_cons pe_str pa_nil))))))))))) pa_nil)))), ?_⟩
    refine ⟨_, rfl, (by show 10 ≤ sizeLine; decide), fun p np => ?_⟩
    refine ⟨b, p, ten.map dv, rfl, B.new np, B.ne np, SqL.of upd_same, by decide, by decide, fun v H' hv kp B' => ?_⟩
    obtain ⟨d, _, rfl⟩ := List.mem_map.mp hv
    exact q d H' ((Keep.new np).trans kp) B'
/-- a comprehension's list grows by one -/
theorem grow {g : Bid} {H3 H' H4 : Hp} {D : Addr} {ds : List Dd} {d : Dd} {j : Nat} (nD : H3 D = none) (B3 : Bg H3 g) (hj : j ≤ 1000) (hl : ds.length = j) (hD : H' D = some (.lst (ds.map dv))) (kp : Keep g.b H3 H') (B' : Bg H' g) (kp4 : Keep g.b H' H4) (B4 : Bg H4 g) :
    ∃ acc, H4 D = some (.lst acc) ∧ acc.length < sizeLine ∧ ∃ ds : List Dd, ds.length = j + 1 ∧ (upd H4 D (.lst (acc ++ [dv d]))) D = some (.lst (ds.map dv)) ∧ Keep g.b H3 (upd H4 D (.lst (acc ++ [dv d]))) ∧ Bg (upd H4 D (.lst (acc ++ [dv d]))) g := by
  refine ⟨ds.map dv, kp4 _ _ (B3.ne nD) hD, ?_, ds ++ [d], by rw [List.length_append, hl]; rfl, by rw [upd_same, List.map_append]; rfl, fun x o n e => ?_, B4.put (B3.ne nD) (B3.neL nD)⟩
  · rw [List.length_map, hl]
    exact small1000 hj
  · rw [upd_ne (ne_of_none e nD)]
    exact kp4 _ _ n (kp _ _ n e)
/-! ### the law -/
structure Fns (K : PySem.W.Frag) (mg : Str → Option Value) (f : Addr) (fd : FuncData) (x : Str) (st : Stmt) (ps : List Str) : Prop where
  F : Fun K x x st f fd
  b : Binds K fd ps []
  g : mg x = some (.ref f)
def NL : List Str := ["_law_script", "_law_bag_here", "_law_turn", "_law_one", "_law_other", "_law_many", "_law_tops", "_law_purses", "_law_deed_here", "_law_k"]
theorem scLaw : FnScope NL ["_law_script"] (defScope sLaw) := ⟨rfl, rfl, rfl, by decide +kernel, rfl, by decide +kernel, by decide +kernel⟩
def spLaw (K : PySem.W.Frag) : Sp := fun vs H Q _ => ∃ (a : Addr) (ns : List Int), vs = [.ref a] ∧ SqL K H a (ns.map V.int) ∧ ∀ H', Q (.bl true) H'
theorem dear_iff (i : Nat) (h : i < 5) : decide (V.str (mkn (agn i)) = V.str "dear") = decide (agn i = 5) := by
  rcases i with _ | _ | _ | _ | _ | i
  · decide +kernel
  · decide +kernel
  · decide +kernel
  · decide +kernel
  · decide +kernel
  · omega
theorem ok_law {f fB fP fO fE fN fM fS fPk fMo fBh fA : Addr} {fd fdB fdP fdO fdE fdN fdM fdS fdPk fdMo fdBh fdA : FuncData} (F : Fun K "law" "law" sLaw f fd)
    (B : Fns K mg fB fdB "_law_bag" sBag ["_law_script"]) (Pu : Fns K mg fP fdP "_law_pull" sPull ["_law_bag_here", "_law_many"]) (O : Fns K mg fO fdO "_law_of" sOf ["_law_bag_here", "_law_some"]) (De : Fns K mg fE fdE "_law_deed" sDeed ["_law_bag_here"])
    (N : Fns K mg fN fdN "need_deed" sNeedD ["deed"]) (M : Fns K mg fM fdM "need_mark" sNeedM ["mark"]) (S : Fns K mg fS fdS "spend" sSpend ["purses", "deed"]) (Pk : Fns K mg fPk fdPk "peak" sPeak ["deeds"]) (Mo : Fns K mg fMo fdMo "mark_of" sMarkOf ["deeds"])
    (Bh : Fns K mg fBh fdBh "behind" sBehind ["one", "other"]) (Ag : Fns K mg fA fdA "again" sAgain ["mark"]) (T : Tups K mg tD tM tK) (ml : mg "len" = none) (mli : mg "list" = none) (mm : mg "max" = none) (mr : mg "range" = none) :
    FnOk P w K mg base CX0 4 f fd ["_law_script"] (spLaw K) := by
  have GB : FnOk P w K mg base CX0 3 fB fdB ["_law_script"] (spBag K) := ok_bag B.F mli
  have GP : FnOk P w K mg base CX0 3 fP fdP ["_law_bag_here", "_law_many"] (spPull K) := ok_pull Pu.F ml
  have GE : FnOk P w K mg base CX0 3 fE fdE ["_law_bag_here"] (spDeed K) := ok_deed De.F O.F O.b O.g Pu.F Pu.b Pu.g ml
  have GS : FnOk P w K mg base CX0 3 fS fdS ["purses", "deed"] (spSpend K) := ok_spend S.F N.F N.b N.g T
  have GPk : FnOk P w K mg base CX0 3 fPk fdPk ["deeds"] (spPeak K) := ok_peak Pk.F S.F S.b S.g N.F N.b N.g T mm
  have GMo : FnOk P w K mg base CX0 3 fMo fdMo ["deeds"] (spMarkOf K) := ok_markOf Mo.F Bh.F Bh.b Bh.g N.F N.b N.g M.F M.b M.g T mm
  have GBh : FnOk P w K mg base CX0 3 fBh fdBh ["one", "other"] spBehind := ok_behind Bh.F M.F M.b M.g T mm
  have GA : FnOk P w K mg base CX0 3 fA fdA ["mark"] spAgain := ok_again Ag.F M.F M.b M.g T
  refine F.ok scLaw (fun vs H Q E h => ?_) (fun cdv A outer s H vs Q E hr h => ?_)
  · obtain ⟨a, ns, rfl, _⟩ := h
    rfl
  · obtain ⟨a, ns, rfl, hS, q⟩ := h
    refine ⟨_, pss_cons (ps_set (i := 1) scLaw.nd rfl (.inr rfl) (pe_call GB hr (by rfl) B.g B.F.kp B.b .nil pass0 (pa_cons (pv 0) pa_nil)))
      (pss_cons (ps_for PassesOwn.never rfl (pi_range1 (by rfl) mr (pa_cons pe_int pa_nil)) (pg_name (i := 2) scLaw.nd rfl (.inl rfl))
        (pss_cons (ps_setLc (i := 3) (own := [("_law_k", 9)]) (g := gName 9) (tt := tYes) rfl scLaw.nd rfl rfl (sw_true rfl rfl rfl (by decide +kernel))
            (pi_range1 (by rfl) mr (pa_cons (pe_op op_add pe_int (pe_call GP hr (by rfl) Pu.g Pu.F.kp Pu.b .nil pass0 (pa_cons (pv 1) (pa_cons pe_int pa_nil)))) pa_nil))
            (blkOk_by (own := [("_law_k", 9)]) (N := NL) (sc := defScope sLaw) (by decide +kernel)) (fun _ _ _ _ _ => pg_name (i := 9) scLaw.nd rfl (Or.inl rfl)) (fun _ _ _ _ _ => pts_nil)
            (fun _ _ _ _ _ => pe_call GE hr (by rfl) De.g De.F.kp De.b .nil pass0 (pa_cons (pv 1) pa_nil)))
        (pss_cons (ps_setLc (i := 4) (own := [("_law_k", 9)]) (g := gName 9) (tt := tYes) rfl scLaw.nd rfl rfl (sw_true rfl rfl rfl (by decide +kernel))
            (pi_range1 (by rfl) mr (pa_cons (pe_call GP hr (by rfl) Pu.g Pu.F.kp Pu.b .nil pass0 (pa_cons (pv 1) (pa_cons pe_int pa_nil))) pa_nil))
            (blkOk_by (own := [("_law_k", 9)]) (N := NL) (sc := defScope sLaw) (by decide +kernel)) (fun _ _ _ _ _ => pg_name (i := 9) scLaw.nd rfl (Or.inl rfl)) (fun _ _ _ _ _ => pts_nil)
            (fun _ _ _ _ _ => pe_call GE hr (by rfl) De.g De.F.kp De.b .nil pass0 (pa_cons (pv 1) pa_nil)))
        (pss_cons (ps_set (i := 5) scLaw.nd rfl (.inl rfl) (pe_op op_add pe_int (pe_call GP hr (by rfl) Pu.g Pu.F.kp Pu.b .nil pass0 (pa_cons (pv 1) (pa_cons pe_int pa_nil)))))
        (pss_cons (ps_set (i := 6) scLaw.nd rfl (.inl rfl) (pe_lst
            (pa_cons (pe_call GPk hr (by rfl) Pk.g Pk.F.kp Pk.b .nil pass0 (pa_cons (pv 3) pa_nil))
            (pa_cons (pe_call GPk hr (by rfl) Pk.g Pk.F.kp Pk.b .nil pass0 (pa_cons (pe_op op_rep (pv 3) (pv 5)) pa_nil))
            (pa_cons (pe_call GPk hr (by rfl) Pk.g Pk.F.kp Pk.b .nil pass0 (pa_cons (pv 4) pa_nil))
            (pa_cons (pe_call GPk hr (by rfl) Pk.g Pk.F.kp Pk.b .nil pass0 (pa_cons (pe_op op_cat (pv 3) (pv 4)) pa_nil)) pa_nil))))))
        (C8.pss_cut (ps_if (pt_cmpR op_eq (pe_call GA hr (by rfl) Ag.g Ag.F.kp Ag.b .nil pass0 (pa_cons (pe_call GMo hr (by rfl) Mo.g Mo.F.kp Mo.b .nil pass0 (pa_cons (pv 3) pa_nil)) pa_nil)) pe_str (nomark _))
            (pss_one (ps_if (pt_cmpR op_lt (pe_ix ix_list (pv 6) pe_int (fun _ _ => rfl)) (pv 5) (nomark _)) pss_never pss_nil))
            (pss_one (ps_if (pt_cmpR op_gt (pe_ix ix_list (pv 6) pe_int (fun _ _ => rfl)) (pe_op op_mul pe_int (pe_ix ix_list (pv 6) pe_int (fun _ _ => rfl))) (nomark _)) pss_never pss_nil)))
        (pss_cons (ps_if (PW.pt (pw_or (pt_cmpR op_ne (pe_call GBh hr (by rfl) Bh.g Bh.F.kp Bh.b .nil pass0 (pa_cons (pe_call GMo hr (by rfl) Mo.g Mo.F.kp Mo.b .nil pass0 (pa_cons (pv 3) pa_nil)) (pa_cons (pe_call GMo hr (by rfl) Mo.g Mo.F.kp Mo.b .nil pass0 (pa_cons (pv 4) pa_nil)) pa_nil)))
              (pe_call GMo hr (by rfl) Mo.g Mo.F.kp Mo.b .nil pass0 (pa_cons (pe_op op_cat (pv 3) (pv 4)) pa_nil)) (nomark _))
            (pw_or1 (pt_cmpR op_ne (pe_call GMo hr (by rfl) Mo.g Mo.F.kp Mo.b .nil pass0 (pa_cons (pe_op op_rep (pv 3) (pv 5)) pa_nil)) (pe_call GMo hr (by rfl) Mo.g Mo.F.kp Mo.b .nil pass0 (pa_cons (pv 3) pa_nil)) (nomark _))))) pss_never pss_nil)
        (pss_cons (ps_if (PW.pt (pw_or (pt_cmpR op_lt (pe_ix ix_list (pv 6) pe_int (fun _ _ => rfl)) (pe_ix ix_list (pv 6) pe_int (fun _ _ => rfl)) (nomark _))
            (pw_or1 (pt_cmpR op_gt (pe_ix ix_list (pv 6) pe_int (fun _ _ => rfl)) (pe_op op_add (pe_ix ix_list (pv 6) pe_int (fun _ _ => rfl)) (pe_ix ix_list (pv 6) pe_int (fun _ _ => rfl))) (nomark _))))) pss_never pss_nil)
        (pss_cons (ps_set (i := 7) scLaw.nd rfl (.inl rfl) (pe_tup (pa_cons pe_int (pa_cons pe_int pa_nil))))
        (pss_one (ps_for PassesOwn.never rfl (pi_list (pv 3)) (pg_name (i := 8) scLaw.nd rfl (.inl rfl))
          (pss_cons (ps_set (i := 7) scLaw.nd rfl (.inl rfl) (pe_call GS hr (by rfl) S.g S.F.kp S.b .nil pass0 (pa_cons (pv 7) (pa_cons (pv 8) pa_nil))))
          (pss_one (ps_if (pt_cmpR op_gt (pe_callB (cr_maxT rfl) (by rfl) mm (by decide +kernel) (pa_cons (pv 7) pa_nil)) (pe_ix ix_list (pv 6) pe_int (fun _ _ => rfl)) (nomark _)) pss_never pss_nil))))))))))))))
      (pss_one (ps_ret pe_bl))), ?_⟩
    -- the bag
    refine ⟨_, rfl, a, ns, rfl, hS, fun g H1 nb sm1 B1 => ?_⟩
    refine ⟨5, rfl, by decide, by decide, for_range (lo := 0) (n := 5) (fun i σ H' => ∃ y2 y3 y4 y5 y6 y7 y8 : Option V, σ = [some (.ref a), some (.ref g.b), y2, y3, y4, y5, y6, y7, y8, none] ∧ Bg H' g)
      ⟨none, none, none, none, none, none, none, rfl, B1⟩ ?_ (fun σ H' _ => q H')⟩
    rintro i σ H2 hi ⟨y2, y3, y4, y5, y6, y7, y8, rfl, B2⟩
    -- one
    refine ⟨_, rfl, g, 9, rfl, by decide, by decide, B2, fun z H3 z0 z1 kp3 B3 => ?_⟩
    refine ⟨1, z, rfl, rfl, 1 + z, rfl, by omega, by omega, fun D nD => ?_⟩
    refine lc_range (lo := 0) (n := (1 + z).toNat) (fun i H' => ∃ ds : List Dd, ds.length = i ∧ H' D = some (.lst (ds.map dv)) ∧ Keep g.b H3 H' ∧ Bg H' g) ⟨[], rfl, upd_same, Keep.new nD, B3.new nD⟩ (fun j H' hj ⟨ds, hl, hD, kp, B'⟩ => ?_) (fun H4 ⟨one, hl1, hD1, kp4, B4⟩ => ?_)
    · refine ⟨rfl, ?_⟩
      unfold tYes
      dsimp only
      rw [if_pos rfl]
      exact ⟨_, rfl, g, rfl, B', fun d H4 kp4 B4 => grow nD B3 (by omega) hl hD kp B' kp4 B4⟩
    -- other
    refine ⟨_, rfl, g, 9, rfl, by decide, by decide, B4, fun z' H5 z0' z1' kp5 B5 => ?_⟩
    refine ⟨z', rfl, by omega, by omega, fun D2 nD2 => ?_⟩
    refine lc_range (lo := 0) (n := z'.toNat) (fun i H' => ∃ ds : List Dd, ds.length = i ∧ H' D2 = some (.lst (ds.map dv)) ∧ Keep g.b H5 H' ∧ Bg H' g) ⟨[], rfl, upd_same, Keep.new nD2, B5.new nD2⟩ (fun j H' hj ⟨ds, hl, hD, kp, B'⟩ => ?_) (fun H6 ⟨other, hl2, hD2, kp6, B6⟩ => ?_)
    · refine ⟨rfl, ?_⟩
      unfold tYes
      dsimp only
      rw [if_pos rfl]
      exact ⟨_, rfl, g, rfl, B', fun d H4 kp4 B4 => grow nD2 B5 (by omega) hl hD kp B' kp4 B4⟩
    have nDb : D ≠ g.b := B3.ne nD
    have hD6 : H6 D = some (.lst (one.map dv)) := kp6 _ _ nDb (kp5 _ _ nDb hD1)
    have nD2b : D2 ≠ g.b := B5.ne nD2
    -- many
    refine ⟨_, rfl, g, 12, rfl, by decide, by decide, B6, fun m H7 m0 m1 kp7 B7 => ?_⟩
    refine ⟨1, m, rfl, rfl, ?_⟩
    have hA : H7 D = some (.lst (one.map dv)) := kp7 _ _ nDb hD6
    have hB : H7 D2 = some (.lst (other.map dv)) := kp7 _ _ nD2b hD2
    obtain ⟨n, rfl⟩ : ∃ n : Nat, m = (n : Int) := ⟨m.toNat, by omega⟩
    have em : ((1 : Int) + (n : Int)).toNat = n + 1 := by omega
    have lA : one.length ≤ 9 := by omega
    have lB : other.length ≤ 9 := by omega
    have lR : (one.map dv).length * ((1 : Int) + (n : Int)).toNat ≤ sizeLine := by
      rw [List.length_map, em]
      refine Nat.le_trans (Nat.mul_le_mul lA (show n + 1 ≤ 12 by omega)) (by decide)
    have lC : (one.map dv).length + (other.map dv).length ≤ sizeLine := by
      rw [List.length_map, List.length_map]
      exact Nat.le_trans (show one.length + other.length ≤ 18 by omega) (by decide)
    -- tops
    refine ⟨_, rfl, D, one, rfl, SqL.of hA, fun H8 s8 => ?_⟩
    refine ⟨_, rfl, _, rfl, D, _, _, rfl, rfl, s8 _ _ hA, by omega, by omega, lR, fun p9 np9 => ?_⟩
    rw [rep_dv, em]
    refine ⟨p9, rep (n + 1) one, rfl, SqL.of upd_same, fun H9 s9 => ?_⟩
    have t9 := (s8.trans (same_upd (o := .lst ((rep (n + 1) one).map dv)) np9)).trans s9
    refine ⟨_, rfl, D2, other, rfl, SqL.of (t9 _ _ hB), fun H10 s10 => ?_⟩
    have t10 := t9.trans s10
    refine ⟨_, rfl, _, rfl, D, D2, _, _, rfl, rfl, t10 _ _ hA, t10 _ _ hB, lC, fun p11 np11 => ?_⟩
    rw [← List.map_append]
    refine ⟨p11, one ++ other, rfl, SqL.of upd_same, fun H11 s11 => ?_⟩
    have t11 := (t10.trans (same_upd (o := .lst ((one ++ other).map dv)) np11)).trans s11
    refine ⟨(by show 4 ≤ sizeLine; decide), fun tp ntp => ?_⟩
    have t12 := t11.trans (same_upd (o := .lst [.int (run one).2, .int (run (rep (n + 1) one)).2, .int (run other).2, .int (run (one ++ other)).2]) ntp)
    generalize eH : upd H11 tp (.lst [.int (run one).2, .int (run (rep (n + 1) one)).2, .int (run other).2, .int (run (one ++ other)).2]) = H12 at t12
    have hT : H12 tp = some (.lst [.int (run one).2, .int (run (rep (n + 1) one)).2, .int (run other).2, .int (run (one ++ other)).2]) := by
      rw [← eH]
      exact upd_same
    -- the first test
    refine ⟨fun σ H' => σ = [some (.ref a), some (.ref g.b), some (.int (0 + (i : Int))), some (.ref D), some (.ref D2), some (.int (1 + (n : Int))), some (.ref tp), y7, y8, none] ∧ Same H12 H', ?_, ?_⟩
    · refine ⟨_, rfl, D, one, rfl, SqL.of (t12 _ _ hA), ?_⟩
      have hm := mrk_lt one
      refine ⟨mrk one, by omega, rfl, fun H13 s13 => ⟨rfl, _, rfl, ?_⟩⟩
      rw [dear_iff _ hm]
      by_cases hd : agn (mrk one) = 5
      · refine itT hd ?_
        refine ⟨_, rfl, tp, _, 1, _, rfl, rfl, SqL.of (s13 _ _ hT), rfl, _, rfl, _, _, rfl, rfl, _, rfl, itF ?_ ⟨rfl, s13⟩⟩
        have := dear_rep hd (n + 1)
        omega
      · refine itF hd ?_
        refine ⟨_, rfl, tp, _, 1, _, rfl, rfl, SqL.of (s13 _ _ hT), rfl, _, rfl, tp, _, 0, _, rfl, rfl, SqL.of (s13 _ _ hT), rfl, _, _, rfl, rfl, .inl ⟨by decide, by decide⟩, _, _, rfl, rfl, _, rfl, itF ?_ ⟨rfl, s13⟩⟩
        have := cheap_rep hd (n + 1)
        omega
    rintro σ H13 ⟨rfl, s13⟩
    have t13 := t12.trans s13
    -- the marks
    have hm1 := mrk_lt one
    have hm2 := mrk_lt other
    refine ⟨_, rfl, D, one, rfl, SqL.of (t13 _ _ hA), _, rfl, D2, other, rfl, SqL.of (t13 _ _ hB), mrk one, mrk other, by omega, by omega, rfl, ?_⟩
    refine ⟨_, rfl, _, rfl, D, D2, _, _, rfl, rfl, t13 _ _ hA, t13 _ _ hB, lC, fun p14 np14 => ?_⟩
    rw [← List.map_append]
    have t14 := t13.trans (same_upd (o := .lst ((one ++ other).map dv)) np14)
    have s14 := s13.trans (same_upd (o := .lst ((one ++ other).map dv)) np14)
    refine ⟨p14, one ++ other, rfl, SqL.of upd_same, rfl, _, rfl, ?_⟩
    rw [mrk_app]
    refine iteNS rfl ?_
    refine ⟨_, rfl, _, rfl, D, _, _, rfl, rfl, t14 _ _ hA, by omega, by omega, lR, fun p15 np15 => ?_⟩
    rw [rep_dv, em]
    have t15 := t14.trans (same_upd (o := .lst ((rep (n + 1) one).map dv)) np15)
    have s15 := s14.trans (same_upd (o := .lst ((rep (n + 1) one).map dv)) np15)
    refine ⟨p15, rep (n + 1) one, rfl, SqL.of upd_same, _, rfl, D, one, rfl, SqL.of (t15 _ _ hA), rfl, _, rfl, ?_⟩
    rw [mrk_rep]
    refine iteNS rfl ?_
    -- the peaks
    have pa := peak_app one other
    refine ⟨_, rfl, tp, _, 3, _, rfl, rfl, SqL.of (s15 _ _ hT), rfl, _, rfl, tp, _, 0, _, rfl, rfl, SqL.of (s15 _ _ hT), rfl, _, _, rfl, rfl, _, rfl, itF (by omega) ?_⟩
    refine ⟨_, rfl, tp, _, 3, _, rfl, rfl, SqL.of (s15 _ _ hT), rfl, _, rfl, tp, _, 0, _, rfl, rfl, SqL.of (s15 _ _ hT), rfl, _, rfl, tp, _, 2, _, rfl, rfl, SqL.of (s15 _ _ hT), rfl, _, _, rfl, rfl, _, _, rfl, rfl, _, rfl, itF (by omega) ?_⟩
    -- the purses
    refine ⟨(by decide : 2 ≤ sizeLine), fun p16 np16 => ?_⟩
    have s16 := s15.trans (same_upd (o := .tup [.int 0, .int 0]) np16)
    have t16 := t15.trans (same_upd (o := .tup [.int 0, .int 0]) np16)
    refine ⟨_, rfl, D, rfl, ⟨_, SqL.of (t16 _ _ hA)⟩, for_list (K := K) (a := D) (xs := one.map dv)
      (fun j σ H' => ∃ (t : Addr) (y : Option V), σ = [some (.ref a), some (.ref g.b), some (.int (0 + (i : Int))), some (.ref D), some (.ref D2), some (.int (1 + (n : Int))), some (.ref tp), some (.ref t), y, none] ∧ Same H12 H' ∧ H' t = some (.tup [.int (run (one.take j)).1.1, .int (run (one.take j)).1.2]))
      ⟨p16, y8, rfl, s16, upd_same⟩ (fun j σ H' _ ⟨_, _, _, sm, _⟩ => SqL.of (sm _ _ (t12 _ _ hA))) ?_ ?_⟩
    · rintro j x σ H' hj ⟨t, y, rfl, sm, et⟩
      obtain ⟨d, hd, rfl⟩ := at_dv hj
      refine ⟨_, rfl, _, rfl, t, _, _, d, rfl, SqT.of et, fun p2 H'' np2 e2 => ?_⟩
      subst e2
      have e3 : (upd H' p2 (.tup [.int (stp ((run (one.take j)).1.1, (run (one.take j)).1.2) d).1, .int (stp ((run (one.take j)).1.1, (run (one.take j)).1.2) d).2])) p2 = some (.tup [.int (run (one.take (j + 1))).1.1, .int (run (one.take (j + 1))).1.2]) := by
        rw [upd_same, run_more hd]
        rfl
      have sm2 := sm.trans (same_upd (o := .tup [.int (stp ((run (one.take j)).1.1, (run (one.take j)).1.2) d).1, .int (stp ((run (one.take j)).1.1, (run (one.take j)).1.2) d).2]) np2)
      refine ⟨_, rfl, p2, [(run (one.take (j + 1))).1.1, (run (one.take (j + 1))).1.2], rfl, SqT.of e3, Nat.succ_pos 1, fun m hm hle => ?_⟩
      refine ⟨_, rfl, tp, _, 0, _, rfl, rfl, SqL.of (sm2 _ _ hT), rfl, _, _, rfl, rfl, _, rfl, itF ?_ ⟨p2, some (dv d), rfl, sm2, e3⟩⟩
      have hp := pre_le one (j + 1)
      rcases List.mem_cons.mp hm with rfl | hm
      · omega
      · rcases List.mem_cons.mp hm with rfl | hm
        · omega
        · cases hm
    · rintro σ H' ⟨t, y, rfl, sm, et⟩
      refine ⟨_, _, _, _, _, _, _, rfl, ?_⟩
      exact ((((B7.same t12)).same sm))
end
end Onp
set_option maxHeartbeats 8000000
namespace Onp
open PySem PySem.Spec PyProof.Rows L2
theorem all_mk {l : PySem.W.OpenLaw} {w : World} {K : PySem.W.Frag} {h : Heap} {mg : Str → Option Value} {fa : Addr} (X : K.In h) (G : h.Ns mainGlobals mg) (hfa : mg "law" = some (.ref fa))
    {fB : Addr} {odB anB : Option Addr} {slB : Array (Option Value)} {ocB kVB dcB pmB cdB ctB : Value}
    {fP : Addr} {odP anP : Option Addr} {slP : Array (Option Value)} {ocP kVP dcP pmP cdP ctP : Value}
    {fO : Addr} {odO anO : Option Addr} {slO : Array (Option Value)} {ocO kVO dcO pmO cdO ctO : Value}
    {fE : Addr} {odE anE : Option Addr} {slE : Array (Option Value)} {ocE kVE dcE pmE cdE ctE : Value}
    {fN : Addr} {odN anN : Option Addr} {slN : Array (Option Value)} {ocN kVN dcN pmN cdN ctN : Value}
    {fM : Addr} {odM anM : Option Addr} {slM : Array (Option Value)} {ocM kVM dcM pmM cdM ctM : Value}
    {fS : Addr} {odS anS : Option Addr} {slS : Array (Option Value)} {ocS kVS dcS pmS cdS ctS : Value}
    {fPk : Addr} {odPk anPk : Option Addr} {slPk : Array (Option Value)} {ocPk kVPk dcPk pmPk cdPk ctPk : Value}
    {fMo : Addr} {odMo anMo : Option Addr} {slMo : Array (Option Value)} {ocMo kVMo dcMo pmMo cdMo ctMo : Value}
    {fBh : Addr} {odBh anBh : Option Addr} {slBh : Array (Option Value)} {ocBh kVBh dcBh pmBh cdBh ctBh : Value}
    {fA : Addr} {odA anA : Option Addr} {slA : Array (Option Value)} {ocA kVA dcA pmA cdA ctA : Value}
    {fL : Addr} {odL anL : Option Addr} {slL : Array (Option Value)} {ocL kVL dcL pmL cdL ctL : Value}
    {tD : Addr} {itsD : Array Value} {nD : Nat} {stD : Array (Option Value)}
    {tM_ : Addr} {itsM_ : Array Value} {nM_ : Nat} {stM_ : Array (Option Value)}
    {tK_ : Addr} {itsK_ : Array Value} {nK_ : Nat} {stK_ : Array (Option Value)}
    (aB : PySem.W.nsIn K mainGlobals "_law_bag" = some (some (.ref fB))) (lB : K.lookup fB = some ⟨ocB, odB, .func (PySem.W.fnOf "_law_bag" "_law_bag" (defArgs sBag) (defBody sBag) (defScope sBag) .none kVB dcB pmB anB cdB ctB), slB⟩) (cB : PySem.W.codeIn K cdB "_law_bag" = true) (kB : PySem.W.keepIn K (.ref fB) = true)
    (aP : PySem.W.nsIn K mainGlobals "_law_pull" = some (some (.ref fP))) (lP : K.lookup fP = some ⟨ocP, odP, .func (PySem.W.fnOf "_law_pull" "_law_pull" (defArgs sPull) (defBody sPull) (defScope sPull) .none kVP dcP pmP anP cdP ctP), slP⟩) (cP : PySem.W.codeIn K cdP "_law_pull" = true) (kP : PySem.W.keepIn K (.ref fP) = true)
    (aO : PySem.W.nsIn K mainGlobals "_law_of" = some (some (.ref fO))) (lO : K.lookup fO = some ⟨ocO, odO, .func (PySem.W.fnOf "_law_of" "_law_of" (defArgs sOf) (defBody sOf) (defScope sOf) .none kVO dcO pmO anO cdO ctO), slO⟩) (cO : PySem.W.codeIn K cdO "_law_of" = true) (kO : PySem.W.keepIn K (.ref fO) = true)
    (aE : PySem.W.nsIn K mainGlobals "_law_deed" = some (some (.ref fE))) (lE : K.lookup fE = some ⟨ocE, odE, .func (PySem.W.fnOf "_law_deed" "_law_deed" (defArgs sDeed) (defBody sDeed) (defScope sDeed) .none kVE dcE pmE anE cdE ctE), slE⟩) (cE : PySem.W.codeIn K cdE "_law_deed" = true) (kE : PySem.W.keepIn K (.ref fE) = true)
    (aN : PySem.W.nsIn K mainGlobals "need_deed" = some (some (.ref fN))) (lN : K.lookup fN = some ⟨ocN, odN, .func (PySem.W.fnOf "need_deed" "need_deed" (defArgs sNeedD) (defBody sNeedD) (defScope sNeedD) .none kVN dcN pmN anN cdN ctN), slN⟩) (cN : PySem.W.codeIn K cdN "need_deed" = true) (kN : PySem.W.keepIn K (.ref fN) = true)
    (aM : PySem.W.nsIn K mainGlobals "need_mark" = some (some (.ref fM))) (lM : K.lookup fM = some ⟨ocM, odM, .func (PySem.W.fnOf "need_mark" "need_mark" (defArgs sNeedM) (defBody sNeedM) (defScope sNeedM) .none kVM dcM pmM anM cdM ctM), slM⟩) (cM : PySem.W.codeIn K cdM "need_mark" = true) (kM : PySem.W.keepIn K (.ref fM) = true)
    (aS : PySem.W.nsIn K mainGlobals "spend" = some (some (.ref fS))) (lS : K.lookup fS = some ⟨ocS, odS, .func (PySem.W.fnOf "spend" "spend" (defArgs sSpend) (defBody sSpend) (defScope sSpend) .none kVS dcS pmS anS cdS ctS), slS⟩) (cS : PySem.W.codeIn K cdS "spend" = true) (kS : PySem.W.keepIn K (.ref fS) = true)
    (aPk : PySem.W.nsIn K mainGlobals "peak" = some (some (.ref fPk))) (lPk : K.lookup fPk = some ⟨ocPk, odPk, .func (PySem.W.fnOf "peak" "peak" (defArgs sPeak) (defBody sPeak) (defScope sPeak) .none kVPk dcPk pmPk anPk cdPk ctPk), slPk⟩) (cPk : PySem.W.codeIn K cdPk "peak" = true) (kPk : PySem.W.keepIn K (.ref fPk) = true)
    (aMo : PySem.W.nsIn K mainGlobals "mark_of" = some (some (.ref fMo))) (lMo : K.lookup fMo = some ⟨ocMo, odMo, .func (PySem.W.fnOf "mark_of" "mark_of" (defArgs sMarkOf) (defBody sMarkOf) (defScope sMarkOf) .none kVMo dcMo pmMo anMo cdMo ctMo), slMo⟩) (cMo : PySem.W.codeIn K cdMo "mark_of" = true) (kMo : PySem.W.keepIn K (.ref fMo) = true)
    (aBh : PySem.W.nsIn K mainGlobals "behind" = some (some (.ref fBh))) (lBh : K.lookup fBh = some ⟨ocBh, odBh, .func (PySem.W.fnOf "behind" "behind" (defArgs sBehind) (defBody sBehind) (defScope sBehind) .none kVBh dcBh pmBh anBh cdBh ctBh), slBh⟩) (cBh : PySem.W.codeIn K cdBh "behind" = true) (kBh : PySem.W.keepIn K (.ref fBh) = true)
    (aA : PySem.W.nsIn K mainGlobals "again" = some (some (.ref fA))) (lA : K.lookup fA = some ⟨ocA, odA, .func (PySem.W.fnOf "again" "again" (defArgs sAgain) (defBody sAgain) (defScope sAgain) .none kVA dcA pmA anA cdA ctA), slA⟩) (cA : PySem.W.codeIn K cdA "again" = true) (kA : PySem.W.keepIn K (.ref fA) = true)
    (aL : PySem.W.nsIn K mainGlobals "law" = some (some (.ref fL))) (lL : K.lookup fL = some ⟨ocL, odL, .func (PySem.W.fnOf "law" "law" (defArgs sLaw) (defBody sLaw) (defScope sLaw) .none kVL dcL pmL anL cdL ctL), slL⟩) (cL : PySem.W.codeIn K cdL "law" = true) (kL : PySem.W.keepIn K (.ref fL) = true)
    (taD : PySem.W.nsIn K mainGlobals "DEEDS" = some (some (.ref tD))) (tlD : K.lookup tD = some ⟨.type "tuple", none, .seq itsD nD, stD⟩) (tvD : Vals (deedsL.map V.str) itsD.toList)
    (taM_ : PySem.W.nsIn K mainGlobals "MARKS" = some (some (.ref tM_))) (tlM_ : K.lookup tM_ = some ⟨.type "tuple", none, .seq itsM_ nM_, stM_⟩) (tvM_ : Vals (marksL.map V.str) itsM_.toList)
    (taK_ : PySem.W.nsIn K mainGlobals "MAKING" = some (some (.ref tK_))) (tlK_ : K.lookup tK_ = some ⟨.type "tuple", none, .seq itsK_ nK_, stK_⟩) (tvK_ : Vals (makingL.map V.str) itsK_.toList)
    (z_len : PySem.W.nsIn K mainGlobals "len" = some none)
    (z_list : PySem.W.nsIn K mainGlobals "list" = some none)
    (z_max : PySem.W.nsIn K mainGlobals "max" = some none)
    (z_range : PySem.W.nsIn K mainGlobals "range" = some none) :
    ∃ fd : FuncData, (∀ (s : Shared) (v : Value), BindsTo s fd ⟨[v], []⟩ [("_law_script", v)]) ∧ ∀ base : Heap, K.In base → base.Ns mainGlobals mg → FnOk l.prog w K mg base CX0 4 fa fd ["_law_script"] (spLaw K) := by
  have e := hfa.symm.trans (PySem.W.mg_of X G aL)
  cases e
  have FB := fun_mk (st := sBag) lB cB kB
  have FP := fun_mk (st := sPull) lP cP kP
  have FO := fun_mk (st := sOf) lO cO kO
  have FE := fun_mk (st := sDeed) lE cE kE
  have FN := fun_mk (st := sNeedD) lN cN kN
  have FM := fun_mk (st := sNeedM) lM cM kM
  have FS := fun_mk (st := sSpend) lS cS kS
  have FPk := fun_mk (st := sPeak) lPk cPk kPk
  have FMo := fun_mk (st := sMarkOf) lMo cMo kMo
  have FBh := fun_mk (st := sBehind) lBh cBh kBh
  have FA := fun_mk (st := sAgain) lA cA kA
  have FL := fun_mk (st := sLaw) lL cL kL
  have bB := FB.binds (ps := ["_law_script"]) fun _ _ _ _ _ _ us hl => match us, hl with | [_], _ => rfl
  have bP := FP.binds (ps := ["_law_bag_here", "_law_many"]) fun _ _ _ _ _ _ us hl => match us, hl with | [_, _], _ => rfl
  have bO := FO.binds (ps := ["_law_bag_here", "_law_some"]) fun _ _ _ _ _ _ us hl => match us, hl with | [_, _], _ => rfl
  have bE := FE.binds (ps := ["_law_bag_here"]) fun _ _ _ _ _ _ us hl => match us, hl with | [_], _ => rfl
  have bN := FN.binds (ps := ["deed"]) fun _ _ _ _ _ _ us hl => match us, hl with | [_], _ => rfl
  have bM := FM.binds (ps := ["mark"]) fun _ _ _ _ _ _ us hl => match us, hl with | [_], _ => rfl
  have bS := FS.binds (ps := ["purses", "deed"]) fun _ _ _ _ _ _ us hl => match us, hl with | [_, _], _ => rfl
  have bPk := FPk.binds (ps := ["deeds"]) fun _ _ _ _ _ _ us hl => match us, hl with | [_], _ => rfl
  have bMo := FMo.binds (ps := ["deeds"]) fun _ _ _ _ _ _ us hl => match us, hl with | [_], _ => rfl
  have bBh := FBh.binds (ps := ["one", "other"]) fun _ _ _ _ _ _ us hl => match us, hl with | [_, _], _ => rfl
  have bA := FA.binds (ps := ["mark"]) fun _ _ _ _ _ _ us hl => match us, hl with | [_], _ => rfl
  have sq : ∀ {t : Addr} {its : Array Value} {n : Nat} {st : Array (Option Value)} {xs : List V}, xs.length ≤ 1000 → K.lookup t = some ⟨.type "tuple", none, .seq its n, st⟩ → Vals xs its.toList → ∀ H, SqT K H t xs := fun hx e v H =>
    .inr ⟨_, _, _, e, rfl, rfl, by have q := v.length; simp only [Array.length_toList] at q; have q2 := small1000 hx; omega, v⟩
  have T : Tups K mg tD tM_ tK_ := ⟨PySem.W.mg_of X G taD, PySem.W.mg_of X G taM_, PySem.W.mg_of X G taK_, sq (by decide) tlD tvD, sq (by decide) tlM_ tvM_, sq (by decide) tlK_ tvK_, ⟨_, tlK_, rfl, rfl⟩⟩
  exact ⟨_, fun s v => .of_eq rfl, fun base _ _ =>
    ok_law FL ⟨FB, bB, PySem.W.mg_of X G aB⟩ ⟨FP, bP, PySem.W.mg_of X G aP⟩ ⟨FO, bO, PySem.W.mg_of X G aO⟩ ⟨FE, bE, PySem.W.mg_of X G aE⟩ ⟨FN, bN, PySem.W.mg_of X G aN⟩ ⟨FM, bM, PySem.W.mg_of X G aM⟩ ⟨FS, bS, PySem.W.mg_of X G aS⟩ ⟨FPk, bPk, PySem.W.mg_of X G aPk⟩ ⟨FMo, bMo, PySem.W.mg_of X G aMo⟩ ⟨FBh, bBh, PySem.W.mg_of X G aBh⟩ ⟨FA, bA, PySem.W.mg_of X G aA⟩
      T (PySem.W.mg_none_of X G z_len) (PySem.W.mg_none_of X G z_list) (PySem.W.mg_none_of X G z_max) (PySem.W.mg_none_of X G z_range)⟩
end Onp
open PySem PySem.W PyProof.Rows
set_option maxRecDepth 100000 in
set_option maxHeartbeats 0 in
theorem PySem.Challenge.cw_onepurse_k04_whole_rows_gone_again_and_a_holds : PySem.Challenge.rw_onepurse_k04_whole_rows_gone_again_and_a.Holds := by
  w_on; o_law; k_head; (case hw => w_witness2)
  k_fill
  refine L2.walk_of (l := PySem.Challenge.rw_onepurse_k04_whole_rows_gone_again_and_a) (n := 63) (k := 4) (x := "_law_script") (CX := fun _ => L2.CX0) (sp := fun w => Onp.spLaw _) rfl (by decide) rfl ⟨rfl, by decide, by decide⟩ (fun w h Y => PySem.W.kIn_of Y) ?F (fun _ _ a ns hl _ hS => ⟨a, ns, rfl, hS, fun _ => rfl⟩) (fun _ _ _ _ _ h => h)
  case F =>
    intro w mg fa h KX G hmg
    refine' Onp.all_mk KX G hmg ?aB ?lB ?cB ?kB ?aP ?lP ?cP ?kP ?aO ?lO ?cO ?kO ?aE ?lE ?cE ?kE ?aN ?lN ?cN ?kN ?aM ?lM ?cM ?kM ?aS ?lS ?cS ?kS ?aPk ?lPk ?cPk ?kPk ?aMo ?lMo ?cMo ?kMo ?aBh ?lBh ?cBh ?kBh ?aA ?lA ?cA ?kA ?aL ?lL ?cL ?kL ?taD ?tlD ?tvD ?taM_ ?tlM_ ?tvM_ ?taK_ ?tlK_ ?tvK_ ?z_len ?z_list ?z_max ?z_range
    (case aB => k_is)
    (case lB => k_is)
    (case cB => k_is)
    (case kB => k_is)
    (case aP => k_is)
    (case lP => k_is)
    (case cP => k_is)
    (case kP => k_is)
    (case aO => k_is)
    (case lO => k_is)
    (case cO => k_is)
    (case kO => k_is)
    (case aE => k_is)
    (case lE => k_is)
    (case cE => k_is)
    (case kE => k_is)
    (case aN => k_is)
    (case lN => k_is)
    (case cN => k_is)
    (case kN => k_is)
    (case aM => k_is)
    (case lM => k_is)
    (case cM => k_is)
    (case kM => k_is)
    (case aS => k_is)
    (case lS => k_is)
    (case cS => k_is)
    (case kS => k_is)
    (case aPk => k_is)
    (case lPk => k_is)
    (case cPk => k_is)
    (case kPk => k_is)
    (case aMo => k_is)
    (case lMo => k_is)
    (case cMo => k_is)
    (case kMo => k_is)
    (case aBh => k_is)
    (case lBh => k_is)
    (case cBh => k_is)
    (case kBh => k_is)
    (case aA => k_is)
    (case lA => k_is)
    (case cA => k_is)
    (case kA => k_is)
    (case aL => k_is)
    (case lL => k_is)
    (case cL => k_is)
    (case kL => k_is)
    (case taD => k_is)
    (case tlD => k_is)
    (case tvD => (repeat first | exact .nil | refine .cons ⟨_, rfl⟩ ?_))
    (case taM_ => k_is)
    (case tlM_ => k_is)
    (case tvM_ => (repeat first | exact .nil | refine .cons ⟨_, rfl⟩ ?_))
    (case taK_ => k_is)
    (case tlK_ => k_is)
    (case tvK_ => (repeat first | exact .nil | refine .cons ⟨_, rfl⟩ ?_))
    (case z_len => k_is)
    (case z_list => k_is)
    (case z_max => k_is)
    (case z_range => k_is)
