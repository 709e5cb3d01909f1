import PyProof.Rows.All
import Wide.All
import OpenK.AllK
import Wide.FinOn
import HandS.ForMost
import HandS.SetFor
import HandS.Strs
import HandS.SetBool
import HandS.More
import HandS.Defaults
import HandS.Conv
import HandS.TupAny
import HandS.SortInts
import HandS.IsInst
import HandS.CallLocal
import HandS.Wide
import HandS.EndBits
import HandS.Flow
import HandS.Style
import HandS.Codes
import KE.KDictPairs
import PySem.Challenge.RW_tellalike_k21_weaker_concepts
import HandS.TupSets
import KE.KeyNested
import KE.LtData
import KE.DataEq
import KE.KSortTupG
import KE.SortData
import PyProof.ReprBulk
set_option Elab.async false
set_option linter.all false
set_option maxRecDepth 100000
/-! my own rules over the layer: extend by a tuple, set of ints, repr of data, dict of a tuple of pairs -/
namespace Tl
open PySem PySem.Spec PyProof.Rows L2
section
variable {X : Cx}
/-! ### list.extend(tuple) -/
def rExtT (K : PySem.W.Frag) : V → List V → Hp → VK → Prop := fun x vs H Q => ∃ (l b : Addr) (xs zs : List V),
  x = V.ref l ∧ vs = [V.ref b] ∧ H l = some (.lst xs) ∧ SqT K H b zs ∧ xs.length + zs.length ≤ sizeLine ∧
    Q V.non (upd H l (.lst (xs ++ zs)))
theorem meets_extT {l b : Addr} {own its : Array Value} {n : Nat} (sz : own.size + its.size ≤ sizeLine) :
    Meets (Builtin.«list.extend» ⟨[.ref l, .ref b], []⟩) (fun _ R s =>
      s.heap.get? l = some { cls := .type "list", data := .seq own n } ∧ PyProof.Rows.IsTup s.heap b its ∧
        R (.ok (.ret Value.none)) { s with heap := s.heap.update l (Obj.mapSeq fun z => z ++ its) }) := by
  intro prog w A R s ⟨g1, ⟨o, g2, g3, m, g4⟩, fin⟩
  show wpAny _ A.in1 (Builtin.List.listExtendWith (.ref l) (.ref b) .none) _ _ s
  unfold Builtin.List.listExtendWith
  refine wpAny_bind (wpAny_typeOf (T := "tuple") ⟨o, g2, g3⟩ ?_)
  have yes : (Builtin.List.listSameRef (.ref l) (.ref b) || Value.type "tuple" == Value.type "list" || Value.type "tuple" == Value.type "tuple") = true := by simp
  simp only [yes, if_true]
  refine wpAny_bind ?_
  unfold Builtin.List.listItems
  refine wpAny_bind (wpAny_seqItems g2 g4 (wpAny_pure ?_))
  refine wpAny_bind ?_
  refine wpAny_bind (wpAny_seqItems g1 rfl (wpAny_pure ?_))
  have nl : (!own.isEmpty && Builtin.List.listTooLong (own.size + its.size)) = false := by
    rw [notLongL sz, Bool.and_false]
  simp only [nl, Bool.false_eq_true, if_false]
  show wpAny _ A.in1 (updateSeq l (fun z => z ++ its) >>= fun _ => ret Value.none) _ _ s
  refine wpAny_bind (wpAny_updateSeq g1 rfl ?_ (by omega) (by rw [Array.size_append]; omega))
  exact wpAny_pure fin
theorem mt_extT : MtM X "list.extend" (rExtT X.K) := by
  intro pins s σ H x vs v us Q I rx rv ⟨l, b, xs, zs, e1, e2, h1, h2, h3, q⟩
  subst e1 e2
  cases rx
  obtain ⟨u, e3, ru⟩ := rv.one
  subst e3
  cases ru
  obtain ⟨k1, own, n, r1, l1, g1⟩ := I.lstM h1
  obtain ⟨its, r2, g2, l2⟩ := I.tuple h2
  have k2 := r2.length
  refine call_meets PySem.F.slot_list_extend ⟨_, g1, rfl⟩ PySem.F.entry_list_extend (PySem.F.args_list_extend_2 _ _)
    (meets_extT (its := its.toArray) (by rw [List.size_toArray, List.size_toArray]; omega)) ⟨g1, g2, ?_⟩
  refine ⟨.non, _, I.lset (its' := own ++ its) h1 g1 (by simp) (r1.append r2) ?_, rfl, q⟩
  rw [List.length_append]
  omega
end
end Tl
set_option Elab.async false
set_option linter.all false
set_option maxRecDepth 100000
/-! set(l), l a list of ints; set(t); the rule for both -/
namespace Tl
open PySem PySem.Spec PyProof.Rows L2
/-- the object that a new set begins as -/
abbrev nu (w : World) : Obj := { cls := .type "set", dict := none, data := .set #[] 0 (.fresh 0 0 (!w.params.followText "set-order")) }
section
variable {P : Program} {w : World} {A : Around} {E : Value → Shared → Prop} {s : Shared}
set_option maxHeartbeats 3200000 in
theorem set_list_ints {l : Addr} {vs : Array Value} (ns : List Int) {Q : Value → Shared → Prop} (calm : A.handled = none) (at_ : s.heap.IsList l vs)
    (are : IntsAre vs.toList ns) (few : ns.length + 1 < scanBound)
    (go : ∀ (h' : Heap) (tk c : Nat), SetR w h' s.heap.objs.size (fun j => decide (j ∈ ns)) c → c ≤ ns.length →
      (∀ b o, s.heap.get? b = some o → h'.get? b = some o) → Q (.ref s.heap.objs.size) { s with heap := h', toks := tk }) :
    wpAny (model P w) A (call (.type "set") [.ref l]) Q E s := by
  have same : vs.size = ns.length := (Array.length_toList (xs := vs)).symm.trans (IntsAre.length are)
  obtain ⟨c0, tl0, mro0⟩ := F.called_set.mro
  have f1 := F.called_set.made
  have f2 := F.called_set.sub
  refine wpAny_call (codeAny_of_tree ?_)
  show wpAny _ _ (callAny (.type "set") _) _ _ _
  refine wpAny_pure ⟨Code.quiet_builtin _ (by decide +kernel), codeAny_builtin F.entry_type_call ?_⟩
  rw [Around.under_plain (weight_type_call_type "set" [.ref l] []) rfl]
  have f3 := F.called_set.notType
  have f4 := F.called_set.canCreate
  have f5 := F.typeCall_set_1 (.ref l)
  repeat (any_goals (first | assumption | wp_step))
  -- the new set
  refine codeAny_mono (code_set_led1 (.ref l) (E := E) (Q₁ := fun x t => x = .ref s.heap.objs.size ∧ t = { s with heap := s.heap.push (nu w) }) ⟨rfl, rfl⟩) fun r t hr => ?_
  match r, hr with
  | .error _, hr => exact hr
  | .ok .next, hr => exact hr.elim
  | .ok .brk, hr => exact hr.elim
  | .ok .cont, hr => exact hr.elim
  | .ok (.ret x), hr =>
    obtain ⟨e1, e2⟩ := hr
    subst e1 e2
    have g0 : (s.heap.push (nu w)).get? s.heap.objs.size = some (nu w) := Heap.get?_push_size _ rfl
    have ty0 : Shared.TypeIs { s with heap := s.heap.push (nu w) } (.ref s.heap.objs.size) "set" := ⟨_, g0, rfl⟩
    have f6 := F.called_set.init.lookup
    have f7 := F.called_set.init.bind (.ref s.heap.objs.size)
    repeat (any_goals (first | assumption | wp_step))
    -- it is filled
    refine codeAny_mono (codeAny_call_builtin (R := wants (fun r t => r = .none ∧ ∃ h' tk c, t = { s with heap := h', toks := tk } ∧ SetR w h' s.heap.objs.size (fun j => decide (j ∈ ns)) c ∧ c ≤ ns.length ∧
        ∀ b o, s.heap.get? b = some o → h'.get? b = some o) E) F.called_set.init.plain F.entry_set_init (check_set_init_1 ty0 ?_)) fun r t ht => ?_
    · obtain ⟨⟨oc, od, odt, osl⟩, ho, hoc, n, hod⟩ := at_
      simp only at hoc hod
      subst hoc hod
      have ho1 : (s.heap.push (nu w)).get? l = some { cls := .type "list", dict := od, data := .seq vs n, slots := osl } := Heap.get?_push_of_some _ ho
      have f8 := F.sub_list_set
      have f9 := F.sub_list_frozenset
      have f10 : (Value.type "list" == Value.type "dict") = false := by decide
      have isl : (s.heap.push (nu w)).IsList l vs := ⟨_, ho1, rfl, n, rfl⟩
      unfold Builtin.«set.__init__» noKeywords Builtin.Frozenset.updateFrom
      generalize hit : pyIter = it
      wp_walk
      subst hit
      refine wpAny_pyIter_list isl ?_
      refine wpAny_bind (wpAny_runValue ?_)
      have low : l < s.heap.objs.size := Heap.lt_size ho
      have calm3 : A.in1.in1.in1.handled = none := by simp [calm]
      have ne1 : l ≠ (s.heap.push (nu w)).objs.size := by
        rw [Heap.size_push]
        exact Nat.ne_of_lt (Nat.lt_succ_of_lt low)
      have off : s.heap.objs.size ∉ [(s.heap.push (nu w)).objs.size, l] := by
        intro hm
        rw [Heap.size_push] at hm
        rcases List.mem_cons.mp hm with q | hm
        · exact absurd q (Nat.ne_of_lt (Nat.lt_succ_self _))
        · exact absurd (List.mem_singleton.mp hm) (Nat.ne_of_gt low)
      refine set_update_ints ((Walks.list calm3 _ l ne1 vs).toS) s.heap.objs.size off ns same few (fun i v hv => ?_) (vs.size - 0) 0 _ (by omega) (Nat.zero_le _)
        ⟨⟨_, Heap.get?_push_size _ rfl, rfl, rfl⟩, isl.push _⟩ ⟨0, Nat.le_refl 0, setR_new_at (Heap.get?_push_of_some _ g0)⟩ fun t' c moved le set' => ?_
      · have hi : i < ns.length := same ▸ (Array.getElem?_eq_some_iff.mp hv).1
        obtain ⟨t, e⟩ := PyProof.Rows.IntsAre.int_at are i v (by rw [Array.getElem?_toList]; exact hv)
        refine ⟨ns[i], t, List.getElem?_eq_getElem hi, ?_⟩
        rw [e, List.getD_eq_getElem?_getD, List.getElem?_eq_getElem hi] <;> rfl
      · obtain ⟨h', g2, d', tk', os'⟩ := t'
        obtain rfl : g2 = s.gens := moved.gens
        obtain rfl : d' = s.drawn := moved.drawn
        obtain rfl : os' = s.os := moved.os
        show wpAny _ _ _ _ _ _
        refine wpAny_pure ?_
        show wpAny _ _ (ret Value.none) _ _ _
        refine wpAny_pure ⟨rfl, h', tk', c, rfl, set', by omega, fun b o e => ?_⟩
        have lb : b < s.heap.objs.size := Heap.lt_size e
        refine moved.heap b o (fun hm => ?_) (Heap.get?_push_of_some _ (Heap.get?_push_of_some _ e))
        rcases List.mem_cons.mp hm with q | hm
        · exact absurd q (Nat.ne_of_lt lb)
        · have q := List.mem_singleton.mp hm
          have q2 : b = s.heap.objs.size + 1 := q.trans (Heap.size_push ..)
          rw [q2] at lb
          exact absurd lb (Nat.not_lt.mpr (Nat.le_succ _))
    · match r, ht with
      | .error _, ht => exact ht
      | .ok .next, ht => exact ht.elim
      | .ok .brk, ht => exact ht.elim
      | .ok .cont, ht => exact ht.elim
      | .ok (.ret x), ht =>
        obtain ⟨rfl, h', tk, c, rfl, set', le, keep⟩ := ht
        repeat (any_goals (first | assumption | wp_step))
        exact go _ _ _ set' le keep
end
section
variable {X : Cx}
/-- set(x), x a list or a tuple of ints -/
def rSetI (K : PySem.W.Frag) (w : World) : List V → Hp → VK → Prop := fun vs H Q => ∃ (p : Addr) (ns : List Int), vs = [V.ref p] ∧
  (SqL K H p (ns.map V.int) ∨ SqT K H p (ns.map V.int)) ∧ ns.length ≤ 1000 ∧
    ∀ (a : Addr) (c : Nat), c ≤ ns.length → H a = none → Q (V.ref a) (upd H a (SetO w a (fun j => decide (j ∈ ns)) c))
theorem cr_setI (calm : X.calm = true) : CallR X (.type "set") (rSetI X.K X.w) := by
  intro pins s σ H xs us Q I r ⟨p, ns, e, sq, few, q⟩
  subst e
  rw [Vals.ref1 r]
  have bound : ns.length + 1 < scanBound := Nat.lt_of_le_of_lt (Nat.add_le_add_right few 1) (by decide)
  have done : ∀ (h' : Heap) (tk c : Nat), SetR X.w h' s.heap.objs.size (fun j => decide (j ∈ ns)) c → c ≤ ns.length → (∀ b o, s.heap.get? b = some o → h'.get? b = some o) →
      EP X pins σ Q (.ref s.heap.objs.size) { s with heap := h', toks := tk } := fun h' tk c R le k =>
    ⟨.ref s.heap.objs.size, _, I.laid k (Nat.le_refl _) (setO_new R), rfl, q _ c le (I.hok.fresh (Nat.le_refl _))⟩
  rcases sq with sq | sq
  · obtain ⟨its, rv, ⟨o, n, ho, hc, hd, hdat⟩, _⟩ := I.list sq
    exact set_list_ints ns (I.ok.hd calm) ⟨o, ho, hc, n, hdat⟩ (ints_of_vals rv) bound done
  · obtain ⟨its, rv, ⟨o, ho, hc, n, hdat⟩, _⟩ := I.tuple sq
    exact call_set_tupI ns (I.ok.hd calm) ⟨o, ho, hc, n, hdat⟩ (ints_of_vals rv) bound done
end
end Tl
set_option Elab.async false
set_option linter.all false
set_option maxRecDepth 100000
set_option maxHeartbeats 2000000
/-! repr of data, dict(t) of a tuple of pairs, {e for x in xs if ..} with any add -/
namespace Tl
open PySem PySem.Spec PyProof.Rows L2
section
variable {X : Cx}
/-! ### repr -/
def rRepD (K : PySem.W.Frag) : List V → Hp → VK → Prop := fun xs H Q => ∃ (v : V) (d : PyData), xs = [v] ∧ Dp K H v d ∧ d.showable = true ∧
  d.hasDict = false ∧ d.depth ≤ 60 ∧ d.shown.length ≤ sizeLine ∧ Q (.str d.shown) H
theorem cr_repD (bare : X.A.guards = some []) (hu : X.A.units + 64 < cLine) : CallR X (.builtin "repr") (rRepD X.K) := by
  intro pins s σ H xs us Q I r ⟨v, d, e, hd, h1, h2, h3, h4, q⟩
  subst e
  obtain ⟨u, e, ru⟩ := r.one
  subst e
  obtain ⟨as, rd⟩ := Dp.reads I d v u hd ru
  cases hd with
  | non =>
    cases ru
    exact PySem.P.repr_of_none ⟨.str _, H, I.tok _, ⟨_, rfl⟩, q⟩
  | bl b =>
    cases ru
    exact PySem.P.repr_of_bool ⟨.str _, H, I.tok _, ⟨_, rfl⟩, q⟩
  | int i =>
    obtain ⟨t, rfl⟩ := ru
    exact PySem.P.repr_of_int (by simpa [PyData.showable] using h1) ⟨.str _, H, I.tok _, ⟨_, rfl⟩, q⟩
  | str x =>
    obtain ⟨t, rfl⟩ := ru
    exact PySem.P.repr_of_str ⟨.str _, H, I.tok _, ⟨_, rfl⟩, q⟩ h4
  | lst _ _ =>
    cases ru
    exact repr_of_reads' rd h1 (fun z => by rw [h2] at z; cases z) bare (by omega) (fun _ _ z => z) (fun h' u tk k => ⟨.str _, H, I.kept k, ⟨_, rfl⟩, q⟩) h4
  | tup _ _ =>
    cases ru
    exact repr_of_reads' rd h1 (fun z => by rw [h2] at z; cases z) bare (by omega) (fun _ _ z => z) (fun h' u tk k => ⟨.str _, H, I.kept k, ⟨_, rfl⟩, q⟩) h4
/-! ### tuple(l), told with its object: it has no dict of its own -/
def rTupF (K : PySem.W.Frag) : List V → Hp → VK → Prop := fun xs H Q => ∃ (p : Addr) (ys : List V), xs = [V.ref p] ∧ SqL K H p ys ∧
  ∀ (l : Addr) (o : Obj), H l = none → o.dict = none → Q (V.ref l) (upd H l (.frz o (.tup ys)))
theorem cr_tupF : CallR X (.type "tuple") (rTupF X.K) := by
  intro pins s σ H xs us Q I r ⟨p, ys, e, sq, q⟩
  subst e
  rw [Vals.ref1 r]
  obtain ⟨its, rv, pl, sz⟩ := I.list sq
  have hl := rv.length
  refine call_tuple_list pl.isList (fun h' kp => ?_) (by rw [List.size_toArray]; omega)
  have J : Inv X pins σ H { s with heap := h' } := I.kept (t' := s.toks) kp
  refine ⟨.ref h'.objs.size, _, J.laid (t' := s.toks) (o := .frz { cls := .type "tuple", data := .seq its.toArray } (.tup ys)) (fun b o e => Heap.get?_push_of_some _ e) (Nat.le_refl _) ?_, rfl, q _ _ (J.hok.fresh (Nat.le_refl _)) rfl⟩
  exact ⟨Heap.get?_push_size _ rfl, sz, its, rv, IsTup.new _ _⟩
/-! ### dict(t), t a tuple of pairs -/
def rDctT (K : PySem.W.Frag) : List V → Hp → VK → Prop := fun xs H Q => ∃ (a : Addr) (o : Obj) (ps : List Addr) (kvs : List (Key × V)), xs = [V.ref a] ∧ H a = some (.frz o (.tup (ps.map V.ref))) ∧ o.dict = none ∧
  Paired (fun p kv => SqT K H p [kV kv.1, kv.2]) ps kvs ∧ ∀ p, H p = none → Q (V.ref p) (upd H p (.dK (mergeK [] kvs)))
theorem cr_dctT (calm : X.calm = true) : CallR X (.type "dict") (rDctT X.K) := by
  intro pins s σ H xs us Q I r ⟨a, o, ps, kvs, e, ha, nod, prd, q⟩
  subst e
  rw [Vals.ref1 r]
  obtain ⟨ho, sz, its, rv, o2, ho2, hc, n, hdat⟩ := I.hok a _ ha
  obtain rfl : o = o2 := Option.some.inj (ho.symm.trans ho2)
  have ei := refs_at rv
  subst ei
  rw [List.length_map] at sz
  obtain ⟨prs, rel, hl, hp⟩ := pairs_of I prd
  -- each pair's key as a value
  have keys : ∀ j : Nat, ∃ u : Value, ∀ q : Key × Value, prs[j]? = some q → ∃ b, ps[j]? = some b ∧ IsTup s.heap b #[u, q.2] ∧ keyIs q.1 u = true := fun j => by
    cases e : prs[j]? with
    | none => exact ⟨.none, fun q z => by cases z⟩
    | some q0 =>
      obtain ⟨b, u, e1, e2, e3⟩ := hp j q0 e
      exact ⟨u, fun q z => by cases z; exact ⟨b, e1, e2, e3⟩⟩
  obtain ⟨ku, hku⟩ := Classical.axiomOfChoice keys
  let pv2 : List (Value × Value) := prs.mapIdx fun j q => (ku j, q.2)
  have at2 : ∀ (j : Nat) (k v : Value), pv2[j]? = some (k, v) → ∃ q, prs[j]? = some q ∧ k = ku j ∧ v = q.2 := fun j k v e => by
    rw [List.getElem?_mapIdx] at e
    cases e2 : prs[j]? with
    | none => rw [e2] at e; cases e
    | some q =>
      rw [e2] at e
      cases e
      exact ⟨q, rfl, rfl, rfl⟩
  have len2 : pv2.length = ps.length := by rw [List.length_mapIdx, hl]
  refine PySem.call_dict_pairs (knd := mixKind X.prog X.w) (kvs := prs) (PySem.PairArg.tuple a _ (fun j => ps.getD j 0) pv2) (I.ok.hd calm)
    ⟨⟨o, n, ho, hc, nod, hdat⟩, by rw [List.size_toArray, List.length_map, len2], fun j k v e => ?_⟩ ⟨by rw [len2, hl], fun j k v e => ?_⟩ (by rw [len2]; exact sz) fun h' tk hd' k => ?_
  · obtain ⟨q, e1, rfl, rfl⟩ := at2 j k v e
    obtain ⟨b, e2, e3, _⟩ := hku j q e1
    refine ⟨by simp [e2], .inl ?_⟩
    have eb : ps.getD j 0 = b := by rw [List.getD_eq_getElem?_getD, e2] <;> rfl
    show IsTup s.heap (ps.getD j 0) _
    rw [eb]
    exact e3
  · obtain ⟨q, e1, rfl, rfl⟩ := at2 j k v e
    obtain ⟨b, e2, e3, e4⟩ := hku j q e1
    exact ⟨q.1, e1, e4⟩
  · have hm : (s.heap.objs.size == sysModules) = false := beq_eq_false_iff_ne.mpr (Nat.ne_of_gt I.big)
    have hlen : (mergeK [] kvs).length ≤ sizeLine := by
      have z := length_mergeK kvs []
      rw [List.length_nil, Nat.zero_add, rel.length, hl] at z
      exact Nat.le_trans z sz
    exact ⟨.ref s.heap.objs.size, _, I.laid (t' := tk) (o := .dK (mergeK [] kvs)) (fun b o e => k b o (by simp) e) (Nat.le_refl _) ⟨hlen, hm, merged [] prs, KV.merge rel .nil, hd'⟩, rfl, q _ (I.hok.fresh (Nat.le_refl _))⟩
end
end Tl
set_option Elab.async false
set_option linter.all false
set_option maxRecDepth 100000
set_option maxHeartbeats 2000000
/-! {e for x in xs if ..}: o0 is what the new set is tracked as, add the rule of set.add that its turns take -/
namespace Tl
open PySem PySem.Spec PyProof.Rows L2
abbrev AddR := V → List V → Hp → VK → Prop
def tSet (o0 : Addr → HO) (add : AddR) (wi : TI) (g : TG) (tt : TT) (te : TE) (vs : List Nat) : TE := fun σ H Q => wi σ H fun J H1 =>
  ∀ D, H1 D = none → ∃ W : Nat → Nat → Hp → Prop, (∃ m, W 0 m (upd H1 D (o0 D))) ∧ ∀ i m G, W i m G →
    (J.stop i G ∧ Q (V.ref D) G) ∨ (J.go i G ∧ ∃ Nx : Hp → Prop, (∀ G', Nx G' → ∃ k, k < m ∧ W (i + 1) k G') ∧
      ∀ x G', J.yld i G x G' → g x (wipe σ vs) G' fun σ2 G2 => wipe σ2 vs = wipe σ vs ∧ tt σ2 G2 fun b G3 =>
        if b = true then te σ2 G3 fun y G4 => add (V.ref D) [y] G4 fun _ G5 => Nx G5 else Nx G3)
section
variable {X : Cx}
theorem pe_set {elt tg iter : Expr} {ifs : List Expr} {scope : Scope} {own : List (Str × Nat)} {pos : Pos} {wi : TI} {g : TG} {tt : TT} {te : TE} {o0 : Addr → HO} {add : AddR}
    (calm : X.calm = true) (nd : X.N.Nodup) (hi : PI X tg iter wi) (ok : BlkOk X.N X.env.scope scope own)
    (begins : ∀ (H : Hp) (h : Heap), ObjOk X.prog X.w H (h.push (nu X.w)) h.objs.size (o0 h.objs.size))
    (adds : ∀ Y : Cx, Y.prog = X.prog → Y.w = X.w → Y.K = X.K → MtR Y "set.add" add)
    (hg : ∀ (s : Shared) (H : Hp) (C : Addr) (cl : List (Str × Addr)) (fp : List Addr), PG (X.blk s H scope (compEnvC scope cl C X.env) fp) tg g)
    (ht : ∀ (s : Shared) (H : Hp) (C : Addr) (cl : List (Str × Addr)) (fp : List Addr), PTs (X.blk s H scope (compEnvC scope cl C X.env) fp) ifs tt)
    (he : ∀ (s : Shared) (H : Hp) (C : Addr) (cl : List (Str × Addr)) (fp : List Addr), PE (X.blk s H scope (compEnvC scope cl C X.env) fp) elt te)
    (once : ∀ x, foldedSetIterable iter X.env x = pure x := by intro _; rfl) :
    PE X (.SetComp elt [⟨tg, iter, ifs, 0⟩] scope pos) (tSet o0 add wi g tt te (own.map (·.2))) := by
  refine ⟨fun pins s σ H Q I h => ?_⟩
  rw [PpSet.eval_SetComp]
  refine wpAny_comprehension_free (use := none) rfl once (closure_ok fun y hy z => (ok.free y hy z).elim (fun k => I.ok.has _ (.inl k)) fun k => I.ok.has _ (.inr k)) ok.kind (fun y hy z => by rw [ok.uniq y hy, z])
    (thn (hi.run pins s σ H _ I h) fun xv s1 hx => thn hx fun itv s2 h2 => ?_)
  obtain ⟨it, fp, tn, J, H2, e, I2, T, st2, f2, q⟩ := h2
  subst e
  refine PpSet.newSet_ok (newEnv_comp ?_)
  -- the new set, at D
  generalize hD : s2.heap.objs.size = D
  have free : H2 D = none := I2.hok.fresh (Nat.le_of_eq hD)
  obtain ⟨W, ⟨m0, w0⟩, turn⟩ := q D free
  generalize hs3 : ({ s2 with heap := s2.heap.push (nu X.w) } : Shared) = s3
  have hp3 : s3.heap = s2.heap.push (nu X.w) := by rw [← hs3]
  have old3 : ∀ b o, s2.heap.get? b = some o → s3.heap.get? b = some o := fun b o z => by
    rw [hp3]
    exact Heap.get?_push_of_some _ z
  generalize hH3 : upd H2 D (o0 D) = H3 at w0
  have I3 : L2.Inv X pins σ H3 s3 := by
    rw [← hs3, ← hH3]
    refine I2.laid (t' := s2.toks) (fun b o z => Heap.get?_push_of_some _ z) (Nat.le_of_eq hD) ?_
    rw [← hD]
    exact begins _ _
  have f3 : ∀ b ∈ fp, FpOk X pins H3 b ∧ b < s3.heap.objs.size := fun b hb => by
    obtain ⟨o, eo, _⟩ := T.obj _ _ st2 b hb
    have lt : b < s2.heap.objs.size := Heap.lt_size eo
    refine ⟨⟨?_, (f2 b hb).2⟩, Heap.lt_size (old3 _ _ eo)⟩
    rw [← hH3, upd_ne (by rw [← hD]; exact Nat.ne_of_lt lt)]
    exact (f2 b hb).1
  have st3 : tn 0 s3.heap := T.keep _ _ _ st2 fun b _ o z => old3 b o z
  have I4 := block_start I3 ok nd f3
  -- its own frame, at C
  generalize hcl : cellsFrom (s3.heap.objs.size + 1) scope.names (cloFrom X.env.cells scope.names []) = cl at I4
  generalize hC : s3.heap.objs.size = C at I4 f3 hcl
  have free3 : ∀ b ∈ fp, H3 b = none := fun b hb => (f3 b hb).1.1
  show codeAny _ _ (.compStart (.SetComp elt [⟨tg, iter, ifs, 0⟩] scope pos) 0 (.ref it) (.ref D) (compEnvC scope cl C X.env))
    (compPost (model X.prog X.w) X.A X.xe none _ (.ref D) C) _
  have pg := hg s3 H3 C cl fp
  have pt := ht s3 H3 C cl fp
  have pe := he s3 H3 C cl fp
  have ad := adds (X.blk s3 H3 scope (compEnvC scope cl C X.env) fp) rfl rfl rfl
  generalize hcx : compEnvC scope cl C X.env = ce at I4 pg pt pe ad ⊢
  have locC : ce.locals = C := by rw [← hcx] <;> rfl
  generalize hs4 : ({ s3 with heap := pushCells (s3.heap.push { cls := .type "dict", data := .dict #[] }) scope.names } : Shared) = s4 at I4 ⊢
  have st4 : tn 0 s4.heap := T.keep _ _ _ st3 fun b _ o z => by
    rw [← hs4]
    exact pushCells_keeps _ _ _ _ (Heap.get?_push_of_some _ z)
  have calmB : (X.blk s3 H3 scope ce fp).calm = true := calm
  have fpB : ∀ {τ : L2.St} {G : Hp} {t : Shared}, L2.Inv (X.blk s3 H3 scope ce fp) [] τ G t → (∀ b ∈ fp, G b = none) → ∀ b ∈ fp, FpOk (X.blk s3 H3 scope ce fp) [] G b := fun {τ G t} IB z b hb =>
    ⟨z b hb, (IB.ok.exf b hb).1, IB.ok.exfs b hb, .inl hb, fun x c z2 => (IB.ok.exf b hb).2 x c z2, fun p hp => by cases hp⟩
  have loop : codeAny (model X.prog X.w) X.A (.compLoop (.SetComp elt [⟨tg, iter, ifs, 0⟩] scope pos) 0 (.ref it) (.ref D) ce)
      (compPost (model X.prog X.w) X.A X.xe none (EP X pins σ Q) (.ref D) C) s4 := by
    refine PpSet.compLoopS_any (fun n t => ∃ i G, L2.Inv (X.blk s3 H3 scope ce fp) [] (wipe σ (own.map (·.2))) G t ∧ tn i t.heap ∧ (∀ b ∈ fp, G b = none) ∧ W i n G) ?_ m0 ⟨0, H3, I4, st4, free3, w0⟩
    rintro n s5 ⟨i, H5, I5, st5, free5, w5⟩
    rcases turn i n H5 w5 with ⟨stop, fin⟩ | ⟨go, Nx, less, step⟩
    · refine thnF (T.done (X.blk s3 H3 scope ce fp) rfl rfl rfl calmB i [] s5 _ H5 (fun _ _ => False) I5 (fpB I5 free5) st5 stop) fun r s6 ⟨hr, I6⟩ => ?_
      subst hr
      have I7 : L2.Inv X pins σ H5 s6 := I3.call' (ch := fp) I6.os I6.base I6.hok I6.bare fun b hb => ⟨(f3 b hb).1.2.2.2.1, (f3 b hb).1.2.1, (f3 b hb).1.2.2.2.2.1, (f3 b hb).1.2.2.2.2.2⟩
      have nC : H5 C = none := by
        have z : H5 ce.locals = none := I6.free
        rwa [locC] at z
      obtain ⟨m, hn, _⟩ := I6.loc
      have hn : s6.heap.Ns ce.locals m := hn
      rw [locC] at hn
      obtain ⟨z0, z1, z2, z3, z4, z5⟩ := I3.fpOk (Nat.le_of_eq hC) nC
      exact ⟨m, hn, fun h' sb => ⟨.ref D, H5, I7.turned (t' := s6.toks) (fun b o hb z => (sb.2 b hb).trans z) z0 z1 z3 z4 z5, rfl, fin⟩⟩
    · refine thnF (T.item (X.blk s3 H3 scope ce fp) rfl rfl rfl calmB i [] s5 _ H5 (fun _ _ => False) I5 (fpB I5 free5) st5 go) fun r s6 ⟨u, hr, h6⟩ => ?_
      subst hr
      refine thnF h6 fun _ s7 ⟨x, H7, I7, r7, y7, st7, free7⟩ => ?_
      refine thnF (pg.run _ s7 _ H7 x u _ (I7.pinned (fpB I7 free7) (T.obj _ _ st7)) r7 (step x H7 y7)) fun _ s8 ⟨σ8, H8, I8, same8, q8⟩ => ?_
      refine thnF (pt.run _ s8 σ8 H8 _ I8 q8) fun b s9 ⟨H9, I9, q9⟩ => ?_
      have back : ∀ {t : Shared} {G : Hp}, L2.Inv (X.blk s3 H3 scope ce fp) ([] ++ pinsAt fp s7.heap) σ8 G t → Nx G →
          ∃ k, k < n ∧ ∃ i G, L2.Inv (X.blk s3 H3 scope ce fp) [] (wipe σ (own.map (·.2))) G t ∧ tn i t.heap ∧ (∀ b ∈ fp, G b = none) ∧ W i k G := fun {t G} IG nx => by
        obtain ⟨k, hk, wk⟩ := less G nx
        have kept : ∀ b ∈ fp, ∀ o, s7.heap.get? b = some o → t.heap.get? b = some o ∧ G b = none := fun b hb o z =>
          have w := IG.pin (b, o) (List.mem_append_right _ (List.mem_append_right _ (mem_pinsAt hb z)))
          ⟨w.1, w.2.1⟩
        refine ⟨k, hk, i + 1, G, (IG.unpinned (pins := [])).weak (by rw [← same8, wipe_length]) (fun j v z => ?_), T.keep _ _ _ st7 fun b hb o z => (kept b hb o z).1, fun b hb => ?_, wk⟩
        · rw [← same8] at z
          exact (wipe_some z).1
        · obtain ⟨o, z, _⟩ := T.obj _ _ st7 b hb
          exact (kept b hb o z).2
      cases b with
      | false =>
        simp only [Bool.false_eq_true, if_false] at q9 ⊢
        exact back I9 q9
      | true =>
        simp only [if_true] at q9 ⊢
        refine thnF (pe.run _ s9 σ8 H9 _ I9 q9) fun z s10 ⟨yv, H10, I10, r10, qa⟩ => ?_
        exact thnF (ad _ s10 σ8 H10 (.ref D) [yv] (.ref D) [z] _ I10 rfl (.cons r10 .nil) qa) fun _ s11 ⟨_, H11, I11, _, nx⟩ => back I11 nx
  exact PpSet.codeAny_compStart_set loop (T.self X.A 0 _ _ _ st4 loop)
end
end Tl
set_option Elab.async false
set_option linter.all false
set_option maxRecDepth 100000
set_option maxHeartbeats 2000000
/-! a def's promise where no repr is under way around it (FnG), and the end of a row over such a promise -/
namespace Tl
open PySem PySem.Spec PyProof.Rows L2
/-- no repr is under way -/
def Quiet (A : Around) : Prop := A.guards = some []
structure FnG (P : Program) (w : World) (K : PySem.W.Frag) (mg : Str → Option Value) (base : Heap) (CX : CXT) (k : Nat) (f : Addr) (fd : FuncData) (ps : List Str) (sp : Sp) : Prop where
  many : ∀ vs H Q E, sp vs H Q E → vs.length = ps.length
  runs : ∀ (A : Around) (outer : List Env) (s : Shared) (H : Hp) (args : Args) (us : List Value) (vs : List V) (Q : VK) (E : XK), Quiet A → Room k A → Env0 P w K mg base A outer s H →
    BindsTo s fd args (ps.zip us) → Vals vs us → sp vs H Q E → codeAny (model P w) A (.call (.ref f) args) (CR CX outer P w H s Q E) s
section
variable {P : Program} {w : World} {K : PySem.W.Frag} {mg : Str → Option Value} {base : Heap}
theorem Fun.okG {x qual : Str} {st : Stmt} {f : Addr} {fd : FuncData} {N ps : List Str} {k : Nat} {sp : Sp} (F : L2.Fun K x qual st f fd) (S : FnScope N ps (defScope st)) (many : ∀ vs H Q E, sp vs H Q E → vs.length = ps.length)
    (body : ∀ (cdv : Value) (A : Around) (outer : List Env) (s : Shared) (H : Hp) (vs : List V) (Q : VK) (E : XK), Quiet A → Room k (A.deeper (envOfC qual (defScope st) s.heap.objs.size f cdv)) → sp vs H Q E →
      ∃ t, PSs (cxOf CX0 P w K mg base N qual (defScope st) f cdv A outer s H E).nox (defBody st) t ∧ t { nx := fun _ H' => Q .non H', rt := Q } (start N vs) H) :
    FnG P w K mg base CX0 (k + 1) f fd ps sp := by
  obtain ⟨oc, od, kV, doc, pm, an, cdv, ct, osl, e, lk, hcd⟩ := F.ex
  subst e
  refine ⟨many, fun A outer s H args us vs Q E quiet hr e0 hb r hsp => ?_⟩
  obtain ⟨t, ht, hq⟩ := body cdv A outer s H vs Q E quiet (hr.deeper _) hsp
  have old : ∀ b o, base.get? b = some o → s.heap.get? b = some o := fun b o z => (e0.bs b o z).1
  have KX : K.In s.heap := e0.mod.kin.keeps old
  have kinds : ∀ y ∈ ps.zip us, (defScope st).names.lookup y.1 = some .local ∨ ((defScope st).names.lookup y.1 = some .cell ∧ ((cellsFrom (s.heap.objs.size + 1) (defScope st).names []).lookup y.1).isSome = true) := by
    intro y hy
    refine (S.par y.1 (List.of_mem_zip hy).1).imp id fun z => ⟨z, ?_⟩
    exact PySem.W.cellsFrom_some _ _ _ (.inl z)
  refine codeAny_call_function hr.depth (KX _ _ lk) rfl S.co S.gen rfl (PySem.W.codeRec_of KX hcd) (hb _ _ _ _ ?_)
  refine wpAny_newFunctionEnv_cells S.kind kinds fun env he s1 inside => ?_
  subst he
  refine ⟨e0.mod.nolimit.keeps fun b o z => inside.toInCall.keep b o (old b o z), codeAny_func ?_⟩
  have I := inv_start (CX := CX0) (E := E) S hr.hd e0 (many _ _ _ _ hsp) r inside
  refine wpAny_mono (ht.nox.run [] s1 (start N vs) H _ I hq) (fun fl s' hs => ?_) fun e s' hs => hs
  match fl, hs with
  | .ret u, ⟨v, σ', H', J, rv, q⟩ => exact ⟨v, H', J.os, J.bare, J.base, J.hok, rv, q⟩
  | .next, ⟨σ', H', J, q⟩ => exact ⟨V.non, H', J.os, J.bare, J.base, J.hok, rfl, q⟩
  | .brk, ⟨_, _, _, q⟩ => exact q.elim
  | .cont, ⟨_, _, _, q⟩ => exact q.elim
end
/-- the law's def is called by the row -/
theorem law_callG {P : Program} {w : World} {K : PySem.W.Frag} {mg mb : Str → Option Value} {k : Nat} {fa a : Addr} {fd : FuncData} {x : Str} {sp : Sp} {s₁ : Shared} {vs : List Value} {ns : List Int}
    (KX : K.In s₁.heap) (nsG : s₁.heap.Ns mainGlobals mg) (nsB : s₁.heap.Ns builtinsNs mb) (same : ∀ x : Str, x ≠ "__name__" → mb x = bootBuiltins x) (lim : s₁.heap.NoLimit) (gens : s₁.gens = #[])
    (ha : s₁.heap.get? a = some { cls := .type "list", data := .seq vs.toArray }) (are : IntsAre vs ns) (few : ns.length ≤ sizeLine) (hr : Room k callerA)
    (F : ∀ base : Heap, K.In base → base.Ns mainGlobals mg → FnG P w K mg base CX0 k fa fd [x] sp) (binds : ∀ (s : Shared) (u : Value), BindsTo s fd ⟨[u], []⟩ [(x, u)])
    (hsp : ∀ H : Hp, Only H → SqL K H a (ns.map V.int) → sp [.ref a] H (fun v _ => v = .bl true) fun _ _ _ => False) :
    codeAny (model P w) callerA (.call (.ref fa) ⟨[.ref a], []⟩) (fun r s' => r = .ok (.ret (.bool true)) ∧ OldK s₁.heap s'.heap ∧ s'.os = s₁.os ∧ AllBare s'.gens) s₁ := by
  have rv := vals_ints are
  have from_ : ∀ H : Hp, Only H → SqL K H a (ns.map V.int) → HOk P w H s₁.heap → (∀ b, H b ≠ none → b = a ∧ K.lookup a = none) →
      codeAny (model P w) callerA (.call (.ref fa) ⟨[.ref a], []⟩) (fun r s' => r = .ok (.ret (.bool true)) ∧ OldK s₁.heap s'.heap ∧ s'.os = s₁.os ∧ AllBare s'.gens) s₁ := fun H only sq hok track => by
    have off : ∀ b, b ≠ a → H b = none := fun b z => Classical.byContradiction fun q => z (track b q).1
    have dicts : ∀ {b : Addr} {o : Obj} {es : Array DictEntry} {ep : Nat}, s₁.heap.get? b = some o → o.data = .dict es ep → H b = none := fun {b o es ep} e d => by
      refine off b fun z => ?_
      subst z
      rw [ha] at e
      cases e
      cases (show Data.seq vs.toArray _ = Data.dict es ep from d)
    have spaces : ∀ {b : Addr} {m : Str → Option Value}, s₁.heap.Ns b m → (hidT s₁.heap H).Ns b m := fun {b m} ⟨o, es, ep, e, d, r⟩ => ⟨o, es, ep, hidT_get e (dicts e d), d, r⟩
    have KB : K.In (hidT s₁.heap H) := fun b o e => hidT_get (KX b o e) (Classical.byContradiction fun q => by
      obtain ⟨e1, e2⟩ := track b q
      rw [e1, e2] at e
      cases e)
    have e0 : Env0 P w K mg (hidT s₁.heap H) callerA [] s₁ H := by
      refine ⟨rfl, ⟨KB, spaces nsG, ⟨mb, spaces nsB, same⟩, ?_⟩, fun b o e => of_hidT e, Nat.le_of_eq (hidT_size _ _), trivial, fun b hb => absurd (show b ∈ ([] : List Addr) from hb) (by simp), hok, .of_eq gens⟩
      obtain ⟨mc, h1, h2⟩ := lim
      exact ⟨mc, spaces h1, h2⟩
    refine codeAny_mono ((F _ KB (spaces nsG)).runs callerA [] s₁ H ⟨[.ref a], []⟩ [.ref a] [.ref a] _ _ rfl hr e0 (binds s₁ (.ref a)) (.cons rfl .nil) (hsp H only sq)) fun r s' h => ?_
    match r, h with
    | .error e, h => exact False.elim h
    | .ok .next, h => exact False.elim h
    | .ok .brk, h => exact False.elim h
    | .ok .cont, h => exact False.elim h
    | .ok (.ret u), ⟨v, H', os, bare, un, hok', rvu, q⟩ =>
      obtain rfl : v = .bl true := q
      obtain rfl : u = Value.bool true := rvu
      refine ⟨rfl, OldK.of_keep fun b o e => ?_, os, bare⟩
      rcases only b with z | ⟨ob, xs, z⟩
      · exact un.keep b o e z (fun y => absurd (show b ∈ ([] : List Addr) from y) (by simp)) (by simp)
      · have e1 := (hok b _ z).1
        rw [e] at e1
        cases e1
        exact (hok' b _ (un.frzs b _ _ z)).1
  cases hk : K.lookup a with
  | some o =>
    obtain rfl : _ = o := Option.some.inj (ha.symm.trans (KX a o hk))
    refine from_ (fun _ => none) (fun _ => .inl rfl) (.inr ⟨_, vs.toArray, _, hk, rfl, rfl, rfl, ?_, by simpa using rv⟩) (fun b u z => nomatch z) fun b z => absurd rfl z
    rw [List.size_toArray, are.length]
    exact few
  | none =>
    let S : HO := .frz { cls := .type "list", data := .seq vs.toArray } (.lst (ns.map V.int))
    refine from_ (upd (fun _ => none) a S) (fun b => ?_) (.inl (.inr ⟨_, upd_same⟩)) (fun b u z => ?_) fun b z => ⟨Classical.byContradiction fun y => z (upd_ne y), hk⟩
    · by_cases y : b = a
      · subst y
        exact .inr ⟨_, _, upd_same⟩
      · exact .inl (upd_ne y)
    · by_cases y : b = a
      · subst y
        rw [upd_same] at z
        cases z
        exact ⟨ha, by rw [List.length_map]; exact few, vs, _, rv, ha⟩
      · rw [upd_ne y] at z
        cases z
/-- the end of a row -/
theorem walkG {l : PySem.W.OpenLaw} {n k : Nat} {q : Program} {loose : List Str} {XP : (Str → Option Value) → Heap → Prop} {YP : World → Heap → Prop} {d : DefRec} {K : Params → PySem.W.Frag} {sp : World → Sp} {x : Str}
    (most : l.most = some n) (few : n ≤ sizeLine) (hdf : d.params.defaults = []) (hr : Room k callerA) (hY : ∀ (w : World) (h : Heap), YP w h → (K w.params).In h)
    (F : ∀ (w : World) (mg : Str → Option Value) (fa : Addr) (h : Heap), (K w.params).In h → h.Ns mainGlobals mg → mg d.name = some (.ref fa) →
      ∃ fd : FuncData, (∀ (s : Shared) (u : Value), BindsTo s fd ⟨[u], []⟩ [(x, u)]) ∧ ∀ base : Heap, (K w.params).In base → base.Ns mainGlobals mg → FnG l.prog w (K w.params) mg base CX0 k fa fd [x] (sp w))
    (hsp : ∀ (w : World) (H : Hp) (a : Addr) (ns : List Int), ns.length ≤ n → (∀ z ∈ ns, Builtin.Int.intBits z ≤ 1048576) → Only H → SqL (K w.params) H a (ns.map V.int) → sp w [.ref a] H (fun v _ => v = .bl true) fun _ _ _ => False) :
    PySem.W.WalkO q loose XP YP l.row.toRowW d [] (fun f vs => PySem.call f vs) := by
  refine Att.attach_callB most hdf fun w s₀ s₁ mg mb fa o pm cd doc a vs ns G Y ho hd hcd hmg hobj are len bits hg => ?_
  obtain ⟨fd, hb, hF⟩ := F w mg fa _ (hY w _ Y) G.T.g hmg
  exact law_callG (hY w _ Y) G.T.g G.T.b G.T.builtins G.T.nolimit hg hobj are (Nat.le_trans len few) hr hF hb fun H only sq => hsp w H a ns len bits only sq
end Tl
set_option Elab.async false
set_option linter.all false
set_option maxRecDepth 100000
set_option maxHeartbeats 1000000
/-! defs by their names; data of tuples; what stays of a heap -/
namespace Tl
open PySem PySem.Spec PyProof.Rows L2
open C8 (Cal pe_c)
/-! ### a def of the text under its name -/
structure DefAt (K : PySem.W.Frag) (mg : Str → Option Value) (x : Str) (st : Stmt) : Prop where
  ex : ∃ (f : Addr) (fd : FuncData), L2.Fun K x x st f fd ∧ mg x = some (.ref f)
section
variable {P : Program} {w : World} {K : PySem.W.Frag} {mg : Str → Option Value} {base : Heap}
abbrev BindH (x : Str) (st : Stmt) (ps : List Str) : Prop := ∀ (kV doc pm : Value) (an : Option Addr) (cdv ct : Value) (us : List Value), us.length = ps.length →
  bindArgs (PySem.W.fnOf x x (defArgs st) (defBody st) (defScope st) .none kV doc pm an cdv ct) ⟨us, []⟩ = pure (ps.zip us)
theorem cal_of {x : Str} {st : Stmt} {N ps : List Str} {k : Nat} {sp : Sp} (D : DefAt K mg x st) (S : FnScope N ps (defScope st)) (hb : BindH x st ps) (len : ∀ vs H Q E, sp vs H Q E → vs.length = ps.length)
    (body : ∀ (f : Addr) (cdv : Value) (A : Around) (outer : List Env) (s : Shared) (H : Hp) (vs : List V) (Q : VK) (E : XK), Room k (A.deeper (envOfC x (defScope st) s.heap.objs.size f cdv)) → sp vs H Q E →
      ∃ t, PSs (cxOf CX0 P w K mg base N x (defScope st) f cdv A outer s H E).nox (defBody st) t ∧ t { nx := fun _ H' => Q .non H', rt := Q } (start N vs) H) : Cal P w K mg base (k + 1) x sp [] := by
  obtain ⟨f, fd, F, hm⟩ := D.ex
  exact ⟨f, fd, ps, [], F.ok S len (fun cdv A outer s H vs Q E hr h => body f cdv A outer s H vs Q E hr h), hm, F.kp, F.binds hb, .nil⟩
/-- a def at one more call deep: a step of an induction -/
theorem calUp {x : Str} {k j : Nat} {sp : Sp} (c : Cal P w K mg base k x sp []) (h : k ≤ j) : Cal P w K mg base j x sp [] := by
  obtain ⟨f, fd, ps, ds, F, hm, kp, b, d⟩ := c.ex
  exact ⟨f, fd, ps, ds, F.mono h, hm, kp, b, d⟩
theorem calWeak {x : Str} {k : Nat} {sp sp' : Sp} (c : Cal P w K mg base k x sp []) (h : ∀ vs H Q E, sp' vs H Q E → sp vs H Q E) : Cal P w K mg base k x sp' [] := by
  obtain ⟨f, fd, ps, ds, F, hm, kp, b, d⟩ := c.ex
  exact ⟨f, fd, ps, ds, F.imp h, hm, kp, b, d⟩
end
/-! ### what stays -/
/-- tuples and known objects stay -/
def Stay (H H' : Hp) : Prop := ∀ a o, H a = some o → ((∃ xs, o = .tup xs) ∨ ∃ ob u, o = .frz ob u) → H' a = some o
theorem Stay.refl (H : Hp) : Stay H H := fun _ _ h _ => h
theorem Stay.trans {H H1 H2 : Hp} (a : Stay H H1) (b : Stay H1 H2) : Stay H H2 := fun x o h k => b x o (a x o h k) k
theorem Same.stay {H H' : Hp} (e : Same H H') : Stay H H' := fun a o h _ => e a o h
theorem stay_new {H : Hp} {p : Addr} {o : HO} (h : H p = none) : Stay H (upd H p o) := fun a u e _ => by
  rw [upd_ne (ne_of_none e h)]
  exact e
/-- a list or a dict is changed -/
theorem stay_mut {H : Hp} {p : Addr} {o : HO} (h : Mut (H p)) : Stay H (upd H p o) := fun a u e k => by
  have ne : a ≠ p := fun z => by
    subst z
    rw [e] at h
    rcases k with ⟨xs, rfl⟩ | ⟨ob, u, rfl⟩ <;> exact h
  rw [upd_ne ne]
  exact e
theorem Stay.rd {H H' : Hp} {a : Addr} {xs : List V} (e : Stay H H') (h : Rd H a (.tup xs)) : Rd H' a (.tup xs) := by
  rcases h with h | ⟨o, h⟩
  · exact .inl (e a _ h (.inl ⟨xs, rfl⟩))
  · exact .inr ⟨o, e a _ h (.inr ⟨_, _, rfl⟩)⟩
theorem Stay.tup {K : PySem.W.Frag} {H H' : Hp} {a : Addr} {xs : List V} (e : Stay H H') (h : SqT K H a xs) : SqT K H' a xs := h.imp (fun h => e.rd h) id
theorem Stay.frz {H H' : Hp} {a : Addr} {o : Obj} {u : HO} (e : Stay H H') (h : H a = some (.frz o u)) : H' a = some (.frz o u) := e a _ h (.inr ⟨_, _, rfl⟩)
theorem tupOf {K : PySem.W.Frag} {H : Hp} {a : Addr} {xs : List V} (h : H a = some (.tup xs)) : SqT K H a xs := .inl (.inl h)
/-! ### data of tuples alone -/
mutual
inductive Dt (K : PySem.W.Frag) (H : Hp) : V → PyData → Prop
  | non : Dt K H .non .none
  | bl (b : Bool) : Dt K H (.bl b) (.bool b)
  | int (i : Int) : Dt K H (.int i) (.int i)
  | str (x : Str) : Dt K H (.str x) (.str x)
  | tup {a : Addr} {xs : List V} {ds : List PyData} : SqT K H a xs → Dts K H xs ds → Dt K H (.ref a) (.tuple ds)
inductive Dts (K : PySem.W.Frag) (H : Hp) : List V → List PyData → Prop
  | nil : Dts K H [] []
  | cons {v : V} {vs : List V} {d : PyData} {ds : List PyData} : Dt K H v d → Dts K H vs ds → Dts K H (v :: vs) (d :: ds)
end
section
variable {K : PySem.W.Frag} {H H' : Hp}
mutual
theorem Dt.stay (e : Stay H H') : ∀ (d : PyData) (v : V), Dt K H v d → Dt K H' v d
  | .none, _, h => by cases h; exact .non
  | .bool _, _, h => by cases h; exact .bl _
  | .int _, _, h => by cases h; exact .int _
  | .str _, _, h => by cases h; exact .str _
  | .list _, _, h => by cases h
  | .tuple ds, _, h => by
    cases h with
    | tup h1 h2 => exact .tup (e.tup h1) (Dts.stay e ds _ h2)
  | .dict _, _, h => by cases h
theorem Dts.stay (e : Stay H H') : ∀ (ds : List PyData) (vs : List V), Dts K H vs ds → Dts K H' vs ds
  | [], _, h => by cases h; exact .nil
  | d :: ds, _, h => by
    cases h with
    | cons h1 h2 => exact .cons (Dt.stay e d _ h1) (Dts.stay e ds _ h2)
end
mutual
theorem Dt.dp : ∀ (d : PyData) (v : V), Dt K H v d → Dp K H v d
  | .none, _, h => by cases h; exact .non
  | .bool _, _, h => by cases h; exact .bl _
  | .int _, _, h => by cases h; exact .int _
  | .str _, _, h => by cases h; exact .str _
  | .list _, _, h => by cases h
  | .tuple ds, _, h => by
    cases h with
    | tup h1 h2 => exact .tup h1 (Dts.dp ds _ h2)
  | .dict _, _, h => by cases h
theorem Dts.dp : ∀ (ds : List PyData) (vs : List V), Dts K H vs ds → DpAll K H vs ds
  | [], _, h => by cases h; exact .nil
  | d :: ds, _, h => by
    cases h with
    | cons h1 h2 => exact .cons (Dt.dp d _ h1) (Dts.dp ds _ h2)
end
theorem Dt.st {v : V} {d : PyData} (h : Dt K H v d) (e : Stay H H') : Dt K H' v d := Dt.stay e d v h
theorem Dt.p {v : V} {d : PyData} (h : Dt K H v d) : Dp K H v d := Dt.dp d v h
theorem dp_ints : ∀ ns : List Int, DpAll K H (ns.map V.int) (ns.map PyData.int)
  | [] => .nil
  | n :: ns => .cons (.int n) (dp_ints ns)
theorem dp_strs : ∀ ns : List Str, DpAll K H (ns.map V.str) (ns.map PyData.str)
  | [] => .nil
  | n :: ns => .cons (.str n) (dp_strs ns)
theorem eqv_nil : ∀ ds : List PyData, PyData.eqvAll ds [] = ds.isEmpty
  | [] => by simp [PyData.eqvAll]
  | _ :: _ => by simp [PyData.eqvAll]
end
/-! ### concepts -/
inductive C where
  | all | non | word (w : Str) | some (r : Str) (c : C) | and (a b : C)
def C.d : C → PyData
  | .all => .tuple [.str "all"]
  | .non => .tuple [.str "none"]
  | .word w => .tuple [.str "word", .str w]
  | .some r c => .tuple [.str "some", .str r, c.d]
  | .and a b => .tuple [.str "and", a.d, b.d]
abbrev Con (K : PySem.W.Frag) (H : Hp) (v : V) (c : C) : Prop := Dt K H v c.d
section
variable {K : PySem.W.Frag} {H H' : Hp} {v : V}
theorem con_all (h : Con K H v .all) : ∃ a, v = .ref a ∧ SqT K H a [.str "all"] := by
  cases h with
  | tup h1 h2 => cases h2 with
    | cons g1 g2 => cases g1; cases g2; exact ⟨_, rfl, h1⟩
theorem con_non (h : Con K H v .non) : ∃ a, v = .ref a ∧ SqT K H a [.str "none"] := by
  cases h with
  | tup h1 h2 => cases h2 with
    | cons g1 g2 => cases g1; cases g2; exact ⟨_, rfl, h1⟩
theorem con_word {x : Str} (h : Con K H v (.word x)) : ∃ a, v = .ref a ∧ SqT K H a [.str "word", .str x] := by
  cases h with
  | tup h1 h2 => cases h2 with
    | cons g1 g2 => cases g1; cases g2 with
      | cons g3 g4 => cases g3; cases g4; exact ⟨_, rfl, h1⟩
theorem con_some {r : Str} {c : C} (h : Con K H v (.some r c)) : ∃ a u, v = .ref a ∧ SqT K H a [.str "some", .str r, u] ∧ Con K H u c := by
  cases h with
  | tup h1 h2 => cases h2 with
    | cons g1 g2 => cases g1; cases g2 with
      | cons g3 g4 => cases g3; cases g4 with
        | cons g5 g6 => cases g6; exact ⟨_, _, rfl, h1, g5⟩
theorem con_and {a b : C} (h : Con K H v (.and a b)) : ∃ p u y, v = .ref p ∧ SqT K H p [.str "and", u, y] ∧ Con K H u a ∧ Con K H y b := by
  cases h with
  | tup h1 h2 => cases h2 with
    | cons g1 g2 => cases g1; cases g2 with
      | cons g3 g4 => cases g4 with
        | cons g5 g6 => cases g6; exact ⟨_, _, _, rfl, h1, g3, g5⟩
theorem con_ref {c : C} (h : Con K H v c) : ∃ a xs, v = .ref a ∧ SqT K H a xs := by
  cases c with
  | all => obtain ⟨a, e, h⟩ := con_all h; exact ⟨a, _, e, h⟩
  | non => obtain ⟨a, e, h⟩ := con_non h; exact ⟨a, _, e, h⟩
  | word x => obtain ⟨a, e, h⟩ := con_word h; exact ⟨a, _, e, h⟩
  | some r c => obtain ⟨a, u, e, h, _⟩ := con_some h; exact ⟨a, _, e, h⟩
  | and x y => obtain ⟨a, _, _, e, h, _⟩ := con_and h; exact ⟨a, _, e, h⟩
theorem mk_all {a : Addr} (h : SqT K H a [.str "all"]) : Con K H (.ref a) .all := .tup h (.cons (.str _) .nil)
theorem mk_non {a : Addr} (h : SqT K H a [.str "none"]) : Con K H (.ref a) .non := .tup h (.cons (.str _) .nil)
theorem mk_word {a : Addr} {x : Str} (h : SqT K H a [.str "word", .str x]) : Con K H (.ref a) (.word x) := .tup h (.cons (.str _) (.cons (.str _) .nil))
theorem mk_some {a : Addr} {r : Str} {u : V} {c : C} (h : SqT K H a [.str "some", .str r, u]) (hc : Con K H u c) : Con K H (.ref a) (.some r c) := .tup h (.cons (.str _) (.cons (.str _) (.cons hc .nil)))
theorem mk_and {a : Addr} {u y : V} {c e : C} (h : SqT K H a [.str "and", u, y]) (hc : Con K H u c) (he : Con K H y e) : Con K H (.ref a) (.and c e) := .tup h (.cons (.str _) (.cons hc (.cons he .nil)))
end
end Tl
set_option Elab.async false
set_option linter.all false
set_option maxRecDepth 100000
set_option maxHeartbeats 1000000
/-! comprehensions and loops over any walked thing of n turns -/
namespace Tl
open PySem PySem.Spec PyProof.Rows L2
theorem lc_it {J : It} {n : Nat} {g : TG} {tt : TT} {te : TE} {vs : List Nat} {σ : L2.St} {H1 : Hp} {D : Addr} {Qd : Hp → Prop} (Pv : Nat → Hp → Prop) (h0 : Pv 0 (upd H1 D (.lst [])))
    (hgo : ∀ i G, i < n → Pv i G → J.go i G) (hst : ∀ G, Pv n G → J.stop n G)
    (hs : ∀ i x G G1, i < n → Pv i G → J.yld i G x G1 → g x (wipe σ vs) G1 fun σ2 G2 => wipe σ2 vs = wipe σ vs ∧ tt σ2 G2 fun b G3 =>
      if b = true then te σ2 G3 fun y G4 => ∃ acc, G4 D = some (.lst acc) ∧ acc.length < sizeLine ∧ Pv (i + 1) (upd G4 D (.lst (acc ++ [y]))) else Pv (i + 1) G3) (hd : ∀ G, Pv n G → Qd G) :
    ∃ W : Nat → Nat → Hp → Prop, (∃ m, W 0 m (upd H1 D (.lst []))) ∧ ∀ i m G, W i m G →
      (J.stop i G ∧ Qd G) ∨ (J.go i G ∧ ∃ Nx : Hp → Prop, (∀ G', Nx G' → ∃ m', m' < m ∧ W (i + 1) m' G') ∧ ∀ x G', J.yld i G x G' → g x (wipe σ vs) G' fun σ2 G2 => wipe σ2 vs = wipe σ vs ∧ tt σ2 G2 fun b G3 =>
        if b = true then te σ2 G3 fun y G4 => ∃ acc, G4 D = some (.lst acc) ∧ acc.length < sizeLine ∧ Nx (upd G4 D (.lst (acc ++ [y]))) else Nx G3) := by
  refine ⟨fun i m G => m + i = n ∧ Pv i G, ⟨n, rfl, h0⟩, fun i m G ⟨e, p⟩ => ?_⟩
  cases m with
  | zero =>
    obtain rfl : i = n := by omega
    exact .inl ⟨hst G p, hd G p⟩
  | succ m => exact .inr ⟨hgo i G (by omega) p, Pv (i + 1), fun G' p' => ⟨m, Nat.lt_succ_self m, by omega, p'⟩, fun x G' y => hs i x G G' (by omega) p y⟩
theorem set_it {o0 : Addr → HO} {add : AddR} {J : It} {n : Nat} {g : TG} {tt : TT} {te : TE} {vs : List Nat} {σ : L2.St} {H1 : Hp} {D : Addr} {Qd : Hp → Prop} (Pv : Nat → Hp → Prop) (h0 : Pv 0 (upd H1 D (o0 D)))
    (hgo : ∀ i G, i < n → Pv i G → J.go i G) (hst : ∀ G, Pv n G → J.stop n G)
    (hs : ∀ i x G G1, i < n → Pv i G → J.yld i G x G1 → g x (wipe σ vs) G1 fun σ2 G2 => wipe σ2 vs = wipe σ vs ∧ tt σ2 G2 fun b G3 =>
      if b = true then te σ2 G3 fun y G4 => add (V.ref D) [y] G4 fun _ G5 => Pv (i + 1) G5 else Pv (i + 1) G3) (hd : ∀ G, Pv n G → Qd G) :
    ∃ W : Nat → Nat → Hp → Prop, (∃ m, W 0 m (upd H1 D (o0 D))) ∧ ∀ i m G, W i m G →
      (J.stop i G ∧ Qd G) ∨ (J.go i G ∧ ∃ Nx : Hp → Prop, (∀ G', Nx G' → ∃ m', m' < m ∧ W (i + 1) m' G') ∧ ∀ x G', J.yld i G x G' → g x (wipe σ vs) G' fun σ2 G2 => wipe σ2 vs = wipe σ vs ∧ tt σ2 G2 fun b G3 =>
        if b = true then te σ2 G3 fun y G4 => add (V.ref D) [y] G4 fun _ G5 => Nx G5 else Nx G3) := by
  refine ⟨fun i m G => m + i = n ∧ Pv i G, ⟨n, rfl, h0⟩, fun i m G ⟨e, p⟩ => ?_⟩
  cases m with
  | zero =>
    obtain rfl : i = n := by omega
    exact .inl ⟨hst G p, hd G p⟩
  | succ m => exact .inr ⟨hgo i G (by omega) p, Pv (i + 1), fun G' p' => ⟨m, Nat.lt_succ_self m, by omega, p'⟩, fun x G' y => hs i x G G' (by omega) p y⟩
theorem seq_off {K : PySem.W.Frag} {H H' : Hp} {a : Addr} {xs : List V} (k : ∀ o, H a = some o → H' a = some o) (h : SqL K H a xs) : SqL K H' a xs := by
  rcases h with (h | ⟨o, h⟩) | h
  · exact .inl (.inl (k _ h))
  · exact .inl (.inr ⟨o, k _ h⟩)
  · exact .inr h
theorem same_add {H H' : Hp} {p : Addr} {o : HO} (e : L2.Same H H') (h : H' p = none) : L2.Same H (upd H' p o) := fun b u k => by
  rw [upd_ne (ne_of_none (e _ _ k) h)]
  exact e _ _ k
/-- a thing that H did not know changes -/
theorem same_mut {H H' : Hp} {p : Addr} {o : HO} (e : L2.Same H H') (h : H p = none) : L2.Same H (upd H' p o) := fun b u k => by
  rw [upd_ne (ne_of_none k h)]
  exact e _ _ k
theorem same_up {H : Hp} {p : Addr} {o : HO} (h : H p = none) : L2.Same H (upd H p o) := same_add (L2.Same.refl H) h
theorem lst_of {K : PySem.W.Frag} {H : Hp} {a : Addr} {xs : List V} (h : H a = some (.lst xs)) : SqL K H a xs := .inl (.inl h)
section
variable {X : Cx} {K : PySem.W.Frag}
theorem op_inK (h : X.K = K) : OpR X (compareOp .In) (rIn K false) := by
  subst h
  exact op_in_seq
theorem op_notinK (h : X.K = K) : OpR X (compareOp .NotIn) (rIn K true) := by
  subst h
  exact op_notIn_seq
theorem pg_tupK {es : List Expr} {k : Nat} {pos : Pos} {t : TGs} {n : Nat} (hK : X.K = K) (hc : X.calm = true) (h : PGs X es t)
    (hn : (assignEach es X.env).length = n := by rfl) (hst : (assignEach es X.env).findIdx? (·.1) = none := by rfl) : PG X (.Tuple es k pos) (gTup K n t) := by
  subst hK
  exact pg_tup hc h hn hst
end
end Tl
set_option Elab.async false
set_option linter.all false
set_option maxRecDepth 100000
set_option maxHeartbeats 2000000
/-! the text by its places -/
namespace K21
open PySem PySem.Spec PyProof.Rows L2 Tl
def topS (i : Nat) : Stmt := PySem.Challenge.pw_tellalike_k21_weaker_concepts.main.body.getD i (.Pass ⟨0, 0, 0, 0⟩)
abbrev sIsInteger : Stmt := topS 5
theorem scIsInteger : FnScope ["thing"] ["thing"] (defScope sIsInteger) := ⟨rfl, rfl, rfl, by decide +kernel, rfl, by decide +kernel, by decide +kernel⟩
abbrev sIsPair : Stmt := topS 6
theorem scIsPair : FnScope ["thing"] ["thing"] (defScope sIsPair) := ⟨rfl, rfl, rfl, by decide +kernel, rfl, by decide +kernel, by decide +kernel⟩
abbrev sIsAscending : Stmt := topS 7
theorem scIsAscending : FnScope ["items", "k"] ["items"] (defScope sIsAscending) := ⟨rfl, rfl, rfl, by decide +kernel, rfl, by decide +kernel, by decide +kernel⟩
abbrev sAscending : Stmt := topS 8
theorem scAscending : FnScope ["items", "found", "item"] ["items"] (defScope sAscending) := ⟨rfl, rfl, rfl, by decide +kernel, rfl, by decide +kernel, by decide +kernel⟩
abbrev sIsWord : Stmt := topS 12
theorem scIsWord : FnScope ["thing", "sign"] ["thing"] (defScope sIsWord) := ⟨rfl, rfl, rfl, by decide +kernel, rfl, by decide +kernel, by decide +kernel⟩
abbrev sIsConcept : Stmt := topS 13
theorem scIsConcept : FnScope ["thing", "todo", "needed"] ["thing"] (defScope sIsConcept) := ⟨rfl, rfl, rfl, by decide +kernel, rfl, by decide +kernel, by decide +kernel⟩
abbrev sCheckConcept : Stmt := topS 14
theorem scCheckConcept : FnScope ["thing"] ["thing"] (defScope sCheckConcept) := ⟨rfl, rfl, rfl, by decide +kernel, rfl, by decide +kernel, by decide +kernel⟩
abbrev sBottomUp : Stmt := topS 15
theorem scBottomUp : FnScope ["concept", "todo", "found", "item"] ["concept"] (defScope sBottomUp) := ⟨rfl, rfl, rfl, by decide +kernel, rfl, by decide +kernel, by decide +kernel⟩
abbrev sInner : Stmt := topS 16
theorem scInner : FnScope ["thing"] ["thing"] (defScope sInner) := ⟨rfl, rfl, rfl, by decide +kernel, rfl, by decide +kernel, by decide +kernel⟩
abbrev sIsLetter : Stmt := topS 17
theorem scIsLetter : FnScope ["sign"] ["sign"] (defScope sIsLetter) := ⟨rfl, rfl, rfl, by decide +kernel, rfl, by decide +kernel, by decide +kernel⟩
abbrev sIsWorld : Stmt := topS 20
theorem scIsWorld : FnScope ["thing", "many", "names", "roles"] ["thing"] (defScope sIsWorld) := ⟨rfl, rfl, rfl, by decide +kernel, rfl, by decide +kernel, by decide +kernel⟩
abbrev sThingsIn : Stmt := topS 21
theorem scThingsIn : FnScope ["world", "concept"] ["world", "concept"] (defScope sThingsIn) := ⟨rfl, rfl, rfl, by decide +kernel, rfl, by decide +kernel, by decide +kernel⟩
abbrev sCheckWorld : Stmt := topS 22
theorem scCheckWorld : FnScope ["thing"] ["thing"] (defScope sCheckWorld) := ⟨rfl, rfl, rfl, by decide +kernel, rfl, by decide +kernel, by decide +kernel⟩
abbrev sIsListing : Stmt := topS 23
theorem scIsListing : FnScope ["thing", "is_item", "many", "row"] ["thing", "is_item", "many"] (defScope sIsListing) := ⟨rfl, rfl, rfl, by decide +kernel, rfl, by decide +kernel, by decide +kernel⟩
abbrev sAreItems : Stmt := topS 24
theorem scAreItems : FnScope ["thing", "is_item", "many", "item"] ["thing", "is_item", "many"] (defScope sAreItems) := ⟨rfl, rfl, rfl, by decide +kernel, rfl, by decide +kernel, by decide +kernel⟩
abbrev sIsThing : Stmt := topS 25
theorem scIsThing : FnScope ["item", "many"] ["item", "many"] (defScope sIsThing) := ⟨rfl, rfl, rfl, by decide +kernel, rfl, by decide +kernel, by decide +kernel⟩
abbrev sIsTie : Stmt := topS 26
theorem scIsTie : FnScope ["item", "many"] ["item", "many"] (defScope sIsTie) := ⟨rfl, rfl, rfl, by decide +kernel, rfl, by decide +kernel, by decide +kernel⟩
abbrev sMembers : Stmt := topS 27
theorem scMembers : FnScope ["world", "concept", "many", "names", "roles", "things_of", "ties_of", "found", "item", "second"] ["world", "concept"] (defScope sMembers) := ⟨rfl, rfl, rfl, by decide +kernel, rfl, by decide +kernel, by decide +kernel⟩
abbrev sInBoth : Stmt := topS 28
theorem scInBoth : FnScope ["first", "second", "among", "x"] ["first", "second"] (defScope sInBoth) := ⟨rfl, rfl, rfl, by decide +kernel, rfl, by decide +kernel, by decide +kernel⟩
abbrev sTiedInto : Stmt := topS 29
theorem scTiedInto : FnScope ["ties", "things", "among", "x", "y"] ["ties", "things"] (defScope sTiedInto) := ⟨rfl, rfl, rfl, by decide +kernel, rfl, by decide +kernel, by decide +kernel⟩
abbrev sWeaker : Stmt := topS 31
theorem scWeaker : FnScope ["concept", "found", "item", "second", "first", "steps", "step", "inner"] ["concept"] (defScope sWeaker) := ⟨rfl, rfl, rfl, by decide +kernel, rfl, by decide +kernel, by decide +kernel⟩
abbrev sLawDeck : Stmt := topS 33
theorem scLawDeck : FnScope ["script", "mixed", "cell"] ["script"] (defScope sLawDeck) := ⟨rfl, rfl, rfl, by decide +kernel, rfl, by decide +kernel, by decide +kernel⟩
abbrev sLawDraw : Stmt := topS 34
theorem scLawDraw : FnScope ["deck", "below", "number", "cell"] ["deck", "below"] (defScope sLawDraw) := ⟨rfl, rfl, rfl, by decide +kernel, rfl, by decide +kernel, by decide +kernel⟩
abbrev sLawPick : Stmt := topS 35
theorem scLawPick : FnScope ["deck", "some"] ["deck", "some"] (defScope sLawPick) := ⟨rfl, rfl, rfl, by decide +kernel, rfl, by decide +kernel, by decide +kernel⟩
abbrev sLawShuffled : Stmt := topS 36
theorem scLawShuffled : FnScope ["deck", "some", "left", "found"] ["deck", "some"] (defScope sLawShuffled) := ⟨rfl, rfl, rfl, by decide +kernel, rfl, by decide +kernel, by decide +kernel⟩
abbrev sLawWorld : Stmt := topS 37
theorem scLawWorld : FnScope ["deck", "most", "many", "often", "names", "roles", "name", "things", "x", "role", "pairs", "y"] ["deck", "most"] (defScope sLawWorld) := ⟨rfl, rfl, rfl, by decide +kernel, rfl, by decide +kernel, by decide +kernel⟩
abbrev sLawVocabulary : Stmt := topS 38
theorem scLawVocabulary : FnScope ["deck", "names"] ["deck"] (defScope sLawVocabulary) := ⟨rfl, rfl, rfl, by decide +kernel, rfl, by decide +kernel, by decide +kernel⟩
abbrev sLawTied : Stmt := topS 39
theorem scLawTied : FnScope ["world", "role", "x", "pair"] ["world", "role", "x"] (defScope sLawTied) := ⟨rfl, rfl, rfl, by decide +kernel, rfl, by decide +kernel, by decide +kernel⟩
abbrev sLawIn : Stmt := topS 40
theorem scLawIn : FnScope ["world", "concept", "far", "x", "inner", "y"] ["world", "concept"] (defScope sLawIn) := ⟨rfl, rfl, rfl, by decide +kernel, rfl, by decide +kernel, by decide +kernel⟩
abbrev sLawWeaker : Stmt := topS 41
theorem scLawWeaker : FnScope ["concept", "found", "near"] ["concept"] (defScope sLawWeaker) := ⟨rfl, rfl, rfl, by decide +kernel, rfl, by decide +kernel, by decide +kernel⟩
abbrev sLawAscending : Stmt := topS 42
theorem scLawAscending : FnScope ["concepts"] ["concepts"] (defScope sLawAscending) := ⟨rfl, rfl, rfl, by decide +kernel, rfl, by decide +kernel, by decide +kernel⟩
abbrev sLawConcept : Stmt := topS 43
theorem scLawConcept : FnScope ["deck", "vocabulary", "deep", "names", "roles", "way"] ["deck", "vocabulary", "deep"] (defScope sLawConcept) := ⟨rfl, rfl, rfl, by decide +kernel, rfl, by decide +kernel, by decide +kernel⟩
abbrev sLawSize : Stmt := topS 44
theorem scLawSize : FnScope ["concept"] ["concept"] (defScope sLawSize) := ⟨rfl, rfl, rfl, by decide +kernel, rfl, by decide +kernel, by decide +kernel⟩
abbrev sLawStrength : Stmt := topS 45
theorem scLawStrength : FnScope ["concept"] ["concept"] (defScope sLawStrength) := ⟨rfl, rfl, rfl, by decide +kernel, rfl, by decide +kernel, by decide +kernel⟩
abbrev sLaw : Stmt := topS 46
theorem scLaw : FnScope ["script", "deck", "turn", "vocabulary", "world", "concept", "strength", "go", "due", "told", "near", "here", "there", "x"] ["script"] (defScope sLaw) := ⟨rfl, rfl, rfl, by decide +kernel, rfl, by decide +kernel, by decide +kernel⟩
/-- what the top has left -/
structure Txt (K : PySem.W.Frag) (mg : Str → Option Value) : Prop where
  all : mg "all" = none
  bool : mg "bool" = none
  dict : mg "dict" = none
  int : mg "int" = none
  isinstance : mg "isinstance" = none
  len : mg "len" = none
  list : mg "list" = none
  max : mg "max" = none
  range : mg "range" = none
  repr : mg "repr" = none
  set : mg "set" = none
  sorted : mg "sorted" = none
  str : mg "str" = none
  tuple : mg "tuple" = none
  isInteger : DefAt K mg "is_integer" sIsInteger
  isPair : DefAt K mg "is_pair" sIsPair
  isAscending : DefAt K mg "is_ascending" sIsAscending
  ascending : DefAt K mg "ascending" sAscending
  isWord : DefAt K mg "is_word" sIsWord
  isConcept : DefAt K mg "is_concept" sIsConcept
  checkConcept : DefAt K mg "check_concept" sCheckConcept
  bottomUp : DefAt K mg "bottom_up" sBottomUp
  inner : DefAt K mg "_inner" sInner
  isLetter : DefAt K mg "_is_letter" sIsLetter
  isWorld : DefAt K mg "is_world" sIsWorld
  thingsIn : DefAt K mg "things_in" sThingsIn
  checkWorld : DefAt K mg "check_world" sCheckWorld
  isListing : DefAt K mg "_is_listing" sIsListing
  areItems : DefAt K mg "_are_items" sAreItems
  isThing : DefAt K mg "_is_thing" sIsThing
  isTie : DefAt K mg "_is_tie" sIsTie
  members : DefAt K mg "_members" sMembers
  inBoth : DefAt K mg "_in_both" sInBoth
  tiedInto : DefAt K mg "_tied_into" sTiedInto
  weaker : DefAt K mg "weaker" sWeaker
  lawDeck : DefAt K mg "_law_deck" sLawDeck
  lawDraw : DefAt K mg "_law_draw" sLawDraw
  lawPick : DefAt K mg "_law_pick" sLawPick
  lawShuffled : DefAt K mg "_law_shuffled" sLawShuffled
  lawWorld : DefAt K mg "_law_world" sLawWorld
  lawVocabulary : DefAt K mg "_law_vocabulary" sLawVocabulary
  lawTied : DefAt K mg "_law_tied" sLawTied
  lawIn : DefAt K mg "_law_in" sLawIn
  lawWeaker : DefAt K mg "_law_weaker" sLawWeaker
  lawAscending : DefAt K mg "_law_ascending" sLawAscending
  lawConcept : DefAt K mg "_law_concept" sLawConcept
  lawSize : DefAt K mg "_law_size" sLawSize
  lawStrength : DefAt K mg "_law_strength" sLawStrength
  law : DefAt K mg "law" sLaw
  longest_word : ∃ t, mg "LONGEST_WORD" = some (.int 10 t)
  no_words : ∃ a, mg "NO_WORDS" = some (.ref a) ∧ ∀ H, SqT K H a [.str "all", .str "none", .str "some", .str "and", .str "each", .str "is"]
  most_things : ∃ t, mg "MOST_THINGS" = some (.int 2000 t)
end K21
set_option Elab.async false
set_option linter.all false
set_option maxRecDepth 100000
set_option maxHeartbeats 2000000
/-! the law's own deck -/
namespace K21
open PySem PySem.Spec PyProof.Rows L2 Tl
open C8 (Cal pe_c)
/-! ### the deck -/
def dk (l : Addr) (m t : Int) : List (Key × V) := [(.inr "cells", .ref l), (.inr "mixed", .int m), (.inr "turn", .int t)]
/-- a deck stands at d, its cells at l -/
def Deck (H : Hp) (d l : Addr) : Prop := ∃ (ns : List Int) (m t : Int), H d = some (.dK (dk l m t)) ∧ H l = some (.lst (ns.map V.int)) ∧ ns.length ≤ 63 ∧ 0 ≤ m ∧ m < 2305843009213693951
/-- all but the deck is as it was -/
def Off (d l : Addr) (H H' : Hp) : Prop := ∀ a o, a ≠ d → a ≠ l → H a = some o → H' a = some o
theorem Off.refl (d l : Addr) (H : Hp) : Off d l H H := fun _ _ _ _ h => h
theorem Off.trans {d l : Addr} {H H1 H2 : Hp} (a : Off d l H H1) (b : Off d l H1 H2) : Off d l H H2 := fun x o h1 h2 h => b x o h1 h2 (a x o h1 h2 h)
theorem _root_.L2.Same.off {d l : Addr} {H H' : Hp} (e : L2.Same H H') : Off d l H H' := fun a o _ _ h => e a o h
theorem Off.stay {d l : Addr} {H H' : Hp} (e : Off d l H H') (D : Deck H d l) : Stay H H' := fun a o h k => by
  obtain ⟨ns, m, t, h1, h2, _⟩ := D
  refine e a o (fun z => ?_) (fun z => ?_) h
  · subst z
    rw [h1] at h
    cases h
    rcases k with ⟨_, k⟩ | ⟨_, _, k⟩ <;> cases k
  · subst z
    rw [h2] at h
    cases h
    rcases k with ⟨_, k⟩ | ⟨_, _, k⟩ <;> cases k
theorem off_new {d l : Addr} {H : Hp} {p : Addr} {o : HO} (h : H p = none) : Off d l H (upd H p o) := fun a u _ _ e => by
  rw [upd_ne (ne_of_none e h)]
  exact e
theorem Deck.new {d l : Addr} {H : Hp} {p : Addr} {o : HO} (D : Deck H d l) (h : H p = none) : Deck (upd H p o) d l := by
  obtain ⟨ns, m, t, h1, h2, h3⟩ := D
  exact ⟨ns, m, t, (upd_ne (ne_of_none h1 h)).trans h1, (upd_ne (ne_of_none h2 h)).trans h2, h3⟩
theorem Deck.same {d l : Addr} {H H' : Hp} (D : Deck H d l) (e : L2.Same H H') : Deck H' d l := by
  obtain ⟨ns, m, t, h1, h2, h3⟩ := D
  exact ⟨ns, m, t, e _ _ h1, e _ _ h2, h3⟩
theorem Deck.ne {d l : Addr} {H : Hp} (D : Deck H d l) : d ≠ l := by
  obtain ⟨ns, m, t, h1, h2, h3⟩ := D
  exact ne_of h1 h2 (by intro z; cases z)
def spDeck (K : PySem.W.Frag) : Sp := fun vs H Q _ => ∃ (a : Addr) (ns : List Int), vs = [.ref a] ∧ SqL K H a (ns.map V.int) ∧ ns.length ≤ 63 ∧
  ∀ (d l : Addr) (H' : Hp), H d = none → H l = none → L2.Same H H' → Deck H' d l → Q (.ref d) H'
def spDraw : Sp := fun vs H Q _ => ∃ (d l : Addr) (b : Int), vs = [.ref d, .int b] ∧ Deck H d l ∧ 0 < b ∧ b ≤ 100000 ∧
  ∀ (i : Int) (H' : Hp), 0 ≤ i → i < b → Off d l H H' → Deck H' d l → Q (.int i) H'
section
variable {P : Program} {w : World} {K : PySem.W.Frag} {mg : Str → Option Value} {base : Heap}
theorem cLawDeck (T : Txt K mg) : Cal P w K mg base 1 "_law_deck" (spDeck K) [] := by
  refine cal_of T.lawDeck scLawDeck (fun _ _ _ _ _ _ us hl => match us, hl with | [_], _ => rfl) (fun vs H Q E h => ?_) (fun f cdv A outer s H vs Q E hr h => ?_)
  · obtain ⟨a, ns, rfl, _⟩ := h
    rfl
  obtain ⟨a, ns, rfl, hS, h63, q⟩ := h
  refine ⟨_, (pss_cons (ps_set (i := 1) scLawDeck.nd rfl (.inl rfl) pe_int)
 (pss_cons (ps_for PassesOwn.never rfl (pi_list (pe_slice sl_list (pv 0) po_none (po_some pe_int))) (pg_name (i := 2) scLawDeck.nd rfl (.inl rfl))
 (pss_one (ps_set (i := 1) scLawDeck.nd rfl (.inl rfl) (pe_op op_mod (pe_callTy call_int1 (by rfl) T.int (by decide +kernel) (pa_cons (pe_op op_add (pe_op op_add (pe_op op_mul (pv 1) pe_int) (pe_op op_mod (pe_callTy call_int1 (by rfl) T.int (by decide +kernel) (pa_cons (pv 2) pa_nil)) pe_int)) pe_int) pa_nil)) pe_int))))
 (pss_one (ps_ret (pe_disp (pps_cons pe_str (pe_revL (pe_lc (own := [("cell", 2)]) (by rfl) scLawDeck.nd (pi_list (pe_slice sl_list (pv 0) po_none (po_some pe_int))) (blkOk_by (own := [("cell", 2)]) (N := ["script", "mixed", "cell"]) (sc := defScope sLawDeck) (by decide +kernel)) (fun _ _ _ _ _ => (pg_name (i := 2) scLawDeck.nd rfl (.inl rfl))) (fun _ _ _ _ _ => pts_nil) (fun _ _ _ _ _ => (pe_callTy call_int1 (by rfl) T.int (by decide +kernel) (pa_cons (pv 2) pa_nil))))) (pps_cons pe_str (pv 1) (pps_cons pe_str pe_int pps_nil))) (by rfl) (by rfl) (fun z => by cases z) (by decide)))))), ?_⟩
  -- for cell in script[:63]
  refine ⟨.ref a, rfl, 63, rfl, a, _, rfl, hS, fun c nc => ?_⟩
  have cut : cutV (ns.map V.int) none (some 63) = ns.map V.int := by
    unfold cutV
    rw [HT.sIx_none, show HT.sIx (ns.map V.int).length (ns.map V.int).length (some 63) = min 63 (ns.map V.int).length from HT.sIx_nat _ _ 63, List.length_map]
    exact List.take_of_length_le (by rw [List.length_drop, List.length_map]; omega)
  rw [cut]
  refine ⟨c, rfl, ⟨_, .inl (.inl upd_same)⟩, for_list (K := K) (a := c) (xs := ns.map V.int) (fun i σ G => ∃ (m : Int) (y : Option V), σ = [some (.ref a), some (.int m), y] ∧ 0 ≤ m ∧ m < 2305843009213693951 ∧ L2.Same H G ∧ SqL K G c (ns.map V.int))
    ⟨14407651, none, rfl, by decide, by decide, fun b o e => ?_, .inl (.inl upd_same)⟩ (fun i σ G _ z => ?_) (fun i x σ G hx z => ?_) (fun σ G z => ?_)⟩
  · rw [upd_ne (ne_of_none e nc)]
    exact e
  · obtain ⟨_, _, _, _, _, _, z⟩ := z
    exact z
  · obtain ⟨m, y, rfl, m0, m1, sm, z⟩ := z
    obtain ⟨u, rfl⟩ : ∃ u, x = V.int u := by
      rw [List.getElem?_map] at hx
      obtain ⟨u, _, e⟩ := Option.map_eq_some_iff.mp hx
      exact ⟨u, e.symm⟩
    refine ⟨.int m, rfl, m, 48271, rfl, rfl, .inr ⟨by omega, by omega⟩, .int u, rfl, .inl ⟨u, rfl, u, 2305843009213693921, rfl, rfl, (by show (0 : Int) < 2305843009213693921; decide), _, _, rfl, rfl, _, _, rfl, rfl, .inl ⟨_, rfl, _, _, rfl, rfl, (by show (0 : Int) < 2305843009213693951; decide), ?_⟩⟩⟩
    exact ⟨_, _, rfl, Int.emod_nonneg _ (by decide), Int.emod_lt_of_pos _ (by decide), sm, z⟩
  · obtain ⟨m, y, rfl, m0, m1, sm, z⟩ := z
    refine fun p np => ?_
    have s1 : L2.Same G (upd G p (.dK [])) := fun b o e => by
      rw [upd_ne (ne_of_none e np)]
      exact e
    refine ⟨.ref a, rfl, 63, rfl, a, _, rfl, s1.seq (sm.seq hS), fun c2 nc2 => ?_⟩
    rw [cut]
    refine ⟨c2, rfl, ⟨_, .inl (.inl upd_same)⟩, fun D nD => ?_⟩
    have s2 : L2.Same (upd G p (.dK [])) (upd (upd G p (.dK [])) c2 (.lst (ns.map V.int))) := fun b o e => by
      rw [upd_ne (ne_of_none e nc2)]
      exact e
    have npD : p ≠ D := ne_of_none (s2 _ _ upd_same) nD
    have nc2D : c2 ≠ D := ne_of_none upd_same nD
    refine lc_list (K := K) (a := c2) (xs := ns.map V.int) (fun i G2 => L2.Same (upd (upd G p (.dK [])) c2 (.lst (ns.map V.int))) G2 ∧ G2 D = some (.lst ((ns.take i).map V.int)))
      ⟨fun b o e => ?_, ?_⟩ (fun i G2 _ z => z.1.seq (.inl (.inl upd_same))) (fun i x G2 hx z => ?_) (fun G2 z => ?_)
    · rw [upd_ne (ne_of_none e nD)]
      exact e
    · rw [upd_same]
      rfl
    · obtain ⟨z1, z2⟩ := z
      obtain ⟨u, hu, rfl⟩ : ∃ u, ns[i]? = some u ∧ x = V.int u := by
        rw [List.getElem?_map] at hx
        obtain ⟨u, h, e⟩ := Option.map_eq_some_iff.mp hx
        exact ⟨u, h, e.symm⟩
      refine ⟨rfl, .int u, rfl, .inl ⟨u, rfl, _, z2, ?_, fun b o e => ?_, ?_⟩⟩
      · rw [List.length_map, List.length_take]
        exact Nat.lt_of_le_of_lt (Nat.le_trans (Nat.min_le_right _ _) h63) (by decide)
      · rw [upd_ne (ne_of_none e nD)]
        exact z1 _ _ e
      · rw [upd_same, List.take_add_one, hu, List.map_append]
        rfl
    · obtain ⟨z1, z2⟩ := z
      rw [List.length_map, List.take_of_length_le (Nat.le_refl _)] at z2
      refine ⟨D, _, rfl, .inl (.inl z2), fun l nl => ?_⟩
      have npl : p ≠ l := ne_of_none (z1 _ _ (s2 _ _ upd_same)) nl
      refine ⟨.int m, rfl, ?_, [(.inr "cells", .ref l), (.inr "mixed", .int m), (.inr "turn", .int 0)], rfl, (by show 3 ≤ 15; decide), ?_⟩
      · rw [upd_ne npl]
        exact z1 _ _ (s2 _ _ upd_same)
      have np0 : H p = none := sm.free np
      have nl0 : H l = none := sm.free (s1.free (s2.free (z1.free nl)))
      refine q p l _ np0 nl0 (fun b o e => ?_) ⟨ns.reverse, m, 0, upd_same, ?_, by rw [List.length_reverse]; exact h63, m0, m1⟩
      · rw [upd_ne (ne_of_none e np0), upd_ne (ne_of_none e nl0)]
        exact z1 _ _ (s2 _ _ (s1 _ _ (sm _ _ e)))
      · rw [upd_ne npl.symm, upd_same, List.map_reverse]
end
/-! ### the deck's entries -/
theorem lm_ : ¬ (("cells" : Str) = "mixed") := by decide +kernel
theorem lt_ : ¬ (("cells" : Str) = "turn") := by decide +kernel
theorem mt_ : ¬ (("mixed" : Str) = "turn") := by decide +kernel
theorem tm_ : ¬ (("turn" : Str) = "mixed") := by decide +kernel
theorem inr_ne {x y : Str} (h : ¬ x = y) : ¬ ((Sum.inr x : Key) = Sum.inr y) := fun e => h (Sum.inr.inj e)
theorem dk_left {l : Addr} {m t : Int} : valV (dk l m t) (.inr "cells") = some (.ref l) := valV_pos rfl
theorem dk_mixed {l : Addr} {m t : Int} : valV (dk l m t) (.inr "mixed") = some (.int m) := by
  simp [valV, dk, List.find?_cons, lm_]
theorem dk_turn {l : Addr} {m t : Int} : valV (dk l m t) (.inr "turn") = some (.int t) := by
  simp [valV, dk, List.find?_cons, lt_, mt_]
theorem put_turn {l : Addr} {m t u : Int} : putK (dk l m t) (.inr "turn") (.int u) = dk l m u := by
  simp [putK, dk, lt_, mt_]
theorem put_mixed {l : Addr} {m t u : Int} : putK (dk l m t) (.inr "mixed") (.int u) = dk l u t := by
  simp [putK, dk, lm_, tm_]
section
variable {H : Hp} {d l : Addr} {m t : Int}
theorem get_left (h : H d = some (.dK (dk l m t))) : DGet H d (.str "cells") (some (.ref l)) := dk_left (l := l) (m := m) (t := t) ▸ DGet.k (k := .inr "cells") h
theorem get_mixed (h : H d = some (.dK (dk l m t))) : DGet H d (.str "mixed") (some (.int m)) := dk_mixed (l := l) (m := m) (t := t) ▸ DGet.k (k := .inr "mixed") h
theorem get_turn (h : H d = some (.dK (dk l m t))) : DGet H d (.str "turn") (some (.int t)) := dk_turn (l := l) (m := m) (t := t) ▸ DGet.k (k := .inr "turn") h
theorem set_turn {u : Int} (h : H d = some (.dK (dk l m t))) : DPut H d (.str "turn") (.int u) (upd H d (.dK (dk l m u))) := put_turn (l := l) (m := m) (t := t) (u := u) ▸ DPut.k (k := .inr "turn") h (by show 3 < sizeLine; decide)
theorem set_mixed {u : Int} (h : H d = some (.dK (dk l m t))) : DPut H d (.str "mixed") (.int u) (upd H d (.dK (dk l u t))) := put_mixed (l := l) (m := m) (t := t) (u := u) ▸ DPut.k (k := .inr "mixed") h (by show 3 < sizeLine; decide)
end
end K21
set_option Elab.async false
set_option linter.all false
set_option maxRecDepth 100000
set_option maxHeartbeats 2000000
namespace K21
open PySem PySem.Spec PyProof.Rows L2 Tl
open C8 (Cal pe_c)
theorem canLay_ints : ∀ ns : List Int, PyData.canLayAll0 (ns.map PyData.int) = true
  | [] => by simp [PyData.canLayAll0]
  | n :: ns => by simp [PyData.canLayAll0, PyData.canLay0, canLay_ints ns]
theorem depth_ints : ∀ ns : List Int, PyData.depthAll (ns.map PyData.int) = 0
  | [] => by simp [PyData.depthAll]
  | n :: ns => by simp [PyData.depthAll, PyData.depth, depth_ints ns]
theorem shaped_ints (ns : List Int) : SeqAt.shaped (.list (ns.map PyData.int)) = true := by
  simp [SeqAt.shaped, PyData.canLay0, PyData.depth, canLay_ints, depth_ints]
theorem shaped_nil : SeqAt.shaped (.list []) = true := by
  simp [SeqAt.shaped, PyData.canLay0, PyData.depth, PyData.canLayAll0, PyData.depthAll]
theorem ne_nil (ns : List Int) : (!PyData.eqv (.list (ns.map PyData.int)) (.list [])) = !ns.isEmpty := by
  cases ns <;> simp [PyData.eqv, PyData.eqvAll]
section
variable {P : Program} {w : World} {K : PySem.W.Frag} {mg : Str → Option Value} {base : Heap}
theorem off_mutd {d l : Addr} {H H' : Hp} {o : HO} (e : Off d l H H') : Off d l H (upd H' d o) := fun a u h1 h2 h => by
  rw [upd_ne h1]
  exact e a u h1 h2 h
theorem off_mutl {d l : Addr} {H H' : Hp} {o : HO} (e : Off d l H H') : Off d l H (upd H' l o) := fun a u h1 h2 h => by
  rw [upd_ne h2]
  exact e a u h1 h2 h
theorem off_add {d l : Addr} {H H' : Hp} {p : Addr} {o : HO} (e : Off d l H H') (h : H' p = none) : Off d l H (upd H' p o) := e.trans (off_new h)
theorem cLawDraw (T : Txt K mg) : Cal P w K mg base 1 "_law_draw" spDraw [] := by
  refine cal_of T.lawDraw scLawDraw (fun _ _ _ _ _ _ us hl => match us, hl with | [_, _], _ => rfl) (fun vs H Q E h => ?_) (fun f cdv A outer s H vs Q E hr h => ?_)
  · obtain ⟨d, l, b, rfl, _⟩ := h
    rfl
  obtain ⟨d, l, b, rfl, D, b0, b1, q⟩ := h
  have hu := hu_of hr
  have hu64 := hr.units
  refine ⟨_, (pss_cons (ps_dput hu (pv 0) pe_str (pe_op op_add (pe_dget hu (pv 0) pe_str (fun _ _ => rfl)) pe_int) rfl)
 (pss_cons (ps_set (i := 2) scLawDraw.nd rfl (.inl rfl) (pe_op op_add (pe_dget hu (pv 0) pe_str (fun _ _ => rfl)) (pe_op op_mul pe_int (pe_dget hu (pv 0) pe_str (fun _ _ => rfl)))))
 (C8.pss_cut (ps_if (pt_cmpR (op_neD hu64) (pe_dget hu (pv 0) pe_str (fun _ _ => rfl)) (pe_lst pa_nil) (nomark _))
 (pss_cons (ps_set (i := 3) scLawDraw.nd rfl (.inl rfl) (pe_bm0 PySem.F.plainAttrs_list PySem.F.slot_list_pop PySem.F.type_list_pop mt_pop (pe_dget hu (pv 0) pe_str (fun _ _ => rfl))))
 (pss_cons (ps_if (pt_cmpR op_ge (pv 3) (pe_op op_pow pe_int pe_int) (nomark _))
 (pss_cons (ps_expr (pe_bm PySem.F.plainAttrs_list PySem.F.slot_list_append PySem.F.type_list_append mt_append (pe_dget hu (pv 0) pe_str (fun _ _ => rfl)) (pa_cons (pe_op op_fdiv (pv 3) (pe_callB (call_max2 rfl) (by rfl) T.max (by decide +kernel) (pa_cons pe_int (pa_cons (pv 1) pa_nil)))) pa_nil)))
 (pss_one (ps_ret (pe_op op_mod (pe_callTy call_int1 (by rfl) T.int (by decide +kernel) (pa_cons (pv 3) pa_nil)) (pv 1)))))
 pss_nil)
 (pss_one (ps_set (i := 2) scLawDraw.nd rfl (.inl rfl) (pe_op op_add (pv 2) (pe_op op_mod (pe_callTy call_int1 (by rfl) T.int (by decide +kernel) (pa_cons (pv 3) pa_nil)) pe_int))))))
 pss_nil)
 (pss_cons (ps_set (i := 2) scLawDraw.nd rfl (.inl rfl) (pe_op op_mod (pe_callTy call_int1 (by rfl) T.int (by decide +kernel) (pa_cons (pe_op op_add (pe_op op_mul (pv 2) pe_int) pe_int) pa_nil)) pe_int))
 (pss_cons (ps_set (i := 2) scLawDraw.nd rfl (.inl rfl) (pe_op op_mod (pe_callTy call_int1 (by rfl) T.int (by decide +kernel) (pa_cons (pe_op op_add (pe_op op_add (pe_op op_mul (pv 2) (pv 2)) (pe_op op_mul pe_int (pe_dget hu (pv 0) pe_str (fun _ _ => rfl)))) pe_int) pa_nil)) pe_int))
 (pss_one (ps_ret (pe_op op_mod (pe_callTy call_int1 (by rfl) T.int (by decide +kernel) (pa_cons (pe_op op_fdiv (pv 2) pe_int) pa_nil)) (pv 1))))))))), ?_⟩
  obtain ⟨ns, m, t, h1, h2, h63, m0, m1⟩ := D
  have ndl : d ≠ l := ne_of h1 h2 (by intro z; cases z)
  -- deck['turn'] = deck['turn'] + 1
  refine ⟨.ref d, rfl, d, _, rfl, get_turn h1, t, 1, rfl, rfl, .ref d, rfl, d, _, rfl, set_turn h1, ?_⟩
  generalize hG : upd H d (.dK (dk l m (t + 1))) = G
  have g1 : G d = some (.dK (dk l m (t + 1))) := by rw [← hG, upd_same]
  have g2 : G l = some (.lst (ns.map V.int)) := by rw [← hG, upd_ne ndl.symm, h2]
  have gO : Off d l H G := by rw [← hG]; exact off_mutd (Off.refl d l H)
  -- number = ..
  refine ⟨.ref d, rfl, d, _, rfl, get_mixed g1, .ref d, rfl, d, _, rfl, get_turn g1, 1099511627791, t + 1, rfl, rfl, .inl ⟨by omega, by omega⟩, m, _, rfl, rfl, ?_⟩
  refine ⟨fun σ G => ∃ (fig : Int) (y : Option V), σ = [some (.ref d), some (.int b), some (.int fig), y] ∧ Off d l H G ∧ Deck G d l, ?_, ?_⟩
  · -- deck['cells'] != []
    refine ⟨.ref d, rfl, d, _, rfl, get_left g1, Nat.zero_le _, fun p np => ?_⟩
    have pd : d ≠ p := ne_of_none g1 np
    have pl : l ≠ p := ne_of_none g2 np
    have k1 : (upd G p (.lst [])) d = some (.dK (dk l m (t + 1))) := (upd_ne pd).trans g1
    have k2 : (upd G p (.lst [])) l = some (.lst (ns.map V.int)) := (upd_ne pl).trans g2
    have kO : Off d l H (upd G p (.lst [])) := off_add gO np
    refine ⟨.list (ns.map PyData.int), .list [], .lst (.inl (.inl k2)) (dp_ints ns), .lst (.inl (.inl upd_same)) .nil, shaped_ints ns, shaped_nil, _, rfl, ?_⟩
    rw [ne_nil]
    generalize upd G p (.lst []) = G2 at k1 k2 kO
    rcases List.eq_nil_or_concat ns with e | ⟨ms, z, e⟩
    · subst e
      refine iteF ?_
      exact ⟨_, none, rfl, kO, [], m, t + 1, k1, k2, Nat.zero_le _, m0, m1⟩
    · rw [List.concat_eq_append] at e
      subst e
      rw [show (!(ms ++ [z]).isEmpty) = true by simp]
      refine iteT ?_
      have hlast : ((ms ++ [z]).map V.int)[((ms ++ [z]).map V.int).length - 1]? = some (.int z) := by simp
      have hdrop : ((ms ++ [z]).map V.int).dropLast = ms.map V.int := by simp
      have hlen : ms.length < 63 := by
        rw [List.length_append, List.length_singleton] at h63
        omega
      refine ⟨.ref d, rfl, d, _, rfl, get_left k1, .inl ⟨rfl, _, .inl (.inl k2)⟩, l, _, _, rfl, rfl, k2, hlast, ?_⟩
      rw [hdrop]
      have j1 : (upd G2 l (.lst (ms.map V.int))) d = some (.dK (dk l m (t + 1))) := (upd_ne ndl).trans k1
      have j2 : (upd G2 l (.lst (ms.map V.int))) l = some (.lst (ms.map V.int)) := upd_same
      have jO : Off d l H (upd G2 l (.lst (ms.map V.int))) := off_mutl kO
      generalize upd G2 l (.lst (ms.map V.int)) = G3 at j1 j2 jO
      refine ⟨.int z, rfl, 10, 18, rfl, rfl, ⟨by omega, by omega, by decide⟩, z, _, rfl, rfl, _, rfl, ite2 (fun _ => ?_) (fun _ => ?_)⟩
      · have hc : 0 < (if b > 2 then b else (2 : Int)) ∧ (if b > 2 then b else (2 : Int)) < 1073741824 := by
          split <;> omega
        refine ⟨.ref d, rfl, d, _, rfl, get_left j1, .inl ⟨rfl, _, .inl (.inl j2)⟩, .int z, rfl, .int b, rfl, 2, b, rfl, z, _, rfl, rfl, hc, l, _, _, rfl, rfl, j2, ?_, ?_⟩
        · rw [List.length_map]
          exact Nat.lt_of_lt_of_le hlen (by decide)
        refine ⟨.int z, rfl, .inl ⟨z, rfl, .int b, rfl, z, b, rfl, rfl, b0, ?_⟩⟩
        refine q _ _ (Int.emod_nonneg _ (by omega)) (Int.emod_lt_of_pos _ b0) (off_mutl jO) ⟨ms ++ [z / (if b > 2 then b else 2)], m, t + 1, (upd_ne ndl).trans j1, ?_, ?_, m0, m1⟩
        · rw [upd_same, List.map_append]
          rfl
        · rw [List.length_append, List.length_singleton]
          omega
      · refine ⟨_, rfl, .int z, rfl, .inl ⟨z, rfl, z, 2305843009213693921, rfl, rfl, (by show (0 : Int) < 2305843009213693921; decide), _, _, rfl, rfl, ?_⟩⟩
        exact ⟨_, _, rfl, jO, ms, m, t + 1, j1, j2, Nat.le_of_lt hlen, m0, m1⟩
  · -- the rest
    rintro σ' G' ⟨fig, y, rfl, gO', D'⟩
    have D'' := D'
    obtain ⟨ns', m', t', g1', _⟩ := D''
    refine ⟨.int fig, rfl, fig, 6364136223846793005, rfl, rfl, .inr ⟨by omega, by omega⟩, _, _, rfl, rfl, .inl ⟨_, rfl, _, _, rfl, rfl, (by show (0 : Int) < 2305843009213693951; decide), ?_⟩⟩
    have f0 := Int.emod_nonneg (fig * 6364136223846793005 + 1442695040888963407) (show (2305843009213693951 : Int) ≠ 0 by decide)
    have f1 := Int.emod_lt_of_pos (fig * 6364136223846793005 + 1442695040888963407) (show (0 : Int) < 2305843009213693951 by decide)
    refine ⟨_, rfl, _, rfl, (fig * 6364136223846793005 + 1442695040888963407) % 2305843009213693951, (fig * 6364136223846793005 + 1442695040888963407) % 2305843009213693951, rfl, rfl, .inl ⟨by omega, by omega⟩, .ref d, rfl, d, _, rfl, get_turn g1', 2862933555777941757, t', rfl, rfl, .inl ⟨by omega, by omega⟩, _, _, rfl, rfl, _, _, rfl, rfl, .inl ⟨_, rfl, _, _, rfl, rfl, (by show (0 : Int) < 2305843009213693951; decide), ?_⟩⟩
    refine ⟨_, rfl, _, 4096, rfl, rfl, ⟨by omega, by omega⟩, .inl ⟨_, rfl, .int b, rfl, _, b, rfl, rfl, b0, ?_⟩⟩
    exact q _ _ (Int.emod_nonneg _ (by omega)) (Int.emod_lt_of_pos _ b0) gO' D'
end
end K21
set_option Elab.async false
set_option linter.all false
set_option maxRecDepth 100000
set_option maxHeartbeats 2000000
namespace K21
open PySem PySem.Spec PyProof.Rows L2 Tl
open C8 (Cal pe_c)
/-! ### words -/
def alpha : List Nat := ("abcdefghijklmnopqrstuvwxyz" : Str).cps.toList
def lett (c : Nat) : Bool := decide (97 ≤ c) && decide (c ≤ 122)
theorem alpha_eq : alpha = List.range' 97 26 := by decide +kernel
theorem mem_alpha (c : Nat) : decide (c ∈ alpha) = lett c := by
  rw [alpha_eq]
  unfold lett
  rw [Bool.eq_iff_iff]
  simp only [decide_eq_true_eq, Bool.and_eq_true, List.mem_range']
  constructor
  · rintro ⟨i, h, rfl⟩
    omega
  · rintro ⟨h1, h2⟩
    exact ⟨c - 97, by omega, by omega⟩
def six : List Str := ["all", "none", "some", "and", "each", "is"]
def isW (w : Str) : Bool := decide (0 < w.length) && (decide (w.length < 11) && (!(six.any fun y => decide (y = w)) && w.cps.toList.all lett))
theorem eqV_str (x y : Str) : eqV (.str x) (.str y) = decide (x = y) := by
  show (x == y) = decide (x = y)
  rfl
theorem inV_six (w : Str) : inV (.str w) (six.map V.str) = six.any fun y => decide (y = w) := by
  unfold inV
  rw [List.any_map]
  rfl
theorem flat_strs (ws : List Str) : (ws.map V.str).all flatV = true := by
  rw [List.all_map]
  exact List.all_eq_true.mpr fun _ _ => rfl
theorem canLay_strs : ∀ ys : List Str, (∀ y ∈ ys, PyData.strOk y = true) → PyData.canLayAll0 (ys.map PyData.str) = true
  | [], _ => by simp [PyData.canLayAll0]
  | y :: ys, h => by simp [PyData.canLayAll0, PyData.canLay0, h y List.mem_cons_self, canLay_strs ys fun z hz => h z (List.mem_cons_of_mem _ hz)]
theorem depth_strs : ∀ ys : List Str, PyData.depthAll (ys.map PyData.str) = 0
  | [] => by simp [PyData.depthAll]
  | y :: ys => by simp [PyData.depthAll, PyData.depth, depth_strs ys]
theorem shaped_strs (ys : List Str) (h : ∀ y ∈ ys, PyData.strOk y = true) : SeqAt.shaped (.list (ys.map PyData.str)) = true := by
  simp [SeqAt.shaped, PyData.canLay0, PyData.depth, canLay_strs ys h, depth_strs]
theorem lett_ok {x : Str} (h : x.cps.toList.all lett = true) : PyData.strOk x = true := by
  unfold PyData.strOk
  rw [Array.all_eq_true']
  intro c hc
  have := List.all_eq_true.mp h c (Array.mem_toList_iff.mpr hc)
  unfold lett at this
  simp only [Bool.and_eq_true, decide_eq_true_eq] at this
  exact decide_eq_true (by omega)
end K21
set_option Elab.async false
set_option linter.all false
set_option autoImplicit false
set_option maxRecDepth 100000
set_option maxHeartbeats 2000000
namespace K21
open PySem PySem.Spec PyProof.Rows L2 Tl
open C8 (Cal pe_c)
theorem Off.seq {K : PySem.W.Frag} {d l : Addr} {H H' : Hp} {a : Addr} {xs : List V} (e : Off d l H H') (h1 : a ≠ d) (h2 : a ≠ l) (h : SqL K H a xs) : SqL K H' a xs := seq_off (fun o z => e a o h1 h2 z) h
section
variable {P : Program} {w : World} {K : PySem.W.Frag} {mg : Str → Option Value} {base : Heap}
/-! ### _law_pick -/
/-- a list or a tuple -/
def Sq2 (K : PySem.W.Frag) (H : Hp) (b : Addr) (xs : List V) : Prop := SqL K H b xs ∨ SqT K H b xs
theorem Off.sq2 {K : PySem.W.Frag} {d l : Addr} {H H' : Hp} {a : Addr} {xs : List V} (e : Off d l H H') (h1 : a ≠ d) (h2 : a ≠ l) (h : Sq2 K H a xs) : Sq2 K H' a xs := by
  rcases h with h | h
  · exact .inl (e.seq h1 h2 h)
  · refine .inr (h.imp (fun z => ?_) id)
    rcases z with z | ⟨o, z⟩
    · exact .inl (e a _ h1 h2 z)
    · exact .inr ⟨o, e a _ h1 h2 z⟩
def rIxB (K : PySem.W.Frag) : R2 := fun x y H Q => rIxL K x y H Q ∨ rIxT K x y H Q
theorem ix_both {X : Cx} : IxR X (rIxB X.K) := IxR.or ix_list ix_tup
def spPick (K : PySem.W.Frag) : Sp := fun vs H Q _ => ∃ (d l b : Addr) (xs : List V), vs = [.ref d, .ref b] ∧ Deck H d l ∧ Sq2 K H b xs ∧ b ≠ d ∧ b ≠ l ∧ xs ≠ [] ∧ xs.length ≤ 100000 ∧
  ∀ (x : V) (H' : Hp), x ∈ xs → Off d l H H' → Deck H' d l → Q x H'
theorem cLawPick (T : Txt K mg) : Cal P w K mg base 2 "_law_pick" (spPick K) [] := by
  refine cal_of T.lawPick scLawPick (fun _ _ _ _ _ _ us hl => match us, hl with | [_, _], _ => rfl) (fun vs H Q E h => ?_) (fun f cdv A outer s H vs Q E hr h => ?_)
  · obtain ⟨d, l, b, xs, rfl, _⟩ := h
    rfl
  obtain ⟨d, l, b, xs, rfl, D, sq, nd, nl, ne, len, q⟩ := h
  refine ⟨_, (pss_one (ps_ret (pe_ix ix_both (pv 1) (pe_c (cLawDraw T) hr (by decide) rfl (pa_cons (pv 0) (pa_cons (pe_callB call_len_seq (by rfl) T.len (by decide +kernel) (pa_cons (pv 1) pa_nil)) pa_nil))) (fun _ _ => rfl)))), ?_⟩
  have pos : 0 < xs.length := List.length_pos_iff.mpr ne
  refine ⟨.ref b, rfl, .ref d, rfl, .ref b, rfl, b, xs, rfl, sq, d, l, _, rfl, D, by omega, by omega, fun i H' i0 i1 off D' => ?_⟩
  obtain ⟨x, hx⟩ : ∃ x, xs[i.toNat]? = some x := ⟨xs[i.toNat]'(by omega), List.getElem?_eq_getElem (by omega)⟩
  have fin := q x H' (List.mem_of_getElem? hx) off D'
  rcases off.sq2 nd nl sq with sq' | sq'
  · exact .inl ⟨b, xs, i, x, rfl, rfl, sq', at_of (j := i.toNat) (by omega) hx, fin⟩
  · exact .inr ⟨b, xs, i, x, rfl, rfl, sq', at_of (j := i.toNat) (by omega) hx, fin⟩
/-- letters alone, one to ten of them -/
def Lt (x : Str) : Prop := 0 < x.length ∧ x.length < 11 ∧ x.cps.toList.all lett = true
theorem isW_lt {x : Str} (h : isW x = true) : Lt x := by
  unfold isW at h
  simp only [Bool.and_eq_true, decide_eq_true_eq] at h
  exact ⟨h.1, h.2.1, h.2.2.2⟩
theorem signs_at {j : Nat} (h : j < 26) : alpha[j]? = some (97 + j) := by
  rw [alpha_eq, List.getElem?_range' h] <;> simp
theorem joined : ∀ cs : List Nat, (Txt.join ("" : Str) (cs.map fun c => (⟨#[c]⟩ : Str))).cps.toList = cs := by
  intro cs
  rw [TL.join_eq]
  induction cs with
  | nil => rfl
  | cons c cs ih =>
    cases cs with
    | nil => rfl
    | cons e cs =>
      show ((⟨#[c]⟩ : Str) ++ ("" : Str) ++ Str.join ("" : Str) ((e :: cs).map fun c => (⟨#[c]⟩ : Str))).cps.toList = _
      have h : ∀ a b : Str, (a ++ b).cps.toList = a.cps.toList ++ b.cps.toList := fun a b => Array.toList_append
      rw [h, h, ih]
      rfl
theorem str_ext {x y : Str} (h : x.cps.toList = y.cps.toList) : x = y := by
  obtain ⟨⟨a⟩⟩ := x
  obtain ⟨⟨b⟩⟩ := y
  have h : a = b := h
  rw [h]
theorem at_gen {α : Type} {xs : List α} {z : Int} {j : Nat} {v : α} (e : z = (j : Int)) (h : xs[j]? = some v) : atI xs z = some v := by
  rw [e]
  exact atI_nat h
theorem app_list (a b : Str) : (a ++ b).cps.toList = a.cps.toList ++ b.cps.toList := Array.toList_append
theorem len_list (a : Str) : a.length = a.cps.toList.length := (Array.length_toList).symm
theorem made {a b c : Nat} (h1 : lett a = true) (h2 : lett b = true) (h3 : lett c = true) : isW ⟨#[a, b, c, 113]⟩ = true := by
  have h6 : (six.any fun y => decide (y = (⟨#[a, b, c, 113]⟩ : Str))) = false := by
    rw [List.any_eq_false]
    intro y hy e
    have e := of_decide_eq_true e
    subst e
    have last : ∀ y ∈ six, y.cps.toList.getLast? ≠ some 113 := by decide +kernel
    exact last _ hy rfl
  unfold isW
  rw [h6]
  have e : ([a, b, c, 113].all lett) = true := by
    simp only [List.all_cons, List.all_nil, h1, h2, h3, Bool.true_and, Bool.and_true]
    decide
  show (decide (0 < 4) && (decide (4 < 11) && (!false && [a, b, c, 113].all lett))) = true
  rw [e]
  rfl
theorem menu_lt : ∀ x ∈ (["alls", "somes", "an", "ands", "eachx", "i", "iss", "so", "nones", "al"] : List Str), Lt x := by
  have : ∀ x ∈ (["alls", "somes", "an", "ands", "eachx", "i", "iss", "so", "nones", "al"] : List Str), (decide (0 < x.length) && (decide (x.length < 11) && x.cps.toList.all lett)) = true := by decide +kernel
  intro x hx
  have := this x hx
  simp only [Bool.and_eq_true, decide_eq_true_eq] at this
  exact ⟨this.1, this.2.1, this.2.2⟩
theorem inV_ws (x : Str) (ws : List Str) : inV (.str x) (ws.map V.str) = decide (x ∈ ws) := by
  unfold inV
  rw [List.any_map, Bool.eq_iff_iff, List.any_eq_true, decide_eq_true_eq]
  constructor
  · rintro ⟨y, hy, e⟩
    have e : y = x := of_decide_eq_true e
    exact e ▸ hy
  · intro h
    exact ⟨x, h, decide_eq_true rfl⟩
/-- the k-th name that is tried -/
def nm (c k : Nat) : Str := ⟨#[c, 97 + k / 26, 97 + k % 26, 113]⟩
theorem nm_inj {c j k : Nat} (h : nm c j = nm c k) : j = k := by
  unfold nm at h
  simp only [Str.mk.injEq] at h
  have h := congrArg Array.toList h
  simp only [List.cons.injEq, true_and, and_true] at h
  omega
theorem pigeon : ∀ (n : Nat) (f : Nat → Str) (ws : List Str), (∀ j k, j < n → k < n → f j = f k → j = k) → (∀ j, j < n → f j ∈ ws) → n ≤ ws.length
  | 0, _, _, _, _ => Nat.zero_le _
  | n + 1, f, ws, inj, mem => by
    have h := pigeon n f (ws.erase (f n)) (fun j k a b e => inj j k (by omega) (by omega) e) fun j hj => by
      refine (List.mem_erase_of_ne fun e => ?_).mpr (mem j (by omega))
      have := inj j n (by omega) (by omega) e
      omega
    have hm := mem n (by omega)
    rw [List.length_erase_of_mem hm] at h
    have := List.length_pos_of_mem hm
    omega
end
end K21
set_option Elab.async false
set_option linter.all false
set_option autoImplicit false
set_option maxRecDepth 100000
set_option maxHeartbeats 2000000
namespace K21
open PySem PySem.Spec PyProof.Rows L2 Tl
open C8 (Cal pe_c)
theorem Deck.off {d l p : Addr} {H : Hp} (D : Deck H d l) (np : H p = none) : p ≠ d ∧ p ≠ l := by
  obtain ⟨_, _, _, h1, h2, _⟩ := D
  exact ⟨fun z => (by rw [z, h1] at np; cases np), fun z => (by rw [z, h2] at np; cases np)⟩
theorem Off.free {d l p : Addr} {H H' : Hp} (e : Off d l H H') (h1 : p ≠ d) (h2 : p ≠ l) (h : H' p = none) : H p = none := by
  cases q : H p with
  | none => rfl
  | some o => rw [e p o h1 h2 q] at h; cases h
theorem Off.mut {d l p : Addr} {H H' : Hp} {o : HO} (e : Off d l H H') (h : H p = none) : Off d l H (upd H' p o) := fun a u h1 h2 z => by
  rw [upd_ne (ne_of_none z h)]
  exact e a u h1 h2 z
theorem Deck.mut {d l p : Addr} {H : Hp} {o : HO} (D : Deck H d l) (h1 : p ≠ d) (h2 : p ≠ l) : Deck (upd H p o) d l := by
  obtain ⟨ns, m, t, k1, k2, k3⟩ := D
  exact ⟨ns, m, t, (upd_ne h1.symm).trans k1, (upd_ne h2.symm).trans k2, k3⟩
/-! ### concepts -/
def COk : C → Prop
  | .all => True
  | .non => True
  | .word x => isW x = true
  | .some r c => isW r = true ∧ COk c
  | .and a b => COk a ∧ COk b
def dep : C → Nat
  | .some _ c => dep c + 1
  | .and a b => Nat.max (dep a) (dep b) + 1
  | _ => 1
def nodes : C → Nat
  | .some _ c => nodes c + 1
  | .and a b => nodes a + nodes b + 1
  | _ => 1
theorem cal_false {P : Program} {w : World} {K : PySem.W.Frag} {mg : Str → Option Value} {base : Heap} {x : Str} {st : Stmt} {ps : List Str} (D : DefAt K mg x st) (hb : BindH x st ps) : Cal P w K mg base 0 x (fun _ _ _ _ => False) [] := by
  obtain ⟨f, fd, F, hm⟩ := D.ex
  exact ⟨f, fd, ps, [], ⟨fun _ _ _ _ z => z.elim, fun _ _ _ _ _ _ _ _ _ _ _ _ _ z => z.elim⟩, hm, F.kp, F.binds hb, .nil⟩
theorem erase_map {α β : Type} (f : α → β) : ∀ (l : List α) (k : Nat), (l.map f).eraseIdx k = (l.eraseIdx k).map f
  | [], _ => rfl
  | _ :: _, 0 => rfl
  | x :: l, k + 1 => by
    show f x :: (l.map f).eraseIdx k = f x :: (l.eraseIdx k).map f
    rw [erase_map f l k]
/-! ### shuffled words, vocabularies -/
/-- a tuple of words, apart from the deck -/
def Tw (K : PySem.W.Frag) (H : Hp) (d l b : Addr) (ws : List Str) : Prop := SqT K H b (ws.map V.str) ∧ b ≠ d ∧ b ≠ l ∧ ws.length ≤ 10 ∧ ∀ x ∈ ws, isW x = true
theorem Tw.st {K : PySem.W.Frag} {H H' : Hp} {d l b : Addr} {ws : List Str} (h : Tw K H d l b ws) (e : Stay H H') : Tw K H' d l b ws := ⟨e.tup h.1, h.2⟩
def spShuf (K : PySem.W.Frag) : Sp := fun vs H Q _ => ∃ (d l b : Addr) (ws : List Str), vs = [.ref d, .ref b] ∧ Deck H d l ∧ Tw K H d l b ws ∧
  ∀ (p : Addr) (ys : List Str) (H' : Hp), H p = none → ys.length ≤ 10 → (∀ x ∈ ys, isW x = true) → p ≠ d → p ≠ l → Off d l H H' → Deck H' d l → H' p = some (.lst (ys.map V.str)) → Q (.ref p) H'
theorem isw_ok {x : Str} (h : isW x = true) : PyData.strOk x = true := by
  unfold isW at h
  simp only [Bool.and_eq_true, decide_eq_true_eq] at h
  exact lett_ok h.2.2.2
theorem ne_nil_strs (ys : List Str) : (!PyData.eqv (.list (ys.map PyData.str)) (.list [])) = !ys.isEmpty := by
  cases ys <;> simp [PyData.eqv, PyData.eqvAll]
section
variable {P : Program} {w : World} {K : PySem.W.Frag} {mg : Str → Option Value} {base : Heap}
theorem cLawShuffled (T : Txt K mg) : Cal P w K mg base 2 "_law_shuffled" (spShuf K) [] := by
  refine cal_of T.lawShuffled scLawShuffled (fun _ _ _ _ _ _ us hl => match us, hl with | [_, _], _ => rfl) (fun vs H Q E h => ?_) (fun f cdv A outer s H vs Q E hr h => ?_)
  · obtain ⟨d, l, b, ws, rfl, _⟩ := h
    rfl
  obtain ⟨d, l, b, ws, rfl, D, W, q⟩ := h
  have hu64 := hr.units
  refine ⟨_, (pss_cons (ps_par (i := 2) (j := 3) rfl scLawShuffled.nd rfl rfl (by decide) rfl rfl (pa_cons (pe_callTy call_list_of (by rfl) T.list (by decide +kernel) (pa_cons (pv 1) pa_nil)) (pa_cons (pe_lst pa_nil) pa_nil)) rfl)
 (pss_cons (ps_while PassesOwn.never (pt_cmpR (op_neD hu64) (pv 2) (pe_lst pa_nil) (nomark _))
 (pss_one (ps_expr (pe_bm PySem.F.plainAttrs_list PySem.F.slot_list_append PySem.F.type_list_append mt_append (pv 3) (pa_cons (pe_bm PySem.F.plainAttrs_list PySem.F.slot_list_pop PySem.F.type_list_pop mt_popAt (pv 2) (pa_cons (pe_c (cLawDraw T) hr (by decide) rfl (pa_cons (pv 0) (pa_cons (pe_callB call_len_seq (by rfl) T.len (by decide +kernel) (pa_cons (pv 2) pa_nil)) pa_nil))) pa_nil)) pa_nil)))))
 (pss_one (ps_ret (pv 3))))), ?_⟩
  refine ⟨.ref b, rfl, b, _, rfl, .inr W.1, fun p np => ⟨Nat.zero_le _, fun f nf => ⟨_, _, rfl, ?_⟩⟩⟩
  have s1 := same_up (o := .lst (ws.map V.str)) np
  have s2 := same_add s1 (o := .lst []) nf
  have pf : p ≠ f := ne_of_none upd_same nf
  have nf0 := s1.free nf
  obtain ⟨pd, pl⟩ := D.off np
  obtain ⟨fd, fl⟩ := D.off nf0
  refine ⟨fun m σ X => ∃ (xs ys : List Str), σ = [some (.ref d), some (.ref b), some (.ref p), some (.ref f)] ∧ Off d l H X ∧ Deck X d l ∧ X p = some (.lst (xs.map V.str)) ∧ X f = some (.lst (ys.map V.str)) ∧ (∀ x ∈ xs, isW x = true) ∧ (∀ y ∈ ys, isW y = true) ∧ xs.length = m ∧ m + ys.length ≤ 10,
    ⟨ws.length, ws, [], rfl, s2.off, D.same s2, (upd_ne pf).trans upd_same, upd_same, W.2.2.2.2, fun x hx => (nomatch hx), rfl, by have := W.2.2.2.1; simpa using this⟩, ?_⟩
  rintro m σ X ⟨xs, ys, rfl, o1, D1, gp, gf, wx, wy, rfl, le⟩
  refine ⟨.ref p, rfl, Nat.zero_le _, fun z nz => ?_⟩
  have zp : p ≠ z := ne_of_none gp nz
  have zf : f ≠ z := ne_of_none gf nz
  have gp1 : upd X z (.lst []) p = some (.lst (xs.map V.str)) := (upd_ne zp).trans gp
  have gf1 : upd X z (.lst []) f = some (.lst (ys.map V.str)) := (upd_ne zf).trans gf
  have o2 := o1.trans (off_new (d := d) (l := l) (o := .lst []) nz)
  have D2 := D1.new nz (o := .lst [])
  refine ⟨.list (xs.map PyData.str), .list [], .lst (lst_of gp1) (dp_strs xs), .lst (lst_of upd_same) .nil, shaped_strs xs fun y hy => isw_ok (wx y hy), shaped_nil, _, rfl, ?_⟩
  rw [ne_nil_strs]
  generalize upd X z (.lst []) = X2 at gp1 gf1 o2 D2 ⊢
  cases xs with
  | nil => exact iteF ⟨_, rfl, q f ys X2 nf0 (by simpa using le) wy fd fl o2 D2 gf1⟩
  | cons x0 xr =>
    refine iteT ⟨fun σ' X' => ∃ m', m' < (x0 :: xr).length ∧ ∃ (xs ys : List Str), σ' = [some (.ref d), some (.ref b), some (.ref p), some (.ref f)] ∧ Off d l H X' ∧ Deck X' d l ∧ X' p = some (.lst (xs.map V.str)) ∧ X' f = some (.lst (ys.map V.str)) ∧ (∀ x ∈ xs, isW x = true) ∧ (∀ y ∈ ys, isW y = true) ∧ xs.length = m' ∧ m' + ys.length ≤ 10, fun _ _ z => z, ?_⟩
    generalize hxs : x0 :: xr = xs at gp1 wx le
    have pos : 0 < xs.length := by rw [← hxs]; exact Nat.succ_pos _
    refine ⟨.ref f, rfl, .inl ⟨rfl, _, lst_of gf1⟩, .ref p, rfl, .inl ⟨rfl, _, lst_of gp1⟩, .ref d, rfl, .ref p, rfl, p, _, rfl, .inl (lst_of gp1), d, l, _, rfl, D2, by rw [List.length_map]; omega, by rw [List.length_map]; omega, fun i X3 i0 i1 o3 D3 => ?_⟩
    rw [List.length_map] at i1
    have gp3 := o3 p _ pd pl gp1
    have gf3 := o3 f _ fd fl gf1
    obtain ⟨k, rfl⟩ : ∃ k : Nat, i = (k : Int) := ⟨i.toNat, by omega⟩
    have hk : k < xs.length := by omega
    refine ⟨p, _, _, k, .str xs[k], rfl, rfl, gp3, by omega, by omega, ?_, by rw [List.getElem?_map, List.getElem?_eq_getElem hk]; rfl, ?_⟩
    · unfold seqIndex?
      rw [List.length_map]
      have h1 : ¬ ((k : Int) < 0) := by omega
      have h2 : ((k : Int) < (xs.length : Int)) := by omega
      simp [h1, h2, hk]
    · have gf4 : upd X3 p (.lst ((xs.map V.str).eraseIdx k)) f = some (.lst (ys.map V.str)) := (upd_ne pf.symm).trans gf3
      refine ⟨f, _, _, rfl, rfl, gf4, by rw [List.length_map]; exact Nat.lt_of_lt_of_le (show ys.length < 100 by omega) (by decide), ?_⟩
      refine ⟨(xs.eraseIdx k).length, by rw [List.length_eraseIdx_of_lt hk]; omega, xs.eraseIdx k, ys ++ [xs[k]], rfl, ((o2.trans o3).mut np).mut nf0, (D3.mut pd pl).mut fd fl, ?_, ?_, fun y hy => wx y (List.mem_of_mem_eraseIdx hy), fun y hy => ?_, rfl, by rw [List.length_eraseIdx_of_lt hk, List.length_append, List.length_singleton]; omega⟩
      · rw [upd_ne pf, upd_same, erase_map]
      · rw [upd_same, List.map_append]
        rfl
      · rcases List.mem_append.mp hy with hy | hy
        · exact wy y hy
        · rw [List.mem_singleton.mp hy]
          exact wx _ (List.getElem_mem hk)
theorem cut_strs (ys : List Str) (hi : Option Int) : ∃ zs : List Str, cutV (ys.map V.str) none hi = zs.map V.str ∧ zs.length ≤ ys.length ∧ ∀ z ∈ zs, z ∈ ys := by
  unfold cutV
  refine ⟨(ys.drop (HT.sIx (ys.map V.str).length 0 none)).take (HT.sIx (ys.map V.str).length (ys.map V.str).length hi - HT.sIx (ys.map V.str).length 0 none), ?_, ?_, fun z hz => List.mem_of_mem_drop (List.mem_of_mem_take hz)⟩
  · rw [List.map_take, List.map_drop]
  · rw [List.length_take, List.length_drop]
    omega
/-- a vocabulary, apart from the deck -/
def Voc (K : PySem.W.Frag) (H : Hp) (d l : Addr) (v : V) (ns rs : List Str) : Prop := ∃ a n r, v = .ref a ∧ SqT K H a [.ref n, .ref r] ∧ Tw K H d l n ns ∧ Tw K H d l r rs
theorem Voc.st {K : PySem.W.Frag} {H H' : Hp} {d l : Addr} {v : V} {ns rs : List Str} (h : Voc K H d l v ns rs) (e : Stay H H') : Voc K H' d l v ns rs := by
  obtain ⟨a, n, r, h1, h2, h3, h4⟩ := h
  exact ⟨a, n, r, h1, e.tup h2, h3.st e, h4.st e⟩
def spVoc (K : PySem.W.Frag) : Sp := fun vs H Q _ => ∃ (d l : Addr), vs = [.ref d] ∧ Deck H d l ∧
  ∀ (v : V) (ns rs : List Str) (H' : Hp), Voc K H' d l v ns rs → Off d l H H' → Deck H' d l → Q v H'
/-- sorted(shuffled(deck, ws)[:pick(deck, is)]), for one of its two uses -/
theorem words_ok {ws : List Str} (h : (ws.all fun x => isW x) = true) : ∀ x ∈ ws, isW x = true := fun x m => List.all_eq_true.mp h x m
theorem cLawVocabulary (T : Txt K mg) : Cal P w K mg base 3 "_law_vocabulary" (spVoc K) [] := by
  refine cal_of T.lawVocabulary scLawVocabulary (fun _ _ _ _ _ _ us hl => match us, hl with | [_], _ => rfl) (fun vs H Q E h => ?_) (fun f cdv A outer s H vs Q E hr h => ?_)
  · obtain ⟨d, l, rfl, _⟩ := h
    rfl
  obtain ⟨d, l, rfl, D, q⟩ := h
  refine ⟨_, (pss_cons (ps_set (i := 1) scLawVocabulary.nd rfl (.inl rfl) (pe_callB cr_sortedS (by rfl) T.sorted (by decide +kernel) (pa_cons (pe_slice sl_list (pe_c (cLawShuffled T) hr (by decide) rfl (pa_cons (pv 0) (pa_cons (pe_tup (pa_cons pe_str (pa_cons pe_str (pa_cons pe_str (pa_cons pe_str pa_nil))))) pa_nil))) po_none (po_some (pe_c (cLawPick T) hr (by decide) rfl (pa_cons (pv 0) (pa_cons (pe_tup (pa_cons pe_int (pa_cons pe_int (pa_cons pe_int (pa_cons pe_int (pa_cons pe_int pa_nil)))))) pa_nil))))) pa_nil)))
 (pss_one (ps_ret (pe_tup (pa_cons (pe_callTy call_tuple_of (by rfl) T.tuple (by decide +kernel) (pa_cons (pv 1) pa_nil)) (pa_cons (pe_callTy call_tuple_of (by rfl) T.tuple (by decide +kernel) (pa_cons (pe_callB cr_sortedS (by rfl) T.sorted (by decide +kernel) (pa_cons (pe_slice sl_list (pe_c (cLawShuffled T) hr (by decide) rfl (pa_cons (pv 0) (pa_cons (pe_tup (pa_cons pe_str (pa_cons pe_str (pa_cons pe_str pa_nil)))) pa_nil))) po_none (po_some (pe_c (cLawPick T) hr (by decide) rfl (pa_cons (pv 0) (pa_cons (pe_tup (pa_cons pe_int (pa_cons pe_int (pa_cons pe_int (pa_cons pe_int (pa_cons pe_int pa_nil)))))) pa_nil))))) pa_nil)) pa_nil)) pa_nil)))))), ?_⟩
  -- the names
  refine ⟨.ref d, rfl, by show 4 ≤ sizeLine; decide, fun t nt => ?_⟩
  have D1 := D.new nt (o := .tup [.str "a", .str "b", .str "cc", .str "zz"])
  obtain ⟨td, tl⟩ := D.off nt
  refine ⟨d, l, t, ["a", "b", "cc", "zz"], rfl, D1, ⟨tupOf upd_same, td, tl, by decide, words_ok (by decide +kernel)⟩, fun p ys H2 np ly wy pd pl o2 D2 g2 => ?_⟩
  refine ⟨.ref d, rfl, by show 5 ≤ sizeLine; decide, fun t2 nt2 => ?_⟩
  obtain ⟨t2d, t2l⟩ := D2.off nt2
  refine ⟨d, l, t2, _, rfl, D2.new nt2, .inr (tupOf upd_same), t2d, t2l, by simp, by simp, fun x H3 hx o3 D3 => ?_⟩
  obtain ⟨i, rfl⟩ : ∃ i : Int, x = .int i := by
    simp only [List.mem_cons, List.not_mem_nil, or_false] at hx
    rcases hx with rfl | rfl | rfl | rfl | rfl <;> exact ⟨_, rfl⟩
  have g3 : H3 p = some (.lst (ys.map V.str)) := o3 p _ pd pl ((upd_ne (ne_of_none g2 nt2)).trans g2)
  have oA : Off d l H H3 := ((off_new nt).trans o2).trans ((off_new nt2).trans o3)
  refine ⟨i, rfl, p, _, rfl, lst_of g3, fun c nc => ?_⟩
  obtain ⟨zs, ez, lz, mz⟩ := cut_strs ys (some i)
  rw [ez]
  have D4 := D3.new nc (o := .lst (zs.map V.str))
  have o4 := oA.trans (off_new (d := d) (l := l) (o := .lst (zs.map V.str)) nc)
  refine ⟨c, zs, rfl, lst_of upd_same, by omega, fun us p2 perm srt np2 => ?_⟩
  have lu : us.length ≤ 10 := by rw [perm.length_eq]; omega
  have wu : ∀ x ∈ us, isW x = true := fun x m => wy x (mz x (perm.mem_iff.mp m))
  have D5 := D4.new np2 (o := .lst (us.map V.str))
  have o5 := o4.trans (off_new (d := d) (l := l) (o := .lst (us.map V.str)) np2)
  generalize hX : upd (upd H3 c (.lst (zs.map V.str))) p2 (.lst (us.map V.str)) = X at D5 o5 ⊢
  have gX : X p2 = some (.lst (us.map V.str)) := by rw [← hX]; exact upd_same
  -- the two tuples
  refine ⟨.ref p2, rfl, p2, _, rfl, .inl ⟨lst_of gX, fun n nn => ?_⟩⟩
  have D6 := D5.new nn (o := .tup (us.map V.str))
  have o6 := o5.trans (off_new (d := d) (l := l) (o := .tup (us.map V.str)) nn)
  obtain ⟨nd, nl⟩ := D5.off nn
  generalize hY : upd X n (.tup (us.map V.str)) = Y at D6 o6 ⊢
  have hn : Tw K Y d l n us := ⟨by rw [← hY]; exact tupOf upd_same, nd, nl, lu, wu⟩
  refine ⟨.ref d, rfl, by show 3 ≤ sizeLine; decide, fun t3 nt3 => ?_⟩
  obtain ⟨t3d, t3l⟩ := D6.off nt3
  refine ⟨d, l, t3, ["r", "s", "tt"], rfl, D6.new nt3, ⟨tupOf upd_same, t3d, t3l, by decide, words_ok (by decide +kernel)⟩, fun p3 ys3 H7 np3 ly3 wy3 p3d p3l o7 D7 g7 => ?_⟩
  refine ⟨.ref d, rfl, by show 5 ≤ sizeLine; decide, fun t4 nt4 => ?_⟩
  obtain ⟨t4d, t4l⟩ := D7.off nt4
  refine ⟨d, l, t4, _, rfl, D7.new nt4, .inr (tupOf upd_same), t4d, t4l, by simp, by simp, fun x H8 hx o8 D8 => ?_⟩
  obtain ⟨j, rfl⟩ : ∃ i : Int, x = .int i := by
    simp only [List.mem_cons, List.not_mem_nil, or_false] at hx
    rcases hx with rfl | rfl | rfl | rfl | rfl <;> exact ⟨_, rfl⟩
  have g8 : H8 p3 = some (.lst (ys3.map V.str)) := o8 p3 _ p3d p3l ((upd_ne (ne_of_none g7 nt4)).trans g7)
  have oB : Off d l Y H8 := ((off_new nt3).trans o7).trans ((off_new nt4).trans o8)
  refine ⟨j, rfl, p3, _, rfl, lst_of g8, fun c2 nc2 => ?_⟩
  obtain ⟨zs3, ez3, lz3, mz3⟩ := cut_strs ys3 (some j)
  rw [ez3]
  refine ⟨c2, zs3, rfl, lst_of upd_same, by omega, fun vs p4 perm4 srt4 np4 => ?_⟩
  have lv : vs.length ≤ 10 := by rw [perm4.length_eq]; omega
  have wv : ∀ x ∈ vs, isW x = true := fun x m => wy3 x (mz3 x (perm4.mem_iff.mp m))
  have D9 := (D8.new nc2 (o := .lst (zs3.map V.str))).new np4 (o := .lst (vs.map V.str))
  have oC := (oB.trans (off_new (d := d) (l := l) (o := .lst (zs3.map V.str)) nc2)).trans (off_new (d := d) (l := l) (o := .lst (vs.map V.str)) np4)
  generalize hZ : upd (upd H8 c2 (.lst (zs3.map V.str))) p4 (.lst (vs.map V.str)) = Z at D9 oC ⊢
  have gZ : Z p4 = some (.lst (vs.map V.str)) := by rw [← hZ]; exact upd_same
  refine ⟨p4, _, rfl, .inl ⟨lst_of gZ, fun r nr => ⟨by show 2 ≤ sizeLine; decide, fun a na => ?_⟩⟩⟩
  obtain ⟨rd, rl⟩ := D9.off nr
  have sZ : L2.Same Z (upd (upd Z r (.tup (vs.map V.str))) a (.tup [.ref n, .ref r])) := same_add (same_up nr) na
  refine q _ us vs _ ⟨a, n, r, rfl, tupOf upd_same, hn.st ((oC.stay D6).trans (Tl.Same.stay sZ)), ⟨tupOf ?_, rd, rl, lv, wv⟩⟩ ((o6.trans oC).trans sZ.off) (D9.same sZ)
  exact (upd_ne (ne_of_none upd_same na)).trans upd_same
end
end K21
set_option Elab.async false
set_option linter.all false
set_option autoImplicit false
set_option maxRecDepth 100000
set_option maxHeartbeats 2000000
namespace K21
open PySem PySem.Spec PyProof.Rows L2 Tl
open C8 (Cal pe_c)
/-! ### worlds -/
structure Wd where
  many : Int
  names : List (Str × List Int)
  roles : List (Str × List (Int × Int))
def PrE (K : PySem.W.Frag) (H : Hp) (q : Addr) (e : Int × Int) : Prop := SqT K H q [.int e.1, .int e.2]
def Prs (K : PySem.W.Frag) (H : Hp) (t : Addr) (es : List (Int × Int)) : Prop := ∃ qs : List Addr, SqT K H t (qs.map V.ref) ∧ Paired (PrE K H) qs es
def NmE (K : PySem.W.Frag) (H : Hp) (p : Addr) (e : Str × List Int) : Prop := ∃ t, SqT K H p [.str e.1, .ref t] ∧ SqT K H t (e.2.map V.int)
def RlE (K : PySem.W.Frag) (H : Hp) (p : Addr) (e : Str × List (Int × Int)) : Prop := ∃ t, SqT K H p [.str e.1, .ref t] ∧ Prs K H t e.2
def Frz (H : Hp) (a : Addr) (ps : List Addr) : Prop := ∃ o : Obj, H a = some (.frz o (.tup (ps.map V.ref))) ∧ o.dict = none
def Names (K : PySem.W.Frag) (H : Hp) (a : Addr) (nm : List (Str × List Int)) : Prop := ∃ ps, Frz H a ps ∧ Paired (NmE K H) ps nm
def Roles (K : PySem.W.Frag) (H : Hp) (a : Addr) (rl : List (Str × List (Int × Int))) : Prop := ∃ ps, Frz H a ps ∧ Paired (RlE K H) ps rl
def IsWd (K : PySem.W.Frag) (H : Hp) (v : V) (W : Wd) : Prop := ∃ a n r, v = .ref a ∧ SqT K H a [.int W.many, .ref n, .ref r] ∧ Names K H n W.names ∧ Roles K H r W.roles
section
variable {K : PySem.W.Frag} {H H' : Hp}
theorem pre_st {q : Addr} {e : Int × Int} (s : Stay H H') (h : PrE K H q e) : PrE K H' q e := s.tup h
theorem prs_st {t : Addr} {es : List (Int × Int)} (s : Stay H H') (h : Prs K H t es) : Prs K H' t es := by
  obtain ⟨qs, h1, h2⟩ := h
  exact ⟨qs, s.tup h1, Paired.mapP h2 fun _ _ z => pre_st s z⟩
theorem nme_st {p : Addr} {e : Str × List Int} (s : Stay H H') (h : NmE K H p e) : NmE K H' p e := by
  obtain ⟨t, h1, h2⟩ := h
  exact ⟨t, s.tup h1, s.tup h2⟩
theorem rle_st {p : Addr} {e : Str × List (Int × Int)} (s : Stay H H') (h : RlE K H p e) : RlE K H' p e := by
  obtain ⟨t, h1, h2⟩ := h
  exact ⟨t, s.tup h1, prs_st s h2⟩
theorem frz_st {a : Addr} {ps : List Addr} (s : Stay H H') (h : Frz H a ps) : Frz H' a ps := by
  obtain ⟨o, h1, h2⟩ := h
  exact ⟨o, s.frz h1, h2⟩
theorem names_st {a : Addr} {nm : List (Str × List Int)} (s : Stay H H') (h : Names K H a nm) : Names K H' a nm := by
  obtain ⟨ps, h1, h2⟩ := h
  exact ⟨ps, frz_st s h1, Paired.mapP h2 fun _ _ z => nme_st s z⟩
theorem roles_st {a : Addr} {rl : List (Str × List (Int × Int))} (s : Stay H H') (h : Roles K H a rl) : Roles K H' a rl := by
  obtain ⟨ps, h1, h2⟩ := h
  exact ⟨ps, frz_st s h1, Paired.mapP h2 fun _ _ z => rle_st s z⟩
theorem iswd_st {v : V} {W : Wd} (s : Stay H H') (h : IsWd K H v W) : IsWd K H' v W := by
  obtain ⟨a, n, r, h1, h2, h3, h4⟩ := h
  exact ⟨a, n, r, h1, s.tup h2, names_st s h3, roles_st s h4⟩
end
theorem snoc {α β : Type} {F : α → β → Prop} : ∀ {xs : List α} {ys : List β} {x : α} {y : β}, Paired F xs ys → F x y → Paired F (xs ++ [x]) (ys ++ [y])
  | _, _, _, _, .nil, h => .cons h .nil
  | _, _, _, _, .cons r t, h => .cons r (snoc t h)
theorem joinP {α β : Type} {F : α → β → Prop} : ∀ {xs xs' : List α} {ys ys' : List β}, Paired F xs ys → Paired F xs' ys' → Paired F (xs ++ xs') (ys ++ ys')
  | _, _, _, _, .nil, h => h
  | _, _, _, _, .cons r t, h => .cons r (joinP t h)
theorem getP {α β : Type} {F : α → β → Prop} : ∀ {xs : List α} {ys : List β} {i : Nat} {x : α}, Paired F xs ys → xs[i]? = some x → ∃ y, ys[i]? = some y ∧ F x y
  | _ :: _, _ :: _, 0, _, .cons r _, h => ⟨_, rfl, by cases h; exact r⟩
  | _ :: _, _ :: _, i + 1, _, .cons _ t, h => getP (i := i) t h
def Lex (e f : Int × Int) : Prop := e.1 < f.1 ∨ (e.1 = f.1 ∧ e.2 < f.2)
def sl (x y : Str) : Prop := x.cps.toList < y.cps.toList
def GoodN (many : Int) (xs : List Int) : Prop := xs ≠ [] ∧ xs.Pairwise (· < ·) ∧ ∀ x ∈ xs, 0 ≤ x ∧ x < many
def GoodR (many : Int) (es : List (Int × Int)) : Prop := es ≠ [] ∧ es.Pairwise Lex ∧ ∀ e ∈ es, (0 ≤ e.1 ∧ e.1 < many) ∧ 0 ≤ e.2 ∧ e.2 < many
structure WOk (W : Wd) : Prop where
  many : 1 ≤ W.many ∧ W.many ≤ 6
  names : (W.names.map (·.1)).Pairwise sl ∧ (∀ e ∈ W.names, isW e.1 = true ∧ GoodN W.many e.2) ∧ W.names.length ≤ 50
  roles : (W.roles.map (·.1)).Pairwise sl ∧ (∀ e ∈ W.roles, isW e.1 = true ∧ GoodR W.many e.2) ∧ W.roles.length ≤ 50
theorem sl_of {x y : Str} (h : ¬ sl y x) (n : x ≠ y) : sl x y := by
  unfold sl at *
  have h1 : x.cps.toList ≤ y.cps.toList := List.not_lt.mp h
  rcases List.le_iff_lt_or_eq.mp h1 with h2 | h2
  · exact h2
  · exact absurd (str_ext h2) n
theorem sl_trans {x y z : Str} (a : sl x y) (b : sl y z) : sl x z := List.lt_trans a b
theorem rising_sl : ∀ (p : Str) (ws : List Str), risingS p ws = true → (p :: ws).Nodup → (p :: ws).Pairwise sl
  | p, [], _, _ => List.pairwise_singleton _ _
  | p, x :: r, h, n => by
    simp only [risingS, Bool.and_eq_true, Bool.not_eq_true', ltCps_eq, decide_eq_false_iff_not] at h
    have hpx : sl p x := sl_of h.1 fun e => by
      rw [e] at n
      exact (List.nodup_cons.mp n).1 List.mem_cons_self
    have ih := rising_sl x r h.2 (List.nodup_cons.mp n).2
    rw [List.pairwise_cons]
    refine ⟨fun y hy => ?_, ih⟩
    rcases List.mem_cons.mp hy with rfl | hy
    · exact hpx
    · exact sl_trans hpx ((List.pairwise_cons.mp ih).1 y hy)
theorem sorted_sl {ws : List Str} (h : sortedS ws = true) (n : ws.Nodup) : ws.Pairwise sl := by
  cases ws with
  | nil => exact List.Pairwise.nil
  | cons x r => exact rising_sl x r h n
/-! ### data of a world's parts -/
section
variable {K : PySem.W.Frag} {H : Hp}
theorem dts_ints : ∀ ns : List Int, Dts K H (ns.map V.int) (ns.map PyData.int)
  | [] => .nil
  | n :: ns => .cons (.int n) (dts_ints ns)
def prD (e : Int × Int) : PyData := .tuple [.int e.1, .int e.2]
theorem dts_prs {qs : List Addr} {es : List (Int × Int)} (h : Paired (PrE K H) qs es) : Dts K H (qs.map V.ref) (es.map prD) := by
  induction h with
  | nil => exact .nil
  | cons r _ ih => exact .cons (.tup r (.cons (.int _) (.cons (.int _) .nil))) ih
theorem canLay_prs : ∀ es : List (Int × Int), PyData.canLayAll0 (es.map prD) = true
  | [] => by simp [PyData.canLayAll0]
  | e :: es => by simp [PyData.canLayAll0, PyData.canLay0, prD, canLay_prs es]
theorem depth_prs : ∀ es : List (Int × Int), PyData.depthAll (es.map prD) ≤ 1
  | [] => by simp [PyData.depthAll]
  | e :: es => by
    have := depth_prs es
    simp [PyData.depthAll, PyData.depth, prD]
    omega
theorem shaped_prs (es : List (Int × Int)) : SeqAt.shaped (.list (es.map prD)) = true := by
  have := depth_prs es
  simp [SeqAt.shaped, PyData.canLay0, PyData.depth, canLay_prs]
  omega
theorem shaped_tints (ns : List Int) : SeqAt.shaped (.tuple (ns.map PyData.int)) = true := by
  simp [SeqAt.shaped, PyData.canLay0, PyData.depth, canLay_ints, depth_ints]
theorem shaped_tnil : SeqAt.shaped (.tuple []) = true := shaped_tints []
end
end K21
set_option Elab.async false
set_option linter.all false
set_option autoImplicit false
set_option maxRecDepth 100000
set_option maxHeartbeats 4000000
namespace K21
open PySem PySem.Spec PyProof.Rows L2 Tl
open C8 (Cal pe_c)
theorem asc_snoc {xs : List Int} {i : Int} (h : xs.Pairwise (· < ·)) (b : ∀ x ∈ xs, x < i) : (xs ++ [i]).Pairwise (· < ·) := by
  rw [List.pairwise_append]
  refine ⟨h, List.pairwise_singleton _ _, fun a ha c hc => ?_⟩
  rw [List.mem_singleton.mp hc]
  exact b a ha
theorem tint_ne (xs : List Int) : (!PyData.eqv (.tuple (xs.map PyData.int)) (.tuple [])) = !xs.isEmpty := by
  cases xs <;> simp [PyData.eqv, PyData.eqvAll]
theorem lpr_ne (es : List (Int × Int)) : (!PyData.eqv (.list (es.map prD)) (.list [])) = !es.isEmpty := by
  cases es <;> simp [PyData.eqv, PyData.eqvAll]
theorem lex_join {es : List (Int × Int)} {xs : List Int} {j : Int} (h : es.Pairwise Lex) (b : ∀ e ∈ es, e.1 < j) (a : xs.Pairwise (· < ·)) : (es ++ xs.map fun y => (j, y)).Pairwise Lex := by
  rw [List.pairwise_append]
  refine ⟨h, ?_, fun e he f hf => ?_⟩
  · rw [List.pairwise_map]
    exact a.imp fun z => .inr ⟨rfl, z⟩
  · obtain ⟨y, _, rfl⟩ := List.mem_map.mp hf
    exact .inl (b e he)
section
variable {P : Program} {w : World} {K : PySem.W.Frag} {mg : Str → Option Value} {base : Heap}
def spWorld (K : PySem.W.Frag) : Sp := fun vs H Q _ => ∃ (d l : Addr) (m : Int), vs = [.ref d, .int m] ∧ Deck H d l ∧ 1 ≤ m ∧ m ≤ 6 ∧
  ∀ (v : V) (W : Wd) (H' : Hp), IsWd K H' v W → WOk W → Off d l H H' → Deck H' d l → Q v H'
abbrev wsN : List Str := ["a", "b", "cc"]
abbrev wsR : List Str := ["r", "s"]
theorem wsN_sl : wsN.Pairwise sl := by
  unfold sl
  decide +kernel
theorem wsR_sl : wsR.Pairwise sl := by
  unfold sl
  decide +kernel
theorem Off.tup {d l a : Addr} {H H' : Hp} {xs : List V} (e : Off d l H H') (D : Deck H d l) (h : SqT K H a xs) : SqT K H' a xs := (e.stay D).tup h
theorem cLawWorld (T : Txt K mg) : Cal P w K mg base 3 "_law_world" (spWorld K) [] := by
  refine cal_of T.lawWorld scLawWorld (fun _ _ _ _ _ _ us hl => match us, hl with | [_, _], _ => rfl) (fun vs H Q E h => ?_) (fun f cdv A outer s H vs Q E hr h => ?_)
  · obtain ⟨d, l, m, rfl, _⟩ := h
    rfl
  obtain ⟨d, l, m, rfl, D, m1, m6, q⟩ := h
  have hu64 := hr.units
  refine ⟨_, (pss_cons (ps_asg (pe_tup (pa_cons (pe_op op_add pe_int (pe_c (cLawDraw T) hr (by decide) rfl (pa_cons (pv 0) (pa_cons (pv 1) pa_nil)))) (pa_cons (pe_c (cLawPick T) hr (by decide) rfl (pa_cons (pv 0) (pa_cons (pe_tup (pa_cons pe_int (pa_cons pe_int (pa_cons pe_int (pa_cons pe_int pa_nil))))) pa_nil))) (pa_cons (pe_lst pa_nil) (pa_cons (pe_lst pa_nil) pa_nil))))) (pg_tup rfl (pgs_cons (pg_name (i := 2) scLawWorld.nd rfl (.inl rfl)) (pgs_cons (pg_name (i := 3) scLawWorld.nd rfl (.inr rfl)) (pgs_cons (pg_name (i := 4) scLawWorld.nd rfl (.inl rfl)) (pgs_cons (pg_name (i := 5) scLawWorld.nd rfl (.inl rfl)) pgs_nil))))))
 (C8.pss_cut (ps_for PassesOwn.never rfl (pi_tup (pe_tup (pa_cons pe_str (pa_cons pe_str (pa_cons pe_str pa_nil))))) (pg_name (i := 6) scLawWorld.nd rfl (.inl rfl))
 (pss_cons (ps_set (i := 7) scLawWorld.nd rfl (.inl rfl) (pe_callTy call_tuple_of (by rfl) T.tuple (by decide +kernel) (pa_cons (pe_lc (own := [("x", 8)]) (by rfl) scLawWorld.nd (pi_range1 rfl T.range (pa_cons (pv 2) pa_nil)) (blkOk_by (own := [("x", 8)]) (N := ["deck", "most", "many", "often", "names", "roles", "name", "things", "x", "role", "pairs", "y"]) (sc := defScope sLawWorld) (by decide +kernel)) (fun _ _ _ _ _ => (pg_name (i := 8) scLawWorld.nd rfl (.inl rfl))) (fun _ _ _ _ _ => pts_one (pt_cmpR op_eq (pe_c (cLawDraw T) hr (by decide) rfl (pa_cons (pv 0) (pa_cons pe_int pa_nil))) pe_int (nomark _))) (fun _ _ _ _ _ => (pv 8))) pa_nil)))
 (pss_one (ps_if (pt_cmpR (op_neD hu64) (pv 7) (pe_tup pa_nil) (nomark _))
 (pss_one (ps_expr (pe_bm PySem.F.plainAttrs_list PySem.F.slot_list_append PySem.F.type_list_append mt_append (pv 4) (pa_cons (pe_tup (pa_cons (pv 6) (pa_cons (pv 7) pa_nil))) pa_nil))))
 pss_nil))))
 (pss_cons (ps_for PassesOwn.never rfl (pi_tup (pe_tup (pa_cons pe_str (pa_cons pe_str pa_nil)))) (pg_name (i := 9) scLawWorld.nd rfl (.inl rfl))
 (pss_cons (ps_set (i := 10) scLawWorld.nd rfl (.inl rfl) (pe_lst pa_nil))
 (C8.pss_cut (ps_for PassesOwn.never rfl (pi_range1 rfl T.range (pa_cons (pv 2) pa_nil)) (pg_name (i := 8) scLawWorld.nd rfl (.inr rfl))
 (pss_one (ps_expr (pe_bm PySem.F.plainAttrs_list PySem.F.slot_list_extend PySem.F.type_list_extend mt_extend (pv 10) (pa_cons (pe_lc (own := [("y", 11)]) (by rfl) scLawWorld.nd (pi_range1 rfl T.range (pa_cons (pv 2) pa_nil)) (blkOk_by (own := [("y", 11)]) (N := ["deck", "most", "many", "often", "names", "roles", "name", "things", "x", "role", "pairs", "y"]) (sc := defScope sLawWorld) (by decide +kernel)) (fun _ _ _ _ _ => (pg_name (i := 11) scLawWorld.nd rfl (.inl rfl))) (fun _ _ _ _ _ => pts_one (pt_cmpR op_eq (pe_c (cLawDraw T) hr (by decide) rfl (pa_cons (pv 0) (pa_cons (pv 3) pa_nil))) pe_int (nomark _))) (fun _ _ _ _ _ => (pe_tup (pa_cons (pv 8) (pa_cons (pv 11) pa_nil))))) pa_nil)))))
 (pss_one (ps_if (PW.pt (pw_and (pt_cmpR (op_neD hu64) (pv 10) (pe_lst pa_nil) (nomark _)) (pw_and1 (pt_cmpR op_gt (pe_c (cLawDraw T) hr (by decide) rfl (pa_cons (pv 0) (pa_cons pe_int pa_nil))) pe_int (nomark _)))))
 (pss_one (ps_expr (pe_bm PySem.F.plainAttrs_list PySem.F.slot_list_append PySem.F.type_list_append mt_append (pv 5) (pa_cons (pe_tup (pa_cons (pv 9) (pa_cons (pe_callTy call_tuple_of (by rfl) T.tuple (by decide +kernel) (pa_cons (pv 10) pa_nil)) pa_nil))) pa_nil))))
 pss_nil)))))
 (pss_one (ps_ret (pe_tup (pa_cons (pv 2) (pa_cons (pe_callTy cr_tupF (by rfl) T.tuple (by decide +kernel) (pa_cons (pv 4) pa_nil)) (pa_cons (pe_callTy cr_tupF (by rfl) T.tuple (by decide +kernel) (pa_cons (pv 5) pa_nil)) pa_nil))))))))), ?_⟩
  -- many, often, names, roles
  refine ⟨.ref d, rfl, .int m, rfl, d, l, m, rfl, D, by omega, by omega, fun k G1 k0 k1 o1 D1 => ⟨1, k, rfl, rfl, ?_⟩⟩
  generalize hmany : (1 + k : Int) = many
  have many1 : 1 ≤ many := by omega
  have many6 : many ≤ 6 := by omega
  refine ⟨.ref d, rfl, by show 4 ≤ sizeLine; decide, fun t1 nt1 => ?_⟩
  obtain ⟨t1d, t1l⟩ := D1.off nt1
  refine ⟨d, l, t1, _, rfl, D1.new nt1, .inr (tupOf upd_same), t1d, t1l, by simp, by simp, fun x G2 hx o2 D2 => ?_⟩
  obtain ⟨often, rfl, of0, of4⟩ : ∃ i : Int, x = .int i ∧ 0 < i ∧ i ≤ 4 := by
    simp only [List.mem_cons, List.not_mem_nil, or_false] at hx
    rcases hx with rfl | rfl | rfl | rfl <;> exact ⟨_, rfl, by decide, by decide⟩
  refine ⟨Nat.zero_le _, fun n nn => ⟨Nat.zero_le _, fun r nr => ⟨by show 4 ≤ sizeLine; decide, fun tt ntt => ⟨tt, _, rfl, tupOf upd_same, rfl, .int (1 + k), [.int often, .ref n, .ref r], rfl, .int often, [.ref n, .ref r], rfl, .ref n, [.ref r], rfl, .ref r, [], rfl, rfl, ?_⟩⟩⟩⟩
  have oA : Off d l H G2 := (o1.trans (off_new nt1)).trans o2
  have s1 := same_up (o := .lst []) nn
  have s2 := same_add s1 (o := .lst []) nr
  have s3 := same_add s2 (o := .tup [.int (1 + k), .int often, .ref n, .ref r]) ntt
  have r2 : G2 r = none := s1.free nr
  obtain ⟨nd, nl⟩ := D2.off nn
  obtain ⟨rd, rl⟩ := D2.off r2
  have n0 : H n = none := oA.free nd nl nn
  have r0 : H r = none := oA.free rd rl r2
  have nr_ne : n ≠ r := ne_of_none (o := .lst []) upd_same nr
  have gn0 : upd (upd (upd G2 n (.lst [])) r (.lst [])) tt (.tup [.int (1 + k), .int often, .ref n, .ref r]) n = some (.lst []) := (same_up ntt) _ _ ((upd_ne nr_ne).trans upd_same)
  have gr0 : upd (upd (upd G2 n (.lst [])) r (.lst [])) tt (.tup [.int (1 + k), .int often, .ref n, .ref r]) r = some (.lst []) := (same_up ntt) _ _ upd_same
  have oB := oA.trans s3.off
  have DB := D2.same s3
  generalize upd (upd (upd G2 n (.lst [])) r (.lst [])) tt (.tup [.int (1 + k), .int often, .ref n, .ref r]) = G3 at gn0 gr0 oB DB ⊢
  clear s1 s2 s3 oA o1 o2 D1 D2 nt1 ntt nn nr r2
  -- for name in ('a', 'b', 'cc')
  refine ⟨fun σ G => ∃ (nps : List Addr) (nm : List (Str × List Int)) (t6 t7 t8 t9 t10 t11 : Option V), σ = [some (.ref d), some (.int m), some (.int many), some (.int often), some (.ref n), some (.ref r), t6, t7, t8, t9, t10, t11] ∧
      Off d l H G ∧ Deck G d l ∧ G n = some (.lst (nps.map V.ref)) ∧ G r = some (.lst []) ∧ Paired (NmE K G) nps nm ∧ (nm.map (·.1)).Sublist wsN ∧ (∀ e ∈ nm, GoodN many e.2), ?_, ?_⟩
  · refine ⟨by show 3 ≤ sizeLine; decide, fun tn ntn => ⟨tn, rfl, ⟨_, tupOf upd_same⟩, ?_⟩⟩
    have sT := same_up (o := .tup [.str "a", .str "b", .str "cc"]) ntn
    refine for_tup (K := K) (a := tn) (xs := wsN.map V.str) (fun i σ G => ∃ (nps : List Addr) (nm : List (Str × List Int)) (t6 t7 t8 t9 t10 t11 : Option V), σ = [some (.ref d), some (.int m), some (.int many), some (.int often), some (.ref n), some (.ref r), t6, t7, t8, t9, t10, t11] ∧
        Off d l H G ∧ Deck G d l ∧ G n = some (.lst (nps.map V.ref)) ∧ G r = some (.lst []) ∧ SqT K G tn (wsN.map V.str) ∧ Paired (NmE K G) nps nm ∧ (nm.map (·.1)).Sublist (wsN.take i) ∧ (∀ e ∈ nm, GoodN many e.2))
      ⟨[], [], none, none, none, none, none, none, congrArg (fun z => [some (V.ref d), some (.int m), some (.int z), some (.int often), some (.ref n), some (.ref r), none, none, none, none, none, none]) hmany, oB.trans sT.off, DB.same sT, sT _ _ gn0, sT _ _ gr0, tupOf upd_same, .nil, .slnil, fun e he => nomatch he⟩
      (fun i σ G _ z => ?_) (fun i x σ G hx z => ?_) (fun σ G z => ?_)
    · obtain ⟨_, _, _, _, _, _, _, _, _, _, _, _, _, z, _⟩ := z
      exact z
    · obtain ⟨nps, nm, t6, t7, t8, t9, t10, t11, rfl, o3, D3, gn, gr, gt, hnm, snm, gdn⟩ := z
      obtain ⟨word, hw, rfl⟩ : ∃ u, wsN[i]? = some u ∧ x = V.str u := by
        rw [List.getElem?_map] at hx
        obtain ⟨u, h, e⟩ := Option.map_eq_some_iff.mp hx
        exact ⟨u, h, e.symm⟩
      have hi : i < wsN.length := (List.getElem?_eq_some_iff.mp hw).1
      have hi : i < 3 := hi
      have hT : wsN.take (i + 1) = wsN.take i ++ [word] := by rw [List.take_add_one, hw]; rfl
      refine ⟨.int many, rfl, many, rfl, by omega, by omega, fun D' nD => ?_⟩
      obtain ⟨D'd, D'l⟩ := D3.off nD
      have nDG : H D' = none := o3.free D'd D'l nD
      have nDn : n ≠ D' := ne_of_none gn nD
      have nDr : r ≠ D' := ne_of_none gr nD
      refine lc_range (lo := 0) (n := many.toNat) (fun i X => ∃ xs : List Int, X D' = some (.lst (xs.map V.int)) ∧ Off d l G X ∧ Deck X d l ∧ xs.Pairwise (· < ·) ∧ (∀ x ∈ xs, 0 ≤ x ∧ x < (i : Int)) ∧ xs.length ≤ i)
        ⟨[], upd_same, off_new nD, D3.new nD, .nil, (fun x hx => nomatch hx), Nat.zero_le _⟩ (fun i X hi z => ?_) (fun X z => ?_)
      · obtain ⟨xs, gX, oX, DX, asc, bnd, len⟩ := z
        refine ⟨rfl, .ref d, rfl, d, l, 2, rfl, DX, by omega, by omega, fun j X2 j0 j1 o5 D5 => ⟨rfl, _, rfl, ite2 (fun _ => ?_) (fun _ => ?_)⟩⟩
        · refine ⟨_, rfl, _, o5 _ _ D'd D'l gX, ?_, xs ++ [0 + (i : Int)], ?_, (oX.trans o5).mut nD, D5.mut D'd D'l, asc_snoc asc fun x hx => ?_, fun x hx => ?_, ?_⟩
          · rw [List.length_map]
            exact Nat.lt_of_le_of_lt len (Nat.lt_of_lt_of_le (show i < 100 by omega) (by decide))
          · rw [upd_same, List.map_append] <;> rfl
          · have := bnd x hx
            omega
          · rcases List.mem_append.mp hx with hx | hx
            · have := bnd x hx
              omega
            · rw [List.mem_singleton.mp hx]
              omega
          · rw [List.length_append]
            show xs.length + 1 ≤ i + 1
            omega
        · exact ⟨xs, o5 _ _ D'd D'l gX, oX.trans o5, D5, asc, fun x hx => by have := bnd x hx; omega, by omega⟩
      obtain ⟨xs, gX, oX, DX, asc, bnd, lenx⟩ := z
      refine ⟨D', _, rfl, .inl ⟨lst_of gX, fun tp ntp => ?_⟩⟩
      have oY : Off d l G (upd X tp (.tup (xs.map V.int))) := oX.trans (off_new ntp)
      have DY := DX.new (o := .tup (xs.map V.int)) ntp
      have gtp : (upd X tp (.tup (xs.map V.int))) tp = some (.tup (xs.map V.int)) := upd_same
      generalize upd X tp (.tup (xs.map V.int)) = Y at oY DY gtp ⊢
      have bnd' : ∀ x ∈ xs, 0 ≤ x ∧ x < many := fun x hx => by have := bnd x hx; omega
      clear gX oX DX ntp bnd
      have gnY := oY _ _ nd nl gn
      have grY := oY _ _ rd rl gr
      have gtY := oY.tup (K := K) D3 gt
      have hnmY := Paired.mapP hnm fun _ _ z => nme_st (oY.stay D3) z
      have lnn : nps.length ≤ 3 := by
        have h1 := snm.length_le
        rw [List.length_map, List.length_take] at h1
        have := Paired.length hnm
        have : wsN.length = 3 := rfl
        omega
      -- if things != ()
      refine ⟨.ref tp, rfl, Nat.zero_le _, fun u nu => ⟨.tuple (xs.map PyData.int), .tuple [], .tup (tupOf ((upd_ne (ne_of_none gtp nu)).trans gtp)) (dp_ints xs), .tup (tupOf upd_same) .nil, shaped_tints xs, shaped_tnil, _, rfl, ?_⟩⟩
      rw [tint_ne]
      have s1 := same_up (o := .tup []) nu
      cases hxs : xs with
      | nil =>
        refine iteF ⟨nps, nm, _, _, _, _, _, _, rfl, (o3.trans oY).trans s1.off, DY.same s1, s1 _ _ gnY, s1 _ _ grY, (Tl.Same.stay s1).tup gtY, Paired.mapP hnmY fun _ _ z => nme_st (Tl.Same.stay s1) z, ?_, gdn⟩
        rw [hT]
        exact snm.trans (List.sublist_append_left _ _)
      | cons x0 xr =>
        rw [← hxs, show (!xs.isEmpty) = true by rw [hxs]; rfl]
        refine iteT ⟨.ref n, rfl, .inl ⟨rfl, _, lst_of (s1 _ _ gnY)⟩, .str word, rfl, .ref tp, rfl, by show 2 ≤ sizeLine; decide, fun u2 nu2 => ?_⟩
        have s2 := same_add s1 (o := .tup [.str word, .ref tp]) nu2
        have gn2 := s2 _ _ gnY
        refine ⟨n, _, _, rfl, rfl, gn2, by rw [List.length_map]; exact Nat.lt_of_le_of_lt lnn (by decide), ?_⟩
        have stm : Stay (upd (upd Y u (.tup [])) u2 (.tup [.str word, .ref tp])) (upd (upd (upd Y u (.tup [])) u2 (.tup [.str word, .ref tp])) n (.lst (nps.map V.ref ++ [.ref u2]))) := stay_mut (by rw [gn2]; trivial)
        have st := (Tl.Same.stay s2).trans stm
        refine ⟨nps ++ [u2], nm ++ [(word, xs)], _, _, _, _, _, _, rfl, ((o3.trans oY).trans s2.off).mut n0, (DY.same s2).mut nd nl, by rw [upd_same, List.map_append] <;> rfl, (upd_ne nr_ne.symm).trans (s2 _ _ grY), st.tup gtY, ?_, ?_, fun e he => ?_⟩
        · exact snoc (Paired.mapP hnmY fun _ _ z => nme_st st z) ⟨tp, tupOf (stm _ _ upd_same (.inl ⟨_, rfl⟩)), tupOf (st _ _ gtp (.inl ⟨_, rfl⟩))⟩
        · rw [hT, List.map_append]
          exact snm.append (List.Sublist.refl _)
        · rcases List.mem_append.mp he with he | he
          · exact gdn e he
          · rw [List.mem_singleton.mp he]
            exact ⟨by rw [hxs]; exact List.cons_ne_nil _ _, asc, bnd'⟩
    · obtain ⟨nps, nm, t6, t7, t8, t9, t10, t11, rfl, o3, D3, gn, gr, gt, hnm, snm, gdn⟩ := z
      exact ⟨nps, nm, t6, t7, t8, t9, t10, t11, rfl, o3, D3, gn, gr, hnm, snm, gdn⟩
  -- for role in ('r', 's')
  rintro σ' G4 ⟨nps, nm, t6, t7, t8, t9, t10, t11, rfl, o4, D4, gn4, gr4, hnm, snm, gdn⟩
  clear gn0 gr0 oB DB
  refine ⟨by show 2 ≤ sizeLine; decide, fun tn ntn => ⟨tn, rfl, ⟨_, tupOf upd_same⟩, ?_⟩⟩
  have sT := same_up (o := .tup [.str "r", .str "s"]) ntn
  refine for_tup (K := K) (a := tn) (xs := wsR.map V.str) (fun i σ G => ∃ (rps : List Addr) (rs : List (Str × List (Int × Int))) (t6 t7 t8 t9 t10 t11 : Option V), σ = [some (.ref d), some (.int m), some (.int many), some (.int often), some (.ref n), some (.ref r), t6, t7, t8, t9, t10, t11] ∧
      Off d l H G ∧ Deck G d l ∧ G n = some (.lst (nps.map V.ref)) ∧ G r = some (.lst (rps.map V.ref)) ∧ SqT K G tn (wsR.map V.str) ∧ Paired (NmE K G) nps nm ∧ Paired (RlE K G) rps rs ∧ (rs.map (·.1)).Sublist (wsR.take i) ∧ (∀ e ∈ rs, GoodR many e.2))
    ⟨[], [], _, _, _, _, _, _, rfl, o4.trans sT.off, D4.same sT, sT _ _ gn4, sT _ _ gr4, tupOf upd_same, Paired.mapP hnm fun _ _ z => nme_st (Tl.Same.stay sT) z, .nil, .slnil, fun e he => nomatch he⟩
    (fun i σ G _ z => ?_) (fun i x σ G hx z => ?_) (fun σ G z => ?_)
  · obtain ⟨_, _, _, _, _, _, _, _, _, _, _, _, _, z, _⟩ := z
    exact z
  · obtain ⟨rps, rs, t6, t7, t8, t9, t10, t11, rfl, o3, D3, gn, gr, gt, hnm, hrs, srs, gdr⟩ := z
    obtain ⟨word, hw, rfl⟩ : ∃ u, wsR[i]? = some u ∧ x = V.str u := by
      rw [List.getElem?_map] at hx
      obtain ⟨u, h, e⟩ := Option.map_eq_some_iff.mp hx
      exact ⟨u, h, e.symm⟩
    have hi : i < wsR.length := (List.getElem?_eq_some_iff.mp hw).1
    have hi : i < 2 := hi
    have hT : wsR.take (i + 1) = wsR.take i ++ [word] := by rw [List.take_add_one, hw]; rfl
    -- pairs = []
    refine ⟨Nat.zero_le _, fun e ne => ?_⟩
    obtain ⟨ed, el⟩ := D3.off ne
    have eH : H e = none := o3.free ed el ne
    have ne_ : n ≠ e := ne_of_none gn ne
    have re_ : r ≠ e := ne_of_none gr ne
    refine ⟨fun σ Z => ∃ (es : List (Int × Int)) (qs : List Addr) (t8 t11 : Option V), σ = [some (.ref d), some (.int m), some (.int many), some (.int often), some (.ref n), some (.ref r), t6, t7, t8, some (.str word), some (.ref e), t11] ∧
        Z e = some (.lst (qs.map V.ref)) ∧ Paired (PrE K Z) qs es ∧ Off d l G Z ∧ Deck Z d l ∧ es.Pairwise Lex ∧ (∀ p ∈ es, (0 ≤ p.1 ∧ p.1 < many) ∧ 0 ≤ p.2 ∧ p.2 < many) ∧ qs.length ≤ 60, ?_, ?_⟩
    · refine ⟨.int many, rfl, many, rfl, by omega, by omega, for_range (lo := 0) (n := many.toNat) (fun j σ Z => ∃ (es : List (Int × Int)) (qs : List Addr) (t8 t11 : Option V), σ = [some (.ref d), some (.int m), some (.int many), some (.int often), some (.ref n), some (.ref r), t6, t7, t8, some (.str word), some (.ref e), t11] ∧
          Z e = some (.lst (qs.map V.ref)) ∧ Paired (PrE K Z) qs es ∧ Off d l G Z ∧ Deck Z d l ∧ es.Pairwise Lex ∧ (∀ p ∈ es, (0 ≤ p.1 ∧ p.1 < (j : Int)) ∧ 0 ≤ p.2 ∧ p.2 < many) ∧ qs.length ≤ j * 10)
        ⟨[], [], t8, t11, rfl, upd_same, .nil, off_new ne, D3.new ne, .nil, (fun p hp => nomatch hp), Nat.zero_le _⟩ (fun j σ Z hj z => ?_) (fun σ Z z => ?_)⟩
      · obtain ⟨es, qs, t8, t11, rfl, ge, hes, oZ, DZ, lex, bes, lq⟩ := z
        refine ⟨.ref e, rfl, .inl ⟨rfl, _, lst_of ge⟩, .int many, rfl, many, rfl, by omega, by omega, fun D2 nD2 => ?_⟩
        obtain ⟨D2d, D2l⟩ := DZ.off nD2
        refine lc_range (lo := 0) (n := many.toNat) (fun k X => ∃ (zs : List Int) (ps : List Addr), X D2 = some (.lst (ps.map V.ref)) ∧ Paired (PrE K X) ps (zs.map fun y => ((0 : Int) + (j : Int), y)) ∧ zs.Pairwise (· < ·) ∧ (∀ y ∈ zs, 0 ≤ y ∧ y < (k : Int)) ∧ ps.length ≤ k ∧ Off d l Z X ∧ Deck X d l)
          ⟨[], [], upd_same, .nil, .nil, (fun x hx => nomatch hx), Nat.zero_le _, off_new nD2, DZ.new nD2⟩ (fun k X hk z => ?_) (fun X z => ?_)
        · obtain ⟨zs, ps, gX, hps, asc2, bnd2, len2, oX, DX⟩ := z
          refine ⟨rfl, .ref d, rfl, .int often, rfl, d, l, often, rfl, DX, by omega, by omega, fun c X2 c0 c1 o5 D5 => ⟨rfl, _, rfl, ite2 (fun _ => ?_) (fun _ => ?_)⟩⟩
          · refine ⟨_, rfl, _, rfl, by show 2 ≤ sizeLine; decide, fun u nu => ?_⟩
            have g2' : X2 D2 = some (.lst (ps.map V.ref)) := o5 _ _ D2d D2l gX
            have uD2 : D2 ≠ u := ne_of_none g2' nu
            have g3' : (upd X2 u (.tup [.int (0 + (j : Int)), .int (0 + (k : Int))])) D2 = some (.lst (ps.map V.ref)) := (upd_ne uD2).trans g2'
            have stm : Stay (upd X2 u (.tup [.int (0 + (j : Int)), .int (0 + (k : Int))])) (upd (upd X2 u (.tup [.int (0 + (j : Int)), .int (0 + (k : Int))])) D2 (.lst (ps.map V.ref ++ [.ref u]))) := stay_mut (by rw [g3']; trivial)
            refine ⟨_, g3', ?_, zs ++ [0 + (k : Int)], ps ++ [u], ?_, ?_, asc_snoc asc2 fun x hx => ?_, fun x hx => ?_, ?_, ?_, ?_⟩
            · rw [List.length_map]
              exact Nat.lt_of_le_of_lt len2 (Nat.lt_of_lt_of_le (show k < 100 by omega) (by decide))
            · rw [upd_same, List.map_append] <;> rfl
            · rw [List.map_append]
              refine snoc (Paired.mapP hps fun _ _ z => pre_st stm (pre_st (stay_new nu) (pre_st (o5.stay DX) z))) (pre_st stm ?_)
              exact tupOf upd_same
            · have := bnd2 x hx
              omega
            · rcases List.mem_append.mp hx with hx | hx
              · have := bnd2 x hx
                omega
              · rw [List.mem_singleton.mp hx]
                omega
            · rw [List.length_append]
              show ps.length + 1 ≤ k + 1
              omega
            · exact ((oX.trans o5).trans (off_new nu)).mut nD2
            · exact (D5.new nu).mut D2d D2l
          · exact ⟨zs, ps, o5 _ _ D2d D2l gX, Paired.mapP hps fun _ _ z => pre_st (o5.stay DX) z, asc2, fun y hy => by have := bnd2 y hy; omega, by omega, oX.trans o5, D5⟩
        obtain ⟨zs, ps, gX, hps, asc2, bnd2, len2, oX, DX⟩ := z
        have ge' : X e = some (.lst (qs.map V.ref)) := oX _ _ ed el ge
        have stm : Stay X (upd X e (.lst (qs.map V.ref ++ ps.map V.ref))) := stay_mut (by rw [ge']; trivial)
        refine ⟨e, D2, _, _, rfl, rfl, ge', gX, ?_, es ++ zs.map (fun y => ((0 : Int) + (j : Int), y)), qs ++ ps, _, _, rfl, ?_, ?_, (oZ.trans oX).mut ne, DX.mut ed el, lex_join lex (fun p hp => by have := bes p hp; omega) asc2, fun p hp => ?_, ?_⟩
        · rw [List.length_map, List.length_map]
          exact Nat.le_trans (show qs.length + ps.length ≤ 1000 by omega) (by decide)
        · rw [upd_same, List.map_append]
        · exact joinP (Paired.mapP hes fun _ _ z => pre_st stm (pre_st (oX.stay DZ) z)) (Paired.mapP hps fun _ _ z => pre_st stm z)
        · rcases List.mem_append.mp hp with hp | hp
          · have := bes p hp
            omega
          · obtain ⟨y, hy, rfl⟩ := List.mem_map.mp hp
            have := bnd2 y hy
            show ((0 : Int) ≤ 0 + (j : Int) ∧ 0 + (j : Int) < _) ∧ 0 ≤ y ∧ y < many
            omega
        · rw [List.length_append]
          omega
      · obtain ⟨es, qs, t8, t11, rfl, ge, hes, oZ, DZ, lex, bes, lq⟩ := z
        exact ⟨es, qs, t8, t11, rfl, ge, hes, oZ, DZ, lex, fun p hp => by have := bes p hp; omega, by omega⟩
    rintro σ' Z ⟨es, qs, t8, t11, rfl, ge, hes, oZ, DZ, lex, bes, lq⟩
    have gnZ := oZ _ _ nd nl gn
    have grZ := oZ _ _ rd rl gr
    have gtZ := oZ.tup (K := K) D3 gt
    have stZ := oZ.stay D3
    have hnmZ := Paired.mapP hnm fun _ _ z => nme_st stZ z
    have hrsZ := Paired.mapP hrs fun _ _ z => rle_st stZ z
    have oHZ := o3.trans oZ
    have lrr : rps.length ≤ 2 := by
      have h1 := srs.length_le
      rw [List.length_map, List.length_take] at h1
      have := Paired.length hrs
      have : wsR.length = 2 := rfl
      omega
    -- if pairs != [] and ..
    refine ⟨.ref e, rfl, Nat.zero_le _, fun u nu => ⟨.list (es.map prD), .list [], .lst (lst_of ((upd_ne (ne_of_none ge nu)).trans ge)) ?_, .lst (lst_of upd_same) .nil, shaped_prs es, shaped_nil, _, rfl, ?_⟩⟩
    · exact Dts.dp _ _ (dts_prs (Paired.mapP hes fun _ _ z => pre_st (stay_new nu) z))
    rw [lpr_ne]
    have s1 := same_up (o := .lst []) nu
    have skip : ∀ X : Hp, Off d l (upd Z u (.lst [])) X → Deck X d l → ∃ (rps : List Addr) (rs : List (Str × List (Int × Int))) (t6' t7' t8' t9' t10' t11' : Option V), [some (V.ref d), some (.int m), some (.int many), some (.int often), some (.ref n), some (.ref r), t6, t7, t8, some (.str word), some (.ref e), t11] = [some (V.ref d), some (.int m), some (.int many), some (.int often), some (.ref n), some (.ref r), t6', t7', t8', t9', t10', t11'] ∧
        Off d l H X ∧ Deck X d l ∧ X n = some (.lst (nps.map V.ref)) ∧ X r = some (.lst (rps.map V.ref)) ∧ SqT K X tn (wsR.map V.str) ∧ Paired (NmE K X) nps nm ∧ Paired (RlE K X) rps rs ∧ (rs.map (·.1)).Sublist (wsR.take (i + 1)) ∧ (∀ e ∈ rs, GoodR many e.2) := fun X oX DX => by
      have st := (Tl.Same.stay s1).trans (oX.stay (DZ.same s1))
      refine ⟨rps, rs, _, _, _, _, _, _, rfl, (oHZ.trans s1.off).trans oX, DX, oX _ _ nd nl (s1 _ _ gnZ), oX _ _ rd rl (s1 _ _ grZ), st.tup gtZ, Paired.mapP hnmZ fun _ _ z => nme_st st z, Paired.mapP hrsZ fun _ _ z => rle_st st z, ?_, gdr⟩
      rw [hT]
      exact srs.trans (List.sublist_append_left _ _)
    cases hee : es with
    | nil => exact iteF (iteF (skip _ (Off.refl d l _) (DZ.same s1)))
    | cons x0 xr =>
      rw [← hee, show (!es.isEmpty) = true by rw [hee]; rfl]
      refine iteT ⟨.ref d, rfl, d, l, 4, rfl, DZ.same s1, by omega, by omega, fun c X c0 c1 oX DX => ⟨c, 0, rfl, rfl, _, rfl, ite2 (fun _ => ?_) (fun _ => ?_)⟩⟩
      · have st1 := (Tl.Same.stay s1).trans (oX.stay (DZ.same s1))
        have gnX := oX _ _ nd nl (s1 _ _ gnZ)
        have grX := oX _ _ rd rl (s1 _ _ grZ)
        have geX := oX _ _ ed el (s1 _ _ ge)
        have oHX := (oHZ.trans s1.off).trans oX
        refine ⟨.ref r, rfl, .inl ⟨rfl, _, lst_of grX⟩, .str word, rfl, .ref e, rfl, e, _, rfl, .inl ⟨lst_of geX, fun tq ntq => ⟨by show 2 ≤ sizeLine; decide, fun u2 nu2 => ?_⟩⟩⟩
        have s2 := same_up (o := .tup (qs.map V.ref)) ntq
        have s3 := same_add s2 (o := .tup [.str word, .ref tq]) nu2
        have gr2 := s3 _ _ grX
        refine ⟨r, _, _, rfl, rfl, gr2, by rw [List.length_map]; exact Nat.lt_of_le_of_lt lrr (by decide), ?_⟩
        have stm : Stay (upd (upd X tq (.tup (qs.map V.ref))) u2 (.tup [.str word, .ref tq])) (upd (upd (upd X tq (.tup (qs.map V.ref))) u2 (.tup [.str word, .ref tq])) r (.lst (rps.map V.ref ++ [.ref u2]))) := stay_mut (by rw [gr2]; trivial)
        have st := (Tl.Same.stay s3).trans stm
        refine ⟨rps ++ [u2], rs ++ [(word, es)], _, _, _, _, _, _, rfl, (oHX.trans s3.off).mut r0, (DX.same s3).mut rd rl, (upd_ne nr_ne).trans (s3 _ _ gnX), by rw [upd_same, List.map_append] <;> rfl, (st1.trans st).tup gtZ, Paired.mapP hnmZ fun _ _ z => nme_st (st1.trans st) z, ?_, ?_, fun e he => ?_⟩
        · refine snoc (Paired.mapP hrsZ fun _ _ z => rle_st (st1.trans st) z) ⟨tq, tupOf (stm _ _ upd_same (.inl ⟨_, rfl⟩)), qs, tupOf (stm _ _ ((same_up nu2) _ _ upd_same) (.inl ⟨_, rfl⟩)), Paired.mapP hes fun _ _ z => pre_st (st1.trans st) z⟩
        · rw [hT, List.map_append]
          exact srs.append (List.Sublist.refl _)
        · rcases List.mem_append.mp he with he | he
          · exact gdr e he
          · rw [List.mem_singleton.mp he]
            exact ⟨by rw [hee]; exact List.cons_ne_nil _ _, lex, bes⟩
      · exact skip X oX DX
  · obtain ⟨rps, rs, t6, t7, t8, t9, t10, t11, rfl, o3, D3, gn, gr, gt, hnm, hrs, srs, gdr⟩ := z
    refine ⟨.int many, rfl, .ref n, rfl, n, _, rfl, lst_of gn, fun a oa na noa => ?_⟩
    have s1 := same_up (o := .frz oa (.tup (nps.map V.ref))) na
    refine ⟨.ref r, rfl, r, _, rfl, lst_of (s1 _ _ gr), fun c oc nc noc => ?_⟩
    have s2 := same_up (o := .frz oc (.tup (rps.map V.ref))) nc
    refine ⟨by show 3 ≤ sizeLine; decide, fun t nt => ?_⟩
    have s3 := same_up (o := .tup [.int many, .ref a, .ref c]) nt
    have st := Tl.Same.stay ((s1.trans s2).trans s3)
    have srs : (rs.map (·.1)).Sublist wsR := srs
    have wordsN : ∀ x ∈ wsN, isW x = true := words_ok (by decide +kernel)
    have wordsR : ∀ x ∈ wsR, isW x = true := words_ok (by decide +kernel)
    have lenN := snm.length_le
    have lenR := srs.length_le
    rw [List.length_map] at lenN lenR
    have e3 : wsN.length = 3 := rfl
    have e2 : wsR.length = 2 := rfl
    refine q _ ⟨many, nm, rs⟩ _ ⟨t, a, c, rfl, tupOf upd_same, ⟨nps, ⟨oa, (s2.trans s3) _ _ upd_same, noa⟩, Paired.mapP hnm fun _ _ z => nme_st st z⟩, ⟨rps, ⟨oc, s3 _ _ upd_same, noc⟩, Paired.mapP hrs fun _ _ z => rle_st st z⟩⟩ ⟨⟨many1, many6⟩, ⟨wsN_sl.sublist snm, fun e he => ⟨wordsN _ (snm.subset (List.mem_map_of_mem he)), gdn e he⟩, by show nm.length ≤ 50; omega⟩, ⟨wsR_sl.sublist srs, fun e he => ⟨wordsR _ (srs.subset (List.mem_map_of_mem he)), gdr e he⟩, by show rs.length ≤ 50; omega⟩⟩
      (((o3.trans s1.off).trans s2.off).trans s3.off) (((D3.same s1).same s2).same s3)
end
end K21
set_option Elab.async false
set_option linter.all false
set_option autoImplicit false
set_option maxRecDepth 100000
set_option maxHeartbeats 2000000
namespace K21
open PySem PySem.Spec PyProof.Rows L2 Tl
open C8 (Cal pe_c)
theorem shaped_tstrs (ys : List Str) (h : ∀ y ∈ ys, PyData.strOk y = true) : SeqAt.shaped (.tuple (ys.map PyData.str)) = true := by
  simp [SeqAt.shaped, PyData.canLay0, PyData.depth, canLay_strs ys h, depth_strs]
theorem tstr_ne (xs : List Str) : (!PyData.eqv (.tuple (xs.map PyData.str)) (.tuple [])) = !xs.isEmpty := by
  cases xs <;> simp [PyData.eqv, PyData.eqvAll]
def spCon (K : PySem.W.Frag) (N : Nat) : Sp := fun vs H Q _ => ∃ (d l : Addr) (v : V) (ns rs : List Str) (n : Nat), n ≤ N ∧ vs = [.ref d, v, .int n] ∧ Deck H d l ∧ Voc K H d l v ns rs ∧
  ∀ (u : V) (c : C) (H' : Hp), Con K H' u c → COk c → dep c ≤ n + 1 → nodes c + 1 ≤ 2 ^ (n + 1) → Off d l H H' → Deck H' d l → Q u H'
def spC (K : PySem.W.Frag) : Nat → Sp
  | 0 => fun _ _ _ _ => False
  | n + 1 => spCon K n
section
variable {P : Program} {w : World} {K : PySem.W.Frag} {mg : Str → Option Value} {base : Heap}
theorem pickW {H : Hp} {d l b : Addr} {ws : List Str} {Q : VK} (D : Deck H d l) (W : Tw K H d l b ws) (ne : ws ≠ []) (k : ∀ (x : Str) (H' : Hp), isW x = true → Off d l H H' → Deck H' d l → Q (.str x) H') : spPick K [.ref d, .ref b] H Q (fun _ _ _ => False) := by
  refine ⟨d, l, b, _, rfl, D, .inr W.1, W.2.1, W.2.2.1, ?_, ?_, fun y G hy off DG => ?_⟩
  · intro e
    exact ne (List.map_eq_nil_iff.mp e)
  · rw [List.length_map]
    have := W.2.2.2.1
    omega
  · obtain ⟨x, hx, rfl⟩ := List.mem_map.mp hy
    exact k x G (W.2.2.2.2 x hx) off DG
theorem cCon1 (T : Txt K mg) (N : Nat) (ih : Cal P w K mg base (N + 2) "_law_concept" (spC K N) []) : Cal P w K mg base (N + 3) "_law_concept" (spCon K N) [] := by
  refine cal_of T.lawConcept scLawConcept (fun _ _ _ _ _ _ us hl => match us, hl with | [_, _, _], _ => rfl) (fun vs H Q E h => ?_) (fun f cdv A outer s H vs Q E hr h => ?_)
  · obtain ⟨d, l, v, ns, rs, n, _, rfl, _⟩ := h
    rfl
  obtain ⟨d, l, v, ns, rs, n, nN, rfl, D, Vo, q⟩ := h
  have hu64 := hr.units
  refine ⟨_, (pss_cons (ps_asg (pv 1) (pg_tup rfl (pgs_cons (pg_name (i := 3) scLawConcept.nd rfl (.inl rfl)) (pgs_cons (pg_name (i := 4) scLawConcept.nd rfl (.inl rfl)) pgs_nil))))
 (pss_cons (ps_set (i := 5) scLawConcept.nd rfl (.inl rfl) (pe_c (cLawDraw T) hr (by omega) rfl (pa_cons (pv 0) (pa_cons pe_int pa_nil))))
 (C8.pss_cut (ps_if (PW.pt (pw_and (pt_cmpR op_gt (pv 2) pe_int (nomark _)) (pw_and1 (pt_cmpR op_lt (pv 5) pe_int (nomark _)))))
 (pss_one (ps_ret (pe_tup (pa_cons pe_str (pa_cons (pe_c ih hr (by omega) rfl (pa_cons (pv 0) (pa_cons (pv 1) (pa_cons (pe_op op_sub (pv 2) pe_int) pa_nil)))) (pa_cons (pe_c ih hr (by omega) rfl (pa_cons (pv 0) (pa_cons (pv 1) (pa_cons (pe_op op_sub (pv 2) pe_int) pa_nil)))) pa_nil))))))
 pss_nil)
 (C8.pss_cut (ps_if (PW.pt (pw_and (pt_cmpR op_gt (pv 2) pe_int (nomark _)) (pw_and (pt_cmpR op_lt (pv 5) pe_int (nomark _)) (pw_and1 (pt_cmpR (op_neD hu64) (pv 4) (pe_tup pa_nil) (nomark _))))))
 (pss_one (ps_ret (pe_tup (pa_cons pe_str (pa_cons (pe_c (cLawPick T) hr (by omega) rfl (pa_cons (pv 0) (pa_cons (pv 4) pa_nil))) (pa_cons (pe_c ih hr (by omega) rfl (pa_cons (pv 0) (pa_cons (pv 1) (pa_cons (pe_op op_sub (pv 2) pe_int) pa_nil)))) pa_nil))))))
 pss_nil)
 (C8.pss_cut (ps_if (PW.pt (pw_and (pt_cmpR (op_neD hu64) (pv 3) (pe_tup pa_nil) (nomark _)) (pw_and1 (pt_cmpR op_gt (pe_c (cLawDraw T) hr (by omega) rfl (pa_cons (pv 0) (pa_cons pe_int pa_nil))) pe_int (nomark _)))))
 (pss_one (ps_ret (pe_tup (pa_cons pe_str (pa_cons (pe_c (cLawPick T) hr (by omega) rfl (pa_cons (pv 0) (pa_cons (pv 3) pa_nil))) pa_nil)))))
 pss_nil)
 (pss_one (ps_ret (pe_c (cLawPick T) hr (by omega) rfl (pa_cons (pv 0) (pa_cons (pe_lst (pa_cons (pe_tup (pa_cons pe_str pa_nil)) (pa_cons (pe_tup (pa_cons pe_str pa_nil)) (pa_cons (pe_tup (pa_cons pe_str pa_nil)) pa_nil)))) pa_nil)))))))))), ?_⟩
  obtain ⟨a, nA, rA, rfl, hv, hn, hrr⟩ := Vo
  refine ⟨.ref a, rfl, a, _, rfl, hv, rfl, .ref nA, [.ref rA], rfl, .ref rA, [], rfl, rfl, ?_⟩
  refine ⟨.ref d, rfl, d, l, 7, rfl, D, by omega, by omega, fun y G y0 y7 o1 D1 => ?_⟩
  have st1 := o1.stay D
  have hv1 := st1.tup hv
  have hn1 := hn.st st1
  have hr1 := hrr.st st1
  have p2 := Nat.two_pow_pos n
  have e2 : 2 ^ (n + 1) = 2 ^ n * 2 := Nat.pow_succ ..
  -- one deeper
  have deeper : ∀ (m : Nat), n = m + 1 → ∀ (X : Hp) (Q' : VK), Deck X d l → SqT K X a [.ref nA, .ref rA] → Tw K X d l nA ns → Tw K X d l rA rs →
      (∀ (u : V) (c : C) (H' : Hp), Con K H' u c → COk c → dep c ≤ n → nodes c + 1 ≤ 2 ^ n → Off d l X H' → Deck H' d l → Q' u H') → spC K N [.ref d, .ref a, .int ((n : Int) - 1)] X Q' (fun _ _ _ => False) := by
    rintro m rfl X Q' DX hX hnX hrX k
    obtain ⟨N', rfl⟩ : ∃ N', N = N' + 1 := ⟨N - 1, by omega⟩
    refine ⟨d, l, .ref a, ns, rs, m, by omega, ?_, DX, ⟨a, nA, rA, rfl, hX, hnX, hrX⟩, k⟩
    rw [show (((m + 1 : Nat) : Int) - 1) = ((m : Nat) : Int) by omega]
  refine ⟨fun σ X => σ = [some (.ref d), some (.ref a), some (.int n), some (.ref nA), some (.ref rA), some (.int y)] ∧ X = G, ?_, ?_⟩
  · refine ⟨.int n, rfl, _, _, rfl, rfl, _, rfl, ite2 (fun c => ⟨.int y, rfl, _, _, rfl, rfl, _, rfl, ite2 (fun c2 => ?_) (fun c2 => ⟨rfl, rfl⟩)⟩) (fun c => iteF ⟨rfl, rfl⟩)⟩
    have np : 0 < n := by have := of_decide_eq_true c; omega
    obtain ⟨m, em⟩ : ∃ m, n = m + 1 := ⟨n - 1, by omega⟩
    refine ⟨.ref d, rfl, .ref a, rfl, .int n, rfl, _, 1, rfl, rfl, deeper m em _ _ D1 hv1 hn1 hr1 fun u c X hc ok hd hnn o2 D2 => ?_⟩
    have st2 := o2.stay D1
    refine ⟨.ref d, rfl, .ref a, rfl, .int n, rfl, _, 1, rfl, rfl, deeper m em _ _ D2 (st2.tup hv1) (hn1.st st2) (hr1.st st2) fun u' c' X' hc' ok' hd' hnn' o3 D3 => ?_⟩
    refine ⟨by show 3 ≤ sizeLine; decide, fun p np' => ?_⟩
    refine q _ (.and c c') _ (mk_and (tupOf upd_same) ((hc.st (o3.stay D2)).st (stay_new np')) (hc'.st (stay_new np'))) ⟨ok, ok'⟩ (Nat.succ_le_succ (Nat.max_le.mpr ⟨hd, hd'⟩)) ?_ (((o1.trans o2).trans o3).trans (off_new np')) (D3.new np')
    show nodes c + nodes c' + 1 + 1 ≤ _
    omega
  rintro σ' G0 ⟨rfl, rfl⟩
  refine ⟨fun σ X => σ = [some (.ref d), some (.ref a), some (.int n), some (.ref nA), some (.ref rA), some (.int y)] ∧ Off d l H X ∧ Deck X d l ∧ Stay G0 X, ?_, ?_⟩
  · refine ⟨.int n, rfl, _, _, rfl, rfl, _, rfl, ite2 (fun c => ⟨.int y, rfl, _, _, rfl, rfl, _, rfl, ite2 (fun c2 => ?_) (fun c2 => iteF ⟨rfl, o1, D1, Stay.refl _⟩)⟩) (fun c => iteF ⟨rfl, o1, D1, Stay.refl _⟩)⟩
    have np : 0 < n := by have := of_decide_eq_true c; omega
    obtain ⟨m, em⟩ : ∃ m, n = m + 1 := ⟨n - 1, by omega⟩
    refine ⟨.ref rA, rfl, Nat.zero_le _, fun z nz => ⟨.tuple (rs.map PyData.str), .tuple [], .tup ((stay_new nz).tup hr1.1) (dp_strs rs), .tup (tupOf upd_same) .nil, shaped_tstrs rs fun y hy => isw_ok (hr1.2.2.2.2 y hy), shaped_tnil, _, rfl, ?_⟩⟩
    rw [tstr_ne]
    have sz := same_up (o := .tup []) nz
    have stz := Tl.Same.stay sz
    cases hrs : rs with
    | nil => exact iteF ⟨rfl, o1.trans sz.off, D1.same sz, stz⟩
    | cons r0 rr =>
      rw [← hrs]
      rw [show (!rs.isEmpty) = true by rw [hrs]; rfl]
      refine iteT ⟨.ref d, rfl, .ref rA, rfl, pickW (D1.same sz) (hr1.st stz) (by rw [hrs]; exact List.cons_ne_nil _ _) fun x X2 hx o2 D2 => ?_⟩
      have st2 := stz.trans (o2.stay (D1.same sz))
      refine ⟨.ref d, rfl, .ref a, rfl, .int n, rfl, _, 1, rfl, rfl, deeper m em _ _ D2 (st2.tup hv1) (hn1.st st2) (hr1.st st2) fun u' c' X' hc' ok' hd' hnn' o3 D3 => ⟨by show 3 ≤ sizeLine; decide, fun p np' => ?_⟩⟩
      refine q _ (.some x c') _ (mk_some (tupOf upd_same) (hc'.st (stay_new np'))) ⟨hx, ok'⟩ (Nat.succ_le_succ hd') ?_ ((((o1.trans sz.off).trans o2).trans o3).trans (off_new np')) (D3.new np')
      show nodes c' + 1 + 1 ≤ _
      omega
  rintro σ' X ⟨rfl, oX, DX, sX⟩
  refine ⟨fun σ X => Off d l H X ∧ Deck X d l ∧ σ = [some (.ref d), some (.ref a), some (.int n), some (.ref nA), some (.ref rA), some (.int y)], ?_, ?_⟩
  · have hnX := hn1.st sX
    refine ⟨.ref nA, rfl, Nat.zero_le _, fun z nz => ⟨.tuple (ns.map PyData.str), .tuple [], .tup ((stay_new nz).tup hnX.1) (dp_strs ns), .tup (tupOf upd_same) .nil, shaped_tstrs ns fun y hy => isw_ok (hnX.2.2.2.2 y hy), shaped_tnil, _, rfl, ?_⟩⟩
    rw [tstr_ne]
    have sz := same_up (o := .tup []) nz
    have stz := Tl.Same.stay sz
    cases hns : ns with
    | nil => exact iteF (iteF ⟨oX.trans sz.off, DX.same sz, rfl⟩)
    | cons r0 rr =>
      rw [← hns]
      rw [show (!ns.isEmpty) = true by rw [hns]; rfl]
      refine iteT ⟨.ref d, rfl, d, l, 6, rfl, DX.same sz, by omega, by omega, fun j X2 j0 j1 o2 D2 => ⟨_, _, rfl, rfl, _, rfl, ite2 (fun _ => ?_) (fun _ => ⟨(oX.trans sz.off).trans o2, D2, rfl⟩)⟩⟩
      have st2 := stz.trans (o2.stay (DX.same sz))
      refine ⟨.ref d, rfl, .ref nA, rfl, pickW D2 (hnX.st st2) (by rw [hns]; exact List.cons_ne_nil _ _) fun x X3 hx o3 D3 => ⟨by show 2 ≤ sizeLine; decide, fun p np' => ?_⟩⟩
      refine q _ (.word x) _ (mk_word (tupOf upd_same)) hx (Nat.succ_le_succ (Nat.zero_le _)) ?_ ((((oX.trans sz.off).trans o2).trans o3).trans (off_new np')) (D3.new np')
      show 1 + 1 ≤ _
      omega
  rintro σ' Y ⟨oY, DY, rfl⟩
  refine ⟨.ref d, rfl, by show 1 ≤ sizeLine; decide, fun a1 n1 => ⟨by show 1 ≤ sizeLine; decide, fun a2 n2 => ⟨by show 1 ≤ sizeLine; decide, fun a3 n3 => ⟨by show 3 ≤ sizeLine; decide, fun u nu => ?_⟩⟩⟩⟩
  have s1 := same_up (o := .tup [.str "all"]) n1
  have s2 := same_up (o := .tup [.str "none"]) n2
  have s3 := same_up (o := .tup [.str "all"]) n3
  have s4 := same_up (o := .lst [.ref a1, .ref a2, .ref a3]) nu
  have c1 : Con K _ (.ref a1) .all := mk_all (tupOf ((s2.trans (s3.trans s4)) _ _ upd_same))
  have c2 : Con K _ (.ref a2) .non := mk_non (tupOf ((s3.trans s4) _ _ upd_same))
  have c3 : Con K _ (.ref a3) .all := mk_all (tupOf (s4 _ _ upd_same))
  have sA := ((s1.trans s2).trans s3).trans s4
  have DA := DY.same ((s1.trans s2).trans s3)
  obtain ⟨ud, ul⟩ := DA.off nu
  refine ⟨d, l, u, _, rfl, DY.same sA, .inl (lst_of upd_same), ud, ul, by simp, by simp, fun x Z hx oZ DZ => ?_⟩
  have stZ := oZ.stay (DY.same sA)
  have oAll := (oY.trans sA.off).trans oZ
  simp only [List.mem_cons, List.not_mem_nil, or_false] at hx
  rcases hx with rfl | rfl | rfl
  · exact q _ .all _ (c1.st stZ) trivial (Nat.succ_le_succ (Nat.zero_le _)) (by show 1 + 1 ≤ _; omega) oAll DZ
  · exact q _ .non _ (c2.st stZ) trivial (Nat.succ_le_succ (Nat.zero_le _)) (by show 1 + 1 ≤ _; omega) oAll DZ
  · exact q _ .all _ (c3.st stZ) trivial (Nat.succ_le_succ (Nat.zero_le _)) (by show 1 + 1 ≤ _; omega) oAll DZ
theorem cLawConcept (T : Txt K mg) : ∀ n : Nat, Cal P w K mg base (n + 2) "_law_concept" (spC K n) []
  | 0 => calUp (cal_false T.lawConcept (ps := ["deck", "vocabulary", "deep"]) (fun _ _ _ _ _ _ us hl => match us, hl with | [_, _, _], _ => rfl)) (Nat.zero_le _)
  | n + 1 => cCon1 T n (cLawConcept T n)
end
end K21
set_option Elab.async false
set_option linter.all false
set_option autoImplicit false
set_option maxRecDepth 100000
set_option maxHeartbeats 2000000
namespace K21
open PySem PySem.Spec PyProof.Rows L2 Tl
open C8 (Cal pe_c)
/-! ### what is in a concept -/
def rgI (n : Int) : List Int := (List.range n.toNat).map fun (i : Nat) => (i : Int)
theorem rgV_eq (n : Int) : rgV 0 n = (rgI n).map V.int := by
  unfold rgV rgI
  rw [List.map_map, show n - 0 = n by omega]
  refine List.map_congr_left fun i _ => ?_
  show V.int (0 + (i : Int)) = V.int (i : Int)
  rw [Int.zero_add]
theorem mem_rgI {n x : Int} : x ∈ rgI n ↔ 0 ≤ x ∧ x < n := by
  unfold rgI
  rw [List.mem_map]
  constructor
  · rintro ⟨i, hi, rfl⟩
    have := List.mem_range.mp hi
    omega
  · rintro ⟨h1, h2⟩
    exact ⟨x.toNat, List.mem_range.mpr (by omega), by omega⟩
theorem asc_rgI (n : Int) : (rgI n).Pairwise (· < ·) := by
  unfold rgI
  rw [List.pairwise_map]
  exact List.pairwise_lt_range.imp fun h => by omega
theorem asc_len : ∀ (xs : List Int) (lo n : Int), xs.Pairwise (· < ·) → (∀ x ∈ xs, lo ≤ x ∧ x < n) → xs.length ≤ (n - lo).toNat
  | [], _, _, _, _ => Nat.zero_le _
  | x :: r, lo, n, h, b => by
    have h' := List.pairwise_cons.mp h
    have ih := asc_len r (x + 1) n h'.2 fun y hy => by
      have := h'.1 y hy
      have := b y (List.mem_cons_of_mem _ hy)
      omega
    have := b x List.mem_cons_self
    rw [List.length_cons]
    omega
theorem asc_eq : ∀ (xs ys : List Int), xs.Pairwise (· < ·) → ys.Pairwise (· < ·) → (∀ x, x ∈ xs ↔ x ∈ ys) → xs = ys
  | [], [], _, _, _ => rfl
  | [], y :: s, _, _, h => absurd ((h y).mpr List.mem_cons_self) (List.not_mem_nil)
  | x :: r, [], _, _, h => absurd ((h x).mp List.mem_cons_self) (List.not_mem_nil)
  | x :: r, y :: s, h1, h2, h => by
    have a1 := List.pairwise_cons.mp h1
    have a2 := List.pairwise_cons.mp h2
    have exy : x = y := by
      rcases List.mem_cons.mp ((h x).mp List.mem_cons_self) with e | e
      · exact e
      · rcases List.mem_cons.mp ((h y).mpr List.mem_cons_self) with e2 | e2
        · exact e2.symm
        · have := a2.1 x e
          have := a1.1 y e2
          omega
    subst exy
    rw [asc_eq r s a1.2 a2.2 fun z => ?_]
    constructor
    · intro hz
      rcases List.mem_cons.mp ((h z).mp (List.mem_cons_of_mem _ hz)) with e | e
      · subst e
        have := a1.1 z hz
        omega
      · exact e
    · intro hz
      rcases List.mem_cons.mp ((h z).mpr (List.mem_cons_of_mem _ hz)) with e | e
      · subst e
        have := a2.1 z hz
        omega
      · exact e
def look {α : Type} (nm : List (Str × α)) (x : Str) : Option α := (nm.find? fun e => decide (e.1 = x)).map (·.2)
def lookN (W : Wd) (x : Str) : List Int := (look W.names x).getD []
def lookR (W : Wd) (x : Str) : List (Int × Int) := (look W.roles x).getD []
def den (W : Wd) : C → List Int
  | .all => rgI W.many
  | .non => []
  | .word x => lookN W x
  | .and a b => (den W a).filter fun x => decide (x ∈ den W b)
  | .some r c => (rgI W.many).filter fun x => (lookR W r).any fun e => decide (e.1 = x) && decide (e.2 ∈ den W c)
theorem look_mem {α : Type} {nm : List (Str × α)} {x : Str} {y : α} (h : look nm x = some y) : (x, y) ∈ nm := by
  unfold look at h
  obtain ⟨e, he, rfl⟩ := Option.map_eq_some_iff.mp h
  have h1 := List.mem_of_find?_eq_some he
  have h2 := List.find?_some he
  have h2 : e.1 = x := of_decide_eq_true h2
  rw [← h2]
  exact h1
theorem lookN_good {W : Wd} (ok : WOk W) (x : Str) : (lookN W x).Pairwise (· < ·) ∧ ∀ y ∈ lookN W x, 0 ≤ y ∧ y < W.many := by
  unfold lookN
  cases h : look W.names x with
  | none => exact ⟨List.Pairwise.nil, fun y hy => nomatch hy⟩
  | some zs =>
    have := (ok.names.2.1 _ (look_mem h)).2
    exact ⟨this.2.1, this.2.2⟩
theorem lookR_good {W : Wd} (ok : WOk W) (x : Str) : (lookR W x).Pairwise Lex ∧ ∀ e ∈ lookR W x, (0 ≤ e.1 ∧ e.1 < W.many) ∧ 0 ≤ e.2 ∧ e.2 < W.many := by
  unfold lookR
  cases h : look W.roles x with
  | none => exact ⟨List.Pairwise.nil, fun y hy => nomatch hy⟩
  | some zs =>
    have := (ok.roles.2.1 _ (look_mem h)).2
    exact ⟨this.2.1, this.2.2⟩
theorem den_good {W : Wd} (ok : WOk W) : ∀ c : C, (den W c).Pairwise (· < ·) ∧ ∀ y ∈ den W c, 0 ≤ y ∧ y < W.many
  | .all => ⟨asc_rgI _, fun y hy => mem_rgI.mp hy⟩
  | .non => ⟨List.Pairwise.nil, fun y hy => nomatch hy⟩
  | .word x => lookN_good ok x
  | .and a b => ⟨(den_good ok a).1.sublist (List.filter_sublist), fun y hy => (den_good ok a).2 y (List.mem_filter.mp hy).1⟩
  | .some r c => ⟨(asc_rgI _).sublist (List.filter_sublist), fun y hy => mem_rgI.mp (List.mem_filter.mp hy).1⟩
theorem den_len {W : Wd} (ok : WOk W) (c : C) : (den W c).length ≤ 10 := by
  have h := den_good ok c
  have := asc_len _ 0 W.many h.1 h.2
  have := ok.many
  omega
/-- the pairs of a role: at most thirty-six -/
theorem lex_len_aux : ∀ (es : List (Int × Int)) (n : Int), 0 ≤ n → es.Pairwise Lex → (∀ e ∈ es, (0 ≤ e.1 ∧ e.1 < n) ∧ 0 ≤ e.2 ∧ e.2 < n) → (es.map fun e => e.1 * n + e.2).Pairwise (· < ·) := by
  intro es n hn h b
  rw [List.pairwise_map]
  refine List.Pairwise.imp_of_mem (fun {e f} he hf r => ?_) h
  have h1 := b e he
  have h2 := b f hf
  rcases r with r | ⟨r1, r2⟩
  · have : (e.1 + 1) * n ≤ f.1 * n := Int.mul_le_mul_of_nonneg_right (by omega) hn
    rw [Int.add_mul, Int.one_mul] at this
    omega
  · rw [r1]
    omega
theorem lex_len {es : List (Int × Int)} {n : Int} (h0 : 0 ≤ n) (h10 : n ≤ 6) (h : es.Pairwise Lex) (b : ∀ e ∈ es, (0 ≤ e.1 ∧ e.1 < n) ∧ 0 ≤ e.2 ∧ e.2 < n) : es.length ≤ 36 := by
  have := asc_len (es.map fun e => e.1 * n + e.2) 0 36 (lex_len_aux es n h0 h b) fun x hx => by
    obtain ⟨e, he, rfl⟩ := List.mem_map.mp hx
    have h1 := b e he
    have h2 : 0 ≤ e.1 * n := Int.mul_nonneg h1.1.1 h0
    have h3 : e.1 * n ≤ 5 * n := Int.mul_le_mul_of_nonneg_right (by omega) h0
    omega
  rw [List.length_map] at this
  omega
/-! ### the dict of a world's names -/
theorem merge_new : ∀ (more kvs : List (Key × V)), (∀ p ∈ more, valV kvs p.1 = none) → (more.map (·.1)).Nodup → mergeK kvs more = kvs ++ more
  | [], kvs, _, _ => (List.append_nil kvs).symm
  | p :: r, kvs, h, n => by
    have hn := List.nodup_cons.mp n
    show mergeK (putK kvs p.1 p.2) r = _
    rw [putK_new p.2 (h p List.mem_cons_self), merge_new r _ (fun q hq => ?_) hn.2, List.append_assoc]
    · rfl
    · rw [valV_snoc _ _ _ _ (h p List.mem_cons_self), if_neg (fun e => hn.1 (List.mem_map.mpr ⟨q, hq, e⟩))]
      exact h q (List.mem_cons_of_mem _ hq)
/-- an entry of the dict beside its entry in the world -/
def Ent {α : Type} (R : Addr → α → Prop) (kv : Key × V) (e : Str × α) : Prop := kv.1 = .inr e.1 ∧ ∃ t, kv.2 = .ref t ∧ R t e.2
theorem ent_keys {α : Type} {R : Addr → α → Prop} {kvs : List (Key × V)} {nm : List (Str × α)} (h : Paired (Ent R) kvs nm) : kvs.map (·.1) = (nm.map (·.1)).map Sum.inr := by
  induction h with
  | nil => rfl
  | cons r _ ih => rw [List.map_cons, List.map_cons, List.map_cons, ih, r.1]
theorem ent_nodup {α : Type} {R : Addr → α → Prop} {kvs : List (Key × V)} {nm : List (Str × α)} (h : Paired (Ent R) kvs nm) (asc : (nm.map (·.1)).Pairwise sl) : (kvs.map (·.1)).Nodup := by
  rw [ent_keys h]
  refine List.Pairwise.map _ (fun a b hab e => ?_) asc
  have e : a = b := Sum.inr.inj e
  rw [e] at hab
  exact List.lt_irrefl _ hab
theorem ent_look {α : Type} {R : Addr → α → Prop} {kvs : List (Key × V)} {nm : List (Str × α)} (h : Paired (Ent R) kvs nm) (x : Str) :
    (valV kvs (.inr x) = none ∧ look nm x = none) ∨ ∃ t y, valV kvs (.inr x) = some (.ref t) ∧ look nm x = some y ∧ R t y := by
  induction h with
  | nil => exact .inl ⟨rfl, rfl⟩
  | @cons kv e kvs nm r _ ih =>
    obtain ⟨h1, t, h2, h3⟩ := r
    by_cases hx : e.1 = x
    · refine .inr ⟨t, e.2, ?_, ?_, h3⟩
      · rw [valV_pos (by rw [h1, hx]), h2]
      · unfold look
        rw [List.find?_cons_of_pos (by simpa using hx)]
        rfl
    · have n1 : ¬ kv.1 = Sum.inr x := fun z => hx (Sum.inr.inj (h1.symm.trans z))
      rw [valV_neg n1]
      have : look (e :: nm) x = look nm x := by
        unfold look
        rw [List.find?_cons_of_neg (by simpa using hx)]
      rw [this]
      exact ih
theorem ent_of_names {K : PySem.W.Frag} {H : Hp} {ps : List Addr} {nm : List (Str × List Int)} (h : Paired (NmE K H) ps nm) :
    ∃ kvs : List (Key × V), Paired (fun p kv => SqT K H p [kV kv.1, kv.2]) ps kvs ∧ Paired (Ent fun t xs => SqT K H t (xs.map V.int)) kvs nm := by
  induction h with
  | nil => exact ⟨[], .nil, .nil⟩
  | @cons p e _ _ r _ ih =>
    obtain ⟨kvs, h1, h2⟩ := ih
    obtain ⟨t, h3, h4⟩ := r
    exact ⟨(.inr e.1, .ref t) :: kvs, .cons h3 h1, .cons ⟨rfl, t, rfl, h4⟩ h2⟩
theorem ent_of_roles {K : PySem.W.Frag} {H : Hp} {ps : List Addr} {nm : List (Str × List (Int × Int))} (h : Paired (RlE K H) ps nm) :
    ∃ kvs : List (Key × V), Paired (fun p kv => SqT K H p [kV kv.1, kv.2]) ps kvs ∧ Paired (Ent fun t xs => Prs K H t xs) kvs nm := by
  induction h with
  | nil => exact ⟨[], .nil, .nil⟩
  | @cons p e _ _ r _ ih =>
    obtain ⟨kvs, h1, h2⟩ := ih
    obtain ⟨t, h3, h4⟩ := r
    exact ⟨(.inr e.1, .ref t) :: kvs, .cons h3 h1, .cons ⟨rfl, t, rfl, h4⟩ h2⟩
theorem merged_ent {α : Type} {R : Addr → α → Prop} {kvs : List (Key × V)} {nm : List (Str × α)} (h : Paired (Ent R) kvs nm) (asc : (nm.map (·.1)).Pairwise sl) : mergeK [] kvs = kvs :=
  merge_new kvs [] (fun _ _ => rfl) (ent_nodup h asc)
theorem rd_of_frz {K : PySem.W.Frag} {H : Hp} {a : Addr} {ps : List Addr} (h : Frz H a ps) : SqT K H a (ps.map V.ref) := by
  obtain ⟨o, h, _⟩ := h
  exact .inl (.inr ⟨o, h⟩)
end K21
set_option Elab.async false
set_option linter.all false
set_option autoImplicit false
set_option maxRecDepth 100000
set_option maxHeartbeats 4000000
namespace K21
open PySem PySem.Spec PyProof.Rows L2 Tl
open C8 (Cal pe_c)
theorem sne {a b : Str} (h : ¬ a = b) : decide (V.str a = V.str b) = false := decide_eq_false fun e => h (V.str.inj e)
theorem seq {a : Str} : decide (V.str a = V.str a) = true := decide_eq_true rfl
theorem t_an : ¬ ("all" : Str) = "none" := by decide +kernel
theorem t_na : ¬ ("none" : Str) = "all" := by decide +kernel
theorem t_wn : ¬ ("word" : Str) = "none" := by decide +kernel
theorem t_wa : ¬ ("word" : Str) = "all" := by decide +kernel
theorem t_dn : ¬ ("and" : Str) = "none" := by decide +kernel
theorem t_da : ¬ ("and" : Str) = "all" := by decide +kernel
theorem t_dw : ¬ ("and" : Str) = "word" := by decide +kernel
theorem t_sn : ¬ ("some" : Str) = "none" := by decide +kernel
theorem t_sa : ¬ ("some" : Str) = "all" := by decide +kernel
theorem t_sw : ¬ ("some" : Str) = "word" := by decide +kernel
theorem t_sd : ¬ ("some" : Str) = "and" := by decide +kernel
theorem inV_int (x : Int) (ws : List Int) : inV (.int x) (ws.map V.int) = decide (x ∈ ws) := by
  unfold inV
  rw [List.any_map, Bool.eq_iff_iff, List.any_eq_true, decide_eq_true_eq]
  constructor
  · rintro ⟨y, hy, e⟩
    have e : (y == x) = true := e
    rw [← eq_of_beq e]
    exact hy
  · intro h
    exact ⟨x, h, beq_self_eq_true x⟩
theorem flat_ints (ws : List Int) : (ws.map V.int).all flatV = true := by
  rw [List.all_map]
  exact List.all_eq_true.mpr fun _ _ => rfl
theorem dep_pos : ∀ c : C, 1 ≤ dep c
  | .all => Nat.le_refl 1
  | .non => Nat.le_refl 1
  | .word _ => Nat.le_refl 1
  | .some _ c => Nat.le_add_left 1 _
  | .and _ _ => Nat.le_add_left 1 _
end K21
set_option Elab.async false
set_option linter.all false
set_option autoImplicit false
set_option maxRecDepth 100000
set_option maxHeartbeats 4000000
namespace K21
open PySem PySem.Spec PyProof.Rows L2 Tl
open C8 (Cal pe_c)
/-! ### the program: kinds of values -/
theorem ty_tup {K : PySem.W.Frag} {H : Hp} {a : Addr} {xs : List V} (h : SqT K H a xs) : TyX K H (.ref a) (.type "tuple") := by
  rcases h with (h | ⟨o, h⟩) | ⟨o, its, n, h1, h2, _⟩
  · exact .base (.tup h)
  · exact .fTuple h
  · exact .kTuple h1 h2
inductive LtV (K : PySem.W.Frag) (H : Hp) : V → V → Prop
  | int {i j : Int} (h : i < j) : LtV K H (.int i) (.int j)
  | str {x y : Str} (h : sl x y) : LtV K H (.str x) (.str y)
  | prs {a b : Addr} {e f : Int × Int} (h1 : PrE K H a e) (h2 : PrE K H b f) (h : Lex e f) : LtV K H (.ref a) (.ref b)
def rLt3 (K : PySem.W.Frag) : R2 := fun x y H Q => rI0 (fun i j => .bl (decide (i < j))) x y H Q ∨
  ((fun x y H Q => ∃ i j, x = V.str i ∧ y = V.str j ∧ Q (.bl (decide (i.cps.toList < j.cps.toList))) H) x y H Q ∨ rLtT K x y H Q)
theorem op_lt3 {X : Cx} {K : PySem.W.Frag} (h : X.K = K) (hu : X.A.units < cLine) : OpR X (compareOp .Lt) (rLt3 K) := by
  subst h
  exact OpR.or op_lt (OpR.or op_lt_str (op_ltT hu))
def rIx2 (K : PySem.W.Frag) : R2 := fun x y H Q => rIxL K x y H Q ∨ rIxT K x y H Q
theorem ix_seqK {X : Cx} {K : PySem.W.Frag} (h : X.K = K) : IxR X (rIx2 K) := by
  subst h
  exact IxR.or ix_list ix_tup
theorem ix_tupK {X : Cx} {K : PySem.W.Frag} (h : X.K = K) : IxR X (rIxT K) := by
  subst h
  exact ix_tup
theorem ltv_st {K : PySem.W.Frag} {H H' : Hp} {x y : V} (s : Stay H H') (h : LtV K H x y) : LtV K H' x y := by
  cases h with
  | int h => exact .int h
  | str h => exact .str h
  | prs h1 h2 h => exact .prs (pre_st s h1) (pre_st s h2) h
theorem ltv_r {K : PySem.W.Frag} {H : Hp} {x y : V} {Q : VK} (h : LtV K H x y) (q : Q (.bl true) H) : rLt3 K x y H Q := by
  cases h with
  | @int i j h => exact .inl ⟨_, _, rfl, rfl, by
      show Q (V.bl (decide (i < j))) H
      rw [decide_eq_true h]
      exact q⟩
  | @str x y h => exact .inr (.inl ⟨_, _, rfl, rfl, by
      have e : decide (x.cps.toList < y.cps.toList) = true := decide_eq_true h
      rw [e]
      exact q⟩)
  | @prs a b e f h1 h2 h =>
    refine .inr (.inr ⟨a, b, [e.1, e.2], [f.1, f.2], rfl, rfl, h1, h2, ?_⟩)
    have : HT.lexLt [e.1, e.2] [f.1, f.2] = true := by
      rw [HT.lexLt_cons, HT.lexLt_cons]
      rcases h with h | ⟨h, h'⟩
      · rw [if_neg (by omega)]
        exact decide_eq_true h
      · rw [if_pos h, if_neg (by omega)]
        exact decide_eq_true h'
    rw [this]
    exact q
theorem all_rep : ∀ n : Nat, (List.replicate n true).all id = true
  | 0 => rfl
  | n + 1 => by rw [List.replicate_succ, List.all_cons, all_rep n]; rfl
section
variable {P : Program} {w : World} {K : PySem.W.Frag} {mg : Str → Option Value} {base : Heap}
def spIsInt : Sp := fun vs H Q _ => ∃ i : Int, vs = [.int i] ∧ Q (.bl true) H
theorem cIsInteger (T : Txt K mg) : Cal P w K mg base 1 "is_integer" spIsInt [] := by
  refine cal_of T.isInteger scIsInteger (fun _ _ _ _ _ _ us hl => match us, hl with | [_], _ => rfl) (fun vs H Q E h => ?_) (fun f cdv A outer s H vs Q E hr h => ?_)
  · obtain ⟨x, rfl, _⟩ := h
    rfl
  obtain ⟨i, rfl, q⟩ := h
  refine ⟨_, (pss_one (ps_ret (pe_and (pe_callB call_isi (by rfl) T.isinstance (by decide +kernel) (pa_cons (pv 0) (pa_cons (pe_bltn (v := V.ty "int") (u := Value.type "int") (by rfl) T.int (by decide +kernel) rfl) pa_nil))) (pe_one (pe_notT (pe_callB call_isi (by rfl) T.isinstance (by decide +kernel) (pa_cons (pv 0) (pa_cons (pe_bltn (v := V.ty "bool") (u := Value.type "bool") (by rfl) T.bool (by decide +kernel) rfl) pa_nil)))))))), ?_⟩
  exact ⟨.int i, rfl, .int i, .ty "int", .type "int", .type "int", true, rfl, .ty _, .base (.int i), kit_ty (by decide +kernel), true, rfl, .int i, rfl, .int i, .ty "bool", .type "int", .type "bool", false, rfl, .ty _, .base (.int i), kit_ty (by decide +kernel), false, rfl, q⟩
def spIsPair (K : PySem.W.Frag) : Sp := fun vs H Q _ => ∃ (a : Addr) (x y : V), vs = [.ref a] ∧ SqT K H a [x, y] ∧ Q (.bl true) H
theorem cIsPair (T : Txt K mg) : Cal P w K mg base 1 "is_pair" (spIsPair K) [] := by
  refine cal_of T.isPair scIsPair (fun _ _ _ _ _ _ us hl => match us, hl with | [_], _ => rfl) (fun vs H Q E h => ?_) (fun f cdv A outer s H vs Q E hr h => ?_)
  · obtain ⟨a, x, y, rfl, _⟩ := h
    rfl
  obtain ⟨a, x, y, rfl, ha, q⟩ := h
  refine ⟨_, (pss_one (ps_ret (pe_and (pe_callB call_isi (by rfl) T.isinstance (by decide +kernel) (pa_cons (pv 0) (pa_cons (pe_bltn (v := V.ty "tuple") (u := Value.type "tuple") (by rfl) T.tuple (by decide +kernel) rfl) pa_nil))) (pe_one (pe_cmpR op_eq (pe_callB call_len_seq (by rfl) T.len (by decide +kernel) (pa_cons (pv 0) pa_nil)) pe_int (nomark _)))))), ?_⟩
  exact ⟨.ref a, rfl, .ref a, .ty "tuple", .type "tuple", .type "tuple", true, rfl, .ty _, ty_tup ha, kit_ty (by decide +kernel), true, rfl, .ref a, rfl, a, _, rfl, .inr ha, rfl, q⟩
def spAsc (K : PySem.W.Frag) : Sp := fun vs H Q _ => ∃ (a : Addr) (xs : List V), vs = [.ref a] ∧ (SqL K H a xs ∨ SqT K H a xs) ∧ xs.length ≤ 1000 ∧
  (∀ i x y, xs[i]? = some x → xs[i + 1]? = some y → LtV K H x y) ∧ ∀ H', L2.Same H H' → Q (.bl true) H'
theorem cIsAscending (T : Txt K mg) : Cal P w K mg base 1 "is_ascending" (spAsc K) [] := by
  refine cal_of T.isAscending scIsAscending (fun _ _ _ _ _ _ us hl => match us, hl with | [_], _ => rfl) (fun vs H Q E h => ?_) (fun f cdv A outer s H vs Q E hr h => ?_)
  · obtain ⟨a, xs, rfl, _⟩ := h
    rfl
  obtain ⟨a, xs, rfl, ha, len, asc, q⟩ := h
  have hu := hr.units
  refine ⟨_, (pss_one (ps_ret (pe_callB (cr_all rfl) (by rfl) T.all (by decide +kernel) (pa_cons (pe_lc (own := [("k", 1)]) (by rfl) scIsAscending.nd (pi_range1 rfl T.range (pa_cons (pe_op op_sub (pe_callB call_len_seq (by rfl) T.len (by decide +kernel) (pa_cons (pv 0) pa_nil)) pe_int) pa_nil)) (blkOk_by (own := [("k", 1)]) (N := ["items", "k"]) (sc := defScope sIsAscending) (by decide +kernel)) (fun _ _ _ _ _ => (pg_name (i := 1) scIsAscending.nd rfl (.inl rfl))) (fun _ _ _ _ _ => pts_nil) (fun _ _ _ _ _ => (pe_cmpR (op_lt3 (K := K) rfl (Nat.lt_of_le_of_lt (Nat.le_add_right _ 64) hu)) (pe_ix (ix_seqK (K := K) rfl) (pv 0) (pv 1) (fun _ _ => rfl)) (pe_ix (ix_seqK (K := K) rfl) (pv 0) (pe_op op_add (pv 1) pe_int) (fun _ _ => rfl)) (nomark _)))) pa_nil)))), ?_⟩
  refine ⟨.ref a, rfl, a, xs, rfl, ha, _, 1, rfl, rfl, _, rfl, by omega, by omega, fun D nD => ?_⟩
  have hn : ((xs.length : Int) - 1).toNat = xs.length - 1 := by omega
  rw [hn]
  have seq : ∀ X, L2.Same H X → SqL K X a xs ∨ SqT K X a xs := fun X e => ha.imp (fun h => e.seq h) fun h => (Tl.Same.stay e).tup h
  refine lc_range (lo := 0) (n := xs.length - 1) (fun i X => L2.Same H X ∧ X D = some (.lst ((List.replicate i true).map V.bl))) ⟨same_up nD, upd_same⟩ (fun i X hi z => ?_) (fun X z => ?_)
  · obtain ⟨sX, gX⟩ := z
    obtain ⟨x, hx⟩ : ∃ x, xs[i]? = some x := ⟨_, List.getElem?_eq_getElem (by omega)⟩
    obtain ⟨y, hy⟩ : ∃ y, xs[i + 1]? = some y := ⟨_, List.getElem?_eq_getElem (by omega)⟩
    have ix : ∀ (j : Nat) (v : V), xs[j]? = some v → ∀ Q : VK, Q v X → rIx2 K (.ref a) (.int (j : Int)) X Q := fun j v hj Q h => by
      rcases seq X sX with z | z
      · exact .inl ⟨a, xs, _, v, rfl, rfl, z, atI_nat hj, h⟩
      · exact .inr ⟨a, xs, _, v, rfl, rfl, z, atI_nat hj, h⟩
    refine ⟨rfl, .ref a, rfl, .int _, rfl, ?_⟩
    rw [show (0 : Int) + (i : Int) = ((i : Nat) : Int) by omega]
    refine ix i x hx _ ⟨.ref a, rfl, .int _, rfl, _, 1, rfl, rfl, ?_⟩
    show rIx2 K (V.ref a) (V.int (((i : Nat) : Int) + 1)) X _
    rw [show ((i : Nat) : Int) + 1 = ((i + 1 : Nat) : Int) by omega]
    refine ix (i + 1) y hy _ (ltv_r (ltv_st (Tl.Same.stay sX) (asc i x y hx hy)) ⟨_, gX, ?_, same_mut sX nD, ?_⟩)
    · rw [List.length_map, List.length_replicate]
      exact Nat.lt_of_lt_of_le (show i < 1000 by omega) (by decide)
    · rw [upd_same, List.replicate_succ', List.map_append]
      rfl
  · obtain ⟨sX, gX⟩ := z
    refine ⟨D, _, rfl, lst_of gX, ?_⟩
    rw [all_rep]
    exact q X sX
def spIsLetter : Sp := fun vs H Q _ => ∃ c : Nat, vs = [.str ⟨#[c]⟩] ∧ lett c = true ∧ Q (.bl true) H
theorem cIsLetter (T : Txt K mg) : Cal P w K mg base 1 "_is_letter" spIsLetter [] := by
  refine cal_of T.isLetter scIsLetter (fun _ _ _ _ _ _ us hl => match us, hl with | [_], _ => rfl) (fun vs H Q E h => ?_) (fun f cdv A outer s H vs Q E hr h => ?_)
  · obtain ⟨x, rfl, _⟩ := h
    rfl
  obtain ⟨c, rfl, hc, q⟩ := h
  refine ⟨_, (pss_one (ps_ret (pe_chain op_le_str op_le_str pe_str (pv 0) pe_str))), ?_⟩
  unfold lett at hc
  rw [Bool.and_eq_true, decide_eq_true_eq, decide_eq_true_eq] at hc
  have e1 : decide ([c] < ("a" : Str).cps.toList) = false := decide_eq_false (by
    show ¬ [c] < [97]
    rw [List.cons_lt_cons_iff]
    rintro (h | ⟨_, h⟩)
    · omega
    · exact List.lt_irrefl _ h)
  have e2 : decide (("z" : Str).cps.toList < [c]) = false := decide_eq_false (by
    show ¬ [122] < [c]
    rw [List.cons_lt_cons_iff]
    rintro (h | ⟨_, h⟩)
    · omega
    · exact List.lt_irrefl _ h)
  refine ⟨.str _, rfl, ("a" : Str), ⟨#[c]⟩, rfl, rfl, true, ?_, ?_⟩
  · show V.bl (!decide ([c] < ("a" : Str).cps.toList)) = _
    rw [e1]
    rfl
  refine iteT ⟨⟨#[c]⟩, ("z" : Str), rfl, rfl, ?_⟩
  show Q (V.bl (!decide (("z" : Str).cps.toList < [c]))) H
  rw [e2]
  exact q
def spWordT : Sp := fun vs H Q _ => ∃ x : Str, vs = [.str x] ∧ isW x = true ∧ ∀ H', L2.Same H H' → Q (.bl true) H'
theorem cIsWord (T : Txt K mg) : Cal P w K mg base 2 "is_word" spWordT [] := by
  refine cal_of T.isWord scIsWord (fun _ _ _ _ _ _ us hl => match us, hl with | [_], _ => rfl) (fun vs H Q E h => ?_) (fun f cdv A outer s H vs Q E hr h => ?_)
  · obtain ⟨x, rfl, _⟩ := h
    rfl
  obtain ⟨x, rfl, hw, q⟩ := h
  obtain ⟨tl, hlw⟩ := T.longest_word
  obtain ⟨na, hnw, hna⟩ := T.no_words
  refine ⟨_, (pss_cons (ps_if (PW.pt (pw_or (pt_not (pt_val (pe_callB call_isi (by rfl) T.isinstance (by decide +kernel) (pa_cons (pv 0) (pa_cons (pe_bltn (v := V.ty "str") (u := Value.type "str") (by rfl) T.str (by decide +kernel) rfl) pa_nil))))) (pw_or1 (pt_not (pt_chain op_le op_le pe_int (pe_callB call_len_str (by rfl) T.len (by decide +kernel) (pa_cons (pv 0) pa_nil)) (pe_glob (v := V.int 10) rfl hlw ⟨_, rfl⟩))))))
 (pss_one (ps_ret pe_bl))
 pss_nil)
 (pss_one (ps_ret (pe_and (pe_cmpR op_notIn_seq (pv 0) (pe_glob (v := V.ref na) rfl hnw rfl) rfl) (pe_one (pe_callB (cr_all rfl) (by rfl) T.all (by decide +kernel) (pa_cons (pe_lc (own := [("sign", 1)]) (by rfl) scIsWord.nd (pi_str (pv 0)) (blkOk_by (own := [("sign", 1)]) (N := ["thing", "sign"]) (sc := defScope sIsWord) (by decide +kernel)) (fun _ _ _ _ _ => (pg_name (i := 1) scIsWord.nd rfl (.inl rfl))) (fun _ _ _ _ _ => pts_nil) (fun _ _ _ _ _ => (pe_c (cIsLetter T) hr (by decide) rfl (pa_cons (pv 1) pa_nil)))) pa_nil))))))), ?_⟩
  have hw' := hw
  unfold isW at hw'
  simp only [Bool.and_eq_true, decide_eq_true_eq, Bool.not_eq_true'] at hw'
  obtain ⟨h0, h1, h2, h3⟩ := hw'
  have sz : x.length ≤ sizeLine := Nat.le_of_lt (small1000 (by omega))
  refine ⟨.str x, rfl, .str x, .ty "str", .type "str", .type "str", true, rfl, .ty _, .base (.str x), kit_ty (by decide +kernel), true, rfl, iteF ?_⟩
  refine ⟨.str x, rfl, x, rfl, sz, 1, _, rfl, rfl, _, rfl, ?_⟩
  rw [show decide ((1 : Int) ≤ (x.length : Int)) = true from decide_eq_true (by omega)]
  refine iteT ⟨_, 10, rfl, rfl, _, rfl, ?_⟩
  rw [show decide ((x.length : Int) ≤ (10 : Int)) = true from decide_eq_true (by omega)]
  refine iteF ⟨.str x, rfl, na, six.map V.str, rfl, .inr (hna _), rfl, flat_strs six, _, rfl, ?_⟩
  rw [inV_six, h2]
  refine iteT ⟨.str x, rfl, x, rfl, fun D nD => ?_⟩
  refine lc_it (n := x.cps.size) (fun i G2 => L2.Same H G2 ∧ G2 D = some (.lst ((List.replicate i true).map V.bl)))
    ⟨same_up nD, upd_same⟩ (fun i G2 hi _ => hi) (fun G2 _ => Nat.le_refl _) (fun i v G2 G3 hi z y => ?_) (fun G2 z => ?_)
  · obtain ⟨e, c, hc, rfl⟩ := y
    subst e
    obtain ⟨sX, gX⟩ := z
    have hc' : c ∈ x.cps.toList := by
      refine List.mem_of_getElem? (i := i) ?_
      rw [Array.getElem?_toList]
      exact hc
    refine ⟨rfl, .str ⟨#[c]⟩, rfl, c, rfl, List.all_eq_true.mp h3 c hc', _, gX, ?_, same_mut sX nD, ?_⟩
    · rw [List.length_map, List.length_replicate]
      exact Nat.lt_of_lt_of_le (show i < 1000 by have : x.cps.size < 11 := h1; omega) (by decide)
    · rw [upd_same, List.replicate_succ', List.map_append]
      rfl
  · obtain ⟨sX, gX⟩ := z
    refine ⟨D, _, rfl, lst_of gX, ?_⟩
    rw [all_rep]
    exact q _ sX
end
end K21
set_option Elab.async false
set_option linter.all false
set_option autoImplicit false
set_option maxRecDepth 100000
set_option maxHeartbeats 4000000
namespace K21
open PySem PySem.Spec PyProof.Rows L2 Tl
open C8 (Cal pe_c)
/-! ### the program: concepts -/
def kids : C → List C
  | .all => []
  | .non => []
  | .word _ => []
  | .some _ c => [c]
  | .and a b => [a, b]
theorem con_canLay : ∀ c : C, COk c → PyData.canLay0 c.d = true
  | .all, _ => by simp [C.d, PyData.canLay0, PyData.canLayAll0]; decide +kernel
  | .non, _ => by simp [C.d, PyData.canLay0, PyData.canLayAll0]; decide +kernel
  | .word x, h => by
    simp [C.d, PyData.canLay0, PyData.canLayAll0]
    exact ⟨by decide +kernel, isw_ok h⟩
  | .some r c, h => by
    simp [C.d, PyData.canLay0, PyData.canLayAll0]
    exact ⟨by decide +kernel, isw_ok h.1, con_canLay c h.2⟩
  | .and a b, h => by
    simp [C.d, PyData.canLay0, PyData.canLayAll0]
    exact ⟨by decide +kernel, con_canLay a h.1, con_canLay b h.2⟩
theorem con_depth : ∀ c : C, PyData.depth c.d ≤ dep c
  | .all => by simp [C.d, PyData.depth, PyData.depthAll, dep]
  | .non => by simp [C.d, PyData.depth, PyData.depthAll, dep]
  | .word x => by simp [C.d, PyData.depth, PyData.depthAll, dep]
  | .some r c => by
    have := con_depth c
    simp [C.d, PyData.depth, PyData.depthAll, dep]
    omega
  | .and a b => by
    have := con_depth a
    have := con_depth b
    have e : dep (.and a b) = max (dep a) (dep b) + 1 := rfl
    rw [e]
    simp [C.d, PyData.depth, PyData.depthAll]
    omega
theorem con_shaped {c : C} (h : COk c) (d : dep c ≤ 60) : SeqAt.shaped c.d = true := by
  have := con_depth c
  unfold SeqAt.shaped
  rw [con_canLay c h, decide_eq_true (show c.d.depth ≤ 64 by omega)]
  rfl
theorem shaped_all : SeqAt.shaped (.tuple [.str "all"]) = true := con_shaped (c := .all) trivial (by decide)
theorem shaped_non : SeqAt.shaped (.tuple [.str "none"]) = true := con_shaped (c := .non) trivial (by decide)
def isAll : C → Bool
  | .all => true
  | _ => false
def isNon : C → Bool
  | .non => true
  | _ => false
theorem beqS {a b : Str} (h : ¬ a = b) : (a == b) = false := beq_false_of_ne h
theorem eqv_all : ∀ c : C, PyData.eqv c.d (.tuple [.str "all"]) = isAll c
  | .all => by simp [C.d, PyData.eqv, PyData.eqvAll, isAll]
  | .non => by simp [C.d, PyData.eqv, PyData.eqvAll, isAll, t_na]
  | .word x => by simp [C.d, PyData.eqv, PyData.eqvAll, isAll]
  | .some r c => by simp [C.d, PyData.eqv, PyData.eqvAll, isAll]
  | .and a b => by simp [C.d, PyData.eqv, PyData.eqvAll, isAll]
theorem eqv_non : ∀ c : C, PyData.eqv c.d (.tuple [.str "none"]) = isNon c
  | .all => by simp [C.d, PyData.eqv, PyData.eqvAll, isNon, t_an]
  | .non => by simp [C.d, PyData.eqv, PyData.eqvAll, isNon]
  | .word x => by simp [C.d, PyData.eqv, PyData.eqvAll, isNon]
  | .some r c => by simp [C.d, PyData.eqv, PyData.eqvAll, isNon]
  | .and a b => by simp [C.d, PyData.eqv, PyData.eqvAll, isNon]
section
variable {P : Program} {w : World} {K : PySem.W.Frag} {mg : Str → Option Value} {base : Heap}
def spInner (K : PySem.W.Frag) : Sp := fun vs H Q _ => ∃ (v : V) (c : C), vs = [v] ∧ Con K H v c ∧ COk c ∧ dep c ≤ 60 ∧
  ∀ (a : Addr) (xs : List V) (H' : Hp), L2.Same H H' → SqT K H' a xs → Paired (Con K H') xs (kids c) → Q (.ref a) H'
theorem cInner (T : Txt K mg) : Cal P w K mg base 3 "_inner" (spInner K) [] := by
  refine cal_of T.inner scInner (fun _ _ _ _ _ _ us hl => match us, hl with | [_], _ => rfl) (fun vs H Q E h => ?_) (fun f cdv A outer s H vs Q E hr h => ?_)
  · obtain ⟨v, c, rfl, _⟩ := h
    rfl
  obtain ⟨v, c, rfl, hc, ok, hd, q⟩ := h
  have hu64 := hr.units
  refine ⟨_, (pss_cons (ps_if (pt_not (pt_val (pe_callB call_isi (by rfl) T.isinstance (by decide +kernel) (pa_cons (pv 0) (pa_cons (pe_bltn (v := V.ty "tuple") (u := Value.type "tuple") (by rfl) T.tuple (by decide +kernel) rfl) pa_nil)))))
 (pss_one (ps_ret pe_non))
 pss_nil)
 (pss_cons (ps_if (PW.pt (pw_or (pt_cmpR (op_eqD hu64) (pv 0) (pe_tup (pa_cons pe_str pa_nil)) (nomark _)) (pw_or1 (pt_cmpR (op_eqD hu64) (pv 0) (pe_tup (pa_cons pe_str pa_nil)) (nomark _)))))
 (pss_one (ps_ret (pe_tup pa_nil)))
 pss_nil)
 (pss_cons (ps_if (PW.pt (pw_and (pt_cmpR op_eq (pe_callB call_len_seq (by rfl) T.len (by decide +kernel) (pa_cons (pv 0) pa_nil)) pe_int (nomark _)) (pw_and (pt_cmpR op_eq (pe_ix ix_tup (pv 0) pe_int (fun _ _ => rfl)) pe_str (nomark _)) (pw_and1 (pt_val (pe_c (cIsWord T) hr (by decide) rfl (pa_cons (pe_ix ix_tup (pv 0) pe_int (fun _ _ => rfl)) pa_nil)))))))
 (pss_one (ps_ret (pe_tup pa_nil)))
 pss_nil)
 (pss_cons (ps_if (PW.pt (pw_and (pt_cmpR op_eq (pe_callB call_len_seq (by rfl) T.len (by decide +kernel) (pa_cons (pv 0) pa_nil)) pe_int (nomark _)) (pw_and1 (pt_cmpR op_eq (pe_ix ix_tup (pv 0) pe_int (fun _ _ => rfl)) pe_str (nomark _)))))
 (pss_one (ps_ret (pe_slice sl_tup (pv 0) (po_some pe_int) po_none)))
 pss_nil)
 (pss_cons (ps_if (PW.pt (pw_and (pt_cmpR op_eq (pe_callB call_len_seq (by rfl) T.len (by decide +kernel) (pa_cons (pv 0) pa_nil)) pe_int (nomark _)) (pw_and (pt_cmpR op_eq (pe_ix ix_tup (pv 0) pe_int (fun _ _ => rfl)) pe_str (nomark _)) (pw_and1 (pt_val (pe_c (cIsWord T) hr (by decide) rfl (pa_cons (pe_ix ix_tup (pv 0) pe_int (fun _ _ => rfl)) pa_nil)))))))
 (pss_one (ps_ret (pe_slice sl_tup (pv 0) (po_some pe_int) po_none)))
 pss_nil)
 (pss_one (ps_ret pe_non))))))), ?_⟩
  obtain ⟨a, xs, rfl, ha⟩ := con_ref hc
  refine ⟨.ref a, rfl, .ref a, .ty "tuple", .type "tuple", .type "tuple", true, rfl, .ty _, ty_tup ha, kit_ty (by decide +kernel), true, rfl, iteF ?_⟩
  refine ⟨.ref a, rfl, by show 1 ≤ sizeLine; decide, fun p1 n1 => ?_⟩
  have s1 : L2.Same H (upd H p1 (.tup [.str "all"])) := same_up n1
  refine ⟨c.d, .tuple [.str "all"], (hc.st (Tl.Same.stay s1)).p, (mk_all (tupOf upd_same) : Con K _ _ .all).p, con_shaped ok hd, shaped_all, _, rfl, ?_⟩
  rw [eqv_all]
  have no : ∀ p, H p = none → upd H p1 (HO.tup [V.str "all"]) p = none → True := fun _ _ _ => trivial
  by_cases ca : isAll c = true
  · rw [ca]
    refine iteT (iteT ⟨Nat.zero_le _, fun z nz => ?_⟩)
    obtain rfl : c = .all := by cases c <;> first | rfl | cases ca
    exact q z [] _ (same_add s1 nz) (tupOf upd_same) .nil
  rw [Bool.eq_false_iff.mpr ca]
  refine iteF ⟨.ref a, rfl, by show 1 ≤ sizeLine; decide, fun p2 n2 => ?_⟩
  have s2 : L2.Same H (upd (upd H p1 (.tup [.str "all"])) p2 (.tup [.str "none"])) := same_add s1 n2
  refine ⟨c.d, .tuple [.str "none"], (hc.st (Tl.Same.stay s2)).p, (mk_non (tupOf upd_same) : Con K _ _ .non).p, con_shaped ok hd, shaped_non, _, rfl, ?_⟩
  rw [eqv_non]
  by_cases cn : isNon c = true
  · rw [cn]
    refine iteT ⟨Nat.zero_le _, fun z nz => ?_⟩
    obtain rfl : c = .non := by cases c <;> first | rfl | cases cn
    exact q z [] _ (same_add s2 nz) (tupOf upd_same) .nil
  rw [Bool.eq_false_iff.mpr cn]
  refine iteF ?_
  generalize hG : upd (upd H p1 (HO.tup [V.str "all"])) p2 (HO.tup [V.str "none"]) = G at s2 ⊢
  have hc' := hc.st (Tl.Same.stay s2)
  clear ha
  cases c with
  | all => exact absurd rfl ca
  | non => exact absurd rfl cn
  | word x =>
    obtain ⟨b, e, hb⟩ := con_word hc'
    cases e
    refine ⟨.ref a, rfl, a, _, rfl, .inr hb, rfl, _, rfl, ?_⟩
    refine iteT ⟨.ref a, rfl, a, _, 0, _, rfl, rfl, hb, atI_nat (j := 0) rfl, rfl, _, rfl, ?_⟩
    rw [seq]
    refine iteT ⟨.ref a, rfl, a, _, 1, _, rfl, rfl, hb, atI_nat (j := 1) rfl, x, rfl, ok, fun G2 e2 => ⟨_, rfl, ?_⟩⟩
    refine iteT ⟨Nat.zero_le _, fun z nz => ?_⟩
    exact q z [] _ (same_add (s2.trans e2) nz) (tupOf upd_same) .nil
  | and c1 c2 =>
    obtain ⟨b, u1, u2, e, hb, h1, h2⟩ := con_and hc'
    cases e
    refine ⟨.ref a, rfl, a, _, rfl, .inr hb, rfl, _, rfl, ?_⟩
    refine iteF (iteF ?_)
    refine ⟨.ref a, rfl, a, _, rfl, .inr hb, rfl, _, rfl, ?_⟩
    refine iteT ⟨.ref a, rfl, a, _, 0, _, rfl, rfl, hb, atI_nat (j := 0) rfl, rfl, _, rfl, ?_⟩
    rw [seq]
    refine iteT ⟨.ref a, rfl, ⟨1, rfl, a, _, rfl, hb, (by show ¬ (HT.sIx 3 0 (some 1) = 0 ∧ HT.sIx 3 3 none = 3); decide), fun p np => ?_⟩⟩
    have s3 : L2.Same G (upd G p (.tup [u1, u2])) := same_up np
    exact q p [u1, u2] _ (s2.trans s3) (tupOf upd_same) (.cons (h1.st (Tl.Same.stay s3)) (.cons (h2.st (Tl.Same.stay s3)) .nil))
  | some r c2 =>
    obtain ⟨b, u2, e, hb, h2⟩ := con_some hc'
    cases e
    refine ⟨.ref a, rfl, a, _, rfl, .inr hb, rfl, _, rfl, ?_⟩
    refine iteF (iteF ?_)
    refine ⟨.ref a, rfl, a, _, rfl, .inr hb, rfl, _, rfl, ?_⟩
    refine iteT ⟨.ref a, rfl, a, _, 0, _, rfl, rfl, hb, atI_nat (j := 0) rfl, rfl, _, rfl, ?_⟩
    rw [sne t_sd]
    refine iteF ?_
    refine ⟨.ref a, rfl, a, _, rfl, .inr hb, rfl, _, rfl, ?_⟩
    refine iteT ⟨.ref a, rfl, a, _, 0, _, rfl, rfl, hb, atI_nat (j := 0) rfl, rfl, _, rfl, ?_⟩
    rw [seq]
    refine iteT ⟨.ref a, rfl, a, _, 1, _, rfl, rfl, hb, atI_nat (j := 1) rfl, r, rfl, ok.1, fun G2 e2 => ⟨_, rfl, ?_⟩⟩
    refine iteT ⟨.ref a, rfl, ⟨2, rfl, a, _, rfl, (Tl.Same.stay e2).tup hb, (by show ¬ (HT.sIx 3 0 (some 2) = 0 ∧ HT.sIx 3 3 none = 3); decide), fun p np => ?_⟩⟩
    have s3 : L2.Same G2 (upd G2 p (.tup [u2])) := same_up np
    exact q p [u2] _ ((s2.trans e2).trans s3) (tupOf upd_same) (.cons (h2.st (Tl.Same.stay (e2.trans s3))) .nil)
end
end K21
set_option Elab.async false
set_option linter.all false
set_option autoImplicit false
set_option maxRecDepth 100000
set_option maxHeartbeats 4000000
namespace K21
open PySem PySem.Spec PyProof.Rows L2 Tl
open C8 (Cal pe_c)
def post : C → List C
  | .some r c => post c ++ [.some r c]
  | .and a b => post a ++ (post b ++ [.and a b])
  | c => [c]
theorem post_kids : ∀ c : C, post c = (kids c).flatMap post ++ [c]
  | .all => rfl
  | .non => rfl
  | .word _ => rfl
  | .some _ _ => by simp [kids, post]
  | .and _ _ => by simp [kids, post]
def sumN (cs : List C) : Nat := (cs.map nodes).sum
theorem sum_app (a b : List C) : sumN (a ++ b) = sumN a + sumN b := by
  unfold sumN
  rw [List.map_append, List.sum_append]
theorem nodes_kids : ∀ c : C, nodes c = sumN (kids c) + 1
  | .all => rfl
  | .non => rfl
  | .word _ => rfl
  | .some _ _ => by simp [kids, nodes, sumN]
  | .and _ _ => by simp [kids, nodes, sumN]
theorem nodes_pos (c : C) : 1 ≤ nodes c := by
  rw [nodes_kids]
  omega
theorem sum_len : ∀ cs : List C, cs.length ≤ sumN cs
  | [] => Nat.le_refl _
  | c :: cs => by
    have := sum_len cs
    have := nodes_pos c
    have e : sumN (c :: cs) = nodes c + sumN cs := by simp [sumN]
    rw [e, List.length_cons]
    omega
theorem post_len : ∀ c : C, (post c).length = nodes c
  | .all => rfl
  | .non => rfl
  | .word _ => rfl
  | .some _ c => by simp [post, nodes, post_len c]
  | .and a b => by
    simp [post, nodes, post_len a, post_len b]
    omega
/-- a concept that is right and small -/
def Fit (c : C) : Prop := COk c ∧ dep c ≤ 60
theorem fit_kids : ∀ {c : C}, Fit c → ∀ x ∈ kids c, Fit x
  | .all, _, _, h => nomatch h
  | .non, _, _, h => nomatch h
  | .word _, _, _, h => nomatch h
  | .some _ c, ⟨h1, h2⟩, x, h => by
    obtain rfl : x = c := by simpa [kids] using h
    have h2 : dep x + 1 ≤ 60 := h2
    exact ⟨h1.2, by omega⟩
  | .and a b, ⟨h1, h2⟩, x, h => by
    have h2 : max (dep a) (dep b) + 1 ≤ 60 := h2
    have h : x = a ∨ x = b := by simpa [kids] using h
    rcases h with rfl | rfl
    · exact ⟨h1.1, by omega⟩
    · exact ⟨h1.2, by omega⟩
theorem lastP {α β : Type} {F : α → β → Prop} : ∀ {xs : List α} {y : α} {cs : List β}, Paired F (xs ++ [y]) cs → ∃ cs' c, cs = cs' ++ [c] ∧ Paired F xs cs' ∧ F y c
  | [], y, _, h => by
    cases h with
    | cons r t => cases t; exact ⟨[], _, rfl, .nil, r⟩
  | x :: xs, y, _, h => by
    cases h with
    | cons r t =>
      obtain ⟨cs', c, rfl, h1, h2⟩ := lastP t
      exact ⟨_ :: cs', c, rfl, .cons r h1, h2⟩
theorem revP {α β : Type} {F : α → β → Prop} : ∀ {xs : List α} {cs : List β}, Paired F xs cs → Paired F xs.reverse cs.reverse
  | _, _, .nil => .nil
  | _, _, .cons r t => by
    rw [List.reverse_cons, List.reverse_cons]
    exact snoc (revP t) r
theorem last_or {α : Type} : ∀ xs : List α, xs = [] ∨ ∃ ys y, xs = ys ++ [y]
  | [] => .inl rfl
  | x :: xs => .inr (by
    rcases last_or xs with rfl | ⟨ys, y, rfl⟩
    · exact ⟨[], x, rfl⟩
    · exact ⟨x :: ys, y, rfl⟩)
theorem refne (a : Addr) : decide (V.ref a = V.non) = false := decide_eq_false fun e => nomatch e
section
variable {P : Program} {w : World} {K : PySem.W.Frag} {mg : Str → Option Value} {base : Heap}
def spConT (K : PySem.W.Frag) : Sp := fun vs H Q _ => ∃ (v : V) (c : C), vs = [v] ∧ Con K H v c ∧ Fit c ∧ nodes c ≤ 300 ∧ ∀ H', L2.Same H H' → Q (.bl true) H'
theorem cIsConcept (T : Txt K mg) : Cal P w K mg base 4 "is_concept" (spConT K) [] := by
  refine cal_of T.isConcept scIsConcept (fun _ _ _ _ _ _ us hl => match us, hl with | [_], _ => rfl) (fun vs H Q E h => ?_) (fun f cdv A outer s H vs Q E hr h => ?_)
  · obtain ⟨v, c, rfl, _⟩ := h
    rfl
  obtain ⟨v, c, rfl, hc, fit, few, q⟩ := h
  refine ⟨_, (pss_cons (ps_set (i := 1) scIsConcept.nd rfl (.inl rfl) (pe_lst (pa_cons (pv 0) pa_nil)))
 (pss_cons (ps_while PassesOwn.never (pt_truth (pv 1) (fun _ => rfl))
 (pss_cons (ps_set (i := 2) scIsConcept.nd rfl (.inl rfl) (pe_c (cInner T) hr (by decide) rfl (pa_cons (pe_bm0 PySem.F.plainAttrs_list PySem.F.slot_list_pop PySem.F.type_list_pop mt_pop (pv 1)) pa_nil)))
 (pss_cons (ps_if (pt_cmpR op_isN (pv 2) pe_non (nomark _))
 (pss_one (ps_ret pe_bl))
 pss_nil)
 (pss_one (ps_expr (pe_bm PySem.F.plainAttrs_list PySem.F.slot_list_extend PySem.F.type_list_extend mt_extT (pv 1) (pa_cons (pv 2) pa_nil)))))))
 (pss_one (ps_ret pe_bl)))), ?_⟩
  refine ⟨v, rfl, by show 1 ≤ sizeLine; decide, fun l nl => ?_⟩
  refine ⟨fun m σ X => ∃ (xs : List V) (cs : List C) (t : Option V), σ = [some v, some (.ref l), t] ∧ L2.Same H X ∧ X l = some (.lst xs) ∧ Paired (Con K X) xs cs ∧ (∀ c ∈ cs, Fit c) ∧ sumN cs = m ∧ m ≤ 300,
    ⟨nodes c, [v], [c], none, rfl, same_up nl, upd_same, .cons (hc.st (stay_new nl)) .nil, fun x hx => by obtain rfl := List.mem_singleton.mp hx; exact fit, by simp [sumN], few⟩, ?_⟩
  rintro m σ X ⟨xs, cs, t, rfl, sX, gX, hp, fits, rfl, le⟩
  refine ⟨.ref l, rfl, !xs.isEmpty, .inl ⟨xs, lst_of gX, rfl⟩, ?_⟩
  rcases last_or xs with rfl | ⟨ys, y, rfl⟩
  · exact iteF (q X sX)
  rw [show (!(ys ++ [y]).isEmpty) = true by simp]
  obtain ⟨cs', c, rfl, hp', hy⟩ := lastP hp
  refine iteT ⟨fun σ' X' => ∃ m', m' < sumN (cs' ++ [c]) ∧ ∃ (xs : List V) (cs : List C) (t : Option V), σ' = [some v, some (.ref l), t] ∧ L2.Same H X' ∧ X' l = some (.lst xs) ∧ Paired (Con K X') xs cs ∧ (∀ c ∈ cs, Fit c) ∧ sumN cs = m' ∧ m' ≤ 300, fun _ _ z => z, ?_⟩
  have fc : Fit c := fits c (by simp)
  have st1 : Stay X (upd X l (.lst (ys ++ [y]).dropLast)) := stay_mut (by rw [gX]; trivial)
  have e0 : sumN (cs' ++ [c]) = sumN cs' + (sumN (kids c) + 1) := by rw [sum_app, ← nodes_kids]; simp [sumN]
  refine ⟨.ref l, rfl, .inl ⟨rfl, _, lst_of gX⟩, l, _, y, rfl, rfl, gX, by simp, y, c, rfl, hy.st st1, fc.1, fc.2, fun a zs X2 s2 hz hk => ?_⟩
  have g2 : X2 l = some (.lst ys) := by
    refine s2 _ _ ?_
    rw [upd_same]
    simp
  refine ⟨.ref a, rfl, rfl, _, rfl, ?_⟩
  rw [refne]
  refine iteF ⟨.ref l, rfl, .inl ⟨rfl, _, lst_of g2⟩, .ref a, rfl, l, a, ys, zs, rfl, rfl, g2, hz, ?_, ?_⟩
  · have h1 := hp'.length
    have h2 := hk.length
    have h3 := sum_len cs'
    have h4 := sum_len (kids c)
    have : ys.length + zs.length ≤ 300 := by omega
    exact Nat.le_trans this (by decide)
  · have st2 : Stay X2 (upd X2 l (.lst (ys ++ zs))) := stay_mut (by rw [g2]; trivial)
    refine ⟨sumN (cs' ++ kids c), by rw [e0, sum_app]; omega, ys ++ zs, cs' ++ kids c, _, rfl, ?_, upd_same, joinP (Paired.mapP hp' fun _ _ z => z.st ((st1.trans (Tl.Same.stay s2)).trans st2)) (Paired.mapP hk fun _ _ z => z.st st2), fun x hx => ?_, rfl, by rw [sum_app]; omega⟩
    · exact same_mut ((same_mut sX nl).trans s2) nl
    · rcases List.mem_append.mp hx with hx | hx
      · exact fits x (List.mem_append_left _ hx)
      · exact fit_kids fc x hx
theorem cCheckConcept (T : Txt K mg) : Cal P w K mg base 5 "check_concept" (fun vs H Q _ => ∃ (v : V) (c : C), vs = [v] ∧ Con K H v c ∧ Fit c ∧ nodes c ≤ 300 ∧ ∀ H', L2.Same H H' → Q .non H') [] := by
  refine cal_of T.checkConcept scCheckConcept (fun _ _ _ _ _ _ us hl => match us, hl with | [_], _ => rfl) (fun vs H Q E h => ?_) (fun f cdv A outer s H vs Q E hr h => ?_)
  · obtain ⟨v, c, rfl, _⟩ := h
    rfl
  obtain ⟨v, c, rfl, hc, fit, few, q⟩ := h
  refine ⟨_, (pss_one (ps_if (pt_not (pt_val (pe_c (cIsConcept T) hr (by decide) rfl (pa_cons (pv 0) pa_nil))))
 (pss_one ps_never)
 pss_nil)), ?_⟩
  exact ⟨v, rfl, v, c, rfl, hc, fit, few, fun H' e => ⟨true, rfl, iteF (q H' e)⟩⟩
def spBU (K : PySem.W.Frag) : Sp := fun vs H Q _ => ∃ (v : V) (c : C), vs = [v] ∧ Con K H v c ∧ Fit c ∧ nodes c ≤ 300 ∧
  ∀ (p : Addr) (xs : List V) (H' : Hp), L2.Same H H' → H p = none → H' p = some (.lst xs) → Paired (Con K H') xs (post c) → Q (.ref p) H'
theorem cBottomUp (T : Txt K mg) : Cal P w K mg base 4 "bottom_up" (spBU K) [] := by
  refine cal_of T.bottomUp scBottomUp (fun _ _ _ _ _ _ us hl => match us, hl with | [_], _ => rfl) (fun vs H Q E h => ?_) (fun f cdv A outer s H vs Q E hr h => ?_)
  · obtain ⟨v, c, rfl, _⟩ := h
    rfl
  obtain ⟨v, c0, rfl, hc, fit, few, q⟩ := h
  refine ⟨_, (pss_cons (ps_set (i := 1) scBottomUp.nd rfl (.inl rfl) (pe_lst (pa_cons (pv 0) pa_nil)))
 (pss_cons (ps_set (i := 2) scBottomUp.nd rfl (.inl rfl) (pe_lst pa_nil))
 (pss_cons (ps_while PassesOwn.never (pt_truth (pv 1) (fun _ => rfl))
 (pss_cons (ps_set (i := 3) scBottomUp.nd rfl (.inl rfl) (pe_bm0 PySem.F.plainAttrs_list PySem.F.slot_list_pop PySem.F.type_list_pop mt_pop (pv 1)))
 (pss_cons (ps_expr (pe_bm PySem.F.plainAttrs_list PySem.F.slot_list_append PySem.F.type_list_append mt_append (pv 2) (pa_cons (pv 3) pa_nil)))
 (pss_one (ps_expr (pe_bm PySem.F.plainAttrs_list PySem.F.slot_list_extend PySem.F.type_list_extend mt_extT (pv 1) (pa_cons (pe_c (cInner T) hr (by decide) rfl (pa_cons (pv 3) pa_nil)) pa_nil)))))))
 (pss_one (ps_ret (pe_revL (pv 2))))))), ?_⟩
  refine ⟨v, rfl, by show 1 ≤ sizeLine; decide, fun l nl => ⟨Nat.zero_le _, fun fo nf => ?_⟩⟩
  have fl : fo ≠ l := fun z => by subst z; rw [upd_same] at nf; cases nf
  have nf0 : H fo = none := (same_up nl).free nf
  have s0 : L2.Same H (upd (upd H l (.lst [v])) fo (.lst [])) := same_add (same_up nl) nf
  refine ⟨fun m σ X => ∃ (xs : List V) (cs : List C) (us : List V) (fs : List C) (t : Option V), σ = [some v, some (.ref l), some (.ref fo), t] ∧ L2.Same H X ∧ X l = some (.lst xs) ∧ Paired (Con K X) xs cs ∧ X fo = some (.lst us) ∧ Paired (Con K X) us fs ∧
      (∀ c ∈ cs, Fit c) ∧ sumN cs = m ∧ m ≤ 300 ∧ cs.flatMap post ++ fs.reverse = post c0,
    ⟨nodes c0, [v], [c0], [], [], none, rfl, s0, (upd_ne fl.symm).trans upd_same, .cons (hc.st (Tl.Same.stay s0)) .nil, upd_same, .nil, fun x hx => by obtain rfl := List.mem_singleton.mp hx; exact fit, by simp [sumN], few, by simp⟩, ?_⟩
  rintro m σ X ⟨xs, cs, us, fs, t, rfl, sX, gX, hp, gF, hF, fits, rfl, le, eq⟩
  refine ⟨.ref l, rfl, !xs.isEmpty, .inl ⟨xs, lst_of gX, rfl⟩, ?_⟩
  rcases last_or xs with rfl | ⟨ys, y, rfl⟩
  · refine iteF ⟨.ref fo, rfl, fo, us, rfl, lst_of gF, fun p np => ?_⟩
    cases hp
    have s1 := same_up (o := .lst us.reverse) np
    refine q p us.reverse _ (sX.trans s1) (sX.free np) upd_same ?_
    rw [← eq]
    exact revP (Paired.mapP hF fun _ _ z => z.st (Tl.Same.stay s1))
  rw [show (!(ys ++ [y]).isEmpty) = true by simp]
  obtain ⟨cs', c, rfl, hp', hy⟩ := lastP hp
  refine iteT ⟨fun σ' X' => ∃ m', m' < sumN (cs' ++ [c]) ∧ ∃ (xs : List V) (cs : List C) (us : List V) (fs : List C) (t : Option V), σ' = [some v, some (.ref l), some (.ref fo), t] ∧ L2.Same H X' ∧ X' l = some (.lst xs) ∧ Paired (Con K X') xs cs ∧ X' fo = some (.lst us) ∧ Paired (Con K X') us fs ∧
      (∀ c ∈ cs, Fit c) ∧ sumN cs = m' ∧ m' ≤ 300 ∧ cs.flatMap post ++ fs.reverse = post c0, fun _ _ z => z, ?_⟩
  have fc : Fit c := fits c (by simp)
  have st1 : Stay X (upd X l (.lst (ys ++ [y]).dropLast)) := stay_mut (by rw [gX]; trivial)
  have e0 : sumN (cs' ++ [c]) = sumN cs' + (sumN (kids c) + 1) := by rw [sum_app, ← nodes_kids]; simp [sumN]
  have lenF : fs.length ≤ 300 := by
    have := congrArg List.length eq
    rw [List.length_append, List.length_reverse, post_len] at this
    omega
  refine ⟨.ref l, rfl, .inl ⟨rfl, _, lst_of gX⟩, l, _, y, rfl, rfl, gX, by simp, ?_⟩
  generalize hX1 : upd X l (HO.lst (ys ++ [y]).dropLast) = X1 at st1 ⊢
  have g1 : X1 l = some (.lst ys) := by rw [← hX1, upd_same]; simp
  have f1 : X1 fo = some (.lst us) := by rw [← hX1, upd_ne fl]; exact gF
  have sX1 : L2.Same H X1 := by rw [← hX1]; exact same_mut sX nl
  refine ⟨.ref fo, rfl, .inl ⟨rfl, _, lst_of f1⟩, y, rfl, fo, us, y, rfl, rfl, f1, ?_, ?_⟩
  · rw [hF.length]
    exact Nat.lt_of_le_of_lt lenF (by decide)
  have st2 : Stay X1 (upd X1 fo (.lst (us ++ [y]))) := stay_mut (by rw [f1]; trivial)
  generalize hX2 : upd X1 fo (HO.lst (us ++ [y])) = X2 at st2 ⊢
  have g2 : X2 l = some (.lst ys) := by rw [← hX2, upd_ne fl.symm]; exact g1
  have f2 : X2 fo = some (.lst (us ++ [y])) := by rw [← hX2, upd_same]
  have sX2 : L2.Same H X2 := by rw [← hX2]; exact same_mut sX1 nf0
  refine ⟨.ref l, rfl, .inl ⟨rfl, _, lst_of g2⟩, y, rfl, y, c, rfl, hy.st (st1.trans st2), fc.1, fc.2, fun a zs X3 s3 hz hk => ?_⟩
  have g3 := s3 _ _ g2
  have f3 := s3 _ _ f2
  have st3 : Stay X3 (upd X3 l (.lst (ys ++ zs))) := stay_mut (by rw [g3]; trivial)
  have stA := ((st1.trans st2).trans (Tl.Same.stay s3)).trans st3
  refine ⟨l, a, ys, zs, rfl, rfl, g3, hz, ?_, ?_⟩
  · have h1 := hp'.length
    have h2 := hk.length
    have h3 := sum_len cs'
    have h4 := sum_len (kids c)
    have : ys.length + zs.length ≤ 300 := by omega
    exact Nat.le_trans this (by decide)
  · refine ⟨sumN (cs' ++ kids c), by rw [e0, sum_app]; omega, ys ++ zs, cs' ++ kids c, us ++ [y], fs ++ [c], _, rfl, ?_, upd_same, joinP (Paired.mapP hp' fun _ _ z => z.st stA) (Paired.mapP hk fun _ _ z => z.st st3), (upd_ne fl).trans f3, snoc (Paired.mapP hF fun _ _ z => z.st stA) (hy.st stA), fun x hx => ?_, rfl, by rw [sum_app]; omega, ?_⟩
    · exact same_mut (sX2.trans s3) nl
    · rcases List.mem_append.mp hx with hx | hx
      · exact fits x (List.mem_append_left _ hx)
      · exact fit_kids fc x hx
    · rw [← eq, List.flatMap_append, List.flatMap_append, List.reverse_append]
      simp [post_kids c]
end
end K21
set_option Elab.async false
set_option linter.all false
set_option autoImplicit false
set_option maxRecDepth 100000
set_option maxHeartbeats 4000000
namespace K21
open PySem PySem.Spec PyProof.Rows L2 Tl
open C8 (Cal pe_c)
/-! ### the program: worlds -/
theorem pw_get {α : Type} {L : α → α → Prop} : ∀ {l : List α} {i j : Nat} {e f : α}, l.Pairwise L → l[i]? = some e → l[j]? = some f → i < j → L e f
  | _ :: r, 0, j + 1, e, f, h, he, hf, _ => by
    have h' := List.pairwise_cons.mp h
    cases he
    exact h'.1 f (List.mem_of_getElem? (i := j) hf)
  | _ :: r, i + 1, j + 1, e, f, h, he, hf, lt => pw_get (l := r) (i := i) (j := j) (List.pairwise_cons.mp h).2 he hf (by omega)
theorem consec {α : Type} {K : PySem.W.Frag} {H : Hp} {R : V → α → Prop} {L : α → α → Prop} {xs : List V} {es : List α} (h : Paired R xs es) (pw : es.Pairwise L) (to : ∀ x y e f, R x e → R y f → L e f → LtV K H x y) :
    ∀ i x y, xs[i]? = some x → xs[i + 1]? = some y → LtV K H x y := fun i x y hx hy => by
  obtain ⟨e, he, r1⟩ := getP h hx
  obtain ⟨f, hf, r2⟩ := getP h hy
  exact to x y e f r1 r2 (pw_get pw he hf (Nat.lt_succ_self i))
theorem paired_of {α : Type} {f : α → V} : ∀ ns : List α, Paired (fun x n => x = f n) (ns.map f) ns
  | [] => .nil
  | n :: ns => .cons rfl (paired_of ns)
theorem mapR {α β γ : Type} {F : α → β → Prop} {G : α → γ → Prop} {g : β → γ} (to : ∀ a b, F a b → G a (g b)) : ∀ {xs : List α} {ys : List β}, Paired F xs ys → Paired G xs (ys.map g)
  | _, _, .nil => .nil
  | _, _, .cons r t => .cons (to _ _ r) (mapR to t)
theorem mapL {α β γ : Type} {F : α → β → Prop} {G : γ → β → Prop} {g : α → γ} (to : ∀ a b, F a b → G (g a) b) : ∀ {xs : List α} {ys : List β}, Paired F xs ys → Paired G (xs.map g) ys
  | _, _, .nil => .nil
  | _, _, .cons r t => .cons (to _ _ r) (mapL to t)
theorem withR {α β : Type} {F : α → β → Prop} {R : β → Prop} : ∀ {xs : List α} {ys : List β}, Paired F xs ys → (∀ e ∈ ys, R e) → Paired (fun p e => F p e ∧ R e) xs ys
  | _, _, .nil, _ => .nil
  | _, _, .cons r t, h => .cons ⟨r, h _ List.mem_cons_self⟩ (withR t fun e he => h e (List.mem_cons_of_mem _ he))
theorem memP {α β : Type} {F : α → β → Prop} : ∀ {xs : List α} {ys : List β} {x : α}, Paired F xs ys → x ∈ xs → ∃ y ∈ ys, F x y
  | _, _, _, .nil, h => nomatch h
  | _, _, _, .cons r t, h => by
    rcases List.mem_cons.mp h with rfl | h
    · exact ⟨_, List.mem_cons_self, r⟩
    · obtain ⟨y, hy, f⟩ := memP t h
      exact ⟨y, List.mem_cons_of_mem _ hy, f⟩
structure Items (K : PySem.W.Frag) (H : Hp) (sp : Sp) (n : Int) (xs : List V) : Prop where
  ne : xs ≠ []
  len : xs.length ≤ 1000
  asc : ∀ i x y, xs[i]? = some x → xs[i + 1]? = some y → LtV K H x y
  acc : ∀ x ∈ xs, ∀ (H' : Hp) (Q : VK), L2.Same H H' → Q (.bl true) H' → sp [x, .int n] H' Q fun _ _ _ => False
theorem items_st {K : PySem.W.Frag} {H H' : Hp} {sp : Sp} {n : Int} {xs : List V} (s : L2.Same H H') (h : Items K H sp n xs) : Items K H' sp n xs :=
  ⟨h.ne, h.len, fun i x y a b => ltv_st (Tl.Same.stay s) (h.asc i x y a b), fun x hx G Q e q => h.acc x hx G Q (s.trans e) q⟩
def Row (K : PySem.W.Frag) (H : Hp) (sp : Sp) (n : Int) (v : V) (e : Str × List V) : Prop := isW e.1 = true ∧ ∃ p t, v = .ref p ∧ SqT K H p [.str e.1, .ref t] ∧ SqT K H t e.2 ∧ Items K H sp n e.2
theorem row_st {K : PySem.W.Frag} {H H' : Hp} {sp : Sp} {n : Int} {v : V} {e : Str × List V} (s : L2.Same H H') (h : Row K H sp n v e) : Row K H' sp n v e := by
  obtain ⟨h0, p, t, rfl, h1, h2, h3⟩ := h
  exact ⟨h0, p, t, rfl, (Tl.Same.stay s).tup h1, (Tl.Same.stay s).tup h2, items_st s h3⟩
section
variable {P : Program} {w : World} {K : PySem.W.Frag} {mg : Str → Option Value} {base : Heap}
def spThing : Sp := fun vs H Q _ => ∃ (x n : Int), vs = [.int x, .int n] ∧ 0 ≤ x ∧ x < n ∧ Q (.bl true) H
theorem cIsThing (T : Txt K mg) : Cal P w K mg base 2 "_is_thing" spThing [] := by
  refine cal_of T.isThing scIsThing (fun _ _ _ _ _ _ us hl => match us, hl with | [_, _], _ => rfl) (fun vs H Q E h => ?_) (fun f cdv A outer s H vs Q E hr h => ?_)
  · obtain ⟨x, n, rfl, _⟩ := h
    rfl
  obtain ⟨x, n, rfl, h0, h1, q⟩ := h
  refine ⟨_, (pss_one (ps_ret (pe_and (pe_c (cIsInteger T) hr (by decide) rfl (pa_cons (pv 0) pa_nil)) (pe_one (pe_chain op_le op_lt pe_int (pv 0) (pv 1)))))), ?_⟩
  refine ⟨.int x, rfl, x, rfl, true, rfl, .int x, rfl, 0, x, rfl, rfl, _, rfl, ?_⟩
  rw [decide_eq_true h0]
  refine iteT ⟨.int n, rfl, x, n, rfl, rfl, ?_⟩
  show Q (V.bl (decide (x < n))) H
  rw [decide_eq_true h1]
  exact q
def spTie (K : PySem.W.Frag) : Sp := fun vs H Q _ => ∃ (a : Addr) (e : Int × Int) (n : Int), vs = [.ref a, .int n] ∧ PrE K H a e ∧ 0 ≤ e.1 ∧ e.1 < n ∧ 0 ≤ e.2 ∧ e.2 < n ∧ Q (.bl true) H
theorem cIsTie (T : Txt K mg) : Cal P w K mg base 3 "_is_tie" (spTie K) [] := by
  refine cal_of T.isTie scIsTie (fun _ _ _ _ _ _ us hl => match us, hl with | [_, _], _ => rfl) (fun vs H Q E h => ?_) (fun f cdv A outer s H vs Q E hr h => ?_)
  · obtain ⟨a, e, n, rfl, _⟩ := h
    rfl
  obtain ⟨a, e, n, rfl, ha, h0, h1, h2, h3, q⟩ := h
  refine ⟨_, (pss_one (ps_ret (pe_and (pe_c (cIsPair T) hr (by decide) rfl (pa_cons (pv 0) pa_nil)) (pe_and (pe_c (cIsThing T) hr (by decide) rfl (pa_cons (pe_ix ix_tup (pv 0) pe_int (fun _ _ => rfl)) (pa_cons (pv 1) pa_nil))) (pe_one (pe_c (cIsThing T) hr (by decide) rfl (pa_cons (pe_ix ix_tup (pv 0) pe_int (fun _ _ => rfl)) (pa_cons (pv 1) pa_nil)))))))), ?_⟩
  exact ⟨.ref a, rfl, a, _, _, rfl, ha, true, rfl, .ref a, rfl, a, _, 0, _, rfl, rfl, ha, atI_nat (j := 0) rfl, .int n, rfl, _, n, rfl, h0, h1, true, rfl, .ref a, rfl, a, _, 1, _, rfl, rfl, ha, atI_nat (j := 1) rfl, .int n, rfl, _, n, rfl, h2, h3, q⟩
def spItems (P : Program) (w : World) (K : PySem.W.Frag) (mg : Str → Option Value) (base : Heap) : Sp := fun vs H Q _ => ∃ (a f : Addr) (n : Int) (xs : List V) (sp : Sp), vs = [.ref a, .ref f, .int n] ∧ SqT K H a xs ∧ Held P w K mg base 3 f sp ∧ Items K H sp n xs ∧
  ∀ H', L2.Same H H' → Q (.bl true) H'
theorem cAreItems (T : Txt K mg) : Cal P w K mg base 4 "_are_items" (spItems P w K mg base) [] := by
  refine cal_of T.areItems scAreItems (fun _ _ _ _ _ _ us hl => match us, hl with | [_, _, _], _ => rfl) (fun vs H Q E h => ?_) (fun f cdv A outer s H vs Q E hr h => ?_)
  · obtain ⟨a, f, n, xs, sp, rfl, _⟩ := h
    rfl
  obtain ⟨a, g, n, xs, sp, rfl, ha, held, it, q⟩ := h
  refine ⟨_, (pss_cons (ps_if (PW.pt (pw_or (pt_not (pt_val (pe_callB call_isi (by rfl) T.isinstance (by decide +kernel) (pa_cons (pv 0) (pa_cons (pe_bltn (v := V.ty "tuple") (u := Value.type "tuple") (by rfl) T.tuple (by decide +kernel) rfl) pa_nil))))) (pw_or1 (pt_cmpR op_eq (pe_callB call_len_seq (by rfl) T.len (by decide +kernel) (pa_cons (pv 0) pa_nil)) pe_int (nomark _)))))
 (pss_one (ps_ret pe_bl))
 pss_nil)
 (pss_one (ps_ret (pe_and (pe_callB (cr_all rfl) (by rfl) T.all (by decide +kernel) (pa_cons (pe_lc (own := [("item", 3)]) (by rfl) scAreItems.nd (pi_tup (pv 0)) (blkOk_by (own := [("item", 3)]) (N := ["thing", "is_item", "many", "item"]) (sc := defScope sAreItems) (by decide +kernel)) (fun _ _ _ _ _ => (pg_name (i := 3) scAreItems.nd rfl (.inl rfl))) (fun _ _ _ _ _ => pts_nil) (fun _ _ _ _ _ => (pe_callA (i := 1) (S := fun z => if z = g then some sp else none) (k := 3) (fun f' sp' e => by
      by_cases z : f' = g
      · rw [if_pos z] at e
        cases e
        rw [z]
        exact held
      · rw [if_neg z] at e
        cases e) hr (by rfl) (by first | exact Or.inl rfl | exact Or.inr (Or.inl rfl) | exact Or.inr (Or.inr rfl)) (pa_cons (pv 3) (pa_cons (pv 2) pa_nil))))) pa_nil)) (pe_one (pe_c (cIsAscending T) hr (by decide) rfl (pa_cons (pv 0) pa_nil))))))), ?_⟩
  refine ⟨.ref a, rfl, .ref a, .ty "tuple", .type "tuple", .type "tuple", true, rfl, .ty _, ty_tup ha, kit_ty (by decide +kernel), true, rfl, iteF ?_⟩
  refine ⟨.ref a, rfl, a, xs, rfl, .inr ha, rfl, _, rfl, ?_⟩
  have ne0 : decide (V.int (xs.length : Int) = V.int 0) = false := decide_eq_false fun e => by
    have := V.int.inj e
    have := List.length_pos_iff.mpr it.ne
    omega
  rw [ne0]
  refine iteF ⟨.ref a, rfl, a, rfl, ⟨_, ha⟩, fun D nD => ?_⟩
  refine lc_tup (K := K) (a := a) (xs := xs) (fun i X => L2.Same H X ∧ X D = some (.lst ((List.replicate i true).map V.bl))) ⟨same_up nD, upd_same⟩ (fun i X _ z => (Tl.Same.stay z.1).tup ha) (fun i x X hx z => ?_) (fun X z => ?_)
  · obtain ⟨sX, gX⟩ := z
    refine ⟨rfl, g, sp, rfl, if_pos rfl, x, rfl, .int n, rfl, it.acc x (List.mem_of_getElem? hx) X _ sX ⟨_, gX, ?_, same_mut sX nD, ?_⟩⟩
    · rw [List.length_map, List.length_replicate]
      have : i < xs.length := by
        have := List.getElem?_eq_some_iff.mp hx
        exact this.1
      have := it.len
      exact Nat.lt_of_lt_of_le (show i < 1001 by omega) (by decide)
    · rw [upd_same, List.replicate_succ', List.map_append]
      rfl
  · obtain ⟨sX, gX⟩ := z
    refine ⟨D, _, rfl, lst_of gX, true, by rw [all_rep], iteT ⟨.ref a, rfl, a, xs, rfl, .inr ((Tl.Same.stay sX).tup ha), it.len, fun i x y hx hy => ltv_st (Tl.Same.stay sX) (it.asc i x y hx hy), fun H' e => q H' (sX.trans e)⟩⟩
def spListing (P : Program) (w : World) (K : PySem.W.Frag) (mg : Str → Option Value) (base : Heap) : Sp := fun vs H Q _ => ∃ (a f : Addr) (n : Int) (xs : List V) (es : List (Str × List V)) (sp : Sp), vs = [.ref a, .ref f, .int n] ∧ SqT K H a xs ∧ Held P w K mg base 3 f sp ∧
  Paired (Row K H sp n) xs es ∧ (es.map (·.1)).Pairwise sl ∧ es.length ≤ 1000 ∧ ∀ H', L2.Same H H' → Q (.bl true) H'
theorem cIsListing (T : Txt K mg) : Cal P w K mg base 5 "_is_listing" (spListing P w K mg base) [] := by
  refine cal_of T.isListing scIsListing (fun _ _ _ _ _ _ us hl => match us, hl with | [_, _, _], _ => rfl) (fun vs H Q E h => ?_) (fun f cdv A outer s H vs Q E hr h => ?_)
  · obtain ⟨a, f, n, xs, es, sp, rfl, _⟩ := h
    rfl
  obtain ⟨a, g, n, xs, es, sp, rfl, ha, held, rows, asc, len, q⟩ := h
  refine ⟨_, (pss_cons (ps_if (pt_not (pt_val (pe_callB call_isi (by rfl) T.isinstance (by decide +kernel) (pa_cons (pv 0) (pa_cons (pe_bltn (v := V.ty "tuple") (u := Value.type "tuple") (by rfl) T.tuple (by decide +kernel) rfl) pa_nil)))))
 (pss_one (ps_ret pe_bl))
 pss_nil)
 (pss_cons (ps_for PassesOwn.never rfl (pi_tup (pv 0)) (pg_name (i := 3) scIsListing.nd rfl (.inl rfl))
 (pss_one (ps_if (PW.pt (pw_or (pt_not (pt_val (pe_c (cIsPair T) hr (by decide) rfl (pa_cons (pv 3) pa_nil)))) (pw_or (pt_not (pt_val (pe_c (cIsWord T) hr (by decide) rfl (pa_cons (pe_ix ix_tup (pv 3) pe_int (fun _ _ => rfl)) pa_nil)))) (pw_or1 (pt_not (pt_val (pe_c (cAreItems T) hr (by decide) rfl (pa_cons (pe_ix ix_tup (pv 3) pe_int (fun _ _ => rfl)) (pa_cons (pv 1) (pa_cons (pv 2) pa_nil))))))))))
 (pss_one (ps_ret pe_bl))
 pss_nil)))
 (pss_one (ps_ret (pe_c (cIsAscending T) hr (by decide) rfl (pa_cons (pe_lc (own := [("row", 3)]) (by rfl) scIsListing.nd (pi_tup (pv 0)) (blkOk_by (own := [("row", 3)]) (N := ["thing", "is_item", "many", "row"]) (sc := defScope sIsListing) (by decide +kernel)) (fun _ _ _ _ _ => (pg_name (i := 3) scIsListing.nd rfl (.inl rfl))) (fun _ _ _ _ _ => pts_nil) (fun _ _ _ _ _ => (pe_ix (ix_tupK (K := K) rfl) (pv 3) pe_int (fun _ _ => rfl)))) pa_nil)))))), ?_⟩
  refine ⟨.ref a, rfl, .ref a, .ty "tuple", .type "tuple", .type "tuple", true, rfl, .ty _, ty_tup ha, kit_ty (by decide +kernel), true, rfl, iteF ?_⟩
  refine ⟨.ref a, rfl, a, rfl, ⟨_, ha⟩, ?_⟩
  refine for_tup (K := K) (a := a) (xs := xs) (fun i σ X => ∃ t, σ = [some (.ref a), some (.ref g), some (.int n), t] ∧ L2.Same H X) ⟨_, rfl, L2.Same.refl H⟩ (fun i σ X _ z => ?_) (fun i x σ X hx z => ?_) (fun σ X z => ?_)
  · obtain ⟨t, rfl, sX⟩ := z
    exact (Tl.Same.stay sX).tup ha
  · obtain ⟨t, rfl, sX⟩ := z
    obtain ⟨e, he, r⟩ := getP rows hx
    obtain ⟨hw, p, t2, rfl, h1, h2, h3⟩ := row_st sX r
    refine ⟨.ref p, rfl, p, _, _, rfl, h1, true, rfl, iteF ?_⟩
    refine ⟨.ref p, rfl, p, _, 0, _, rfl, rfl, h1, atI_nat (j := 0) rfl, _, rfl, hw, fun X2 e2 => ⟨true, rfl, iteF ?_⟩⟩
    refine ⟨.ref p, rfl, p, _, 1, _, rfl, rfl, (Tl.Same.stay e2).tup h1, atI_nat (j := 1) rfl, .ref g, rfl, .int n, rfl, t2, g, n, e.2, sp, rfl, (Tl.Same.stay e2).tup h2, held, items_st e2 h3, fun X3 e3 => ⟨true, rfl, iteF ?_⟩⟩
    exact ⟨_, rfl, (sX.trans e2).trans e3⟩
  · obtain ⟨t, rfl, sX⟩ := z
    have ha' := (Tl.Same.stay sX).tup ha
    refine ⟨.ref a, rfl, a, rfl, ⟨_, ha'⟩, fun D nD => ?_⟩
    refine lc_tup (K := K) (a := a) (xs := xs) (fun i Y => L2.Same X Y ∧ Y D = some (.lst (((es.map (·.1)).take i).map V.str))) ⟨same_up nD, upd_same⟩ (fun i Y _ z => (Tl.Same.stay z.1).tup ha') (fun i x Y hx z => ?_) (fun Y z => ?_)
    · obtain ⟨sY, gY⟩ := z
      obtain ⟨e, he, r⟩ := getP rows hx
      obtain ⟨hw, p, t2, rfl, h1, h2, h3⟩ := row_st (sX.trans sY) r
      have he' : (es.map (·.1))[i]? = some e.1 := by rw [List.getElem?_map, he]; rfl
      refine ⟨rfl, .ref p, rfl, p, _, 0, _, rfl, rfl, h1, atI_nat (j := 0) rfl, _, gY, ?_, same_mut sY nD, ?_⟩
      · rw [List.length_map, List.length_take]
        exact Nat.lt_of_le_of_lt (Nat.le_trans (Nat.min_le_right _ _) (by rw [List.length_map]; exact len)) (by decide)
      · rw [upd_same, List.take_add_one, he', List.map_append]
        rfl
    · obtain ⟨sY, gY⟩ := z
      rw [List.take_of_length_le (by rw [List.length_map, rows.length]; exact Nat.le_refl _)] at gY
      refine ⟨D, _, rfl, .inl (lst_of gY), by rw [List.length_map, List.length_map]; exact len, consec (paired_of (es.map (·.1))) asc fun x y e f h1 h2 h => ?_, fun H' e => q H' ((sX.trans sY).trans e)⟩
      subst h1 h2
      exact .str h
def spWorldT (K : PySem.W.Frag) : Sp := fun vs H Q _ => ∃ (v : V) (W : Wd), vs = [v] ∧ IsWd K H v W ∧ WOk W ∧ ∀ H', L2.Same H H' → Q (.bl true) H'
theorem names_rows {sp : Sp} {H : Hp} {a : Addr} {W : Wd} (ok : WOk W) (h : Names K H a W.names) (acc : ∀ (x : Int) (H' : Hp) (Q : VK), 0 ≤ x → x < W.many → Q (.bl true) H' → sp [.int x, .int W.many] H' Q fun _ _ _ => False) :
    ∃ xs, SqT K H a xs ∧ Paired (Row K H sp W.many) xs (W.names.map fun e => (e.1, e.2.map V.int)) := by
  obtain ⟨ps, hf, hp⟩ := h
  refine ⟨ps.map V.ref, rd_of_frz hf, mapL (F := fun (p : Addr) b => Row K H sp W.many (V.ref p) b) (g := V.ref) (fun p b z => z) (mapR (F := fun p e => NmE K H p e ∧ (isW e.1 = true ∧ GoodN W.many e.2)) (g := fun e : Str × List Int => (e.1, e.2.map V.int)) (fun p e z => ?_) (withR hp ok.names.2.1))⟩
  obtain ⟨⟨t, h1, h2⟩, hw, ne, asc, rg⟩ := z
  refine ⟨hw, p, t, rfl, h1, h2, ?_, ?_, consec (paired_of e.2) asc fun x y e f h1 h2 h => ?_, fun x hx H' Q s q => ?_⟩
  · intro z
    exact ne (List.map_eq_nil_iff.mp z)
  · rw [List.length_map]
    have := asc_len _ 0 W.many asc rg
    have := ok.many
    omega
  · subst h1 h2
    exact .int h
  · obtain ⟨i, hi, rfl⟩ := List.mem_map.mp hx
    exact acc i H' Q (rg i hi).1 (rg i hi).2 q
theorem roles_rows {sp : Sp} {H : Hp} {a : Addr} {W : Wd} (ok : WOk W) (h : Roles K H a W.roles) (acc : ∀ (p : Addr) (e : Int × Int) (H' : Hp) (Q : VK), PrE K H' p e → (0 ≤ e.1 ∧ e.1 < W.many) ∧ 0 ≤ e.2 ∧ e.2 < W.many → Q (.bl true) H' → sp [.ref p, .int W.many] H' Q fun _ _ _ => False) :
    ∃ (xs : List V) (es : List (Str × List V)), SqT K H a xs ∧ Paired (Row K H sp W.many) xs es ∧ es.map (·.1) = W.roles.map (·.1) := by
  obtain ⟨ps, hf, hp⟩ := h
  have : ∀ {ps : List Addr} {rs : List (Str × List (Int × Int))}, Paired (fun p e => RlE K H p e ∧ (isW e.1 = true ∧ GoodR W.many e.2)) ps rs → ∃ es : List (Str × List V), Paired (Row K H sp W.many) (ps.map V.ref) es ∧ es.map (·.1) = rs.map (·.1) := by
    intro ps rs h
    induction h with
    | nil => exact ⟨[], .nil, rfl⟩
    | @cons p e _ _ z _ ih =>
      obtain ⟨es, h1, h2⟩ := ih
      obtain ⟨⟨t, g1, qs, g2, g3⟩, hw, ne, asc, rg⟩ := z
      refine ⟨(e.1, qs.map V.ref) :: es, .cons ⟨hw, p, t, rfl, g1, g2, ?_, ?_, consec (mapL (G := fun v b => ∃ q, v = .ref q ∧ PrE K H q b) (fun q b z => ⟨q, rfl, z⟩) g3) asc fun x y e f h1 h2 h => ?_, fun x hx H' Q s q => ?_⟩ h1, by rw [List.map_cons, List.map_cons, h2]⟩
      · intro z
        have z := List.map_eq_nil_iff.mp z
        have := g3.length
        rw [z] at this
        exact ne (List.length_eq_zero_iff.mp this.symm)
      · rw [List.length_map, g3.length]
        have := lex_len (by have := ok.many; omega) ok.many.2 asc rg
        omega
      · obtain ⟨q1, rfl, z1⟩ := h1
        obtain ⟨q2, rfl, z2⟩ := h2
        exact .prs z1 z2 h
      · obtain ⟨qa, hq, rfl⟩ := List.mem_map.mp hx
        obtain ⟨b, hb, hpb⟩ := memP g3 hq
        exact acc qa b H' Q (pre_st (Tl.Same.stay s) hpb) (rg b hb) q
  obtain ⟨es, h1, h2⟩ := this (withR hp ok.roles.2.1)
  exact ⟨ps.map V.ref, es, rd_of_frz hf, h1, h2⟩
theorem held_of {k : Nat} {x : Str} {sp : Sp} (c : Cal P w K mg base k x sp []) : ∃ f, mg x = some (.ref f) ∧ Held P w K mg base k f sp := by
  obtain ⟨f, fd, ps, ds, F, hm, kp, b, d⟩ := c.ex
  cases d
  exact ⟨f, hm, ⟨fd, ps, F, kp, b⟩⟩
theorem cIsWorld (T : Txt K mg) : Cal P w K mg base 6 "is_world" (spWorldT K) [] := by
  refine cal_of T.isWorld scIsWorld (fun _ _ _ _ _ _ us hl => match us, hl with | [_], _ => rfl) (fun vs H Q E h => ?_) (fun f cdv A outer s H vs Q E hr h => ?_)
  · obtain ⟨v, W, rfl, _⟩ := h
    rfl
  obtain ⟨v, W, rfl, hW, ok, q⟩ := h
  obtain ⟨tm, hmt⟩ := T.most_things
  obtain ⟨f1, hf1, held1⟩ := held_of (calUp (cIsThing (P := P) (w := w) (base := base) T) (show 2 ≤ 3 by decide))
  obtain ⟨f2, hf2, held2⟩ := held_of (cIsTie (P := P) (w := w) (base := base) T)
  refine ⟨_, (pss_cons (ps_if (PW.pt (pw_or (pt_not (pt_val (pe_callB call_isi (by rfl) T.isinstance (by decide +kernel) (pa_cons (pv 0) (pa_cons (pe_bltn (v := V.ty "tuple") (u := Value.type "tuple") (by rfl) T.tuple (by decide +kernel) rfl) pa_nil))))) (pw_or1 (pt_cmpR op_ne (pe_callB call_len_seq (by rfl) T.len (by decide +kernel) (pa_cons (pv 0) pa_nil)) pe_int (nomark _)))))
 (pss_one (ps_ret pe_bl))
 pss_nil)
 (pss_cons (ps_asg (pv 0) (pg_tup rfl (pgs_cons (pg_name (i := 1) scIsWorld.nd rfl (.inl rfl)) (pgs_cons (pg_name (i := 2) scIsWorld.nd rfl (.inl rfl)) (pgs_cons (pg_name (i := 3) scIsWorld.nd rfl (.inl rfl)) pgs_nil)))))
 (pss_cons (ps_if (PW.pt (pw_or (pt_not (pt_val (pe_c (cIsInteger T) hr (by decide) rfl (pa_cons (pv 1) pa_nil)))) (pw_or1 (pt_not (pt_chain op_le op_le pe_int (pv 1) (pe_glob (v := V.int 2000) rfl hmt ⟨_, rfl⟩))))))
 (pss_one (ps_ret pe_bl))
 pss_nil)
 (pss_one (ps_ret (pe_and (pe_c (cIsListing T) hr (by decide) rfl (pa_cons (pv 2) (pa_cons (pe_glob (v := V.ref f1) rfl hf1 rfl) (pa_cons (pv 1) pa_nil)))) (pe_one (pe_c (cIsListing T) hr (by decide) rfl (pa_cons (pv 3) (pa_cons (pe_glob (v := V.ref f2) rfl hf2 rfl) (pa_cons (pv 1) pa_nil))))))))))), ?_⟩
  obtain ⟨a, na, ra, rfl, ha, hN, hR⟩ := hW
  have okm := ok.many
  obtain ⟨xs1, hx1, hr1⟩ := names_rows (sp := spThing) ok hN fun x H' Q h0 h1 q => ⟨x, _, rfl, h0, h1, q⟩
  obtain ⟨xs2, es2, hx2, hr2, he2⟩ := roles_rows (sp := spTie K) ok hR fun p e H' Q h0 h1 q => ⟨p, e, _, rfl, h0, h1.1.1, h1.1.2, h1.2.1, h1.2.2, q⟩
  refine ⟨.ref a, rfl, .ref a, .ty "tuple", .type "tuple", .type "tuple", true, rfl, .ty _, ty_tup ha, kit_ty (by decide +kernel), true, rfl, iteF ?_⟩
  refine ⟨.ref a, rfl, a, _, rfl, .inr ha, rfl, _, rfl, iteF ?_⟩
  refine ⟨.ref a, rfl, a, _, rfl, ha, rfl, .int W.many, _, rfl, .ref na, _, rfl, .ref ra, [], rfl, rfl, ?_⟩
  refine ⟨.int W.many, rfl, W.many, rfl, true, rfl, iteF ?_⟩
  refine ⟨.int W.many, rfl, 1, W.many, rfl, rfl, _, rfl, ?_⟩
  rw [show decide ((1 : Int) ≤ W.many) = true from decide_eq_true okm.1]
  refine iteT ⟨W.many, 2000, rfl, rfl, _, rfl, ?_⟩
  rw [show decide (W.many ≤ (2000 : Int)) = true from decide_eq_true (by omega)]
  refine iteF ?_
  refine ⟨.ref na, rfl, .int W.many, rfl, na, f1, W.many, xs1, _, spThing, rfl, hx1, held1, hr1, ?_, ?_, fun X e1 => ⟨true, rfl, iteT ?_⟩⟩
  · rw [List.map_map]
    exact ok.names.1
  · rw [List.length_map]
    have := ok.names.2.2
    omega
  refine ⟨.ref ra, rfl, .int W.many, rfl, ra, f2, W.many, xs2, es2, spTie K, rfl, (Tl.Same.stay e1).tup hx2, held2, Paired.mapP hr2 fun _ _ z => row_st e1 z, ?_, ?_, fun X2 e2 => q X2 (e1.trans e2)⟩
  · rw [he2]
    exact ok.roles.1
  · have := congrArg List.length he2
    rw [List.length_map, List.length_map] at this
    rw [this]
    have := ok.roles.2.2
    omega
theorem cCheckWorld (T : Txt K mg) : Cal P w K mg base 7 "check_world" (fun vs H Q _ => ∃ (v : V) (W : Wd), vs = [v] ∧ IsWd K H v W ∧ WOk W ∧ ∀ H', L2.Same H H' → Q .non H') [] := by
  refine cal_of T.checkWorld scCheckWorld (fun _ _ _ _ _ _ us hl => match us, hl with | [_], _ => rfl) (fun vs H Q E h => ?_) (fun f cdv A outer s H vs Q E hr h => ?_)
  · obtain ⟨v, W, rfl, _⟩ := h
    rfl
  obtain ⟨v, W, rfl, hW, ok, q⟩ := h
  refine ⟨_, (pss_one (ps_if (pt_not (pt_val (pe_c (cIsWorld T) hr (by decide) rfl (pa_cons (pv 0) pa_nil))))
 (pss_one ps_never)
 pss_nil)), ?_⟩
  exact ⟨v, rfl, v, W, rfl, hW, ok, fun H' e => ⟨true, rfl, iteF (q H' e)⟩⟩
end
end K21
set_option Elab.async false
set_option linter.all false
set_option autoImplicit false
set_option maxRecDepth 100000
set_option maxHeartbeats 4000000
/-! a walk over a list or a tuple -/
namespace Tl
open PySem PySem.Spec PyProof.Rows L2
structure Facts (J : It) (xs : List V) (G : Hp) : Prop where
  go : ∀ i, i < xs.length → J.go i G
  stop : J.stop xs.length G
  yld : ∀ i x G', J.yld i G x G' → G' = G ∧ xs[i]? = some x
def Sq (K : PySem.W.Frag) (H : Hp) (a : Addr) (xs : List V) : Prop := SqL K H a xs ∨ SqT K H a xs
theorem Sq.off {K : PySem.W.Frag} {H H' : Hp} {a : Addr} {xs : List V} (k : ∀ o, H a = some o → H' a = some o) (h : Sq K H a xs) : Sq K H' a xs := by
  rcases h with h | h
  · exact .inl (seq_off k h)
  · refine .inr ?_
    rcases h with (h | ⟨o, h⟩) | h
    · exact .inl (.inl (k _ h))
    · exact .inl (.inr ⟨o, k _ h⟩)
    · exact .inr h
theorem Sq.same {K : PySem.W.Frag} {H H' : Hp} {a : Addr} {xs : List V} (e : L2.Same H H') (h : Sq K H a xs) : Sq K H' a xs := h.off fun o z => e a o z
def iSeq (K : PySem.W.Frag) (tl : TE) : TI := fun σ H R => tl σ H fun x H1 => ∃ a xs, x = .ref a ∧ Sq K H1 a xs ∧ ∀ J, (∀ G, L2.Same H1 G → Facts J xs G) → R J H1
theorem facts_l {K : PySem.W.Frag} {G : Hp} {a : Addr} {xs : List V} (h : SqL K G a xs) : Facts (Itl K a) xs G :=
  ⟨fun i hi => ⟨xs, xs[i], h, List.getElem?_eq_getElem hi⟩, ⟨xs, h, Nat.le_refl _⟩, fun i x G' ⟨e, y⟩ => ⟨e, y xs h⟩⟩
theorem facts_t {K : PySem.W.Frag} {G : Hp} {a : Addr} {xs : List V} (h : SqT K G a xs) : Facts (Itt K a) xs G :=
  ⟨fun i hi => ⟨xs, xs[i], h, List.getElem?_eq_getElem hi⟩, ⟨xs, h, Nat.le_refl _⟩, fun i x G' ⟨e, y⟩ => ⟨e, y xs h⟩⟩
section
variable {X : Cx} {tg : Expr} {K : PySem.W.Frag}
theorem pi_seq {l : Expr} {tl : TE} (hK : X.K = K) (hl : PE X l tl) : PI X tg l (iSeq K tl) := by
  subst hK
  refine ⟨fun pins s σ H R I h => ?_⟩
  refine thn (hl.run pins s σ H _ I h) fun v s1 ⟨x, H1, I1, r1, q1⟩ => ?_
  obtain ⟨a, xs, e, hq, q⟩ := q1
  subst e
  cases r1
  rcases hq with hq | hq
  · obtain ⟨its, rv, p, hz⟩ := I1.list hq
    refine wpAny_pyIter_list p.isList ?_
    refine ⟨s1.heap.objs.size, [s1.heap.objs.size], _, _, H1, rfl, I1.kept (t' := s1.toks) fun b o e => Heap.get?_push_of_some _ e, turn_list a _, ⟨_, Heap.get?_push_size _ rfl, rfl, rfl⟩, fun b hb => ?_, q _ fun G e => facts_l (e.seq hq)⟩
    have e : b = s1.heap.objs.size := by simpa using hb
    subst e
    exact I1.fpOk (Nat.le_refl _) (I1.hok.fresh (Nat.le_refl _))
  · obtain ⟨its, rv, p, hz⟩ := I1.tuple hq
    refine wpAny_pyIter_tuple (show s1.heap.IsTuple a its.toArray from p) ?_
    refine ⟨s1.heap.objs.size, [s1.heap.objs.size], _, _, H1, rfl, I1.kept (t' := s1.toks) fun b o e => Heap.get?_push_of_some _ e, turn_tuple a _, ⟨_, Heap.get?_push_size _ rfl, rfl, rfl⟩, fun b hb => ?_, q _ fun G e => facts_t ((Tl.Same.stay e).tup hq)⟩
    have e : b = s1.heap.objs.size := by simpa using hb
    subst e
    exact I1.fpOk (Nat.le_refl _) (I1.hok.fresh (Nat.le_refl _))
theorem cr_setIK {w : World} (hK : X.K = K) (hw : X.w = w) (calm : X.calm = true) : CallR X (.type "set") (rSetI K w) := by
  subst hK hw
  exact cr_setI calm
theorem op_sinK {w : World} (h : X.w = w) : OpR X (compareOp .In) (rSIn w) := by
  subst h
  exact or_sin
theorem op_snotinK {w : World} (h : X.w = w) : OpR X (compareOp .NotIn) (rSNotIn w) := by
  subst h
  exact or_snotin
end
end Tl
namespace K21
open PySem PySem.Spec PyProof.Rows L2 Tl
open C8 (Cal pe_c)
def Ints (K : PySem.W.Frag) (H : Hp) (v : V) (ns : List Int) : Prop := ∃ a, v = .ref a ∧ Sq K H a (ns.map V.int)
theorem seto_ext {w : World} {a : Addr} {S S' : Int → Bool} {n : Nat} (h : ∀ j, S j = S' j) : SetO w a S n = SetO w a S' n := by
  rw [show S = S' from funext h]
section
variable {P : Program} {w : World} {K : PySem.W.Frag} {mg : Str → Option Value} {base : Heap}
def spInBoth (K : PySem.W.Frag) : Sp := fun vs H Q _ => ∃ (u v : V) (ms ns : List Int), vs = [u, v] ∧ Ints K H u ms ∧ Ints K H v ns ∧ ms.length ≤ 100 ∧ ns.length ≤ 100 ∧
  ∀ (p : Addr) (H' : Hp), L2.Same H H' → H p = none → H' p = some (.lst ((ms.filter fun x => decide (x ∈ ns)).map V.int)) → Q (.ref p) H'
theorem cInBoth (T : Txt K mg) : Cal P w K mg base 1 "_in_both" (spInBoth K) [] := by
  refine cal_of T.inBoth scInBoth (fun _ _ _ _ _ _ us hl => match us, hl with | [_, _], _ => rfl) (fun vs H Q E h => ?_) (fun f cdv A outer s H vs Q E hr h => ?_)
  · obtain ⟨u, v, ms, ns, rfl, _⟩ := h
    rfl
  obtain ⟨u, v, ms, ns, rfl, hu, hv, lm, ln, q⟩ := h
  refine ⟨_, (pss_cons (ps_set (i := 2) scInBoth.nd rfl (.inr rfl) (pe_callTy (cr_setIK (K := K) (w := w) rfl rfl rfl) (by rfl) T.set (by decide +kernel) (pa_cons (pv 1) pa_nil)))
 (pss_one (ps_ret (pe_lc (own := [("x", 3)]) (by rfl) scInBoth.nd (pi_seq (K := K) rfl (pv 0)) (blkOk_by (own := [("x", 3)]) (N := ["first", "second", "among", "x"]) (sc := defScope sInBoth) (by decide +kernel)) (fun _ _ _ _ _ => (pg_name (i := 3) scInBoth.nd rfl (.inl rfl))) (fun _ _ _ _ _ => pts_one (pt_cmpR (op_sinK (w := w) rfl) (pv 3) (pv 2) rfl)) (fun _ _ _ _ _ => (pv 3)))))), ?_⟩
  obtain ⟨b, rfl, hb⟩ := hv
  obtain ⟨a, rfl, ha⟩ := hu
  refine ⟨.ref b, rfl, b, ns, rfl, hb, by omega, fun d c _ nd => ?_⟩
  have s1 := same_up (o := SetO w d (fun j => decide (j ∈ ns)) c) nd
  have gd : upd H d (SetO w d (fun j => decide (j ∈ ns)) c) d = _ := upd_same
  generalize upd H d (SetO w d (fun j => decide (j ∈ ns)) c) = G at s1 gd ⊢
  refine ⟨.ref a, rfl, a, ms.map V.int, rfl, ha.same s1, fun J fc D nD => ?_⟩
  refine lc_it (n := (ms.map V.int).length) (fun i X => L2.Same G X ∧ X D = some (.lst (((ms.take i).filter fun x => decide (x ∈ ns)).map V.int))) ⟨same_up nD, upd_same⟩
    (fun i X hi z => (fc X z.1).go i hi) (fun X z => (fc X z.1).stop) (fun i x X X' hi z y => ?_) (fun X z => ?_)
  · obtain ⟨sX, gX⟩ := z
    obtain ⟨rfl, hx⟩ := (fc X sX).yld i x X' y
    obtain ⟨m, hm, rfl⟩ : ∃ m, ms[i]? = some m ∧ x = V.int m := by
      rw [List.getElem?_map] at hx
      obtain ⟨m, h, e⟩ := Option.map_eq_some_iff.mp hx
      exact ⟨m, h, e.symm⟩
    have ht : ms.take (i + 1) = ms.take i ++ [m] := by rw [List.take_add_one, hm]; rfl
    refine ⟨rfl, .int m, rfl, .ref d, rfl, m, d, _, c, rfl, rfl, sX _ _ gd, _, rfl, ?_⟩
    refine ite2 (fun yes => ?_) (fun no => ?_)
    · refine ⟨.int m, rfl, _, gX, ?_, same_mut sX nD, ?_⟩
      · rw [List.length_map]
        refine Nat.lt_of_le_of_lt (Nat.le_trans (List.length_filter_le _ _) ?_) (show 100 < sizeLine by decide)
        rw [List.length_take]
        omega
      · rw [upd_same, ht, List.filter_append, List.map_append, List.filter_cons, if_pos yes]
        rfl
    · refine ⟨sX, ?_⟩
      rw [ht, List.filter_append, List.filter_cons, if_neg no, gX]
      simp
  · obtain ⟨sX, gX⟩ := z
    rw [List.length_map, List.take_of_length_le (Nat.le_refl _)] at gX
    exact q D X (s1.trans sX) (s1.free nD) gX
def spTied (K : PySem.W.Frag) : Sp := fun vs H Q _ => ∃ (t : Addr) (v : V) (es : List (Int × Int)) (ns : List Int), vs = [.ref t, v] ∧ Prs K H t es ∧ Ints K H v ns ∧ es.length ≤ 40 ∧ ns.length ≤ 100 ∧
  ∀ (p : Addr) (zs : List Int) (H' : Hp), L2.Same H H' → H p = none → zs.Pairwise (· < ·) → (∀ x, x ∈ zs ↔ (es.any fun e => decide (e.1 = x) && decide (e.2 ∈ ns)) = true) → H' p = some (.lst (zs.map V.int)) → Q (.ref p) H'
theorem cTiedInto (T : Txt K mg) : Cal P w K mg base 1 "_tied_into" (spTied K) [] := by
  refine cal_of T.tiedInto scTiedInto (fun _ _ _ _ _ _ us hl => match us, hl with | [_, _], _ => rfl) (fun vs H Q E h => ?_) (fun f cdv A outer s H vs Q E hr h => ?_)
  · obtain ⟨t, v, es, ns, rfl, _⟩ := h
    rfl
  obtain ⟨t, v, es, ns, rfl, ht, hv, le, ln, q⟩ := h
  refine ⟨_, (pss_cons (ps_set (i := 2) scTiedInto.nd rfl (.inr rfl) (pe_callTy (cr_setIK (K := K) (w := w) rfl rfl rfl) (by rfl) T.set (by decide +kernel) (pa_cons (pv 1) pa_nil)))
 (pss_one (ps_ret (pe_callB (cr_sortedSet rfl) (by rfl) T.sorted (by decide +kernel) (pa_cons (pe_set (own := [("x", 3), ("y", 4)]) (o0 := fun D => SetO w D (fun _ => false) 0) (add := rSAdd w) (by rfl) scTiedInto.nd (pi_tup (pv 0)) (blkOk_by (own := [("x", 3), ("y", 4)]) (N := ["ties", "things", "among", "x", "y"]) (sc := defScope sTiedInto) (by decide +kernel)) (fun _ _ => setO_new (setR_fresh w)) (fun Y _ h _ => by
    have h : Y.w = w := h
    rw [← h]
    exact mt_sadd) (fun _ _ _ _ _ => (pg_tupK (K := K) (n := 2) rfl rfl (pgs_cons (pg_name (i := 3) scTiedInto.nd rfl (.inl rfl)) (pgs_cons (pg_name (i := 4) scTiedInto.nd rfl (.inl rfl)) pgs_nil)))) (fun _ _ _ _ _ => pts_one (pt_cmpR (op_sinK (w := w) rfl) (pv 4) (pv 2) rfl)) (fun _ _ _ _ _ => (pv 3))) pa_nil))))), ?_⟩
  obtain ⟨b, rfl, hb⟩ := hv
  refine ⟨.ref b, rfl, b, ns, rfl, hb, by omega, fun d c _ nd => ?_⟩
  have s1 := same_up (o := SetO w d (fun j => decide (j ∈ ns)) c) nd
  have gd : upd H d (SetO w d (fun j => decide (j ∈ ns)) c) d = _ := upd_same
  generalize upd H d (SetO w d (fun j => decide (j ∈ ns)) c) = G at s1 gd ⊢
  obtain ⟨qs, hq1, hq2⟩ := prs_st (Tl.Same.stay s1) ht
  have lq := hq2.length
  refine ⟨.ref t, rfl, t, rfl, ⟨_, hq1⟩, fun D nD => ?_⟩
  refine set_it (o0 := fun D => SetO w D (fun _ => false) 0) (add := rSAdd w) (n := (qs.map V.ref).length) (fun i X => L2.Same G X ∧ ∃ n, n ≤ i ∧ X D = some (SetO w D (fun j => (es.take i).any fun e => decide (e.1 = j) && decide (e.2 ∈ ns)) n)) ⟨same_up nD, 0, Nat.le_refl _, upd_same⟩
    (fun i X hi z => (facts_t ((Tl.Same.stay z.1).tup hq1)).go i hi) (fun X z => (facts_t ((Tl.Same.stay z.1).tup hq1)).stop) (fun i x X X' hi z y => ?_) (fun X z => ?_)
  · obtain ⟨sX, n, hn, gX⟩ := z
    obtain ⟨rfl, hx⟩ := (facts_t ((Tl.Same.stay sX).tup hq1)).yld i x X' y
    obtain ⟨qa, hqa, rfl⟩ : ∃ m, qs[i]? = some m ∧ x = V.ref m := by
      rw [List.getElem?_map] at hx
      obtain ⟨m, h, e⟩ := Option.map_eq_some_iff.mp hx
      exact ⟨m, h, e.symm⟩
    obtain ⟨e, he, hpe⟩ := getP hq2 hqa
    have ht : es.take (i + 1) = es.take i ++ [e] := by rw [List.take_add_one, he]; rfl
    refine ⟨qa, _, rfl, (Tl.Same.stay sX).tup hpe, rfl, .int e.1, [.int e.2], rfl, .int e.2, [], rfl, rfl, rfl, .int e.2, rfl, .ref d, rfl, e.2, d, _, c, rfl, rfl, sX _ _ gd, _, rfl, ?_⟩
    refine ite2 (fun yes => ?_) (fun no => ?_)
    · refine ⟨.int e.1, rfl, D, e.1, _, n, rfl, rfl, gX, ?_, same_mut sX nD, ?_⟩
      · rw [List.length_map] at hi
        exact Nat.lt_of_lt_of_le (show n + 1 < 100 by omega) (by decide)
      · refine ⟨_, ?_, upd_same.trans (congrArg some (seto_ext fun j => ?_))⟩
        · split <;> omega
        · rw [ht, List.any_append, List.any_cons, List.any_nil, Bool.or_false, yes, Bool.and_true]
          congr 1
          exact decide_eq_decide.mpr ⟨fun h => h.symm, fun h => h.symm⟩
    · refine ⟨sX, n, by omega, gX.trans (congrArg some (seto_ext fun j => ?_))⟩
      rw [ht, List.any_append, List.any_cons, List.any_nil, Bool.or_false, Bool.eq_false_iff.mpr no, Bool.and_false, Bool.or_false]
  · obtain ⟨sX, n, hn, gX⟩ := z
    rw [List.length_map] at hn
    rw [List.length_map, List.take_of_length_le (show es.length ≤ qs.length by omega)] at gX
    refine ⟨D, _, n, rfl, gX, by omega, fun zs p asc mem _ np => ?_⟩
    have s3 := same_up (o := .lst (zs.map V.int)) np
    exact q p zs _ ((s1.trans sX).trans s3) ((s1.trans sX).free np) asc mem upd_same
end
end K21
set_option Elab.async false
set_option linter.all false
set_option autoImplicit false
set_option maxRecDepth 100000
set_option maxHeartbeats 4000000
namespace K21
open PySem PySem.Spec PyProof.Rows L2 Tl
open C8 (Cal pe_c)
/-! ### the program: what is in a concept -/
theorem lastP2 {α β : Type} {F : α → β → Prop} : ∀ {xs : List α} {c : β} {cs : List β}, Paired F xs (cs ++ [c]) → ∃ xs' y, xs = xs' ++ [y] ∧ Paired F xs' cs ∧ F y c
  | _, c, [], h => by
    cases h with
    | cons r t => cases t; exact ⟨[], _, rfl, .nil, r⟩
  | _, c, b :: cs, h => by
    cases h with
    | cons r t =>
      obtain ⟨xs', y, rfl, h1, h2⟩ := lastP2 (cs := cs) t
      exact ⟨_ :: xs', y, rfl, .cons r h1, h2⟩
def Run : List C → List C → List C → Prop
  | cs, [], r => cs = r
  | cs, .some t c :: ys, r => ∃ cs', cs = cs' ++ [c] ∧ Run (cs' ++ [.some t c]) ys r
  | cs, .and a b :: ys, r => ∃ cs', cs = cs' ++ [a] ++ [b] ∧ Run (cs' ++ [.and a b]) ys r
  | cs, x :: ys, r => Run (cs ++ [x]) ys r
theorem run_post : ∀ (c : C) (cs ys r : List C), Run (cs ++ [c]) ys r → Run cs (post c ++ ys) r
  | .all, _, _, _, h => h
  | .non, _, _, _, h => h
  | .word _, _, _, _, h => h
  | .some t c, cs, ys, r, h => by
    show Run cs ((post c ++ [.some t c]) ++ ys) r
    rw [List.append_assoc]
    exact run_post c cs _ r ⟨cs, rfl, h⟩
  | .and a b, cs, ys, r, h => by
    show Run cs ((post a ++ (post b ++ [.and a b])) ++ ys) r
    rw [List.append_assoc, List.append_assoc]
    exact run_post a cs _ r (run_post b _ _ r ⟨cs, rfl, h⟩)
theorem drop_at {α : Type} {l : List α} {i : Nat} {c : α} (h : l[i]? = some c) : l.drop i = c :: l.drop (i + 1) := by
  obtain ⟨hi, e⟩ := List.getElem?_eq_some_iff.mp h
  rw [List.drop_eq_getElem_cons hi, e]
section
variable {P : Program} {w : World} {K : PySem.W.Frag} {mg : Str → Option Value} {base : Heap}
def Stk (K : PySem.W.Frag) (W : Wd) (l : Addr) (X : Hp) (v : V) (c : C) : Prop := ∃ a, v = .ref a ∧ ((a ≠ l ∧ SqL K X a ((den W c).map V.int)) ∨ SqT K X a ((den W c).map V.int))
theorem stk_same {W : Wd} {l : Addr} {X X' : Hp} {v : V} {c : C} (s : L2.Same X X') (h : Stk K W l X v c) : Stk K W l X' v c := by
  obtain ⟨a, e, ⟨n, h⟩ | h⟩ := h
  · exact ⟨a, e, .inl ⟨n, s.seq h⟩⟩
  · exact ⟨a, e, .inr ((Tl.Same.stay s).tup h)⟩
theorem stk_mut {W : Wd} {l : Addr} {X : Hp} {v : V} {c : C} {o : HO} (m : Mut (X l)) (h : Stk K W l X v c) : Stk K W l (upd X l o) v c := by
  obtain ⟨a, e, ⟨n, h⟩ | h⟩ := h
  · exact ⟨a, e, .inl ⟨n, seq_off (fun o z => (upd_ne n).trans z) h⟩⟩
  · exact ⟨a, e, .inr ((stay_mut m).tup h)⟩
theorem Stk.ints {W : Wd} {l : Addr} {X : Hp} {v : V} {c : C} (h : Stk K W l X v c) : Ints K X v (den W c) := by
  obtain ⟨a, e, ⟨_, h⟩ | h⟩ := h
  · exact ⟨a, e, .inl h⟩
  · exact ⟨a, e, .inr h⟩
structure MI (K : PySem.W.Frag) (W : Wd) (G : Hp) (l p : Addr) (xs : List V) (ps : List C) (vs : List V) (cs : List C) (X : Hp) : Prop where
  g : L2.Same G X
  nl : G l = none
  pl : p ≠ l
  gp : X p = some (.lst xs)
  cn : Paired (Con K X) xs ps
  gl : X l = some (.lst vs)
  st : Paired (Stk K W l X) vs cs
theorem MI.same {W : Wd} {G : Hp} {l p : Addr} {xs : List V} {ps : List C} {vs : List V} {cs : List C} {X X' : Hp} (m : MI K W G l p xs ps vs cs X) (s : L2.Same X X') : MI K W G l p xs ps vs cs X' :=
  ⟨m.g.trans s, m.nl, m.pl, s _ _ m.gp, Paired.mapP m.cn fun _ _ z => z.st (Tl.Same.stay s), s _ _ m.gl, Paired.mapP m.st fun _ _ z => stk_same s z⟩
theorem MI.set {W : Wd} {G : Hp} {l p : Addr} {xs : List V} {ps : List C} {vs vs' : List V} {cs cs' : List C} {X : Hp} (m : MI K W G l p xs ps vs cs X) (h : Paired (Stk K W l X) vs' cs') : MI K W G l p xs ps vs' cs' (upd X l (.lst vs')) :=
  ⟨same_mut m.g m.nl, m.nl, m.pl, (upd_ne m.pl).trans m.gp, Paired.mapP m.cn fun _ _ z => z.st (stay_mut (by rw [m.gl]; trivial)), upd_same, Paired.mapP h fun _ _ z => stk_mut (by rw [m.gl]; trivial) z⟩
theorem MI.push {W : Wd} {G : Hp} {l p : Addr} {xs : List V} {ps : List C} {vs : List V} {cs : List C} {X X' : Hp} {y : V} {c : C} (m : MI K W G l p xs ps vs cs X) (s : L2.Same X X') (h : Stk K W l X' y c) : MI K W G l p xs ps (vs ++ [y]) (cs ++ [c]) (upd X' l (.lst (vs ++ [y]))) :=
  (m.same s).set (snoc (m.same s).st h)
def spMem (K : PySem.W.Frag) : Sp := fun vs H Q _ => ∃ (v u : V) (W : Wd) (c : C), vs = [v, u] ∧ IsWd K H v W ∧ WOk W ∧ Con K H u c ∧ Fit c ∧ nodes c ≤ 300 ∧
  ∀ (y : V) (H' : Hp), L2.Same H H' → Ints K H' y (den W c) → Q y H'
theorem cMembers (T : Txt K mg) : Cal P w K mg base 5 "_members" (spMem K) [] := by
  refine cal_of T.members scMembers (fun _ _ _ _ _ _ us hl => match us, hl with | [_, _], _ => rfl) (fun vs H Q E h => ?_) (fun f cdv A outer s H vs Q E hr h => ?_)
  · obtain ⟨v, u, W, c, rfl, _⟩ := h
    rfl
  obtain ⟨v, u, W, c0, rfl, hW, ok, hc, fit, few, q⟩ := h
  have hu := hu_of hr
  refine ⟨_, (pss_cons (ps_asg (pv 0) (pg_tup rfl (pgs_cons (pg_name (i := 2) scMembers.nd rfl (.inl rfl)) (pgs_cons (pg_name (i := 3) scMembers.nd rfl (.inl rfl)) (pgs_cons (pg_name (i := 4) scMembers.nd rfl (.inl rfl)) pgs_nil)))))
 (pss_cons (ps_set (i := 5) scMembers.nd rfl (.inl rfl) (pe_callTy (cr_dctT rfl) (by rfl) T.dict (by decide +kernel) (pa_cons (pv 3) pa_nil)))
 (pss_cons (ps_set (i := 6) scMembers.nd rfl (.inl rfl) (pe_callTy (cr_dctT rfl) (by rfl) T.dict (by decide +kernel) (pa_cons (pv 4) pa_nil)))
 (pss_cons (ps_set (i := 7) scMembers.nd rfl (.inl rfl) (pe_lst pa_nil))
 (pss_cons (ps_for PassesOwn.never rfl (pi_list (pe_c (cBottomUp T) hr (by decide) rfl (pa_cons (pv 1) pa_nil))) (pg_name (i := 8) scMembers.nd rfl (.inl rfl))
 (pss_one (ps_if (pt_cmpR op_eq (pe_ix ix_tup (pv 8) pe_int (fun _ _ => rfl)) pe_str (nomark _))
 (pss_one (ps_expr (pe_bm PySem.F.plainAttrs_list PySem.F.slot_list_append PySem.F.type_list_append mt_append (pv 7) (pa_cons (pe_listRg rfl rfl T.list (prg_1 rfl T.range (pv 2))) pa_nil))))
 (pss_one (ps_if (pt_cmpR op_eq (pe_ix ix_tup (pv 8) pe_int (fun _ _ => rfl)) pe_str (nomark _))
 (pss_one (ps_expr (pe_bm PySem.F.plainAttrs_list PySem.F.slot_list_append PySem.F.type_list_append mt_append (pv 7) (pa_cons (pe_tup pa_nil) pa_nil))))
 (pss_one (ps_if (pt_cmpR op_eq (pe_ix ix_tup (pv 8) pe_int (fun _ _ => rfl)) pe_str (nomark _))
 (pss_one (ps_expr (pe_bm PySem.F.plainAttrs_list PySem.F.slot_list_append PySem.F.type_list_append mt_append (pv 7) (pa_cons (pe_dget2 hu (pv 5) (pe_ix ix_tup (pv 8) pe_int (fun _ _ => rfl)) (pe_tup pa_nil) ⟨rfl, rfl, rfl, rfl⟩) pa_nil))))
 (pss_one (ps_if (pt_cmpR op_eq (pe_ix ix_tup (pv 8) pe_int (fun _ _ => rfl)) pe_str (nomark _))
 (pss_cons (ps_set (i := 9) scMembers.nd rfl (.inl rfl) (pe_bm0 PySem.F.plainAttrs_list PySem.F.slot_list_pop PySem.F.type_list_pop mt_pop (pv 7)))
 (pss_one (ps_expr (pe_bm PySem.F.plainAttrs_list PySem.F.slot_list_append PySem.F.type_list_append mt_append (pv 7) (pa_cons (pe_c (cInBoth T) hr (by decide) rfl (pa_cons (pe_bm0 PySem.F.plainAttrs_list PySem.F.slot_list_pop PySem.F.type_list_pop mt_pop (pv 7)) (pa_cons (pv 9) pa_nil))) pa_nil)))))
 (pss_one (ps_expr (pe_bm PySem.F.plainAttrs_list PySem.F.slot_list_append PySem.F.type_list_append mt_append (pv 7) (pa_cons (pe_c (cTiedInto T) hr (by decide) rfl (pa_cons (pe_dget2 hu (pv 6) (pe_ix ix_tup (pv 8) pe_int (fun _ _ => rfl)) (pe_tup pa_nil) ⟨rfl, rfl, rfl, rfl⟩) (pa_cons (pe_bm0 PySem.F.plainAttrs_list PySem.F.slot_list_pop PySem.F.type_list_pop mt_pop (pv 7)) pa_nil))) pa_nil)))))))))))))
 (pss_one (ps_ret (pe_bm0 PySem.F.plainAttrs_list PySem.F.slot_list_pop PySem.F.type_list_pop mt_pop (pv 7))))))))), ?_⟩
  obtain ⟨wa, na, ra, rfl, hw, hN, hR⟩ := hW
  have okm := ok.many
  refine ⟨.ref wa, rfl, wa, _, rfl, hw, rfl, .int W.many, _, rfl, .ref na, _, rfl, .ref ra, [], rfl, rfl, ?_⟩
  -- the two dicts
  obtain ⟨ps1, ⟨o1, fz1, no1⟩, hps1⟩ := hN
  obtain ⟨kvs1, hk1, hk1'⟩ := ent_of_names hps1
  refine ⟨.ref na, rfl, na, o1, ps1, kvs1, rfl, fz1, no1, hk1, fun d1 nd1 => ?_⟩
  rw [merged_ent hk1' ok.names.1]
  have s1 := same_up (o := .dK kvs1) nd1
  obtain ⟨ps2, ⟨o2, fz2, no2⟩, hps2⟩ := roles_st (Tl.Same.stay s1) hR
  obtain ⟨kvs2, hk2, hk2'⟩ := ent_of_roles hps2
  refine ⟨.ref ra, rfl, ra, o2, ps2, kvs2, rfl, fz2, no2, hk2, fun d2 nd2 => ?_⟩
  rw [merged_ent hk2' ok.roles.1]
  have s2 := same_add s1 (o := .dK kvs2) nd2
  have gd1 : (upd (upd H d1 (.dK kvs1)) d2 (.dK kvs2)) d1 = some (.dK kvs1) := (same_up nd2) _ _ upd_same
  have gd2 : (upd (upd H d1 (.dK kvs1)) d2 (.dK kvs2)) d2 = some (.dK kvs2) := upd_same
  have kn : Paired (Ent fun t xs => SqT K (upd (upd H d1 (.dK kvs1)) d2 (.dK kvs2)) t (xs.map V.int)) kvs1 W.names := Paired.mapP hk1' fun _ _ z => by
    obtain ⟨e, t, e2, h⟩ := z
    exact ⟨e, t, e2, (Tl.Same.stay s2).tup h⟩
  have kr : Paired (Ent fun t xs => Prs K (upd (upd H d1 (.dK kvs1)) d2 (.dK kvs2)) t xs) kvs2 W.roles := Paired.mapP hk2' fun _ _ z => by
    obtain ⟨e, t, e2, h⟩ := z
    exact ⟨e, t, e2, prs_st (stay_new nd2) h⟩
  generalize hG : upd (upd H d1 (HO.dK kvs1)) d2 (HO.dK kvs2) = G at s2 gd1 gd2 kn kr ⊢
  -- the stack
  refine ⟨Nat.zero_le _, fun l nl => ?_⟩
  have s3 := same_up (o := .lst []) nl
  refine ⟨u, rfl, u, c0, rfl, hc.st (Tl.Same.stay (s2.trans s3)), fit, few, fun p xs X0 s4 np gp hp => ⟨p, rfl, ⟨_, lst_of gp⟩, ?_⟩⟩
  have pl : p ≠ l := fun z => by subst z; rw [upd_same] at np; cases np
  have len : xs.length ≤ 300 := by rw [hp.length, post_len]; exact few
  refine for_list (K := K) (a := p) (xs := xs) (fun i σ X => ∃ (vs : List V) (cs : List C) (t8 t9 : Option V), σ = [some (.ref wa), some u, some (.int W.many), some (.ref na), some (.ref ra), some (.ref d1), some (.ref d2), some (.ref l), t8, t9] ∧
      MI K W G l p xs (post c0) vs cs X ∧ Run cs ((post c0).drop i) [c0] ∧ vs.length ≤ i)
    ⟨[], [], none, none, rfl, ⟨s3.trans s4, nl, pl, gp, hp, s4 _ _ upd_same, .nil⟩, by
      have := run_post c0 [] [] [c0] rfl
      rw [List.append_nil] at this
      exact this, Nat.le_refl _⟩ (fun i σ X _ z => ?_) (fun i x σ X hx z => ?_) (fun σ X z => ?_)
  · obtain ⟨vs, cs, t8, t9, rfl, mi, _, _⟩ := z
    exact lst_of mi.gp
  · obtain ⟨vs, cs, t8, t9, rfl, mi, run, lv⟩ := z
    obtain ⟨c, hci, hcx⟩ := getP mi.cn hx
    rw [drop_at hci] at run
    have li : i < xs.length := (List.getElem?_eq_some_iff.mp hx).1
    have small : vs.length < sizeLine := Nat.lt_of_lt_of_le (show vs.length < 400 by omega) (by decide)
    obtain ⟨ca, cxs, rfl, hca⟩ := con_ref hcx
    cases c with
    | all =>
      obtain ⟨b, e, hb⟩ := con_all hcx
      cases e
      refine ⟨.ref ca, rfl, ca, _, 0, _, rfl, rfl, hb, atI_nat (j := 0) rfl, rfl, _, rfl, ?_⟩
      rw [seq]
      refine iteT ⟨.ref l, rfl, .inl ⟨rfl, _, lst_of mi.gl⟩, .int W.many, rfl, W.many, rfl, RgOk.of_le (by omega) (by omega) (by omega) (by omega), fun t nt => ?_⟩
      have st := same_up (o := .lst (rgV 0 W.many)) nt
      refine ⟨l, vs, .ref t, rfl, rfl, st _ _ mi.gl, small, vs ++ [.ref t], cs ++ [.all], _, _, rfl, mi.push st ⟨t, rfl, .inl ⟨fun z => ?_, lst_of ?_⟩⟩, run, by rw [List.length_append]; show vs.length + 1 ≤ i + 1; omega⟩
      · rw [z, mi.gl] at nt
        cases nt
      · rw [upd_same, rgV_eq]
        rfl
    | non =>
      obtain ⟨b, e, hb⟩ := con_non hcx
      cases e
      refine ⟨.ref ca, rfl, ca, _, 0, _, rfl, rfl, hb, atI_nat (j := 0) rfl, rfl, _, rfl, ?_⟩
      rw [sne t_na]
      refine iteF ⟨.ref ca, rfl, ca, _, 0, _, rfl, rfl, hb, atI_nat (j := 0) rfl, rfl, _, rfl, ?_⟩
      rw [seq]
      refine iteT ⟨.ref l, rfl, .inl ⟨rfl, _, lst_of mi.gl⟩, Nat.zero_le _, fun t nt => ?_⟩
      have st := same_up (o := .tup []) nt
      refine ⟨l, vs, .ref t, rfl, rfl, st _ _ mi.gl, small, vs ++ [.ref t], cs ++ [.non], _, _, rfl, mi.push st ⟨t, rfl, .inr (tupOf upd_same)⟩, run, by rw [List.length_append]; show vs.length + 1 ≤ i + 1; omega⟩
    | word y =>
      obtain ⟨b, e, hb⟩ := con_word hcx
      cases e
      refine ⟨.ref ca, rfl, ca, _, 0, _, rfl, rfl, hb, atI_nat (j := 0) rfl, rfl, _, rfl, ?_⟩
      rw [sne t_wa]
      refine iteF ⟨.ref ca, rfl, ca, _, 0, _, rfl, rfl, hb, atI_nat (j := 0) rfl, rfl, _, rfl, ?_⟩
      rw [sne t_wn]
      refine iteF ⟨.ref ca, rfl, ca, _, 0, _, rfl, rfl, hb, atI_nat (j := 0) rfl, rfl, _, rfl, ?_⟩
      rw [seq]
      refine iteT ⟨.ref l, rfl, .inl ⟨rfl, _, lst_of mi.gl⟩, .ref d1, rfl, d1, rfl, .inl ⟨kvs1, .inl (mi.g _ _ gd1)⟩, .ref ca, rfl, ca, _, 1, .str y, rfl, rfl, hb, atI_nat (j := 1) rfl, Nat.zero_le _, fun z nz => ?_⟩
      have st := same_up (o := .tup []) nz
      have gd : (upd X z (.tup [])) d1 = some (.dK kvs1) := st _ _ (mi.g _ _ gd1)
      obtain ⟨t, ev, ht⟩ : ∃ t, (valV kvs1 (.inr y)).getD (.ref z) = .ref t ∧ SqT K (upd X z (.tup [])) t ((den W (.word y)).map V.int) := by
        show ∃ t, _ ∧ SqT K _ t ((lookN W y).map V.int)
        unfold lookN
        rcases ent_look kn y with ⟨e1, e2⟩ | ⟨t, xs, e1, e2, ht⟩
        · rw [e1, e2]
          exact ⟨z, rfl, tupOf upd_same⟩
        · rw [e1, e2]
          exact ⟨t, rfl, (Tl.Same.stay (mi.g.trans st)).tup ht⟩
      refine ⟨_, DGet.k (k := .inr y) gd, l, vs, _, rfl, rfl, st _ _ mi.gl, small, vs ++ [_], cs ++ [.word y], _, _, rfl, mi.push (c := .word y) st ⟨t, ev, .inr ht⟩, run, by rw [List.length_append]; show vs.length + 1 ≤ i + 1; omega⟩
    | and a1 a2 =>
      obtain ⟨b, u1, u2, e, hb, h1, h2⟩ := con_and hcx
      cases e
      refine ⟨.ref ca, rfl, ca, _, 0, _, rfl, rfl, hb, atI_nat (j := 0) rfl, rfl, _, rfl, ?_⟩
      rw [sne t_da]
      refine iteF ⟨.ref ca, rfl, ca, _, 0, _, rfl, rfl, hb, atI_nat (j := 0) rfl, rfl, _, rfl, ?_⟩
      rw [sne t_dn]
      refine iteF ⟨.ref ca, rfl, ca, _, 0, _, rfl, rfl, hb, atI_nat (j := 0) rfl, rfl, _, rfl, ?_⟩
      rw [sne t_dw]
      refine iteF ⟨.ref ca, rfl, ca, _, 0, _, rfl, rfl, hb, atI_nat (j := 0) rfl, rfl, _, rfl, ?_⟩
      rw [seq]
      obtain ⟨cs', rfl, run⟩ := run
      obtain ⟨vs1, y2, rfl, st1, hy2⟩ := lastP2 mi.st
      refine iteT ⟨.ref l, rfl, .inl ⟨rfl, _, lst_of mi.gl⟩, l, _, y2, rfl, rfl, mi.gl, by simp, ?_⟩
      rw [List.dropLast_concat]
      have m1 := mi.set st1
      have hy2' := stk_mut (o := .lst vs1) (show Mut (X l) by rw [mi.gl]; trivial) hy2
      generalize upd X l (HO.lst vs1) = X1 at m1 hy2' ⊢
      obtain ⟨vs2, y1, rfl, st2, hy1⟩ := lastP2 m1.st
      refine ⟨.ref l, rfl, .inl ⟨rfl, _, lst_of m1.gl⟩, .ref l, rfl, .inl ⟨rfl, _, lst_of m1.gl⟩, l, _, y1, rfl, rfl, m1.gl, by simp, ?_⟩
      rw [List.dropLast_concat]
      have m2 := m1.set st2
      have hy2'' := stk_mut (o := .lst vs2) (show Mut (X1 l) by rw [m1.gl]; trivial) hy2'
      have hy1' := stk_mut (o := .lst vs2) (show Mut (X1 l) by rw [m1.gl]; trivial) hy1
      generalize upd X1 l (HO.lst vs2) = X2 at m2 hy2'' hy1' ⊢
      refine ⟨y2, rfl, y1, y2, den W a1, den W a2, rfl, hy1'.ints, hy2''.ints, by have := den_len ok a1; omega, by have := den_len ok a2; omega, fun p' X3 s np gp => ?_⟩
      rw [List.length_append, List.length_append] at lv small
      have lv' : vs2.length + 1 + 1 ≤ i := lv
      refine ⟨l, vs2, .ref p', rfl, rfl, s _ _ m2.gl, by omega, vs2 ++ [.ref p'], cs' ++ [.and a1 a2], _, _, rfl, m2.push (c := .and a1 a2) s ⟨p', rfl, .inl ⟨fun z => ?_, lst_of gp⟩⟩, run, by rw [List.length_append]; show vs2.length + 1 ≤ i + 1; omega⟩
      rw [z, m2.gl] at np
      cases np
    | some r c2 =>
      obtain ⟨b, u2, e, hb, h2⟩ := con_some hcx
      cases e
      refine ⟨.ref ca, rfl, ca, _, 0, _, rfl, rfl, hb, atI_nat (j := 0) rfl, rfl, _, rfl, ?_⟩
      rw [sne t_sa]
      refine iteF ⟨.ref ca, rfl, ca, _, 0, _, rfl, rfl, hb, atI_nat (j := 0) rfl, rfl, _, rfl, ?_⟩
      rw [sne t_sn]
      refine iteF ⟨.ref ca, rfl, ca, _, 0, _, rfl, rfl, hb, atI_nat (j := 0) rfl, rfl, _, rfl, ?_⟩
      rw [sne t_sw]
      refine iteF ⟨.ref ca, rfl, ca, _, 0, _, rfl, rfl, hb, atI_nat (j := 0) rfl, rfl, _, rfl, ?_⟩
      rw [sne t_sd]
      obtain ⟨cs', rfl, run⟩ := run
      obtain ⟨vs1, y, rfl, st1, hy⟩ := lastP2 mi.st
      refine iteF ⟨.ref l, rfl, .inl ⟨rfl, _, lst_of mi.gl⟩, .ref d2, rfl, d2, rfl, .inl ⟨kvs2, .inl (mi.g _ _ gd2)⟩, .ref ca, rfl, ca, _, 1, .str r, rfl, rfl, hb, atI_nat (j := 1) rfl, Nat.zero_le _, fun z nz => ?_⟩
      have st := same_up (o := .tup []) nz
      have gd : (upd X z (.tup [])) d2 = some (.dK kvs2) := st _ _ (mi.g _ _ gd2)
      obtain ⟨t, ev, ht⟩ : ∃ t, (valV kvs2 (.inr r)).getD (.ref z) = .ref t ∧ Prs K (upd X z (.tup [])) t (lookR W r) := by
        unfold lookR
        rcases ent_look kr r with ⟨e1, e2⟩ | ⟨t, xs, e1, e2, ht⟩
        · rw [e1, e2]
          exact ⟨z, rfl, [], tupOf upd_same, .nil⟩
        · rw [e1, e2]
          exact ⟨t, rfl, prs_st (Tl.Same.stay (mi.g.trans st)) ht⟩
      have m0 := mi.same st
      have hy0 := stk_same st hy
      generalize upd X z (HO.tup []) = X0' at st gd ht m0 hy0 ⊢
      refine ⟨_, DGet.k (k := .inr r) gd, .ref l, rfl, .inl ⟨rfl, _, lst_of m0.gl⟩, l, _, y, rfl, rfl, m0.gl, by simp, ?_⟩
      rw [List.dropLast_concat]
      obtain ⟨w1, w2, e12, st1', _⟩ := lastP2 m0.st
      have ew := List.append_inj' e12 rfl
      rw [← ew.1] at st1'
      have m1 := m0.set st1'
      have hy1 := stk_mut (o := .lst vs1) (show Mut (X0' l) by rw [m0.gl]; trivial) hy0
      have ht1 := prs_st (stay_mut (o := .lst vs1) (show Mut (X0' l) by rw [m0.gl]; trivial)) ht
      generalize upd X0' l (HO.lst vs1) = X2 at m1 hy1 ht1 ⊢
      have good := lookR_good ok r
      have few' := lex_len (by omega) okm.2 good.1 good.2
      refine ⟨t, y, lookR W r, den W c2, by rw [ev]; rfl, ht1, hy1.ints, by omega, by have := den_len ok c2; omega, fun p' zs X3 s np asc mem gp => ?_⟩
      rw [List.length_append] at lv small
      have lv' : vs1.length + 1 ≤ i := lv
      have ez : zs = den W (.some r c2) := by
        refine asc_eq _ _ asc (den_good ok _).1 fun x => ?_
        rw [mem x]
        show _ ↔ x ∈ (rgI W.many).filter fun x => (lookR W r).any fun e => decide (e.1 = x) && decide (e.2 ∈ den W c2)
        rw [List.mem_filter, mem_rgI]
        constructor
        · intro h
          refine ⟨?_, h⟩
          obtain ⟨e, he, h⟩ := List.any_eq_true.mp h
          rw [Bool.and_eq_true, decide_eq_true_eq] at h
          rw [← h.1]
          exact (good.2 e he).1
        · exact fun h => h.2
      subst ez
      refine ⟨l, vs1, .ref p', rfl, rfl, s _ _ m1.gl, by omega, vs1 ++ [.ref p'], cs' ++ [.some r c2], _, _, rfl, m1.push (c := .some r c2) s ⟨p', rfl, .inl ⟨fun z => ?_, lst_of gp⟩⟩, run, by rw [List.length_append]; show vs1.length + 1 ≤ i + 1; omega⟩
      rw [z, m1.gl] at np
      cases np
  · obtain ⟨vs, cs, t8, t9, rfl, mi, run, lv⟩ := z
    rw [List.drop_of_length_le (by rw [post_len, ← post_len c0, ← hp.length]; exact Nat.le_refl _)] at run
    obtain rfl : cs = [c0] := run
    obtain ⟨vs1, y, rfl, st1, hy⟩ := lastP2 (cs := []) mi.st
    cases st1
    refine ⟨.ref l, rfl, .inl ⟨rfl, _, lst_of mi.gl⟩, l, _, y, rfl, rfl, mi.gl, by simp, ?_⟩
    exact q y _ (s2.trans (same_mut mi.g mi.nl)) (stk_mut (show Mut (X l) by rw [mi.gl]; trivial) hy).ints
end
end K21
set_option Elab.async false
set_option linter.all false
set_option maxRecDepth 100000
set_option maxHeartbeats 1000000
/-! a call with keywords alone -/
namespace Tl
open PySem PySem.Spec PyProof.Rows L2
open C8 (Cal)
section
variable {X : Cx} {CX : CXT} {k : Nat} {f : Addr} {fd : FuncData} {ps ks : List Str} {sp : Sp} {E : XK} {x : Str} {p pos : Pos} {kws : List Keyword} {tk : TA} {g : List Value → List Value → List Value} {gV : List V → List V → List V}
theorem pe_callKw (F : FnOk X.prog X.w X.K X.mg X.base CX k f fd ps sp) (hr : Room k X.A) (hg : Gl X x) (hm : X.mg x = some (.ref f)) (hk : PySem.W.keepIn X.K (.ref f) = true) (hb : KBinds X.K fd ps ks g gV) (hx : Passes CX X E)
    (hkw : PK X kws tk) (hall : (backToKw pos (keywordEach kws X.env)).all (·.1.isSome) = true) (hks : (backToKw pos (keywordEach kws X.env)).filterMap (·.1) = ks)
    (hdb : (x == ("__debug__" : Str)) = false)
    (hpl : ((backTo pos (starEach [] X.env)).any (·.1) || (backToKw pos (keywordEach kws X.env)).any (·.1.isNone)) = false) :
    PE X (.Call (.Name x p) [] kws pos) (tCallK sp gV E tNil tk) := by
  refine ⟨fun pins s σ H Q I h => ?_⟩
  refine wpAny_Call_Name_kw (ld_glob I hg hm ?_ hdb)
  refine PySem.W.callWith_KW0 (h₀ := X.base) I.ok.mod.kin hk hall (thn (hkw.run pos pins s σ H _ I h) fun ws s2 ⟨zs, H2, I2, rz, q2⟩ => ⟨I2.kIn, ?_⟩) hpl
  rw [hks]
  exact run_fnk F hr hb hx I2 .nil rz q2
end
/-- a def with its text: it may be called with keywords too -/
structure CalF (P : Program) (w : World) (K : PySem.W.Frag) (mg : Str → Option Value) (base : Heap) (k : Nat) (x : Str) (st : Stmt) (ps : List Str) (sp : Sp) : Prop where
  ex : ∃ (f : Addr) (fd : FuncData), FnOk P w K mg base CX0 k f fd ps sp ∧ mg x = some (.ref f) ∧ L2.Fun K x x st f fd
section
variable {P : Program} {w : World} {K : PySem.W.Frag} {mg : Str → Option Value} {base : Heap}
theorem calF_of {x : Str} {st : Stmt} {N ps : List Str} {k : Nat} {sp : Sp} (D : DefAt K mg x st) (S : FnScope N ps (defScope st)) (len : ∀ vs H Q E, sp vs H Q E → vs.length = ps.length)
    (body : ∀ (f : Addr) (cdv : Value) (A : Around) (outer : List Env) (s : Shared) (H : Hp) (vs : List V) (Q : VK) (E : XK), Room k (A.deeper (envOfC x (defScope st) s.heap.objs.size f cdv)) → sp vs H Q E →
      ∃ t, PSs (cxOf CX0 P w K mg base N x (defScope st) f cdv A outer s H E).nox (defBody st) t ∧ t { nx := fun _ H' => Q .non H', rt := Q } (start N vs) H) : CalF P w K mg base (k + 1) x st ps sp := by
  obtain ⟨f, fd, F, hm⟩ := D.ex
  exact ⟨f, fd, F.ok S len (fun cdv A outer s H vs Q E hr h => body f cdv A outer s H vs Q E hr h), hm, F⟩
theorem CalF.cal {x : Str} {st : Stmt} {ps : List Str} {k : Nat} {sp : Sp} (c : CalF P w K mg base k x st ps sp) (hb : BindH x st ps) : Cal P w K mg base k x sp [] := by
  obtain ⟨f, fd, F, hm, G⟩ := c.ex
  exact ⟨f, fd, ps, [], F, hm, G.kp, G.binds hb, .nil⟩
abbrev KBindH (x : Str) (st : Stmt) (ps ks : List Str) (g : List Value → List Value → List Value) : Prop := ∀ (kV doc pm : Value) (an : Option Addr) (cdv ct : Value) (us ws : List Value), (g us ws).length = ps.length →
  bindArgs (PySem.W.fnOf x x (defArgs st) (defBody st) (defScope st) .none kV doc pm an cdv ct) ⟨us, ks.zip ws⟩ = pure (ps.zip (g us ws))
theorem kbinds {x : Str} {st : Stmt} {ps ks : List Str} {f : Addr} {fd : FuncData} {g : List Value → List Value → List Value} {gV : List V → List V → List V} (F : L2.Fun K x x st f fd) (hb : KBindH x st ps ks g)
    (rel : ∀ {vs : List V} {us : List Value} {zs : List V} {ws : List Value}, Vals vs us → Vals zs ws → Vals (gV vs zs) (g us ws)) : KBinds K fd ps ks g gV := by
  obtain ⟨oc, od, kV, doc, pm, an, cdv, ct, osl, rfl, lk, hcd⟩ := F.ex
  exact ⟨fun s us ws _ hl => .of_eq (hb kV doc pm an cdv ct us ws hl), rel⟩
end
section
variable {X : Cx} {k j : Nat} {ps ks : List Str} {sp : Sp} {x : Str} {st : Stmt} {p pos : Pos} {kws : List Keyword} {tk : TA} {g : List Value → List Value → List Value} {gV : List V → List V → List V}
theorem pe_ck (c : CalF X.prog X.w X.K X.mg X.base k x st ps sp) (hr : Room j X.A) (hk : k ≤ j) (hg : Gl X x) (hb : KBindH x st ps ks g)
    (rel : ∀ {vs : List V} {us : List Value} {zs : List V} {ws : List Value}, Vals vs us → Vals zs ws → Vals (gV vs zs) (g us ws))
    (hkw : PK X kws tk) (hall : (backToKw pos (keywordEach kws X.env)).all (·.1.isSome) = true := by rfl) (hks : (backToKw pos (keywordEach kws X.env)).filterMap (·.1) = ks := by rfl)
    (hdb : (x == ("__debug__" : Str)) = false := by decide)
    (hpl : ((backTo pos (starEach [] X.env)).any (·.1) || (backToKw pos (keywordEach kws X.env)).any (·.1.isNone)) = false := by rfl) :
    PE X (.Call (.Name x p) [] kws pos) (tCallK sp gV C8.E0 tNil tk) := by
  obtain ⟨f, fd, F, hm, G⟩ := c.ex
  exact pe_callKw F (hr.mono hk) hg hm G.kp (kbinds G hb rel) C8.pass0 hkw hall hks hdb hpl
end
end Tl
set_option Elab.async false
set_option linter.all false
set_option autoImplicit false
set_option maxRecDepth 100000
set_option maxHeartbeats 4000000
namespace K21
open PySem PySem.Spec PyProof.Rows L2 Tl
open C8 (Cal pe_c)
/-- a concept that is right and small, as a value -/
structure Arg (K : PySem.W.Frag) (H : Hp) (u : V) (c : C) : Prop where
  con : Con K H u c
  fit : Fit c
  few : nodes c ≤ 300
theorem Arg.st {K : PySem.W.Frag} {H H' : Hp} {u : V} {c : C} (a : Arg K H u c) (s : Stay H H') : Arg K H' u c := ⟨a.con.st s, a.fit, a.few⟩
theorem Arg.same {K : PySem.W.Frag} {H H' : Hp} {u : V} {c : C} (a : Arg K H u c) (s : L2.Same H H') : Arg K H' u c := a.st (Tl.Same.stay s)
section
variable {P : Program} {w : World} {K : PySem.W.Frag} {mg : Str → Option Value} {base : Heap}
def spThingsIn (K : PySem.W.Frag) : Sp := fun vs H Q _ => ∃ (v u : V) (W : Wd) (c : C), vs = [v, u] ∧ IsWd K H v W ∧ WOk W ∧ Arg K H u c ∧
  ∀ (p : Addr) (H' : Hp), L2.Same H H' → SqT K H' p ((den W c).map V.int) → Q (.ref p) H'
theorem fThingsIn (T : Txt K mg) : CalF P w K mg base 8 "things_in" sThingsIn ["world", "concept"] (spThingsIn K) := by
  refine calF_of T.thingsIn scThingsIn (fun vs H Q E h => ?_) (fun f cdv A outer s H vs Q E hr h => ?_)
  · obtain ⟨v, u, W, c, rfl, _⟩ := h
    rfl
  obtain ⟨v, u, W, c, rfl, hW, ok, a, q⟩ := h
  refine ⟨_, (pss_cons (ps_expr (pe_c (cCheckWorld T) hr (by decide) rfl (pa_cons (pv 0) pa_nil)))
 (pss_cons (ps_expr (pe_c (cCheckConcept T) hr (by decide) rfl (pa_cons (pv 1) pa_nil)))
 (pss_one (ps_ret (pe_callTy call_tuple_of (by rfl) T.tuple (by decide +kernel) (pa_cons (pe_c (cMembers T) hr (by decide) rfl (pa_cons (pv 0) (pa_cons (pv 1) pa_nil))) pa_nil)))))), ?_⟩
  refine ⟨v, rfl, v, W, rfl, hW, ok, fun X1 s1 => ?_⟩
  refine ⟨u, rfl, u, c, rfl, (a.same s1).con, a.fit, a.few, fun X2 s2 => ?_⟩
  refine ⟨v, rfl, u, rfl, v, u, W, c, rfl, iswd_st (Tl.Same.stay (s1.trans s2)) hW, ok, (a.same (s1.trans s2)).con, a.fit, a.few, fun y X3 s3 hy => ?_⟩
  obtain ⟨b, rfl, hb⟩ := hy
  refine ⟨b, (den W c).map V.int, rfl, ?_⟩
  rcases hb with hb | hb
  · refine .inl ⟨hb, fun l nl => q l _ (same_add ((s1.trans s2).trans s3) nl) (tupOf upd_same)⟩
  · exact .inr ⟨hb, q b _ ((s1.trans s2).trans s3) hb⟩
theorem cThingsIn (T : Txt K mg) : Cal P w K mg base 8 "things_in" (spThingsIn K) [] := (fThingsIn T).cal fun _ _ _ _ _ _ us hl => match us, hl with | [_, _], _ => rfl
/-- things_in(concept=c, world=w) -/
def gTI {α : Type} : List α → List α → List α
  | [], [c, w] => [w, c]
  | _, _ => []
theorem kbTI : KBindH "things_in" sThingsIn ["world", "concept"] ["concept", "world"] gTI := fun kV doc pm an cdv ct us ws h => by
  match us, ws, h with
  | [], [_, _], _ => rfl
  | [], [], h => cases h
  | [], [_], h => cases h
  | [], _ :: _ :: _ :: _, h => cases h
  | _ :: _, _, h => cases h
theorem relTI {vs : List V} {us : List Value} {zs : List V} {ws : List Value} (a : Vals vs us) (b : Vals zs ws) : Vals (gTI vs zs) (gTI us ws) := by
  cases a with
  | cons _ _ => exact .nil
  | nil =>
    cases b with
    | nil => exact .nil
    | cons h1 t1 =>
      cases t1 with
      | nil => exact .nil
      | cons h2 t2 =>
        cases t2 with
        | nil => exact .cons h2 (.cons h1 .nil)
        | cons _ _ => exact .nil
end
end K21
set_option Elab.async false
set_option linter.all false
set_option autoImplicit false
set_option maxRecDepth 100000
set_option maxHeartbeats 4000000
namespace Tl
open PySem PySem.Spec PyProof.Rows L2
section
variable {X : Cx} {K : PySem.W.Frag}
theorem op_neDK (hK : X.K = K) (hu : X.A.units + 64 < cLine) : OpR X (compareOp .NotEq) (rNeD K) := by
  subst hK
  exact op_neD hu
theorem op_eqDK (hK : X.K = K) (hu : X.A.units + 64 < cLine) : OpR X (compareOp .Eq) (rEqD K) := by
  subst hK
  exact op_eqD hu
theorem pi_tupK {tg l : Expr} {tl : TE} (hK : X.K = K) (hl : PE X l tl) : PI X tg l (iTup K tl) := by
  subst hK
  exact pi_tup hl
end
end Tl
namespace K21
open PySem PySem.Spec PyProof.Rows L2 Tl
open C8 (Cal pe_c)
theorem filt_any {α : Type} (p : α → Bool) (l : List α) : (!(l.filter p).isEmpty) = l.any p := by
  induction l with
  | nil => rfl
  | cons x l ih =>
    rw [List.any_cons, List.filter_cons]
    cases h : p x with
    | true => simp
    | false => simpa using ih
/-- what x is tied to -/
def tied (W : Wd) (r : Str) (x : Int) : List Int := ((lookR W r).filter fun e => decide (e.1 = x)).map (·.2)
section
variable {P : Program} {w : World} {K : PySem.W.Frag} {mg : Str → Option Value} {base : Heap}
def spTied2 (K : PySem.W.Frag) : Sp := fun vs H Q _ => ∃ (v : V) (W : Wd) (r : Str) (x : Int), vs = [v, .str r, .int x] ∧ IsWd K H v W ∧ WOk W ∧
  ∀ (p : Addr) (H' : Hp), L2.Same H H' → H p = none → H' p = some (.lst ((tied W r x).map V.int)) → Q (.ref p) H'
theorem cLawTied (T : Txt K mg) : Cal P w K mg base 1 "_law_tied" (spTied2 K) [] := by
  refine cal_of T.lawTied scLawTied (fun _ _ _ _ _ _ us hl => match us, hl with | [_, _, _], _ => rfl) (fun vs H Q E h => ?_) (fun f cdv A outer s H vs Q E hr h => ?_)
  · obtain ⟨v, W, r, x, rfl, _⟩ := h
    rfl
  obtain ⟨v, W, r, x, rfl, hW, ok, q⟩ := h
  have hu := hu_of hr
  refine ⟨_, (pss_one (ps_ret (pe_lc (own := [("pair", 3)]) (by rfl) scLawTied.nd (pi_tup (pe_dget2 hu (pe_callTy (cr_dctT rfl) (by rfl) T.dict (by decide +kernel) (pa_cons (pe_ix ix_tup (pv 0) pe_int (fun _ _ => rfl)) pa_nil)) (pv 1) (pe_tup pa_nil) ⟨rfl, rfl, rfl, rfl⟩)) (blkOk_by (own := [("pair", 3)]) (N := ["world", "role", "x", "pair"]) (sc := defScope sLawTied) (by decide +kernel)) (fun _ _ _ _ _ => (pg_name (i := 3) scLawTied.nd rfl (.inl rfl))) (fun _ _ _ _ _ => pts_one (pt_cmpR op_eq (pe_ix (ix_tupK (K := K) rfl) (pv 3) pe_int (fun _ _ => rfl)) (pv 2) (nomark _))) (fun _ _ _ _ _ => (pe_ix (ix_tupK (K := K) rfl) (pv 3) pe_int (fun _ _ => rfl)))))), ?_⟩
  obtain ⟨wa, na, ra, rfl, hw, hN, hR⟩ := hW
  have okm := ok.many
  obtain ⟨ps, ⟨oo, fz, no⟩, hps⟩ := hR
  obtain ⟨kvs, hk1, hk2⟩ := ent_of_roles hps
  refine ⟨.ref wa, rfl, wa, _, 2, .ref ra, rfl, rfl, hw, atI_nat (j := 2) rfl, ra, oo, ps, kvs, rfl, fz, no, hk1, fun d nd => ?_⟩
  rw [merged_ent hk2 ok.roles.1]
  have s1 := same_up (o := .dK kvs) nd
  refine ⟨d, rfl, .inl ⟨kvs, .inl upd_same⟩, .str r, rfl, Nat.zero_le _, fun z nz => ?_⟩
  have s2 := same_add s1 (o := .tup []) nz
  have gd : (upd (upd H d (.dK kvs)) z (.tup [])) d = some (.dK kvs) := (same_up nz) _ _ upd_same
  obtain ⟨t, qs, ev, ht, hqs⟩ : ∃ (t : Addr) (qs : List Addr), (valV kvs (.inr r)).getD (.ref z) = .ref t ∧ SqT K (upd (upd H d (.dK kvs)) z (.tup [])) t (qs.map V.ref) ∧
      Paired (PrE K (upd (upd H d (.dK kvs)) z (.tup []))) qs (lookR W r) := by
    unfold lookR
    rcases ent_look hk2 r with ⟨e1, e2⟩ | ⟨t, es, e1, e2, qs, h3, h4⟩
    · rw [e1, e2]
      exact ⟨z, [], rfl, tupOf upd_same, .nil⟩
    · rw [e1, e2]
      exact ⟨t, qs, rfl, (Tl.Same.stay s2).tup h3, Paired.mapP h4 fun _ _ z => pre_st (Tl.Same.stay s2) z⟩
  refine ⟨_, DGet.k (k := .inr r) gd, t, ev, ⟨_, ht⟩, fun D nD => ?_⟩
  generalize (upd (upd H d (.dK kvs)) z (.tup [])) = G at ht hqs nD s2 ⊢
  have D0 := s2.free nD
  have good := lookR_good ok r
  have few := lex_len (by omega) okm.2 good.1 good.2
  have lq := Paired.length hqs
  refine lc_tup (K := K) (a := t) (xs := qs.map V.ref) (fun i X => L2.Same G X ∧ X D = some (.lst (((((lookR W r).take i).filter fun e => decide (e.1 = x)).map (·.2)).map V.int)))
    ⟨same_up nD, upd_same⟩ (fun i X _ z => (Tl.Same.stay z.1).tup ht) (fun i y X hx z => ?_) (fun X z => ?_)
  · obtain ⟨sX, gX⟩ := z
    obtain ⟨qa, hqa, rfl⟩ : ∃ m, qs[i]? = some m ∧ y = V.ref m := by
      rw [List.getElem?_map] at hx
      obtain ⟨m, h, e⟩ := Option.map_eq_some_iff.mp hx
      exact ⟨m, h, e.symm⟩
    obtain ⟨e, he, hpe⟩ := getP hqs hqa
    have hq := (Tl.Same.stay sX).tup hpe
    have htk : (lookR W r).take (i + 1) = (lookR W r).take i ++ [e] := by rw [List.take_add_one, he]; rfl
    refine ⟨rfl, .ref qa, rfl, qa, _, 0, _, rfl, rfl, hq, atI_nat (j := 0) rfl, .int x, rfl, rfl, _, rfl, ite2 (fun c => ?_) (fun c => ?_)⟩
    · have c : e.1 = x := V.int.inj (of_decide_eq_true c)
      refine ⟨.ref qa, rfl, qa, _, 1, _, rfl, rfl, hq, atI_nat (j := 1) rfl, _, gX, ?_, same_mut sX nD, ?_⟩
      · rw [List.length_map, List.length_map]
        refine Nat.lt_of_le_of_lt (Nat.le_trans (List.length_filter_le _ _) ?_) (show 100 < sizeLine by decide)
        rw [List.length_take]
        omega
      · rw [upd_same, htk, List.filter_append, List.map_append, List.map_append, List.filter_cons, if_pos (decide_eq_true c)]
        rfl
    · have c : ¬ e.1 = x := fun z => c (decide_eq_true (by rw [z]))
      refine ⟨sX, ?_⟩
      rw [htk, List.filter_append, List.filter_cons, if_neg (by simpa using c), gX]
      simp
  · obtain ⟨sX, gX⟩ := z
    rw [List.length_map, lq, List.take_of_length_le (Nat.le_refl _)] at gX
    exact q D X (s2.trans sX) D0 gX
end
end K21
set_option Elab.async false
set_option linter.all false
set_option autoImplicit false
set_option maxRecDepth 100000
set_option maxHeartbeats 4000000
namespace K21
open PySem PySem.Spec PyProof.Rows L2 Tl
open C8 (Cal pe_c)
theorem rgI_at {n : Int} {i : Nat} (h : i < n.toNat) : (rgI n)[i]? = some (i : Int) := by
  unfold rgI
  rw [List.getElem?_map, List.getElem?_range h]
  rfl
theorem rgI_len (n : Int) : (rgI n).length = n.toNat := by
  unfold rgI
  rw [List.length_map, List.length_range]
theorem tied_any (W : Wd) (r : Str) (x : Int) (ns : List Int) : ((tied W r x).any fun y => decide (y ∈ ns)) = (lookR W r).any fun e => decide (e.1 = x) && decide (e.2 ∈ ns) := by
  unfold tied
  rw [List.any_map, List.any_filter]
  rfl
theorem lnil_ne (xs : List Int) : (!PyData.eqv (.list (xs.map PyData.int)) (.list [])) = !xs.isEmpty := by
  cases xs <;> simp [PyData.eqv, PyData.eqvAll]
section
variable {P : Program} {w : World} {K : PySem.W.Frag} {mg : Str → Option Value} {base : Heap}
def spIn (K : PySem.W.Frag) (n : Nat) : Sp := fun vs H Q _ => ∃ (v u : V) (W : Wd) (c : C), vs = [v, u] ∧ IsWd K H v W ∧ WOk W ∧ Con K H u c ∧ dep c ≤ n ∧
  ∀ (p : Addr) (H' : Hp), L2.Same H H' → H p = none → H' p = some (.lst ((den W c).map V.int)) → Q (.ref p) H'
theorem cIn1 (T : Txt K mg) (n : Nat) (ih : Cal P w K mg base (n + 1) "_law_in" (spIn K n) []) : Cal P w K mg base (n + 2) "_law_in" (spIn K (n + 1)) [] := by
  refine cal_of T.lawIn scLawIn (fun _ _ _ _ _ _ us hl => match us, hl with | [_, _], _ => rfl) (fun vs H Q E h => ?_) (fun f cdv A outer s H vs Q E hr h => ?_)
  · obtain ⟨v, u, W, c, rfl, _⟩ := h
    rfl
  obtain ⟨v, u, W, c, rfl, hW, ok, hc, hd, q⟩ := h
  have hu := hu_of hr
  have hu64 := hr.units
  refine ⟨_, (pss_cons (ps_if (pt_cmpR op_eq (pe_ix ix_tup (pv 1) pe_int (fun _ _ => rfl)) pe_str (nomark _))
 (pss_one (ps_ret (pe_callTy call_list_of (by rfl) T.list (by decide +kernel) (pa_cons (pe_dget2 hu (pe_callTy (cr_dctT rfl) (by rfl) T.dict (by decide +kernel) (pa_cons (pe_ix ix_tup (pv 0) pe_int (fun _ _ => rfl)) pa_nil)) (pe_ix ix_tup (pv 1) pe_int (fun _ _ => rfl)) (pe_tup pa_nil) ⟨rfl, rfl, rfl, rfl⟩) pa_nil))))
 pss_nil)
 (pss_cons (ps_if (pt_cmpR op_eq (pe_ix ix_tup (pv 1) pe_int (fun _ _ => rfl)) pe_str (nomark _))
 (pss_cons (ps_set (i := 2) scLawIn.nd rfl (.inr rfl) (pe_c ih hr (by omega) rfl (pa_cons (pv 0) (pa_cons (pe_ix ix_tup (pv 1) pe_int (fun _ _ => rfl)) pa_nil))))
 (pss_one (ps_ret (pe_lc (own := [("x", 3)]) (by rfl) scLawIn.nd (pi_list (pe_c ih hr (by omega) rfl (pa_cons (pv 0) (pa_cons (pe_ix ix_tup (pv 1) pe_int (fun _ _ => rfl)) pa_nil)))) (blkOk_by (own := [("x", 3)]) (N := ["world", "concept", "far", "x", "inner", "y"]) (sc := defScope sLawIn) (by decide +kernel)) (fun _ _ _ _ _ => (pg_name (i := 3) scLawIn.nd rfl (.inl rfl))) (fun _ _ _ _ _ => pts_one (pt_cmpR (op_inK (K := K) rfl) (pv 3) (pv 2) rfl)) (fun _ _ _ _ _ => (pv 3))))))
 pss_nil)
 (pss_cons (ps_if (pt_cmpR op_eq (pe_ix ix_tup (pv 1) pe_int (fun _ _ => rfl)) pe_str (nomark _))
 (pss_cons (ps_set (i := 4) scLawIn.nd rfl (.inr rfl) (pe_c ih hr (by omega) rfl (pa_cons (pv 0) (pa_cons (pe_ix ix_tup (pv 1) pe_int (fun _ _ => rfl)) pa_nil))))
 (pss_one (ps_ret (pe_lc (own := [("x", 3)]) (by rfl) scLawIn.nd (pi_range1 rfl T.range (pa_cons (pe_ix ix_tup (pv 0) pe_int (fun _ _ => rfl)) pa_nil)) (blkOk_by (own := [("x", 3)]) (N := ["world", "concept", "far", "x", "inner", "y"]) (sc := defScope sLawIn) (by decide +kernel)) (fun _ _ _ _ _ => (pg_name (i := 3) scLawIn.nd rfl (.inl rfl))) (fun _ _ _ _ _ => pts_one (pt_cmpR (op_neDK (K := K) rfl hu64) (pe_lc (own := [("y", 5)]) (by rfl) scLawIn.nd (pi_seq (K := K) rfl (pe_c (cLawTied T) hr (by omega) rfl (pa_cons (pv 0) (pa_cons (pe_ix (ix_tupK (K := K) rfl) (pv 1) pe_int (fun _ _ => rfl)) (pa_cons (pv 3) pa_nil))))) (by exact blkOk_by (own := [("y", 5)]) (N := ["world", "concept", "far", "x", "inner", "y"]) (by rfl)) (fun _ _ _ _ _ => (pg_name (i := 5) scLawIn.nd rfl (.inl rfl))) (fun _ _ _ _ _ => pts_one (pt_cmpR (op_inK (K := K) rfl) (pv 5) (pv 4) rfl)) (fun _ _ _ _ _ => (pv 5))) (pe_lst pa_nil) (nomark _))) (fun _ _ _ _ _ => (pv 3))))))
 pss_nil)
 (pss_one (ps_ret (pe_ifExp (pt_cmpR op_eq (pe_ix ix_tup (pv 1) pe_int (fun _ _ => rfl)) pe_str (nomark _)) (pe_listRg rfl rfl T.list (prg_1 rfl T.range (pe_ix ix_tup (pv 0) pe_int (fun _ _ => rfl)))) (pe_lst pa_nil))))))), ?_⟩
  obtain ⟨wa, na, ra, rfl, hw, hN, hR⟩ := hW
  have hWd : IsWd K H (.ref wa) W := ⟨wa, na, ra, rfl, hw, hN, hR⟩
  obtain ⟨ca, cxs, rfl, hca⟩ := con_ref hc
  have okm := ok.many
  cases c with
  | all =>
    obtain ⟨a, e, ha⟩ := con_all hc
    cases e
    refine ⟨.ref ca, rfl, ca, _, 0, _, rfl, rfl, ha, atI_nat (j := 0) rfl, rfl, _, rfl, ?_⟩
    rw [sne (show ¬ ("all" : Str) = "word" by decide +kernel)]
    refine iteF ⟨.ref ca, rfl, ca, _, 0, _, rfl, rfl, ha, atI_nat (j := 0) rfl, rfl, _, rfl, ?_⟩
    rw [sne (show ¬ ("all" : Str) = "and" by decide +kernel)]
    refine iteF ⟨.ref ca, rfl, ca, _, 0, _, rfl, rfl, ha, atI_nat (j := 0) rfl, rfl, _, rfl, ?_⟩
    rw [sne (show ¬ ("all" : Str) = "some" by decide +kernel)]
    refine iteF ⟨.ref ca, rfl, ca, _, 0, _, rfl, rfl, ha, atI_nat (j := 0) rfl, rfl, _, rfl, ?_⟩
    rw [seq]
    refine iteT ⟨.ref wa, rfl, wa, _, 0, .int W.many, rfl, rfl, hw, atI_nat (j := 0) rfl, W.many, rfl, RgOk.of_le (by omega) (by omega) (by omega) (by omega), fun p np => q p _ (same_up np) np ?_⟩
    rw [upd_same, rgV_eq]
    rfl
  | non =>
    obtain ⟨a, e, ha⟩ := con_non hc
    cases e
    refine ⟨.ref ca, rfl, ca, _, 0, _, rfl, rfl, ha, atI_nat (j := 0) rfl, rfl, _, rfl, ?_⟩
    rw [sne (show ¬ ("none" : Str) = "word" by decide +kernel)]
    refine iteF ⟨.ref ca, rfl, ca, _, 0, _, rfl, rfl, ha, atI_nat (j := 0) rfl, rfl, _, rfl, ?_⟩
    rw [sne (show ¬ ("none" : Str) = "and" by decide +kernel)]
    refine iteF ⟨.ref ca, rfl, ca, _, 0, _, rfl, rfl, ha, atI_nat (j := 0) rfl, rfl, _, rfl, ?_⟩
    rw [sne (show ¬ ("none" : Str) = "some" by decide +kernel)]
    refine iteF ⟨.ref ca, rfl, ca, _, 0, _, rfl, rfl, ha, atI_nat (j := 0) rfl, rfl, _, rfl, ?_⟩
    rw [sne t_na]
    exact iteF ⟨Nat.zero_le _, fun p np => q p _ (same_up np) np upd_same⟩
  | word x =>
    obtain ⟨a, e, ha⟩ := con_word hc
    cases e
    refine ⟨.ref ca, rfl, ca, _, 0, _, rfl, rfl, ha, atI_nat (j := 0) rfl, rfl, _, rfl, ?_⟩
    rw [seq]
    obtain ⟨ps, ⟨oo, fz, no⟩, hps⟩ := hN
    obtain ⟨kvs, hk1, hk2⟩ := ent_of_names hps
    refine iteT ⟨.ref wa, rfl, wa, _, 1, .ref na, rfl, rfl, hw, atI_nat (j := 1) rfl, na, oo, ps, kvs, rfl, fz, no, hk1, fun d nd => ?_⟩
    rw [merged_ent hk2 ok.names.1]
    have s2 := same_up (o := .dK kvs) nd
    refine ⟨d, rfl, .inl ⟨kvs, .inl upd_same⟩, .ref ca, rfl, ca, _, 1, .str x, rfl, rfl, (Tl.Same.stay s2).tup ha, atI_nat (j := 1) rfl, Nat.zero_le _, fun z nz => ?_⟩
    have s3 := same_add s2 (o := .tup []) nz
    have gd : (upd (upd H d (.dK kvs)) z (.tup [])) d = some (.dK kvs) := (same_up nz) _ _ upd_same
    refine ⟨_, DGet.k (k := .inr x) gd, ?_⟩
    rcases ent_look hk2 x with ⟨e1, e2⟩ | ⟨t, xs, e1, e2, ht⟩
    · rw [e1]
      refine ⟨z, [], rfl, .inr (tupOf upd_same), fun p np => q p _ (same_add s3 np) (s3.free np) ?_⟩
      rw [upd_same]
      show some (HO.lst []) = some (HO.lst ((lookN W x).map V.int))
      unfold lookN
      rw [e2]
      rfl
    · rw [e1]
      refine ⟨t, _, rfl, .inr ((Tl.Same.stay s3).tup ht), fun p np => q p _ (same_add s3 np) (s3.free np) ?_⟩
      rw [upd_same]
      show some (HO.lst _) = some (HO.lst ((lookN W x).map V.int))
      unfold lookN
      rw [e2]
      rfl
  | and c1 c2 =>
    obtain ⟨a, u1, u2, e, ha, h1, h2⟩ := con_and hc
    cases e
    refine ⟨.ref ca, rfl, ca, _, 0, _, rfl, rfl, ha, atI_nat (j := 0) rfl, rfl, _, rfl, ?_⟩
    rw [sne t_dw]
    refine iteF ⟨.ref ca, rfl, ca, _, 0, _, rfl, rfl, ha, atI_nat (j := 0) rfl, rfl, _, rfl, ?_⟩
    rw [seq]
    have hd : Nat.max (dep c1) (dep c2) + 1 ≤ n + 1 := hd
    have hm := Nat.max_le.mp (Nat.le_of_succ_le_succ hd)
    refine iteT ⟨.ref wa, rfl, .ref ca, rfl, ca, _, 2, u2, rfl, rfl, ha, atI_nat (j := 2) rfl, .ref wa, u2, W, c2, rfl, hWd, ok, h2, hm.2, fun p2 G s2 n2 g2 => ?_⟩
    refine ⟨.ref wa, rfl, .ref ca, rfl, ca, _, 1, u1, rfl, rfl, (Tl.Same.stay s2).tup ha, atI_nat (j := 1) rfl, .ref wa, u1, W, c1, rfl, iswd_st (Tl.Same.stay s2) hWd, ok, h1.st (Tl.Same.stay s2), hm.1, fun p1 G1 s1 n1 g1 => ?_⟩
    refine ⟨p1, rfl, ⟨_, lst_of g1⟩, fun D nD => ?_⟩
    have D0 : H D = none := (s2.trans s1).free nD
    refine lc_list (K := K) (a := p1) (xs := (den W c1).map V.int) (fun i X => L2.Same G1 X ∧ X D = some (.lst ((((den W c1).take i).filter fun x => decide (x ∈ den W c2)).map V.int)))
      ⟨same_up nD, upd_same⟩ (fun i X _ z => z.1.seq (lst_of g1)) (fun i x X hx z => ?_) (fun X z => ?_)
    · obtain ⟨sX, gX⟩ := z
      obtain ⟨y, hy, rfl⟩ : ∃ y, (den W c1)[i]? = some y ∧ x = V.int y := by
        rw [List.getElem?_map] at hx
        obtain ⟨y, h, e⟩ := Option.map_eq_some_iff.mp hx
        exact ⟨y, h, e.symm⟩
      refine ⟨rfl, .int y, rfl, .ref p2, rfl, p2, _, rfl, .inl (lst_of (sX _ _ (s1 _ _ g2))), rfl, flat_ints _, _, rfl, ?_⟩
      show if inV (.int y) ((den W c2).map V.int) = true then _ else _
      rw [inV_int]
      have ht : (den W c1).take (i + 1) = (den W c1).take i ++ [y] := by rw [List.take_add_one, hy]; rfl
      refine ite2 (fun yes => ?_) (fun no => ?_)
      · refine ⟨.int y, rfl, _, gX, ?_, same_mut sX nD, ?_⟩
        · rw [List.length_map]
          refine Nat.lt_of_le_of_lt (Nat.le_trans (List.length_filter_le _ _) ?_) (show 100 < sizeLine by decide)
          rw [List.length_take]
          have := den_len ok c1
          omega
        · rw [upd_same, ht, List.filter_append, List.map_append, List.filter_cons, if_pos yes]
          rfl
      · refine ⟨sX, ?_⟩
        rw [ht, List.filter_append, List.filter_cons, if_neg no]
        rw [gX]
        simp
    · obtain ⟨sX, gX⟩ := z
      rw [List.length_map, List.take_of_length_le (Nat.le_refl _)] at gX
      exact q D X ((s2.trans s1).trans sX) D0 gX
  | some r c2 =>
    obtain ⟨a, u2, e, ha, h2⟩ := con_some hc
    cases e
    refine ⟨.ref ca, rfl, ca, _, 0, _, rfl, rfl, ha, atI_nat (j := 0) rfl, rfl, _, rfl, ?_⟩
    rw [sne t_sw]
    refine iteF ⟨.ref ca, rfl, ca, _, 0, _, rfl, rfl, ha, atI_nat (j := 0) rfl, rfl, _, rfl, ?_⟩
    rw [sne t_sd]
    refine iteF ⟨.ref ca, rfl, ca, _, 0, _, rfl, rfl, ha, atI_nat (j := 0) rfl, rfl, _, rfl, ?_⟩
    rw [seq]
    have hd : dep c2 + 1 ≤ n + 1 := hd
    refine iteT ⟨.ref wa, rfl, .ref ca, rfl, ca, _, 2, u2, rfl, rfl, ha, atI_nat (j := 2) rfl, .ref wa, u2, W, c2, rfl, hWd, ok, h2, Nat.le_of_succ_le_succ hd, fun p2 G s2 n2 g2 => ?_⟩
    refine ⟨.ref wa, rfl, wa, _, 0, .int W.many, rfl, rfl, (Tl.Same.stay s2).tup hw, atI_nat (j := 0) rfl, W.many, rfl, by omega, by omega, fun D nD => ?_⟩
    have D0 := s2.free nD
    let F : Int → Bool := fun x => (lookR W r).any fun e => decide (e.1 = x) && decide (e.2 ∈ den W c2)
    have good := lookR_good ok r
    have few := lex_len (by omega) okm.2 good.1 good.2
    refine lc_range (lo := 0) (n := W.many.toNat) (fun i X => L2.Same G X ∧ X D = some (.lst ((((rgI W.many).take i).filter F).map V.int)))
      ⟨same_up nD, upd_same⟩ (fun i X hi z => ?_) (fun X z => ?_)
    · obtain ⟨sX, gX⟩ := z
      have htk : (rgI W.many).take (i + 1) = (rgI W.many).take i ++ [(i : Int)] := by rw [List.take_add_one, rgI_at hi]; rfl
      refine ⟨rfl, .ref wa, rfl, .ref ca, rfl, ca, _, 1, .str r, rfl, rfl, (Tl.Same.stay (s2.trans sX)).tup ha, atI_nat (j := 1) rfl, _, rfl, .ref wa, W, r, _, rfl, iswd_st (Tl.Same.stay (s2.trans sX)) hWd, ok, fun p3 X3 s3 n3 g3 => ?_⟩
      refine ⟨p3, _, rfl, .inl (lst_of g3), fun J fc D2 nD2 => ?_⟩
      have lt : (tied W r (0 + (i : Int))).length ≤ 36 := by
        unfold tied
        rw [List.length_map]
        exact Nat.le_trans (List.length_filter_le _ _) few
      refine lc_it (n := ((tied W r (0 + (i : Int))).map V.int).length) (fun j Y => L2.Same X3 Y ∧ Y D2 = some (.lst ((((tied W r (0 + (i : Int))).take j).filter fun y => decide (y ∈ den W c2)).map V.int))) ⟨same_up nD2, upd_same⟩
        (fun j Y hj z => (fc Y z.1).go j hj) (fun Y z => (fc Y z.1).stop) (fun j x Y Y' hj z y => ?_) (fun Y z => ?_)
      · obtain ⟨sY, gY⟩ := z
        obtain ⟨rfl, hx⟩ := (fc Y sY).yld j x Y' y
        obtain ⟨m, hm, rfl⟩ : ∃ m, (tied W r (0 + (i : Int)))[j]? = some m ∧ x = V.int m := by
          rw [List.getElem?_map] at hx
          obtain ⟨m, h, e⟩ := Option.map_eq_some_iff.mp hx
          exact ⟨m, h, e.symm⟩
        have ht2 : (tied W r (0 + (i : Int))).take (j + 1) = (tied W r (0 + (i : Int))).take j ++ [m] := by rw [List.take_add_one, hm]; rfl
        refine ⟨rfl, .int m, rfl, .ref p2, rfl, p2, _, rfl, .inl (lst_of ((sX.trans (s3.trans sY)) _ _ g2)), rfl, flat_ints _, _, rfl, ?_⟩
        show if inV (.int m) ((den W c2).map V.int) = true then _ else _
        rw [inV_int]
        refine ite2 (fun yes => ?_) (fun no => ?_)
        · refine ⟨.int m, rfl, _, gY, ?_, same_mut sY nD2, ?_⟩
          · rw [List.length_map]
            refine Nat.lt_of_le_of_lt (Nat.le_trans (List.length_filter_le _ _) ?_) (show 100 < sizeLine by decide)
            rw [List.length_take]
            omega
          · rw [upd_same, ht2, List.filter_append, List.map_append, List.filter_cons, if_pos yes]
            rfl
        · refine ⟨sY, ?_⟩
          rw [ht2, List.filter_append, List.filter_cons, if_neg no, gY]
          simp
      · obtain ⟨sY, gY⟩ := z
        rw [List.length_map, List.take_of_length_le (Nat.le_refl _)] at gY
        refine ⟨Nat.zero_le _, fun z nz => ?_⟩
        have sz := same_up (o := .lst []) nz
        refine ⟨.list (((tied W r (0 + (i : Int))).filter fun y => decide (y ∈ den W c2)).map PyData.int), .list [], .lst (lst_of (sz _ _ gY)) (dp_ints _), .lst (lst_of upd_same) .nil, shaped_ints _, shaped_nil, _, rfl, ?_⟩
        rw [lnil_ne, filt_any, tied_any]
        have sA : L2.Same X (upd Y z (.lst [])) := s3.trans (sY.trans sz)
        have gD : (upd Y z (.lst [])) D = _ := sA _ _ gX
        have eF : F (i : Int) = (lookR W r).any fun e => decide (e.1 = 0 + (i : Int)) && decide (e.2 ∈ den W c2) := by rw [Int.zero_add]
        rw [← eF]
        refine ite2 (fun yes => ?_) (fun no => ?_)
        · refine ⟨_, rfl, _, gD, ?_, same_mut (sX.trans sA) nD, ?_⟩
          · rw [List.length_map]
            refine Nat.lt_of_le_of_lt (Nat.le_trans (List.length_filter_le _ _) ?_) (show 100 < sizeLine by decide)
            rw [List.length_take]
            omega
          · rw [upd_same, htk, List.filter_append, List.map_append, List.filter_cons, if_pos yes, Int.zero_add]
            rfl
        · refine ⟨sX.trans sA, ?_⟩
          rw [htk, List.filter_append, List.filter_cons, if_neg no, gD]
          simp
    · obtain ⟨sX, gX⟩ := z
      rw [← rgI_len, List.take_of_length_le (Nat.le_refl _)] at gX
      exact q D X (s2.trans sX) D0 gX
theorem cLawIn (T : Txt K mg) : ∀ n : Nat, Cal P w K mg base (n + 1) "_law_in" (spIn K n) []
  | 0 => calUp (calWeak (cal_false T.lawIn (ps := ["world", "concept"]) (fun _ _ _ _ _ _ us hl => match us, hl with | [_, _], _ => rfl)) fun vs H Q E h => by
    obtain ⟨_, _, _, c, _, _, _, _, hd, _⟩ := h
    have := dep_pos c
    omega) (Nat.zero_le _)
  | n + 1 => cIn1 T n (cLawIn T n)
end
end K21
set_option Elab.async false
set_option linter.all false
set_option autoImplicit false
set_option maxRecDepth 100000
set_option maxHeartbeats 4000000
namespace K21
open PySem PySem.Spec PyProof.Rows L2 Tl
open C8 (Cal pe_c)
def csz : C → Nat
  | .and a b => csz a + csz b
  | .some _ c => 1 + csz c
  | _ => 1
def cst : C → Nat
  | .and a b => 1 + cst a + cst b
  | .some _ c => 1 + cst c
  | .all => 0
  | _ => 1
section
variable {P : Program} {w : World} {K : PySem.W.Frag} {mg : Str → Option Value} {base : Heap}
def spSz (K : PySem.W.Frag) (n : Nat) : Sp := fun vs H Q _ => ∃ (u : V) (c : C), vs = [u] ∧ Con K H u c ∧ dep c ≤ n ∧ Q (.int (csz c)) H
def spSt (K : PySem.W.Frag) (n : Nat) : Sp := fun vs H Q _ => ∃ (u : V) (c : C), vs = [u] ∧ Con K H u c ∧ dep c ≤ n ∧ Q (.int (cst c)) H
theorem cSz1 (T : Txt K mg) (n : Nat) (ih : Cal P w K mg base n "_law_size" (spSz K n) []) : Cal P w K mg base (n + 1) "_law_size" (spSz K (n + 1)) [] := by
  refine cal_of T.lawSize scLawSize (fun _ _ _ _ _ _ us hl => match us, hl with | [_], _ => rfl) (fun vs H Q E h => ?_) (fun f cdv A outer s H vs Q E hr h => ?_)
  · obtain ⟨u, c, rfl, _⟩ := h
    rfl
  obtain ⟨u, c, rfl, hc, hd, q⟩ := h
  refine ⟨_, (pss_cons (ps_if (pt_cmpR op_eq (pe_ix ix_tup (pv 0) pe_int (fun _ _ => rfl)) pe_str (nomark _))
 (pss_one (ps_ret (pe_op op_add (pe_c ih hr (Nat.le_refl _) rfl (pa_cons (pe_ix ix_tup (pv 0) pe_int (fun _ _ => rfl)) pa_nil)) (pe_c ih hr (Nat.le_refl _) rfl (pa_cons (pe_ix ix_tup (pv 0) pe_int (fun _ _ => rfl)) pa_nil)))))
 pss_nil)
 (pss_one (ps_ret (pe_ifExp (pt_cmpR op_eq (pe_ix ix_tup (pv 0) pe_int (fun _ _ => rfl)) pe_str (nomark _)) (pe_op op_add pe_int (pe_c ih hr (Nat.le_refl _) rfl (pa_cons (pe_ix ix_tup (pv 0) pe_int (fun _ _ => rfl)) pa_nil))) pe_int)))), ?_⟩
  obtain ⟨ca, cxs, rfl, hca⟩ := con_ref hc
  cases c with
  | all =>
    obtain ⟨a, e, ha⟩ := con_all hc
    cases e
    refine ⟨.ref ca, rfl, ca, _, 0, _, rfl, rfl, ha, atI_nat (j := 0) rfl, rfl, _, rfl, ?_⟩
    rw [sne (show ¬ ("all" : Str) = "and" by decide +kernel)]
    refine iteF ⟨.ref ca, rfl, ca, _, 0, _, rfl, rfl, ha, atI_nat (j := 0) rfl, rfl, _, rfl, ?_⟩
    rw [sne (show ¬ ("all" : Str) = "some" by decide +kernel)]
    exact iteF q
  | non =>
    obtain ⟨a, e, ha⟩ := con_non hc
    cases e
    refine ⟨.ref ca, rfl, ca, _, 0, _, rfl, rfl, ha, atI_nat (j := 0) rfl, rfl, _, rfl, ?_⟩
    rw [sne (show ¬ ("none" : Str) = "and" by decide +kernel)]
    refine iteF ⟨.ref ca, rfl, ca, _, 0, _, rfl, rfl, ha, atI_nat (j := 0) rfl, rfl, _, rfl, ?_⟩
    rw [sne (show ¬ ("none" : Str) = "some" by decide +kernel)]
    exact iteF q
  | word x =>
    obtain ⟨a, e, ha⟩ := con_word hc
    cases e
    refine ⟨.ref ca, rfl, ca, _, 0, _, rfl, rfl, ha, atI_nat (j := 0) rfl, rfl, _, rfl, ?_⟩
    rw [sne (show ¬ ("word" : Str) = "and" by decide +kernel)]
    refine iteF ⟨.ref ca, rfl, ca, _, 0, _, rfl, rfl, ha, atI_nat (j := 0) rfl, rfl, _, rfl, ?_⟩
    rw [sne (show ¬ ("word" : Str) = "some" by decide +kernel)]
    exact iteF q
  | and c1 c2 =>
    obtain ⟨a, u1, u2, e, ha, h1, h2⟩ := con_and hc
    cases e
    have hd : Nat.max (dep c1) (dep c2) + 1 ≤ n + 1 := hd
    have hm := Nat.max_le.mp (Nat.le_of_succ_le_succ hd)
    refine ⟨.ref ca, rfl, ca, _, 0, _, rfl, rfl, ha, atI_nat (j := 0) rfl, rfl, _, rfl, ?_⟩
    rw [seq]
    refine iteT ⟨.ref ca, rfl, ca, _, 1, u1, rfl, rfl, ha, atI_nat (j := 1) rfl, u1, c1, rfl, h1, hm.1, .ref ca, rfl, ca, _, 2, u2, rfl, rfl, ha, atI_nat (j := 2) rfl, u2, c2, rfl, h2, hm.2, _, _, rfl, rfl, ?_⟩
    exact q
  | some r c2 =>
    obtain ⟨a, u2, e, ha, h2⟩ := con_some hc
    cases e
    have hd : dep c2 + 1 ≤ n + 1 := hd
    refine ⟨.ref ca, rfl, ca, _, 0, _, rfl, rfl, ha, atI_nat (j := 0) rfl, rfl, _, rfl, ?_⟩
    rw [sne t_sd]
    refine iteF ⟨.ref ca, rfl, ca, _, 0, _, rfl, rfl, ha, atI_nat (j := 0) rfl, rfl, _, rfl, ?_⟩
    rw [seq]
    exact iteT ⟨.ref ca, rfl, ca, _, 2, u2, rfl, rfl, ha, atI_nat (j := 2) rfl, u2, c2, rfl, h2, Nat.le_of_succ_le_succ hd, _, _, rfl, rfl, q⟩
theorem cLawSize (T : Txt K mg) : ∀ n : Nat, Cal P w K mg base n "_law_size" (spSz K n) []
  | 0 => calWeak (cal_false T.lawSize (ps := ["concept"]) (fun _ _ _ _ _ _ us hl => match us, hl with | [_], _ => rfl)) fun vs H Q E h => by
    obtain ⟨_, c, _, _, hd, _⟩ := h
    have := dep_pos c
    omega
  | n + 1 => cSz1 T n (cLawSize T n)
theorem cSt1 (T : Txt K mg) (n : Nat) (ih : Cal P w K mg base n "_law_strength" (spSt K n) []) : Cal P w K mg base (n + 1) "_law_strength" (spSt K (n + 1)) [] := by
  refine cal_of T.lawStrength scLawStrength (fun _ _ _ _ _ _ us hl => match us, hl with | [_], _ => rfl) (fun vs H Q E h => ?_) (fun f cdv A outer s H vs Q E hr h => ?_)
  · obtain ⟨u, c, rfl, _⟩ := h
    rfl
  obtain ⟨u, c, rfl, hc, hd, q⟩ := h
  refine ⟨_, (pss_cons (ps_if (pt_cmpR op_eq (pe_ix ix_tup (pv 0) pe_int (fun _ _ => rfl)) pe_str (nomark _))
 (pss_one (ps_ret (pe_op op_add (pe_op op_add pe_int (pe_c ih hr (Nat.le_refl _) rfl (pa_cons (pe_ix ix_tup (pv 0) pe_int (fun _ _ => rfl)) pa_nil))) (pe_c ih hr (Nat.le_refl _) rfl (pa_cons (pe_ix ix_tup (pv 0) pe_int (fun _ _ => rfl)) pa_nil)))))
 pss_nil)
 (pss_one (ps_ret (pe_ifExp (pt_cmpR op_eq (pe_ix ix_tup (pv 0) pe_int (fun _ _ => rfl)) pe_str (nomark _)) (pe_op op_add pe_int (pe_c ih hr (Nat.le_refl _) rfl (pa_cons (pe_ix ix_tup (pv 0) pe_int (fun _ _ => rfl)) pa_nil))) (pe_callTy call_int1 (by rfl) T.int (by decide +kernel) (pa_cons (pe_cmpR op_ne (pe_ix ix_tup (pv 0) pe_int (fun _ _ => rfl)) pe_str (nomark _)) pa_nil)))))), ?_⟩
  obtain ⟨ca, cxs, rfl, hca⟩ := con_ref hc
  cases c with
  | all =>
    obtain ⟨a, e, ha⟩ := con_all hc
    cases e
    refine ⟨.ref ca, rfl, ca, _, 0, _, rfl, rfl, ha, atI_nat (j := 0) rfl, rfl, _, rfl, ?_⟩
    rw [sne (show ¬ ("all" : Str) = "and" by decide +kernel)]
    refine iteF ⟨.ref ca, rfl, ca, _, 0, _, rfl, rfl, ha, atI_nat (j := 0) rfl, rfl, _, rfl, ?_⟩
    rw [sne (show ¬ ("all" : Str) = "some" by decide +kernel)]
    refine iteF ⟨.ref ca, rfl, ca, _, 0, _, rfl, rfl, ha, atI_nat (j := 0) rfl, rfl, .inr ⟨_, rfl, ?_⟩⟩
    rw [seq]
    exact q
  | non =>
    obtain ⟨a, e, ha⟩ := con_non hc
    cases e
    refine ⟨.ref ca, rfl, ca, _, 0, _, rfl, rfl, ha, atI_nat (j := 0) rfl, rfl, _, rfl, ?_⟩
    rw [sne (show ¬ ("none" : Str) = "and" by decide +kernel)]
    refine iteF ⟨.ref ca, rfl, ca, _, 0, _, rfl, rfl, ha, atI_nat (j := 0) rfl, rfl, _, rfl, ?_⟩
    rw [sne (show ¬ ("none" : Str) = "some" by decide +kernel)]
    refine iteF ⟨.ref ca, rfl, ca, _, 0, _, rfl, rfl, ha, atI_nat (j := 0) rfl, rfl, .inr ⟨_, rfl, ?_⟩⟩
    rw [sne (show ¬ ("none" : Str) = "all" by decide +kernel)]
    exact q
  | word x =>
    obtain ⟨a, e, ha⟩ := con_word hc
    cases e
    refine ⟨.ref ca, rfl, ca, _, 0, _, rfl, rfl, ha, atI_nat (j := 0) rfl, rfl, _, rfl, ?_⟩
    rw [sne (show ¬ ("word" : Str) = "and" by decide +kernel)]
    refine iteF ⟨.ref ca, rfl, ca, _, 0, _, rfl, rfl, ha, atI_nat (j := 0) rfl, rfl, _, rfl, ?_⟩
    rw [sne (show ¬ ("word" : Str) = "some" by decide +kernel)]
    refine iteF ⟨.ref ca, rfl, ca, _, 0, _, rfl, rfl, ha, atI_nat (j := 0) rfl, rfl, .inr ⟨_, rfl, ?_⟩⟩
    rw [sne (show ¬ ("word" : Str) = "all" by decide +kernel)]
    exact q
  | and c1 c2 =>
    obtain ⟨a, u1, u2, e, ha, h1, h2⟩ := con_and hc
    cases e
    have hd : Nat.max (dep c1) (dep c2) + 1 ≤ n + 1 := hd
    have hm := Nat.max_le.mp (Nat.le_of_succ_le_succ hd)
    refine ⟨.ref ca, rfl, ca, _, 0, _, rfl, rfl, ha, atI_nat (j := 0) rfl, rfl, _, rfl, ?_⟩
    rw [seq]
    refine iteT ⟨.ref ca, rfl, ca, _, 1, u1, rfl, rfl, ha, atI_nat (j := 1) rfl, u1, c1, rfl, h1, hm.1, _, _, rfl, rfl, .ref ca, rfl, ca, _, 2, u2, rfl, rfl, ha, atI_nat (j := 2) rfl, u2, c2, rfl, h2, hm.2, _, _, rfl, rfl, ?_⟩
    exact q
  | some r c2 =>
    obtain ⟨a, u2, e, ha, h2⟩ := con_some hc
    cases e
    have hd : dep c2 + 1 ≤ n + 1 := hd
    refine ⟨.ref ca, rfl, ca, _, 0, _, rfl, rfl, ha, atI_nat (j := 0) rfl, rfl, _, rfl, ?_⟩
    rw [sne t_sd]
    refine iteF ⟨.ref ca, rfl, ca, _, 0, _, rfl, rfl, ha, atI_nat (j := 0) rfl, rfl, _, rfl, ?_⟩
    rw [seq]
    exact iteT ⟨.ref ca, rfl, ca, _, 2, u2, rfl, rfl, ha, atI_nat (j := 2) rfl, u2, c2, rfl, h2, Nat.le_of_succ_le_succ hd, _, _, rfl, rfl, q⟩
theorem cLawStrength (T : Txt K mg) : ∀ n : Nat, Cal P w K mg base n "_law_strength" (spSt K n) []
  | 0 => calWeak (cal_false T.lawStrength (ps := ["concept"]) (fun _ _ _ _ _ _ us hl => match us, hl with | [_], _ => rfl)) fun vs H Q E h => by
    obtain ⟨_, c, _, _, hd, _⟩ := h
    have := dep_pos c
    omega
  | n + 1 => cSt1 T n (cLawStrength T n)
end
end K21
set_option Elab.async false
set_option linter.all false
set_option autoImplicit false
set_option maxRecDepth 100000
set_option maxHeartbeats 4000000
namespace Tl
open PySem PySem.Spec PyProof.Rows L2
section
variable {X : Cx} {K : PySem.W.Frag}
theorem sl_tupK (h : X.K = K) : SlR X (rSlT K) := by
  subst h
  exact sl_tup
theorem op_catTK (h : X.K = K) : OpR X (binaryOp .Add) (rCatT K) := by
  subst h
  exact op_catT
end
end Tl
namespace K21
open PySem PySem.Spec PyProof.Rows L2 Tl
open C8 (Cal pe_c)
/-! ### the weaker ones -/
def wk : C → List C
  | .all => []
  | .non => [.all]
  | .word _ => [.all]
  | .some r c => [.all] ++ (wk c).map fun n => .some r n
  | .and a b => [a, b] ++ ((wk a).map fun n => .and n b) ++ (wk b).map fun n => .and a n
theorem wk_nodes : ∀ c : C, (wk c).length ≤ 2 * nodes c
  | .all => Nat.zero_le _
  | .non => (by decide : 1 ≤ 2 * 1)
  | .word _ => (by decide : 1 ≤ 2 * 1)
  | .some r c => by
    have := wk_nodes c
    simp only [wk, List.length_append, List.length_map, List.length_singleton, nodes]
    omega
  | .and a b => by
    have := wk_nodes a
    have := wk_nodes b
    simp only [wk, List.length_append, List.length_map, List.length_cons, List.length_nil, nodes]
    omega
/-- a list of concepts at p -/
def CL (K : PySem.W.Frag) (H : Hp) (as : List Addr) (cs : List C) : Prop := Paired (fun (a : Addr) c => Con K H (.ref a) c) as cs
theorem CL.st {K : PySem.W.Frag} {H H' : Hp} {as : List Addr} {cs : List C} (h : CL K H as cs) (s : Stay H H') : CL K H' as cs := Paired.mapP h fun _ _ z => z.st s
section
variable {P : Program} {w : World} {K : PySem.W.Frag} {mg : Str → Option Value} {base : Heap}
def spWk (K : PySem.W.Frag) (n : Nat) : Sp := fun vs H Q _ => ∃ (u : V) (c : C), vs = [u] ∧ Con K H u c ∧ dep c ≤ n ∧ nodes c ≤ 100 ∧
  ∀ (p : Addr) (as : List Addr) (H' : Hp), L2.Same H H' → H p = none → H' p = some (.lst (as.map V.ref)) → CL K H' as (wk c) → Q (.ref p) H'
theorem cWk1 (T : Txt K mg) (n : Nat) (ih : Cal P w K mg base n "_law_weaker" (spWk K n) []) : Cal P w K mg base (n + 1) "_law_weaker" (spWk K (n + 1)) [] := by
  refine cal_of T.lawWeaker scLawWeaker (fun _ _ _ _ _ _ us hl => match us, hl with | [_], _ => rfl) (fun vs H Q E h => ?_) (fun f cdv A outer s H vs Q E hr h => ?_)
  · obtain ⟨u, c, rfl, _⟩ := h
    rfl
  obtain ⟨u, c, rfl, hc, hd, few, q⟩ := h
  refine ⟨_, (pss_cons (ps_set (i := 1) scLawWeaker.nd rfl (.inl rfl) (pe_ifExp (pt_cmpR op_in_seq (pe_ix ix_tup (pv 0) pe_int (fun _ _ => rfl)) (pe_tup (pa_cons pe_str (pa_cons pe_str pa_nil))) rfl) (pe_lst pa_nil) (pe_lst (pa_cons (pe_tup (pa_cons pe_str pa_nil)) pa_nil))))
 (pss_cons (ps_if (pt_cmpR op_eq (pe_ix ix_tup (pv 0) pe_int (fun _ _ => rfl)) pe_str (nomark _))
 (pss_cons (ps_expr (pe_bm PySem.F.plainAttrs_list PySem.F.slot_list_extend PySem.F.type_list_extend mt_extend (pv 1) (pa_cons (pe_lst (pa_cons (pe_ix ix_tup (pv 0) pe_int (fun _ _ => rfl)) (pa_cons (pe_ix ix_tup (pv 0) pe_int (fun _ _ => rfl)) pa_nil))) pa_nil)))
 (pss_cons (ps_expr (pe_bm PySem.F.plainAttrs_list PySem.F.slot_list_extend PySem.F.type_list_extend mt_extend (pv 1) (pa_cons (pe_lc (own := [("near", 2)]) (by rfl) scLawWeaker.nd (pi_list (pe_c ih hr (Nat.le_refl _) rfl (pa_cons (pe_ix ix_tup (pv 0) pe_int (fun _ _ => rfl)) pa_nil))) (blkOk_by (own := [("near", 2)]) (N := ["concept", "found", "near"]) (sc := defScope sLawWeaker) (by decide +kernel)) (fun _ _ _ _ _ => (pg_name (i := 2) scLawWeaker.nd rfl (.inl rfl))) (fun _ _ _ _ _ => pts_nil) (fun _ _ _ _ _ => (pe_tup (pa_cons pe_str (pa_cons (pv 2) (pa_cons (pe_ix (ix_tupK (K := K) rfl) (pv 0) pe_int (fun _ _ => rfl)) pa_nil)))))) pa_nil)))
 (pss_one (ps_expr (pe_bm PySem.F.plainAttrs_list PySem.F.slot_list_extend PySem.F.type_list_extend mt_extend (pv 1) (pa_cons (pe_lc (own := [("near", 2)]) (by rfl) scLawWeaker.nd (pi_list (pe_c ih hr (Nat.le_refl _) rfl (pa_cons (pe_ix ix_tup (pv 0) pe_int (fun _ _ => rfl)) pa_nil))) (blkOk_by (own := [("near", 2)]) (N := ["concept", "found", "near"]) (sc := defScope sLawWeaker) (by decide +kernel)) (fun _ _ _ _ _ => (pg_name (i := 2) scLawWeaker.nd rfl (.inl rfl))) (fun _ _ _ _ _ => pts_nil) (fun _ _ _ _ _ => (pe_tup (pa_cons pe_str (pa_cons (pe_ix (ix_tupK (K := K) rfl) (pv 0) pe_int (fun _ _ => rfl)) (pa_cons (pv 2) pa_nil)))))) pa_nil))))))
 pss_nil)
 (pss_cons (ps_if (pt_cmpR op_eq (pe_ix ix_tup (pv 0) pe_int (fun _ _ => rfl)) pe_str (nomark _))
 (pss_one (ps_expr (pe_bm PySem.F.plainAttrs_list PySem.F.slot_list_extend PySem.F.type_list_extend mt_extend (pv 1) (pa_cons (pe_lc (own := [("near", 2)]) (by rfl) scLawWeaker.nd (pi_list (pe_c ih hr (Nat.le_refl _) rfl (pa_cons (pe_ix ix_tup (pv 0) pe_int (fun _ _ => rfl)) pa_nil))) (blkOk_by (own := [("near", 2)]) (N := ["concept", "found", "near"]) (sc := defScope sLawWeaker) (by decide +kernel)) (fun _ _ _ _ _ => (pg_name (i := 2) scLawWeaker.nd rfl (.inl rfl))) (fun _ _ _ _ _ => pts_nil) (fun _ _ _ _ _ => (pe_op (op_catTK (K := K) rfl) (pe_slice (sl_tupK (K := K) rfl) (pv 0) po_none (po_some pe_int)) (pe_tup (pa_cons (pv 2) pa_nil))))) pa_nil))))
 pss_nil)
 (pss_one (ps_ret (pv 1)))))), ?_⟩
  obtain ⟨ca, cxs, rfl, hca⟩ := con_ref hc
  cases c with
  | all =>
    obtain ⟨a, e, ha⟩ := con_all hc
    cases e
    refine ⟨.ref ca, rfl, ca, _, 0, _, rfl, rfl, ha, atI_nat (j := 0) rfl, by show 2 ≤ sizeLine; decide, fun t nt => ⟨t, (["all", "and"] : List Str).map V.str, rfl, .inr (tupOf upd_same), rfl, flat_strs _, _, rfl, ?_⟩⟩
    have s1 := same_up (o := .tup [.str "all", .str "and"]) nt
    show if inV (.str "all") ((["all", "and"] : List Str).map V.str) = true then _ else _
    rw [inV_ws]
    refine iteT ⟨Nat.zero_le _, fun p np => ?_⟩
    have s2 := same_add s1 (o := .lst []) np
    have ha := (Tl.Same.stay s2).tup ha
    refine ⟨.ref ca, rfl, ca, _, 0, _, rfl, rfl, ha, atI_nat (j := 0) rfl, rfl, _, rfl, ?_⟩
    rw [sne (show ¬ ("all" : Str) = "and" by decide +kernel)]
    refine iteF ⟨.ref ca, rfl, ca, _, 0, _, rfl, rfl, ha, atI_nat (j := 0) rfl, rfl, _, rfl, ?_⟩
    rw [sne (show ¬ ("all" : Str) = "some" by decide +kernel)]
    exact iteF ⟨.ref p, rfl, q p [] _ s2 (s1.free np) upd_same .nil⟩
  | non =>
    obtain ⟨a, e, ha⟩ := con_non hc
    cases e
    refine ⟨.ref ca, rfl, ca, _, 0, _, rfl, rfl, ha, atI_nat (j := 0) rfl, by show 2 ≤ sizeLine; decide, fun t nt => ⟨t, (["all", "and"] : List Str).map V.str, rfl, .inr (tupOf upd_same), rfl, flat_strs _, _, rfl, ?_⟩⟩
    have s1 := same_up (o := .tup [.str "all", .str "and"]) nt
    show if inV (.str "none") ((["all", "and"] : List Str).map V.str) = true then _ else _
    rw [inV_ws]
    refine iteF ⟨by show 1 ≤ sizeLine; decide, fun e ne => ⟨by show 1 ≤ sizeLine; decide, fun p np => ?_⟩⟩
    have s2 := same_add s1 (o := .tup [.str "all"]) ne
    have s3 := same_add s2 (o := .lst [.ref e]) np
    have ha := (Tl.Same.stay s3).tup ha
    refine ⟨.ref ca, rfl, ca, _, 0, _, rfl, rfl, ha, atI_nat (j := 0) rfl, rfl, _, rfl, ?_⟩
    rw [sne (show ¬ ("none" : Str) = "and" by decide +kernel)]
    refine iteF ⟨.ref ca, rfl, ca, _, 0, _, rfl, rfl, ha, atI_nat (j := 0) rfl, rfl, _, rfl, ?_⟩
    rw [sne (show ¬ ("none" : Str) = "some" by decide +kernel)]
    exact iteF ⟨.ref p, rfl, q p [e] _ s3 (s2.free np) upd_same (.cons (mk_all (tupOf ((same_up np) _ _ upd_same))) .nil)⟩
  | word x =>
    obtain ⟨a, e, ha⟩ := con_word hc
    cases e
    refine ⟨.ref ca, rfl, ca, _, 0, _, rfl, rfl, ha, atI_nat (j := 0) rfl, by show 2 ≤ sizeLine; decide, fun t nt => ⟨t, (["all", "and"] : List Str).map V.str, rfl, .inr (tupOf upd_same), rfl, flat_strs _, _, rfl, ?_⟩⟩
    have s1 := same_up (o := .tup [.str "all", .str "and"]) nt
    show if inV (.str "word") ((["all", "and"] : List Str).map V.str) = true then _ else _
    rw [inV_ws]
    refine iteF ⟨by show 1 ≤ sizeLine; decide, fun e ne => ⟨by show 1 ≤ sizeLine; decide, fun p np => ?_⟩⟩
    have s2 := same_add s1 (o := .tup [.str "all"]) ne
    have s3 := same_add s2 (o := .lst [.ref e]) np
    have ha := (Tl.Same.stay s3).tup ha
    refine ⟨.ref ca, rfl, ca, _, 0, _, rfl, rfl, ha, atI_nat (j := 0) rfl, rfl, _, rfl, ?_⟩
    rw [sne (show ¬ ("word" : Str) = "and" by decide +kernel)]
    refine iteF ⟨.ref ca, rfl, ca, _, 0, _, rfl, rfl, ha, atI_nat (j := 0) rfl, rfl, _, rfl, ?_⟩
    rw [sne (show ¬ ("word" : Str) = "some" by decide +kernel)]
    exact iteF ⟨.ref p, rfl, q p [e] _ s3 (s2.free np) upd_same (.cons (mk_all (tupOf ((same_up np) _ _ upd_same))) .nil)⟩
  | and c1 c2 =>
    obtain ⟨a, u1, u2, e, ha, h1, h2⟩ := con_and hc
    cases e
    obtain ⟨b1, _, rfl, _⟩ := con_ref h1
    obtain ⟨b2, _, rfl, _⟩ := con_ref h2
    have hd : Nat.max (dep c1) (dep c2) + 1 ≤ n + 1 := hd
    have hm := Nat.max_le.mp (Nat.le_of_succ_le_succ hd)
    have few : nodes c1 + nodes c2 + 1 ≤ 100 := few
    refine ⟨.ref ca, rfl, ca, _, 0, _, rfl, rfl, ha, atI_nat (j := 0) rfl, by show 2 ≤ sizeLine; decide, fun t nt => ⟨t, (["all", "and"] : List Str).map V.str, rfl, .inr (tupOf upd_same), rfl, flat_strs _, _, rfl, ?_⟩⟩
    have s1 := same_up (o := .tup [.str "all", .str "and"]) nt
    show if inV (.str "and") ((["all", "and"] : List Str).map V.str) = true then _ else _
    rw [inV_ws]
    refine iteT ⟨Nat.zero_le _, fun f nf => ?_⟩
    have s2 := same_add s1 (o := .lst []) nf
    have nf0 := s1.free nf
    have haG := (Tl.Same.stay s2).tup ha
    refine ⟨.ref ca, rfl, ca, _, 0, _, rfl, rfl, haG, atI_nat (j := 0) rfl, rfl, _, rfl, ?_⟩
    rw [seq]
    have gf : upd (upd H t (.tup [.str "all", .str "and"])) f (.lst []) f = some (.lst []) := upd_same
    generalize upd (upd H t (.tup [.str "all", .str "and"])) f (.lst []) = G at s2 haG gf ⊢
    -- found.extend([concept[1], concept[2]])
    refine iteT ⟨.ref f, rfl, .inl ⟨rfl, _, lst_of gf⟩, .ref ca, rfl, ca, _, 1, .ref b1, rfl, rfl, haG, atI_nat (j := 1) rfl, .ref ca, rfl, ca, _, 2, .ref b2, rfl, rfl, haG, atI_nat (j := 2) rfl, by show 2 ≤ sizeLine; decide, fun v nv => ?_⟩
    have s3 := same_up (o := .lst [.ref b1, .ref b2]) nv
    refine ⟨f, v, _, _, rfl, rfl, s3 _ _ gf, upd_same, by show 0 + 2 ≤ sizeLine; decide, ?_⟩
    have gf1 : upd (upd G v (.lst [.ref b1, .ref b2])) f (.lst ([] ++ [.ref b1, .ref b2])) f = some (.lst ([b1, b2].map V.ref)) := upd_same
    have sG1 : L2.Same H (upd (upd G v (.lst [.ref b1, .ref b2])) f (.lst ([] ++ [.ref b1, .ref b2]))) := same_mut (s2.trans s3) nf0
    generalize upd (upd G v (.lst [.ref b1, .ref b2])) f (.lst ([] ++ [.ref b1, .ref b2])) = G1 at gf1 sG1 ⊢
    -- the first ones
    refine ⟨.ref f, rfl, .inl ⟨rfl, _, lst_of gf1⟩, .ref ca, rfl, ca, _, 1, .ref b1, rfl, rfl, (Tl.Same.stay sG1).tup ha, atI_nat (j := 1) rfl, .ref b1, c1, rfl, h1.st (Tl.Same.stay sG1), hm.1, by omega, fun p1 as1 G2 s4 n4 gp1 has1 => ?_⟩
    have sG2 := sG1.trans s4
    refine ⟨p1, rfl, ⟨_, lst_of gp1⟩, fun D1 nD1 => ?_⟩
    refine lc_list (K := K) (a := p1) (xs := as1.map V.ref) (fun i X => L2.Same G2 X ∧ ∃ bs : List Addr, X D1 = some (.lst (bs.map V.ref)) ∧ CL K X bs (((wk c1).take i).map fun c => .and c c2))
      ⟨same_up nD1, [], upd_same, .nil⟩ (fun i X _ z => z.1.seq (lst_of gp1)) (fun i x X hx z => ?_) (fun X z => ?_)
    · obtain ⟨sX, bs, gX, hb⟩ := z
      obtain ⟨a0, ha0, rfl⟩ : ∃ m, as1[i]? = some m ∧ x = V.ref m := by
        rw [List.getElem?_map] at hx
        obtain ⟨m, h, e⟩ := Option.map_eq_some_iff.mp hx
        exact ⟨m, h, e.symm⟩
      obtain ⟨c0, hc0, hcon⟩ := getP has1 ha0
      have hcon : Con K X (.ref a0) c0 := Dt.st hcon (Tl.Same.stay sX)
      have lw := wk_nodes c1
      have lb := hb.length
      rw [List.length_map, List.length_take] at lb
      have htk : (wk c1).take (i + 1) = (wk c1).take i ++ [c0] := by rw [List.take_add_one, hc0]; rfl
      have haX := (Tl.Same.stay (sG2.trans sX)).tup ha
      refine ⟨rfl, .ref a0, rfl, .ref ca, rfl, ca, _, 2, .ref b2, rfl, rfl, haX, atI_nat (j := 2) rfl, by show 3 ≤ sizeLine; decide, fun t nt => ?_⟩
      have sT := same_up (o := .tup [.str "and", .ref a0, .ref b2]) nt
      have hT : Con K (upd X t (.tup [.str "and", .ref a0, .ref b2])) (.ref t) (.and c0 c2) := mk_and (tupOf upd_same) (Dt.st hcon (stay_new nt)) (h2.st (Tl.Same.stay ((sG2.trans sX).trans sT)))
      generalize upd X t (.tup [.str "and", .ref a0, .ref b2]) = XT at sT hT ⊢
      have gX2 := sT _ _ gX
      have stm : Stay XT (upd XT D1 (.lst (bs.map V.ref ++ [.ref t]))) := stay_mut (by rw [gX2]; trivial)
      refine ⟨_, gX2, ?_, same_mut (sX.trans sT) nD1, bs ++ [t], by rw [upd_same, List.map_append]; rfl, ?_⟩
      · rw [List.length_map]
        exact Nat.lt_of_le_of_lt (show bs.length ≤ 1000 by omega) (by decide)
      · rw [htk, List.map_append]
        refine snoc (CL.st hb ((Tl.Same.stay sT).trans stm)) ?_
        exact Dt.st hT stm
    · obtain ⟨sX, bs, gX, hb⟩ := z
      rw [List.length_map, has1.length, List.take_of_length_le (Nat.le_refl _)] at hb
      have lb := hb.length
      rw [List.length_map] at lb
      have lw := wk_nodes c1
      have gfX := (s4.trans sX) _ _ gf1
      refine ⟨f, D1, _, _, rfl, rfl, gfX, gX, by rw [List.length_map, List.length_map]; exact Nat.le_trans (show 2 + bs.length ≤ 1000 by omega) (by decide), ?_⟩
      have stm : Stay X (upd X f (.lst ([b1, b2].map V.ref ++ bs.map V.ref))) := stay_mut (by rw [gfX]; trivial)
      have gf2 : upd X f (.lst ([b1, b2].map V.ref ++ bs.map V.ref)) f = some (.lst (([b1, b2] ++ bs).map V.ref)) := by rw [upd_same, List.map_append]
      have sG3 : L2.Same H (upd X f (.lst ([b1, b2].map V.ref ++ bs.map V.ref))) := same_mut (sG2.trans sX) nf0
      have hb := CL.st hb stm
      generalize upd X f (.lst ([b1, b2].map V.ref ++ bs.map V.ref)) = G3 at gf2 sG3 hb ⊢
      have cs1 : CL K G3 ([b1, b2] ++ bs) ([c1, c2] ++ (wk c1).map fun n => .and n c2) := .cons (h1.st (Tl.Same.stay sG3)) (.cons (h2.st (Tl.Same.stay sG3)) hb)
      clear gX sX stm gfX hb
      generalize hbs : [b1, b2] ++ bs = ds at gf2 cs1
      have ld : ds.length ≤ 2 + 200 := by rw [← hbs, List.length_append]; simp only [List.length_cons, List.length_nil]; omega
      -- the second ones
      refine ⟨.ref f, rfl, .inl ⟨rfl, _, lst_of gf2⟩, .ref ca, rfl, ca, _, 2, .ref b2, rfl, rfl, (Tl.Same.stay sG3).tup ha, atI_nat (j := 2) rfl, .ref b2, c2, rfl, h2.st (Tl.Same.stay sG3), hm.2, by omega, fun p2 as2 G4 s5 n5 gp2 has2 => ?_⟩
      have sG4 := sG3.trans s5
      refine ⟨p2, rfl, ⟨_, lst_of gp2⟩, fun D2 nD2 => ?_⟩
      refine lc_list (K := K) (a := p2) (xs := as2.map V.ref) (fun i X => L2.Same G4 X ∧ ∃ bs : List Addr, X D2 = some (.lst (bs.map V.ref)) ∧ CL K X bs (((wk c2).take i).map fun c => .and c1 c))
        ⟨same_up nD2, [], upd_same, .nil⟩ (fun i X _ z => z.1.seq (lst_of gp2)) (fun i x X hx z => ?_) (fun X z => ?_)
      · obtain ⟨sX, bs, gX, hb⟩ := z
        obtain ⟨a0, ha0, rfl⟩ : ∃ m, as2[i]? = some m ∧ x = V.ref m := by
          rw [List.getElem?_map] at hx
          obtain ⟨m, h, e⟩ := Option.map_eq_some_iff.mp hx
          exact ⟨m, h, e.symm⟩
        obtain ⟨c0, hc0, hcon⟩ := getP has2 ha0
        have hcon : Con K X (.ref a0) c0 := Dt.st hcon (Tl.Same.stay sX)
        have lw := wk_nodes c2
        have lb := hb.length
        rw [List.length_map, List.length_take] at lb
        have htk : (wk c2).take (i + 1) = (wk c2).take i ++ [c0] := by rw [List.take_add_one, hc0]; rfl
        have haX := (Tl.Same.stay (sG4.trans sX)).tup ha
        refine ⟨rfl, .ref ca, rfl, ca, _, 1, .ref b1, rfl, rfl, haX, atI_nat (j := 1) rfl, .ref a0, rfl, by show 3 ≤ sizeLine; decide, fun t nt => ?_⟩
        have sT := same_up (o := .tup [.str "and", .ref b1, .ref a0]) nt
        have hT : Con K (upd X t (.tup [.str "and", .ref b1, .ref a0])) (.ref t) (.and c1 c0) := mk_and (tupOf upd_same) (h1.st (Tl.Same.stay ((sG4.trans sX).trans sT))) (Dt.st hcon (stay_new nt))
        generalize upd X t (.tup [.str "and", .ref b1, .ref a0]) = XT at sT hT ⊢
        have gX2 := sT _ _ gX
        have stm : Stay XT (upd XT D2 (.lst (bs.map V.ref ++ [.ref t]))) := stay_mut (by rw [gX2]; trivial)
        refine ⟨_, gX2, ?_, same_mut (sX.trans sT) nD2, bs ++ [t], by rw [upd_same, List.map_append]; rfl, ?_⟩
        · rw [List.length_map]
          exact Nat.lt_of_le_of_lt (show bs.length ≤ 1000 by omega) (by decide)
        · rw [htk, List.map_append]
          refine snoc (CL.st hb ((Tl.Same.stay sT).trans stm)) ?_
          exact Dt.st hT stm
      · obtain ⟨sX, bs, gX, hb⟩ := z
        rw [List.length_map, has2.length, List.take_of_length_le (Nat.le_refl _)] at hb
        have lb := hb.length
        rw [List.length_map] at lb
        have lw := wk_nodes c2
        have gfX := (s5.trans sX) _ _ gf2
        refine ⟨f, D2, _, _, rfl, rfl, gfX, gX, by rw [List.length_map, List.length_map]; exact Nat.le_trans (show ds.length + bs.length ≤ 1000 by omega) (by decide), ?_⟩
        have stm : Stay X (upd X f (.lst (ds.map V.ref ++ bs.map V.ref))) := stay_mut (by rw [gfX]; trivial)
        refine ⟨.ref ca, rfl, ca, _, 0, _, rfl, rfl, stm.tup ((Tl.Same.stay (sG4.trans sX)).tup ha), atI_nat (j := 0) rfl, rfl, _, rfl, ?_⟩
        rw [sne (show ¬ ("and" : Str) = "some" by decide +kernel)]
        refine iteF ⟨.ref f, rfl, q f (ds ++ bs) _ (same_mut (sG4.trans sX) nf0) nf0 (by rw [upd_same, List.map_append]) ?_⟩
        exact joinP (CL.st cs1 ((Tl.Same.stay (s5.trans sX)).trans stm)) (CL.st hb stm)
  | some r c2 =>
    obtain ⟨a, u2, e, ha, h2⟩ := con_some hc
    cases e
    have hd : dep c2 + 1 ≤ n + 1 := hd
    have few : nodes c2 + 1 ≤ 100 := few
    refine ⟨.ref ca, rfl, ca, _, 0, _, rfl, rfl, ha, atI_nat (j := 0) rfl, by show 2 ≤ sizeLine; decide, fun t nt => ⟨t, (["all", "and"] : List Str).map V.str, rfl, .inr (tupOf upd_same), rfl, flat_strs _, _, rfl, ?_⟩⟩
    have s1 := same_up (o := .tup [.str "all", .str "and"]) nt
    show if inV (.str "some") ((["all", "and"] : List Str).map V.str) = true then _ else _
    rw [inV_ws]
    refine iteF ⟨by show 1 ≤ sizeLine; decide, fun e ne => ⟨by show 1 ≤ sizeLine; decide, fun f nf => ?_⟩⟩
    have s2 := same_add s1 (o := .tup [.str "all"]) ne
    have s3 := same_add s2 (o := .lst [.ref e]) nf
    have nf0 := s2.free nf
    have hall : Con K _ (.ref e) .all := mk_all (tupOf ((same_up (o := .lst [.ref e]) nf) _ _ upd_same))
    have gf : upd (upd (upd H t (.tup [.str "all", .str "and"])) e (.tup [.str "all"])) f (.lst [.ref e]) f = some (.lst ([e].map V.ref)) := upd_same
    generalize upd (upd (upd H t (.tup [.str "all", .str "and"])) e (.tup [.str "all"])) f (.lst [.ref e]) = G at s3 hall gf ⊢
    have haG := (Tl.Same.stay s3).tup ha
    refine ⟨.ref ca, rfl, ca, _, 0, _, rfl, rfl, haG, atI_nat (j := 0) rfl, rfl, _, rfl, ?_⟩
    rw [sne t_sd]
    refine iteF ⟨.ref ca, rfl, ca, _, 0, _, rfl, rfl, haG, atI_nat (j := 0) rfl, rfl, _, rfl, ?_⟩
    rw [seq]
    refine iteT ⟨.ref f, rfl, .inl ⟨rfl, _, lst_of gf⟩, .ref ca, rfl, ca, _, 2, u2, rfl, rfl, haG, atI_nat (j := 2) rfl, u2, c2, rfl, h2.st (Tl.Same.stay s3), Nat.le_of_succ_le_succ hd, by omega, fun p1 as1 G2 s4 n4 gp1 has1 => ?_⟩
    have sG2 := s3.trans s4
    refine ⟨p1, rfl, ⟨_, lst_of gp1⟩, fun D1 nD1 => ?_⟩
    refine lc_list (K := K) (a := p1) (xs := as1.map V.ref) (fun i X => L2.Same G2 X ∧ ∃ bs : List Addr, X D1 = some (.lst (bs.map V.ref)) ∧ CL K X bs (((wk c2).take i).map fun c => .some r c))
      ⟨same_up nD1, [], upd_same, .nil⟩ (fun i X _ z => z.1.seq (lst_of gp1)) (fun i x X hx z => ?_) (fun X z => ?_)
    · obtain ⟨sX, bs, gX, hb⟩ := z
      obtain ⟨a0, ha0, rfl⟩ : ∃ m, as1[i]? = some m ∧ x = V.ref m := by
        rw [List.getElem?_map] at hx
        obtain ⟨m, h, e⟩ := Option.map_eq_some_iff.mp hx
        exact ⟨m, h, e.symm⟩
      obtain ⟨c0, hc0, hcon⟩ := getP has1 ha0
      have hcon : Con K X (.ref a0) c0 := Dt.st hcon (Tl.Same.stay sX)
      have lw := wk_nodes c2
      have lb := hb.length
      rw [List.length_map, List.length_take] at lb
      have htk : (wk c2).take (i + 1) = (wk c2).take i ++ [c0] := by rw [List.take_add_one, hc0]; rfl
      have haX := (Tl.Same.stay (sG2.trans sX)).tup ha
      refine ⟨rfl, .ref ca, rfl, 2, rfl, ca, _, rfl, haX, (by decide : ¬ (HT.sIx 3 0 none = 0 ∧ HT.sIx 3 3 (some 2) = 3)), fun t1 nt1 => ?_⟩
      have e2 : cutV [V.str "some", .str r, u2] none (some 2) = [.str "some", .str r] := rfl
      rw [e2]
      refine ⟨.ref a0, rfl, by show 1 ≤ sizeLine; decide, fun t2 nt2 => ?_⟩
      have sU1 := same_up (o := .tup [.str "some", .str r]) nt1
      have sU2 := same_up (o := .tup [.ref a0]) nt2
      refine ⟨t1, t2, [.str "some", .str r], [.ref a0], rfl, rfl, tupOf (sU2 _ _ upd_same), tupOf upd_same, by simp, by show 2 + 1 ≤ sizeLine; decide, fun z => by simp at z, fun _ t nt => ?_⟩
      have sT := (sU1.trans sU2).trans (same_up (o := .tup ([.str "some", .str r] ++ [.ref a0])) nt)
      have hT : Con K _ (.ref t) (.some r c0) := mk_some (tupOf (H := upd (upd (upd X t1 (.tup [.str "some", .str r])) t2 (.tup [.ref a0])) t (.tup ([.str "some", .str r] ++ [.ref a0]))) upd_same) (Dt.st hcon (Tl.Same.stay sT))
      generalize upd (upd (upd X t1 (.tup [.str "some", .str r])) t2 (.tup [.ref a0])) t (.tup ([.str "some", .str r] ++ [.ref a0])) = XT at sT hT ⊢
      have gX2 := sT _ _ gX
      have stm : Stay XT (upd XT D1 (.lst (bs.map V.ref ++ [.ref t]))) := stay_mut (by rw [gX2]; trivial)
      refine ⟨_, gX2, ?_, same_mut (sX.trans sT) nD1, bs ++ [t], by rw [upd_same, List.map_append]; rfl, ?_⟩
      · rw [List.length_map]
        exact Nat.lt_of_le_of_lt (show bs.length ≤ 1000 by omega) (by decide)
      · rw [htk, List.map_append]
        refine snoc (CL.st hb ((Tl.Same.stay sT).trans stm)) ?_
        exact Dt.st hT stm
    · obtain ⟨sX, bs, gX, hb⟩ := z
      rw [List.length_map, has1.length, List.take_of_length_le (Nat.le_refl _)] at hb
      have lb := hb.length
      rw [List.length_map] at lb
      have lw := wk_nodes c2
      have gfX := (s4.trans sX) _ _ gf
      refine ⟨f, D1, _, _, rfl, rfl, gfX, gX, by rw [List.length_map, List.length_map]; exact Nat.le_trans (show 1 + bs.length ≤ 1000 by omega) (by decide), ?_⟩
      have stm : Stay X (upd X f (.lst ([e].map V.ref ++ bs.map V.ref))) := stay_mut (by rw [gfX]; trivial)
      refine ⟨.ref f, rfl, q f ([e] ++ bs) _ (same_mut (sG2.trans sX) nf0) nf0 (by rw [upd_same, List.map_append]) ?_⟩
      exact .cons (Dt.st hall ((Tl.Same.stay (s4.trans sX)).trans stm)) (CL.st hb stm)
theorem cLawWeaker (T : Txt K mg) : ∀ n : Nat, Cal P w K mg base n "_law_weaker" (spWk K n) []
  | 0 => calWeak (cal_false T.lawWeaker (ps := ["concept"]) (fun _ _ _ _ _ _ us hl => match us, hl with | [_], _ => rfl)) fun vs H Q E h => by
    obtain ⟨_, c, _, _, hd, _⟩ := h
    have := dep_pos c
    omega
  | n + 1 => cWk1 T n (cLawWeaker T n)
end
end K21
set_option Elab.async false
set_option linter.all false
set_option autoImplicit false
set_option maxRecDepth 100000
set_option maxHeartbeats 2000000
/-! sets of texts: set(l), sorted(set) -/
namespace Tl
open PySem PySem.Spec PyProof.Rows L2
def wOf (e : Int × Value) : Str := match e.2 with | .str x _ => x | _ => ⟨#[]⟩
def IsTx (w : World) (e : Int × Value) : Prop := ∃ x t, e.2 = Value.str x t ∧ e.1 = hashStr w x
/-- the set of texts at a: its members S, their number c -/
def SetS (w : World) (h : Heap) (a : Addr) (S : Str → Bool) (c : Nat) : Prop :=
  ∃ o es ep t, h.get? a = some o ∧ o.ExactSet ∧ o.data = .set es ep t ∧ (∀ e ∈ es.toList, IsTx w e) ∧ (es.toList.map wOf).Nodup ∧ (∀ x, S x = true ↔ x ∈ es.toList.map wOf) ∧
    es.size < scanBound ∧ t.fits es.size = true ∧ es.size = c ∧ Ris t.place.toList ∧ (w.params.followText "set-order" = true ∨ t.led = true)
section
variable {P : Program} {w : World} {h h' : Heap} {a : Addr} {S : Str → Bool} {c : Nat}
theorem SetS.moved (R : SetS w h a S c) (k : ∀ o, h.get? a = some o → h'.get? a = some o) : SetS w h' a S c := by
  obtain ⟨o, es, ep, t, g, r⟩ := R
  exact ⟨o, es, ep, t, k o g, r⟩
theorem SetS.like {S' : Str → Bool} (R : SetS w h a S c) (e : ∀ k, S' k = S k) : SetS w h a S' c := by
  rw [show S' = S from funext e]
  exact R
theorem tx_elems {l : List (Int × Value)} (g : ∀ e ∈ l, IsTx w e) : ElemsOf (PySem.strKind P w) l := fun e m => by
  obtain ⟨x, t, e1, e2⟩ := g e m
  exact ⟨⟨x, by rw [e1]; exact strKind_is P w x t, e2⟩, by rw [e1] <;> rfl⟩
theorem tx_is {e : Int × Value} (g : IsTx w e) (x : Str) : (PySem.strKind P w).is x e.2 = true ↔ wOf e = x := by
  obtain ⟨y, t, e1, _⟩ := g
  unfold wOf
  rw [e1]
  show Value.isStrOf x (.str y t) = true ↔ y = x
  simp [Value.isStrOf]
  try exact eq_comm
theorem tx_mem {l : List (Int × Value)} (g : ∀ e ∈ l, IsTx w e) (x : Str) : x ∈ l.map wOf ↔ ∃ e ∈ l, (PySem.strKind P w).is x e.2 = true := by
  rw [List.mem_map]
  exact ⟨fun ⟨e, m, q⟩ => ⟨e, m, (tx_is (g e m) x).2 q⟩, fun ⟨e, m, q⟩ => ⟨e, m, (tx_is (g e m) x).1 q⟩⟩
end
section
variable {P : Program} {w : World} {A : Around} {E : Value → Shared → Prop} {s : Shared} {a : Addr} {S : Str → Bool} {c : Nat}
theorem tx_tail {g : Bool → Sem Unit} (gw : ∀ (b : Bool) (s1 : Shared) (Q1 : Unit → Shared → Prop), Q1 () s1 → wpAny (model P w) A (g b) Q1 E s1)
    {o : Obj} {es : Array (Int × Value)} {ep : Nat} {t : SetTable} (ha : s.heap.get? a = some o) (hx : o.ExactSet) (hd : o.data = .set es ep t)
    {es1 : Array (Int × Value)} {t2 : SetTable} {S1 : Str → Bool} (g1 : ∀ e ∈ es1.toList, IsTx w e) (n1 : (es1.toList.map wOf).Nodup) (m1 : ∀ x, S1 x = true ↔ x ∈ es1.toList.map wOf)
    (b1 : es1.size < scanBound) (f2 : t2.fits es1.size = true) (r2 : Ris t2.place.toList) (l2 : w.params.followText "set-order" = true ∨ t2.led = true) {dummy : Bool} {R : Option Bool → Shared → Prop}
    (go : ∀ h1, Heap.SameBut a s.heap h1 → SetS w h1 a S1 es1.size → R (some true) { s with heap := h1 }) :
    wpAny (model P w) A (do
        storeSet a es1 t2
        if (!dummy && t2.tooFull) = true then do
            g (relayAll t2 es1 (SetTable.grown es1.size)).2.2
            storeSet a (relayAll t2 es1 (SetTable.grown es1.size)).1 (relayAll t2 es1 (SetTable.grown es1.size)).2.1
            pure (some true)
          else pure (some true)) R E s := by
  refine wpAny_bind (wpAny_storeSet_of ha hd ?_ (fits_of_scanBound b1))
  have at1 := store_at (es' := es1) (t' := t2) ha hd
  have but1 := Heap.SameBut.update s.heap a (Obj.putSet es1 t2)
  split
  · have p3 := relayAll_perm t2 es1 (SetTable.grown es1.size)
    have f3 := relayAll_fits t2 es1 (SetTable.grown es1.size)
    have r3 := relayAll_ris t2 es1 (SetTable.grown es1.size)
    have l3 := relayAll_led t2 es1 (SetTable.grown es1.size)
    generalize relayAll t2 es1 (SetTable.grown es1.size) = Y at p3 f3 r3 l3 ⊢
    obtain ⟨es2, t3, y⟩ := Y
    dsimp only at p3 f3 r3 l3 ⊢
    have sz2 : es2.size = es1.size := by rw [← Array.length_toList, p3.length_eq, Array.length_toList]
    have b2 : es2.size < scanBound := sz2 ▸ b1
    refine wpAny_bind (gw _ _ _ ?_)
    refine wpAny_bind (wpAny_storeSet_of at1 rfl ?_ (fits_of_scanBound b2))
    have at2 := store_at (es' := es2) (t' := t3) at1 rfl
    exact wpAny_pure (go _ (but1.trans (Heap.SameBut.update _ a _)) ⟨_, es2, _, t3, at2, hx, rfl, fun e m => g1 e (p3.mem_iff.mp m), (p3.map wOf).nodup_iff.mpr n1, fun x => (m1 x).trans (p3.map wOf).mem_iff.symm, b2, f3, sz2, r3,
      l2.imp id fun z => l3.trans z⟩)
  · exact wpAny_pure (go _ but1 ⟨_, es1, _, t2, at1, hx, rfl, g1, n1, m1, b1, f2, rfl, r2, l2⟩)
theorem tx_add {x : Str} {tk : Tok} {Q : Bool → Shared → Prop} (R : SetS w s.heap a S c) (room : c + 1 < scanBound)
    (go : ∀ h1, Heap.SameBut a s.heap h1 → SetS w h1 a (fun y => S y || decide (y = x)) (if S x = true then c else c + 1) → Q (!S x) { s with heap := h1 }) :
    wpAny (model P w) A (setAddHashed a (.str x tk) ((PySem.strKind P w).hash x)) Q E s := by
  obtain ⟨o, es, ep, t, ha, hx, hd, g, nd, hm, hb, hf, hn, hr, hl⟩ := R
  have isx : (PySem.strKind P w).is x (.str x tk) = true := strKind_is P w x tk
  have sca : (Value.str x tk).scannable = true := rfl
  have els : ElemsOf (PySem.strKind P w) es.toList := tx_elems g
  unfold setAddHashed setAddHashedIn
  refine wpAny_holding (wpAny_bind (wpAny_setState_of ha hd hf ?_))
  dsimp only
  rw [byScan_of sca hb els]
  simp only [↓reduceIte]
  unfold setAddByScan
  refine wpAny_bind ?_
  refine wpAny_bind (wpAny_rule ?_)
  refine wpAny_bind (wpAny_setScan_of isx ha hd hf els ?_)
  cases found : List.findIdx? (fun e => (PySem.strKind P w).is x e.2) es.toList with
  | some j =>
    dsimp only
    obtain ⟨jl, pj, _⟩ := List.findIdx?_eq_some_iff_getElem.mp found
    have Sx : S x = true := (hm x).2 ((tx_mem (P := P) (w := w) g x).2 ⟨es.toList[j], List.getElem_mem jl, pj⟩)
    refine wpAny_pure (wpAny_pure ?_)
    have q := go s.heap (Heap.SameBut.refl a s.heap) ⟨o, es, ep, t, ha, hx, hd, g, nd, fun y => by
      rw [Bool.or_eq_true, decide_eq_true_eq, ← hm y]
      exact ⟨fun z => z.elim id (fun e => e ▸ Sx), .inl⟩, hb, hf, by rw [if_pos Sx]; exact hn, hr, hl⟩
    rw [Sx] at q
    exact q
  | none =>
    dsimp only
    have out : x ∉ es.toList.map wOf := fun z => by
      obtain ⟨e, m, q⟩ := (tx_mem (P := P) (w := w) g x).1 z
      have := List.findIdx?_eq_none_iff.mp found e m
      rw [q] at this
      cases this
    have Sx : S x = false := by
      cases q : S x with
      | false => rfl
      | true => exact absurd ((hm x).1 q) out
    have gave : ∀ (b : Bool) {s1 : Shared} {Q1 : Unit → Shared → Prop}, Q1 () s1 → wpAny (model P w) A (match b with | true => rule "set.scan.the-table-gave-way" | false => pure ()) Q1 E s1 :=
      fun b s1 Q1 q => by cases b <;> first | exact wpAny_pure q | exact wpAny_rule q
    have p1 := layNew_perm t es ((PySem.strKind P w).hash x) (.str x tk)
    have f1 := layNew_fits t es ((PySem.strKind P w).hash x) (.str x tk)
    have r1 := layNew_ris t es ((PySem.strKind P w).hash x) (.str x tk) hr
    have l1 := layNew_led t es ((PySem.strKind P w).hash x) (.str x tk)
    generalize layNew t es ((PySem.strKind P w).hash x) (.str x tk) = Y at p1 f1 r1 l1 ⊢
    obtain ⟨es1, t1, dm, y⟩ := Y
    dsimp only at p1 f1 r1 l1 ⊢
    rw [Array.toList_push] at p1
    have pc : es1.toList.Perm (((PySem.strKind P w).hash x, Value.str x tk) :: es.toList) := p1.trans (List.perm_append_singleton _ _)
    have pk : (es1.toList.map wOf).Perm (x :: es.toList.map wOf) := pc.map wOf
    have g1 : ∀ e ∈ es1.toList, IsTx w e := fun e m => by
      rcases List.mem_cons.mp (pc.mem_iff.mp m) with z | z
      · rw [z]; exact ⟨x, tk, rfl, rfl⟩
      · exact g e z
    have n1 : (es1.toList.map wOf).Nodup := pk.nodup_iff.mpr (List.nodup_cons.mpr ⟨out, nd⟩)
    have m1 : ∀ y, (S y || decide (y = x)) = true ↔ y ∈ es1.toList.map wOf := fun y => by
      rw [Bool.or_eq_true, decide_eq_true_eq, hm y, pk.mem_iff, List.mem_cons]
      exact Or.comm
    have sz1 : es1.size = c + 1 := by rw [← Array.length_toList, pc.length_eq, List.length_cons, Array.length_toList, hn]
    have b1 : es1.size < scanBound := sz1 ▸ room
    have led1 : w.params.followText "set-order" = true ∨ t1.led = true := hl.imp id fun z => l1.trans z
    have fin : ∀ h1, Heap.SameBut a s.heap h1 → SetS w h1 a (fun y => S y || decide (y = x)) es1.size → Q true { s with heap := h1 } := fun h1 sb r => by
      have q := go h1 sb
      rw [Sx] at q
      rw [sz1] at r
      exact q r
    refine wpAny_bind (gave _ ?_)
    split
    · refine wpAny_bind ?_
      rw [hashByValue_scannable 8 sca]
      refine wpAny_pure ?_
      refine tx_tail ?_ ha hx hd g1 n1 m1 b1 ?_ ?_ ?_ ?_
      · exact fun b s1 Q1 q => by cases b <;> first | exact wpAny_pure q | exact wpAny_rule q
      · first | (split <;> first | exact f1 | exact SetTable.fits_plain_off f1) | exact f1
      · first | (split <;> exact r1) | exact r1
      · first | (split <;> exact led1) | exact led1
      · intro h1 sb r; dsimp only; exact wpAny_pure (fin h1 sb r)
    · refine wpAny_bind (wpAny_pure ?_)
      simp only [↓reduceIte]
      refine tx_tail ?_ ha hx hd g1 n1 m1 b1 f1 r1 led1 ?_
      · exact fun b s1 Q1 q => by cases b <;> first | exact wpAny_pure q | exact wpAny_rule q
      · intro h1 sb r; dsimp only; exact wpAny_pure (fin h1 sb r)
theorem txNew {w : World} {h : Heap} {a : Addr} {xs : List Str} (g : h.get? a = some (nu w)) : SetS w h a (fun y => decide (y ∈ xs.take 0)) 0 :=
  ⟨_, #[], 0, _, g, ⟨rfl, rfl, rfl⟩, rfl, (fun e m => by simp at m), (by simp), (fun x => by simp), (by decide), (by rfl), rfl, List.Pairwise.nil, by
    show _ ∨ (!w.params.followText "set-order") = true
    cases w.params.followText "set-order"
    · exact .inr rfl
    · exact .inl rfl⟩
/-- the texts in, one after the other -/
theorem tx_update {I : Addr} {fp wr : List Addr} {G : Array GenState → Array GenState → Prop} {n : Nat} {Pv : Nat → Value → Prop} {St : Nat → Shared → Prop} {R : Result → Shared → Prop}
    (W : WalksS P w A.in1 I fp wr G n Pv St) (a : Addr) (off : a ∉ fp) (xs : List Str) (hn : n = xs.length) (room : xs.length + 1 < scanBound) (val : ∀ i v, Pv i v → ∃ x t, xs[i]? = some x ∧ v = .str x t) :
    ∀ (k i : Nat) (s : Shared), n - i = k → i ≤ n → St i s → (∃ c, c ≤ i ∧ SetS w s.heap a (fun y => decide (y ∈ xs.take i)) c) →
      (∀ s1 c, Moved (a :: wr) G s s1 → c ≤ n → SetS w s1.heap a (fun y => decide (y ∈ xs)) c → R (.ok (.ret .none)) s1) →
      codeAny (model P w) A (.builtin "set.update.loop" ⟨[.ref a, .ref I], []⟩) R s := by
  have aw : a ∉ wr := fun h => off (W.sub _ h)
  have more : ∀ b ∈ wr, b ∈ a :: wr := fun b m => List.mem_cons_of_mem _ m
  intro k
  induction k with
  | zero =>
    intro i s ek le st ⟨c, hc, hS⟩ go
    obtain rfl : i = n := by omega
    refine codeAny_builtin F.entry_set_update_loop ?_
    rw [Around.under_plainId F.plain_set_update_loop _]
    show wpAny _ A.in1 (pyNext (.ref I) >>= _) _ _ s
    refine wpAny_bind (W.done s _ _ st fun s1 mv => ?_)
    show wpAny _ A.in1 (ret Value.none) _ _ s1
    rw [show xs.take i = xs from List.take_of_length_le (by omega)] at hS
    exact wpAny_pure (go s1 c (mv.mono more) hc (hS.moved fun o e => mv.heap a o aw e))
  | succ k ih =>
    intro i s ek le st ⟨c, hc, hS⟩ go
    have lt : i < n := by omega
    refine codeAny_builtin F.entry_set_update_loop ?_
    rw [Around.under_plainId F.plain_set_update_loop _]
    show wpAny _ A.in1 (pyNext (.ref I) >>= _) _ _ s
    refine wpAny_bind (W.item i s _ _ lt st fun v s1 hv st1 mv => ?_)
    obtain ⟨x, t, hx, rfl⟩ := val i v hv
    have hS1 : SetS w s1.heap a (fun y => decide (y ∈ xs.take i)) c := hS.moved fun o e => mv.heap a o aw e
    show wpAny _ A.in1 (holding [Value.str x t] (setAdd a (.str x t)) >>= _) _ _ s1
    refine wpAny_bind (wpAny_holding ?_)
    unfold setAdd
    refine wpAny_holding ?_
    refine wpAny_bind ((PySem.strKind P w).pyHash (k := x) (strKind_is _ _ _ _) ?_)
    refine tx_add (s := { s1 with toks := s1.toks + 1 }) hS1 (by omega) fun h1 sb hS2 => ?_
    have hS3 : SetS w h1 a (fun y => decide (y ∈ xs.take (i + 1))) (if decide (x ∈ xs.take i) = true then c else c + 1) := hS2.like fun y => by
      rw [List.take_add_one, hx]
      simp [List.mem_append]
    have c3 : (if decide (x ∈ xs.take i) = true then c else c + 1) ≤ i + 1 := by
      split <;> omega
    refine wpAny_pure ⟨plainId_quiet F.plain_set_update_loop _, ih (i + 1) _ (by omega) lt (W.frame _ s1 _ _ st1 (Nat.le_succ _) fun b m o e => ?_) ⟨_, c3, hS3⟩ fun s2 c2 mv2 hc2 hS4 => ?_⟩
    · rw [sb.2 b (fun z : b = a => off (z ▸ m))]
      exact e
    · refine go s2 c2 (Moved.trans W.gtrans ((mv.mono more).then_heap (Nat.le_succ _) fun b o m e => ?_) mv2) hc2 hS4
      rw [sb.2 b (fun z : b = a => m (z ▸ List.mem_cons_self))]
      exact e
theorem str_at : ∀ {vs : List Value} {xs : List Str}, StrsAre vs xs → ∀ (i : Nat) (v : Value), vs[i]? = some v → ∃ x t, xs[i]? = some x ∧ v = .str x t
  | _, _, .nil, _, _, h => nomatch h
  | _, _, .cons x t _, 0, _, h => by cases h; exact ⟨x, t, rfl, rfl⟩
  | _, _, .cons _ _ r, i + 1, v, h => str_at r i v h
set_option maxHeartbeats 3200000 in
theorem set_list_tx {l : Addr} {vs : Array Value} (xs : List Str) {Q : Value → Shared → Prop} (calm : A.handled = none) (at_ : s.heap.IsList l vs)
    (are : StrsAre vs.toList xs) (few : xs.length + 1 < scanBound)
    (go : ∀ (h' : Heap) (tk c : Nat), SetS w h' s.heap.objs.size (fun y => decide (y ∈ xs)) c → c ≤ xs.length →
      (∀ b o, s.heap.get? b = some o → h'.get? b = some o) → Q (.ref s.heap.objs.size) { s with heap := h', toks := tk }) :
    wpAny (model P w) A (call (.type "set") [.ref l]) Q E s := by
  have same : vs.size = xs.length := (Array.length_toList (xs := vs)).symm.trans (StrsAre.length are)
  obtain ⟨c0, tl0, mro0⟩ := F.called_set.mro
  have f1 := F.called_set.made
  have f2 := F.called_set.sub
  refine wpAny_call (codeAny_of_tree ?_)
  show wpAny _ _ (callAny (.type "set") _) _ _ _
  refine wpAny_pure ⟨Code.quiet_builtin _ (by decide +kernel), codeAny_builtin F.entry_type_call ?_⟩
  rw [Around.under_plain (weight_type_call_type "set" [.ref l] []) rfl]
  have f3 := F.called_set.notType
  have f4 := F.called_set.canCreate
  have f5 := F.typeCall_set_1 (.ref l)
  repeat (any_goals (first | assumption | wp_step))
  -- the new set
  refine codeAny_mono (code_set_led1 (.ref l) (E := E) (Q₁ := fun x t => x = .ref s.heap.objs.size ∧ t = { s with heap := s.heap.push (nu w) }) ⟨rfl, rfl⟩) fun r t hr => ?_
  match r, hr with
  | .error _, hr => exact hr
  | .ok .next, hr => exact hr.elim
  | .ok .brk, hr => exact hr.elim
  | .ok .cont, hr => exact hr.elim
  | .ok (.ret x), hr =>
    obtain ⟨e1, e2⟩ := hr
    subst e1 e2
    have g0 : (s.heap.push (nu w)).get? s.heap.objs.size = some (nu w) := Heap.get?_push_size _ rfl
    have ty0 : Shared.TypeIs { s with heap := s.heap.push (nu w) } (.ref s.heap.objs.size) "set" := ⟨_, g0, rfl⟩
    have f6 := F.called_set.init.lookup
    have f7 := F.called_set.init.bind (.ref s.heap.objs.size)
    repeat (any_goals (first | assumption | wp_step))
    -- it is filled
    refine codeAny_mono (codeAny_call_builtin (R := wants (fun r t => r = .none ∧ ∃ h' tk c, t = { s with heap := h', toks := tk } ∧ SetS w h' s.heap.objs.size (fun y => decide (y ∈ xs)) c ∧ c ≤ xs.length ∧
        ∀ b o, s.heap.get? b = some o → h'.get? b = some o) E) F.called_set.init.plain F.entry_set_init (check_set_init_1 ty0 ?_)) fun r t ht => ?_
    · obtain ⟨⟨oc, od, odt, osl⟩, ho, hoc, n, hod⟩ := at_
      simp only at hoc hod
      subst hoc hod
      have ho1 : (s.heap.push (nu w)).get? l = some { cls := .type "list", dict := od, data := .seq vs n, slots := osl } := Heap.get?_push_of_some _ ho
      have f8 := F.sub_list_set
      have f9 := F.sub_list_frozenset
      have f10 : (Value.type "list" == Value.type "dict") = false := by decide
      have isl : (s.heap.push (nu w)).IsList l vs := ⟨_, ho1, rfl, n, rfl⟩
      unfold Builtin.«set.__init__» noKeywords Builtin.Frozenset.updateFrom
      generalize hit : pyIter = it
      wp_walk
      subst hit
      refine wpAny_pyIter_list isl ?_
      refine wpAny_bind (wpAny_runValue ?_)
      have low : l < s.heap.objs.size := Heap.lt_size ho
      have calm3 : A.in1.in1.in1.handled = none := by simp [calm]
      have ne1 : l ≠ (s.heap.push (nu w)).objs.size := by
        rw [Heap.size_push]
        exact Nat.ne_of_lt (Nat.lt_succ_of_lt low)
      have off : s.heap.objs.size ∉ [(s.heap.push (nu w)).objs.size, l] := by
        intro hm
        rw [Heap.size_push] at hm
        rcases List.mem_cons.mp hm with q | hm
        · exact absurd q (Nat.ne_of_lt (Nat.lt_succ_self _))
        · exact absurd (List.mem_singleton.mp hm) (Nat.ne_of_gt low)
      refine tx_update ((Walks.list calm3 _ l ne1 vs).toS) s.heap.objs.size off xs same few (fun i v hv => ?_) (vs.size - 0) 0 _ (by omega) (Nat.zero_le _)
        ⟨⟨_, Heap.get?_push_size _ rfl, rfl, rfl⟩, isl.push _⟩ ⟨0, Nat.le_refl 0, txNew (Heap.get?_push_of_some _ g0)⟩ fun t' c moved le set' => ?_
      · have hi : i < xs.length := same ▸ (Array.getElem?_eq_some_iff.mp hv).1
        exact str_at are i v (by rw [Array.getElem?_toList]; exact hv)
      · obtain ⟨h', g2, d', tk', os'⟩ := t'
        obtain rfl : g2 = s.gens := moved.gens
        obtain rfl : d' = s.drawn := moved.drawn
        obtain rfl : os' = s.os := moved.os
        show wpAny _ _ _ _ _ _
        refine wpAny_pure ?_
        show wpAny _ _ (ret Value.none) _ _ _
        refine wpAny_pure ⟨rfl, h', tk', c, rfl, set', by omega, fun b o e => ?_⟩
        have lb : b < s.heap.objs.size := Heap.lt_size e
        refine moved.heap b o (fun hm => ?_) (Heap.get?_push_of_some _ (Heap.get?_push_of_some _ e))
        rcases List.mem_cons.mp hm with q | hm
        · exact absurd q (Nat.ne_of_lt lb)
        · have q := List.mem_singleton.mp hm
          have q2 : b = s.heap.objs.size + 1 := q.trans (Heap.size_push ..)
          rw [q2] at lb
          exact absurd lb (Nat.not_lt.mpr (Nat.le_succ _))
    · match r, ht with
      | .error _, ht => exact ht
      | .ok .next, ht => exact ht.elim
      | .ok .brk, ht => exact ht.elim
      | .ok .cont, ht => exact ht.elim
      | .ok (.ret x), ht =>
        obtain ⟨rfl, h', tk, c, rfl, set', le, keep⟩ := ht
        repeat (any_goals (first | assumption | wp_step))
        exact go _ _ _ set' le keep
/-- sorted(set), fewer than 64 texts -/
theorem sorted_tx {Q : Value → Shared → Prop} (R : SetS w s.heap a S c) (calm : A.handled = none) (few : c < 64)
    (go : ∀ s1 p (out : Array Value) (k : Nat) (ys : List Str), (∀ b o, s.heap.get? b = some o → s1.heap.get? b = some o) → s1.gens = s.gens → s1.os = s.os → s.heap.objs.size ≤ p →
      s1.heap.get? p = some (seqObj "list" out k) → StrsAre out.toList ys → sortedS ys = true → ys.Nodup → (∀ x, x ∈ ys ↔ S x = true) → ys.length = c → Q (.ref p) s1) :
    wpAny (model P w) A (call (.builtin "sorted") [.ref a]) Q E s := by
  obtain ⟨o, es, ep, t, ha, hx, hd, g, nd, hm, hb, hf, hn, hr, hl⟩ := R
  refine Calls.call_function_entry kind_sorted plain_sorted entry_sorted (args_sorted1 _) ?_
  unfold Builtin.«sorted»
  refine wpAny_bind (m := checkCount "sorted" 1 1 _) (wpAny_pure ?_)
  refine wpAny_bind (collect_set (A := A.in1) calm ⟨o, ha, hx.1, hd⟩ hf hb hr hl fun s1 vs k1 hz g1 o1 pm => ?_)
  have lvs : vs.length = c := by rw [pm.length_eq, List.length_map, Array.length_toList]; exact hn
  have tx : ∀ vs : List Value, (∀ v ∈ vs, ∃ x t, v = Value.str x t) → ∃ ys : List Str, StrsAre vs ys ∧ ys = vs.map fun v => wOf (0, v) := fun vs => by
    induction vs with
    | nil => exact fun _ => ⟨[], .nil, rfl⟩
    | cons v vs ih =>
      intro h
      obtain ⟨x, t, rfl⟩ := h v List.mem_cons_self
      obtain ⟨ys, h1, h2⟩ := ih fun v m => h v (List.mem_cons_of_mem _ m)
      exact ⟨x :: ys, .cons x t h1, by rw [h2]; rfl⟩
  obtain ⟨xs, hS, hxs⟩ := tx vs fun v m => by
    obtain ⟨e, he, q⟩ := List.mem_map.mp (pm.mem_iff.mp m)
    obtain ⟨x, t, e1, _⟩ := g e he
    exact ⟨x, t, by rw [← q]; exact e1⟩
  have px : xs.Perm (es.toList.map wOf) := by
    rw [hxs]
    have q := pm.map fun v => wOf (0, v)
    rw [List.map_map] at q
    exact q
  refine wpAny_bind (wpAny_newList ?_ (by rw [lvs, sizeLine_eq]; omega))
  have atL : (s1.heap.push (seqObj "list" vs.toArray 0)).get? s1.heap.objs.size = some (seqObj "list" vs.toArray 0) := Heap.get?_push_size _ rfl
  refine wpAny_bind (wpAny_holding (wpAny_call_entry slot_list_sort ⟨_, atL, rfl⟩ entry_list_sort
    (list_sort_treeK strKind_oneLt atL hS.keysOf (fun v1 v2 rest e => keyKind_strs (by rw [← e]; exact hS)) (by rw [lvs]; exact few) fun st hp hs => ⟨_, rfl, ?_⟩) (args_list_sort _)))
  obtain ⟨ys, y1, y2, y3⟩ := sorted_out_str hS hp hs
  obtain ⟨k, hk⟩ := sortedHeap_at (vs := vs) (out := (arrOf st).map (·.2)) atL
  have py : ys.Perm (es.toList.map wOf) := y2.trans px
  refine wpAny_pure ⟨_, rfl, go _ s1.heap.objs.size _ k ys (fun b u e => ?_) g1 o1 hz hk y1 y3 (py.nodup_iff.mpr nd) (fun x => by rw [py.mem_iff, ← hm x]) ?_⟩
  · have q := k1 b u e
    have lt := Heap.lt_size q
    show (sortedHeap (s1.heap.push (seqObj "list" vs.toArray 0)) s1.heap.objs.size vs _).get? b = some u
    rw [sortedHeap_old (Nat.ne_of_lt lt) (by rw [size_push']; exact Nat.lt_succ_of_lt lt)]
    exact Heap.get?_push_of_some _ q
  · rw [py.length_eq, List.length_map, Array.length_toList]
    exact hn
end
/-- the set of texts at a -/
def SetSO (w : World) (a : Addr) (S : Str → Bool) (c : Nat) : HO := .ext fun h => SetS w h a S c
section
variable {X : Cx}
theorem setSO_new {w : World} {P : Program} {H : Hp} {h : Heap} {a : Addr} {S : Str → Bool} {c : Nat} (R : SetS w h a S c) : ObjOk P w H h a (SetSO w a S c) := by
  have ⟨o, _, _, _, ha, _⟩ := R
  exact ⟨R, ⟨o, ha⟩, fun h1 h2 p k => SetS.moved p k⟩
/-- set(l), l a list of texts -/
def rSetS (K : PySem.W.Frag) (w : World) : List V → Hp → VK → Prop := fun vs H Q => ∃ (p : Addr) (xs : List Str), vs = [V.ref p] ∧ SqL K H p (xs.map V.str) ∧ xs.length ≤ 1000 ∧
    ∀ (a : Addr) (c : Nat), c ≤ xs.length → H a = none → Q (V.ref a) (upd H a (SetSO w a (fun y => decide (y ∈ xs)) c))
theorem cr_setS (calm : X.calm = true) : CallR X (.type "set") (rSetS X.K X.w) := by
  intro pins s σ H vs us Q I r ⟨p, xs, e, sq, few, q⟩
  subst e
  rw [Vals.ref1 r]
  have bound : xs.length + 1 < scanBound := Nat.lt_of_le_of_lt (Nat.add_le_add_right few 1) (by decide)
  obtain ⟨its, rv, ⟨o, n, ho, hc, hd, hdat⟩, _⟩ := I.list sq
  exact set_list_tx xs (I.ok.hd calm) ⟨o, ho, hc, n, hdat⟩ rv.strs bound fun h' tk c R le k =>
    ⟨.ref s.heap.objs.size, _, I.laid k (Nat.le_refl _) (setSO_new R), rfl, q _ c le (I.hok.fresh (Nat.le_refl _))⟩
/-- sorted(set), of texts -/
def rSortSetS (w : World) : List V → Hp → VK → Prop := fun vs H Q => ∃ (a : Addr) (S : Str → Bool) (c : Nat), vs = [V.ref a] ∧ H a = some (SetSO w a S c) ∧ c < 64 ∧
  ∀ (ys : List Str) (p : Addr), sortedS ys = true → ys.Nodup → (∀ x, x ∈ ys ↔ S x = true) → ys.length = c → H p = none → Q (.ref p) (upd H p (.lst (ys.map V.str)))
theorem cr_sortSetS (calm : X.calm = true) : CallR X (.builtin "sorted") (rSortSetS X.w) := by
  intro pins s σ H vs us Q I r ⟨a, S, c, e, ha, few, q⟩
  subst e
  have R : SetS X.w s.heap a S c := (I.hok a _ ha).1
  rw [Vals.ref1 r]
  refine sorted_tx R (I.ok.hd calm) few fun s1 p out k ys kp g o hp hk hs so nd hm hl => ?_
  have lys : (ys.map V.str).length ≤ sizeLine := by rw [List.length_map, hl, sizeLine_eq]; omega
  have np : H p = none := I.hok.fresh hp
  have J : Inv X pins σ (upd H p (.lst (ys.map V.str))) { s with heap := s1.heap, gens := s1.gens, drawn := s1.drawn, toks := s1.toks } :=
    I.call (ch := []) (Un.laid kp hp np) (I.hok.laid kp hp ⟨lys, out.toList, k, vals_of_strs hs, hk⟩) (by rw [g]; exact I.bare) (fun _ z => nomatch z)
  have e : s1 = { s with heap := s1.heap, gens := s1.gens, drawn := s1.drawn, toks := s1.toks } := by
    cases s1
    cases s
    cases o
    rfl
  rw [e]
  exact ⟨.ref p, _, J, rfl, q ys p so nd hm hl np⟩
end
end Tl
set_option Elab.async false
set_option linter.all false
set_option autoImplicit false
set_option maxRecDepth 100000
set_option maxHeartbeats 3200000
/-! set(t), t a tuple of tuples of ints -/
namespace Tl
open PySem PySem.Spec PyProof.Rows L2
section
variable {P : Program} {w : World} {A : Around} {E : Value → Shared → Prop} {s : Shared}
theorem set_tup_tups {l : Addr} {vs : Array Value} (ks : List (Addr × List Int)) {Q : Value → Shared → Prop} (calm : A.handled = none) (at_ : s.heap.IsTuple l vs)
    (are : vs.toList = ks.map fun p => Value.ref p.1) (ats : ∀ p ∈ ks, IsT P w s.heap p.2 p.1) (few : ks.length < 64) (hu : A.units + 3 < cLine)
    (go : ∀ (h' : Heap) (tk : Nat) L es ep t, SetTR P w h' s.heap.objs.size L es ep t → Got ks ks.length L →
      (∀ b o, s.heap.get? b = some o → h'.get? b = some o) → Q (.ref s.heap.objs.size) { s with heap := h', toks := tk }) :
    wpAny (model P w) A (call (.type "set") [.ref l]) Q E s := by
  have same : vs.size = ks.length := by
    have := congrArg List.length are
    rwa [Array.length_toList, List.length_map] at this
  obtain ⟨c0, tl0, mro0⟩ := F.called_set.mro
  have f1 := F.called_set.made
  have f2 := F.called_set.sub
  refine wpAny_call (codeAny_of_tree ?_)
  show wpAny _ _ (callAny (.type "set") _) _ _ _
  refine wpAny_pure ⟨Code.quiet_builtin _ (by decide +kernel), codeAny_builtin F.entry_type_call ?_⟩
  rw [Around.under_plain (weight_type_call_type "set" [.ref l] []) rfl]
  have f3 := F.called_set.notType
  have f4 := F.called_set.canCreate
  have f5 := F.typeCall_set_1 (.ref l)
  repeat (any_goals (first | assumption | wp_step))
  -- the new set
  refine codeAny_mono (code_set_led1 (.ref l) (E := E) (Q₁ := fun x t => x = .ref s.heap.objs.size ∧ t = { s with heap := s.heap.push (nu w) }) ⟨rfl, rfl⟩) fun r t hr => ?_
  match r, hr with
  | .error _, hr => exact hr
  | .ok .next, hr => exact hr.elim
  | .ok .brk, hr => exact hr.elim
  | .ok .cont, hr => exact hr.elim
  | .ok (.ret x), hr =>
    obtain ⟨e1, e2⟩ := hr
    subst e1 e2
    have g0 : (s.heap.push (nu w)).get? s.heap.objs.size = some (nu w) := Heap.get?_push_size _ rfl
    have ty0 : Shared.TypeIs { s with heap := s.heap.push (nu w) } (.ref s.heap.objs.size) "set" := ⟨_, g0, rfl⟩
    have f6 := F.called_set.init.lookup
    have f7 := F.called_set.init.bind (.ref s.heap.objs.size)
    repeat (any_goals (first | assumption | wp_step))
    -- it is filled
    refine codeAny_mono (codeAny_call_builtin (R := wants (fun r t => r = .none ∧ ∃ h' tk L es ep t2, t = { s with heap := h', toks := tk } ∧ SetTR P w h' s.heap.objs.size L es ep t2 ∧ Got ks ks.length L ∧
        ∀ b o, s.heap.get? b = some o → h'.get? b = some o) E) F.called_set.init.plain F.entry_set_init (check_set_init_1 ty0 ?_)) fun r t ht => ?_
    · obtain ⟨⟨oc, od, odt, osl⟩, ho, hoc, n, hod⟩ := at_
      simp only at hoc hod
      subst hoc hod
      have ho1 : (s.heap.push (nu w)).get? l = some { cls := .type "tuple", dict := od, data := .seq vs n, slots := osl } := Heap.get?_push_of_some _ ho
      have f8 := F.sub_tuple_set
      have f9 := F.sub_tuple_frozenset
      have f10 : (Value.type "tuple" == Value.type "dict") = false := by decide
      have isl : (s.heap.push (nu w)).IsTuple l vs := ⟨_, ho1, rfl, n, rfl⟩
      unfold Builtin.«set.__init__» noKeywords Builtin.Frozenset.updateFrom
      generalize hit : pyIter = it
      wp_walk
      subst hit
      refine wpAny_pyIter_tuple isl ?_
      refine wpAny_bind (wpAny_runValue ?_)
      have low : l < s.heap.objs.size := Heap.lt_size ho
      have calm3 : A.in1.in1.in1.handled = none := by simp [calm]
      have ne1 : l ≠ (s.heap.push (nu w)).objs.size := by
        rw [Heap.size_push]
        exact Nat.ne_of_lt (Nat.lt_succ_of_lt low)
      have off : s.heap.objs.size ∉ [(s.heap.push (nu w)).objs.size, l] := by
        intro hm
        rw [Heap.size_push] at hm
        rcases List.mem_cons.mp hm with q | hm
        · exact absurd q (Nat.ne_of_lt (Nat.lt_succ_self _))
        · exact absurd (List.mem_singleton.mp hm) (Nat.ne_of_gt low)
      have free : ∀ b, s.heap.objs.size ≤ b → s.heap.get? b = none := fun b hb => Heap.get?_none_of_le hb
      refine set_update_tups ((Walks.tuple calm3 _ l ne1 vs).toS) s.heap.objs.size off ks same few (fun i v hv => ?_) s.heap ats (free _ (Nat.le_refl _)) (fun b m => free b (by
          rw [List.mem_singleton.mp m, Heap.size_push]
          exact Nat.le_succ _)) hu (vs.size - 0) 0 _ (by omega) (Nat.zero_le _)
        ⟨⟨_, Heap.get?_push_size _ rfl, rfl, rfl⟩, isl.push _⟩ (fun b o e => Heap.get?_push_of_some _ (Heap.get?_push_of_some _ e)) ⟨[], #[], 0, _, setTR_fresh (Heap.get?_push_of_some _ g0), Got.zero ks⟩ fun t' L es ep t2 moved set' got keep => ?_
      · have e : vs.toList[i]? = some v := by rw [Array.getElem?_toList]; exact hv
        rw [are, List.getElem?_map] at e
        cases k : ks[i]? with
        | none => rw [k] at e; cases e
        | some p =>
          rw [k] at e
          exact ⟨p, rfl, (Option.some.inj e).symm⟩
      · obtain ⟨h', g2, d', tk', os'⟩ := t'
        obtain rfl : g2 = s.gens := moved.gens
        obtain rfl : d' = s.drawn := moved.drawn
        obtain rfl : os' = s.os := moved.os
        show wpAny _ _ _ _ _ _
        refine wpAny_pure ?_
        show wpAny _ _ (ret Value.none) _ _ _
        rw [same] at got
        exact wpAny_pure ⟨rfl, h', tk', L, es, ep, t2, rfl, set', got, keep⟩
    · match r, ht with
      | .error _, ht => exact ht
      | .ok .next, ht => exact ht.elim
      | .ok .brk, ht => exact ht.elim
      | .ok .cont, ht => exact ht.elim
      | .ok (.ret x), ht =>
        obtain ⟨rfl, h', tk, L, es, ep, t2, rfl, set', got, keep⟩ := ht
        repeat (any_goals (first | assumption | wp_step))
        exact go _ _ _ _ _ _ set' got keep
end
section
variable {X : Cx}
def rSetTT (K : PySem.W.Frag) (P : Program) (w : World) : List V → Hp → VK → Prop := fun xs H Q => ∃ (l : Addr) (ks : List (Addr × List Int)), xs = [V.ref l] ∧ SqT K H l (ks.map fun p => V.ref p.1) ∧ (∀ p ∈ ks, SqT K H p.1 (p.2.map V.int)) ∧ ks.length < 64 ∧
  ∀ a L, H a = none → (∀ p ∈ L, p ∈ ks) → (∀ p ∈ ks, p.2 ∈ L.map (·.2)) → Q (.ref a) (upd H a (SetTO P w a L))
theorem cr_setTT (calm : X.calm = true) (hu : X.A.units + 64 < cLine) : CallR X (.type "set") (rSetTT X.K X.prog X.w) := by
  intro pins s σ H xs us Q I r ⟨l, ks, e, hl, hk, few, q⟩
  subst e
  rw [Vals.ref1 r]
  obtain ⟨its, rv, pl, _⟩ := I.tuple hl
  refine set_tup_tups (P := X.prog) (w := X.w) ks (I.ok.hd calm) pl (by simpa using refs_of_vals rv) (fun p m => I.isT (hk p m)) few (by omega) fun h' tk L es ep t R g k => ?_
  refine ⟨.ref s.heap.objs.size, _, I.laid (t' := tk) k (Nat.le_refl _) (setTO_new R.t0), rfl, q _ L (I.hok.fresh (Nat.le_refl _)) (fun p m => List.mem_of_mem_take (g.sub p m)) fun p m => g.all p (by rw [List.take_length]; exact m)⟩
end
end Tl
set_option Elab.async false
set_option linter.all false
set_option autoImplicit false
set_option maxRecDepth 100000
set_option maxHeartbeats 3200000
/-! sets of tuples within tuples -/
namespace Tl
open PySem PySem.Spec PyProof.Rows L2
/-- at a stands the tuple that is the key k -/
structure NI (h : Heap) (k : NestedKey) (a : Addr) : Prop where
  it : NestedIs h k (.ref a)
  low : k.depth ≤ 8
/-- one of its words ends well -/
def Some1 (P : Program) (w : World) (s : Shared) (m : Sem Bool) : Prop := ∀ (A : Around) (E : Value → Shared → Prop) (Q : Bool → Shared → Prop), (∀ b, Q b s) → wpAny (model P w) A m Q E s
/-- no -/
def No1 (P : Program) (w : World) (s : Shared) (m : Sem Bool) : Prop := ∀ (A : Around) (E : Value → Shared → Prop) (Q : Bool → Shared → Prop), Q false s → wpAny (model P w) A m Q E s
section
variable {P : Program} {w : World} {s : Shared}
theorem some_tup {n : Nat} {a : Addr} {o : Obj} {vs : Array Value} {m : Nat} (e1 : s.heap.get? a = some o) (e2 : o.cls = .type "tuple") (e3 : o.data = .seq vs m) (all : ∀ v ∈ vs.toList, Some1 P w s (hashByValue n v)) : Some1 P w s (hashByValue (n + 1) (.ref a)) := fun A E Q q => by
  have ty : s.TypeIs (.ref a) "tuple" := ⟨o, e1, e2⟩
  unfold hashByValue
  refine wpAny_bind (wpAny_specialOf ty F.slot_tuple_hash.lookup ?_)
  show wpAny _ _ (seqItems? (.ref a) >>= _) _ _ s
  refine wpAny_bind (wpAny_seqItems e1 e3 (wpAny_bind ?_))
  show wpAny _ _ (forIn vs _ _) _ _ s
  rw [← Array.forIn_toList]
  refine wpAny_forIn_list _ (fun l r u => r.1 = none ∧ u = s ∧ ∀ v ∈ l, Some1 P w s (hashByValue n v)) _ (fun v l r u z => ?_) (fun r u z => ?_) _ _ ⟨rfl, rfl, all⟩
  · obtain ⟨z1, rfl, z2⟩ := z
    refine wpAny_bind (z2 v List.mem_cons_self _ _ _ fun b => ?_)
    cases b with
    | true =>
      simp only [Bool.not_true, Bool.false_eq_true, if_false]
      exact wpAny_pure ⟨rfl, rfl, fun y m => z2 y (List.mem_cons_of_mem _ m)⟩
    | false =>
      simp only [Bool.not_false, if_true]
      exact wpAny_pure (wpAny_pure (q _))
  · obtain ⟨r1, r2⟩ := r
    obtain ⟨z1, rfl, _⟩ := z
    obtain rfl : r1 = none := z1
    exact wpAny_pure (q _)
mutual
theorem nk_some : ∀ (k : NestedKey) (v : Value) (n : Nat), NestedIs s.heap k v → Some1 P w s (hashByValue n v)
  | .none, _, n, z => fun A E Q q => by cases z; cases n <;> exact wpAny_pure (q _)
  | .num i, _, n, z => fun A E Q q => by cases z <;> cases n <;> exact wpAny_pure (q _)
  | .text x, _, n, z => fun A E Q q => by cases z; cases n <;> exact wpAny_pure (q _)
  | .tup ks, _, n, z => by
    cases z with
    | tup e1 e2 e3 e4 =>
      cases n with
      | zero => exact fun A E Q q => wpAny_pure (q _)
      | succ n => exact some_tup e1 e2 e3 (nk_somes ks _ n e4)
theorem nk_somes : ∀ (ks : List NestedKey) (vs : List Value) (n : Nat), NestedAll s.heap ks vs → ∀ v ∈ vs, Some1 P w s (hashByValue n v)
  | [], _, _, z, v, m => by cases z; cases m
  | k :: ks, _, n, z, v, m => by
    cases z with
    | cons z1 z2 =>
      rcases List.mem_cons.mp m with e | m
      · rw [e]; exact nk_some k _ n z1
      · exact nk_somes ks _ n z2 v m
end
theorem no_tup {n : Nat} {a : Addr} {o : Obj} {vs : Array Value} {m : Nat} (e1 : s.heap.get? a = some o) (e2 : o.cls = .type "tuple") (e3 : o.data = .seq vs m) (all : ∀ v ∈ vs.toList, No1 P w s (ofAClassStatement n v)) : No1 P w s (ofAClassStatement (n + 1) (.ref a)) := fun A E Q q => by
  have ty : s.TypeIs (.ref a) "tuple" := ⟨o, e1, e2⟩
  unfold ofAClassStatement
  refine wpAny_bind (wpAny_typeOf ty ?_)
  dsimp only
  have tt : (("tuple" : String) == "tuple") = true := by decide
  simp only [tt, if_true, Bool.not_true, Bool.false_eq_true, if_false]
  try refine wpAny_bind (wpAny_pure ?_)
  try simp only [Bool.not_true, Bool.false_eq_true, if_false]
  show wpAny _ _ (seqItems? (.ref a) >>= _) _ _ s
  refine wpAny_bind (wpAny_seqItems e1 e3 ?_)
  dsimp only
  refine wpAny_bind ?_
  show wpAny _ _ (forIn vs _ _) _ _ s
  rw [← Array.forIn_toList]
  refine wpAny_forIn_list _ (fun l r u => r.1 = none ∧ u = s ∧ ∀ v ∈ l, No1 P w s (ofAClassStatement n v)) _ (fun v l r u z => ?_) (fun r u z => ?_) _ _ ⟨rfl, rfl, all⟩
  · obtain ⟨z1, rfl, z2⟩ := z
    refine wpAny_bind (z2 v List.mem_cons_self _ _ _ ?_)
    simp only [Bool.false_eq_true, if_false]
    exact wpAny_pure ⟨rfl, rfl, fun y m => z2 y (List.mem_cons_of_mem _ m)⟩
  · obtain ⟨r1, r2⟩ := r
    obtain ⟨z1, rfl, _⟩ := z
    obtain rfl : r1 = none := z1
    exact wpAny_pure q
mutual
theorem nk_no : ∀ (k : NestedKey) (v : Value) (n : Nat), NestedIs s.heap k v → k.depth ≤ n → No1 P w s (ofAClassStatement n v)
  | .none, _, n, z, _ => fun A E Q q => by cases z; cases n <;> exact wpAny_pure q
  | .num i, _, n, z, _ => fun A E Q q => by cases z <;> cases n <;> exact wpAny_pure q
  | .text x, _, n, z, _ => fun A E Q q => by cases z; cases n <;> exact wpAny_pure q
  | .tup ks, _, n, z, d => by
    cases z with
    | tup e1 e2 e3 e4 =>
      rw [NestedKey.depth] at d
      cases n with
      | zero => omega
      | succ n => exact no_tup e1 e2 e3 (nk_nos ks _ n e4 (by omega))
theorem nk_nos : ∀ (ks : List NestedKey) (vs : List Value) (n : Nat), NestedAll s.heap ks vs → NestedKey.depthAll ks ≤ n → ∀ v ∈ vs, No1 P w s (ofAClassStatement n v)
  | [], _, _, z, _, v, m => by cases z; cases m
  | k :: ks, _, n, z, d, v, m => by
    rw [NestedKey.depthAll] at d
    cases z with
    | cons z1 z2 =>
      rcases List.mem_cons.mp m with e | m
      · rw [e]; exact nk_no k _ n z1 (by omega)
      · exact nk_nos ks _ n z2 (by omega) v m
end
end
/-- the rows of the table: an address and its key -/
abbrev NRow := Addr × NestedKey
def hN (w : World) (p : NRow) : Int := p.2.hash w
def cell (w : World) (p : NRow) : Int × Value := (hN w p, Value.ref p.1)
/-- the set at a with the rows L -/
structure NSet (w : World) (h : Heap) (a : Addr) (L : List NRow) (es : Array (Int × Value)) (ep : Nat) (t : SetTable) : Prop where
  obj : ∃ o, h.get? a = some o ∧ o.ExactSet ∧ o.data = .set es ep t
  rows : es.toList = L.map (cell w)
  tab : TabOk t (L.map (hN w))
  nodup : (L.map Prod.snd).Nodup
  keys : ∀ p ∈ L, NI h p.2 p.1
  led : w.params.followText "set-order" = true ∨ t.led = true
  room : L.length * 5 < t.mask * 3
  few : L.length < 64
section
variable {P : Program} {w : World} {A : Around} {E : Value → Shared → Prop} {s : Shared} {a : Addr} {L : List NRow} {es : Array (Int × Value)} {ep : Nat} {t : SetTable}
theorem cells_size {l : List NRow} {fs : Array (Int × Value)} (h : fs.toList = l.map (cell w)) : fs.size = l.length := by
  have := congrArg List.length h
  rwa [Array.length_toList, List.length_map] at this
theorem NSet.fit (R : NSet w s.heap a L es ep t) : t.fits es.size = true := by
  have h1 := R.tab.sz
  rw [List.length_map] at h1
  have h2 := cells_size R.rows
  have h3 := R.room
  unfold SetTable.fits SetTable.fill
  rw [R.tab.dm, Bool.and_eq_true, beq_iff_eq, decide_eq_true_eq]
  show t.place.size = es.size ∧ t.place.size + 0 ≤ t.mask
  omega
theorem NSet.at (R : NSet w s.heap a L es ep t) {i : Nat} {p : NRow} (h : L[i]? = some p) : es[i]? = some (cell w p) := by
  rw [← Array.getElem?_toList, R.rows, List.getElem?_map, h]
  rfl
theorem NSet.whole (R : NSet w s.heap a L es ep t) : ¬ t.gaveWay = true := by
  unfold SetTable.gaveWay
  rw [mask_odd R.tab.mok]
  decide
/-- a search among such keys can't be seen -/
theorem unseen {x : Addr} {k : NestedKey} (hx : NI s.heap k x) {ys : List Value} (all : ∀ y ∈ ys, ∃ k' c, y = Value.ref c ∧ NI s.heap k' c) {Q : Bool → Shared → Prop} (q : Q false s) : wpAny (model P w) A (searchCouldBeSeen (.ref x) ys) Q E s := by
  unfold searchCouldBeSeen
  refine wpAny_bind (wpAny_forIn_list _ (fun l r u => r.1 = none ∧ u = s ∧ ∀ y ∈ l, ∃ k' c, y = Value.ref c ∧ NI s.heap k' c) _ (fun v l r u z => ?_) (fun r u z => ?_) _ _ ⟨rfl, rfl, all⟩)
  · obtain ⟨_, rfl, z2⟩ := z
    obtain ⟨k', c, rfl, hc⟩ := z2 v List.mem_cons_self
    have more : ∀ y ∈ l, ∃ k' c, y = Value.ref c ∧ NI u.heap k' c := fun y m => z2 y (List.mem_cons_of_mem _ m)
    dsimp only
    by_cases same : (x == c || (carriedByValue (.ref x) && carriedByValue (.ref c))) = true
    · exact wp_if_pos same (wpAny_pure ⟨rfl, rfl, more⟩)
    · refine wp_if_neg same ?_
      refine wpAny_bind ((nestedKind P w).quiet ⟨hx.it, hx.low⟩ ?_)
      simp only [Bool.not_true, Bool.false_eq_true, if_false]
      refine wpAny_bind ((nestedKind P w).quiet ⟨hc.it, hc.low⟩ ?_)
      simp only [Bool.not_true, Bool.false_eq_true, if_false]
      refine wpAny_bind (nk_no _ _ 8 hx.it hx.low _ _ _ ?_)
      simp only [Bool.false_eq_true, if_false]
      refine wpAny_bind (nk_no _ _ 8 hc.it hc.low _ _ _ ?_)
      simp only [Bool.false_eq_true, if_false]
      exact wpAny_pure ⟨rfl, rfl, more⟩
  · obtain ⟨r1, r2⟩ := r
    obtain ⟨z1, rfl, _⟩ := z
    obtain rfl : r1 = none := z1
    exact wpAny_pure q
/-- the way of a hash through the table -/
abbrev road (t : SetTable) (h : Int) (c : Nat) : SetTable.Probe := nth t.mask (runAt t.mask (SetTable.bits h % (t.mask + 1)) (SetTable.bits h)) c
theorem nth_dummy (m : Nat) : ∀ (n : Nat) (p : SetTable.Probe), p.dummy = none → (nth m p n).dummy = none
  | 0, _, h => h
  | n + 1, p, h => nth_dummy m n (adv m p) (by
    unfold adv
    split <;> exact h)
/-- a search for the key k, from the c-th place of its way -/
theorem look_on (R : NSet w s.heap a L es ep t) {x : Addr} {k : NestedKey} (hx : NI s.heap k x) (hu : A.units + 8 < cLine) {G : Nat} (g1 : G < 10 * SetTable.turns t.mask)
    (g2 : way t.mask (k.hash w) G ∉ t.place.toList) (g3 : ∀ c, c < G → way t.mask (k.hash w) c ∈ t.place.toList) {Q : SetFound → Shared → Prop}
    (yes : k ∈ L.map Prod.snd → Q (.there none) s) (no : k ∉ L.map Prod.snd → Q (.free (way t.mask (k.hash w) G) false) s) :
    ∀ (f c : Nat) (st : Option SetTable.Probe), st.getD (t.probeStart (k.hash w)) = road t (k.hash w) c → c ≤ G → G - c < f →
      (∀ (i : Nat) (p : NRow), L[i]? = some p → p.2 = k → ∃ d, c ≤ d ∧ d < G ∧ t.place.toList[i]? = some (way t.mask (k.hash w) d)) →
      wpAny (model P w) A (setSearchFrom a (.ref x) (k.hash w) true f st) Q E s
  | 0, _, _, _, _, z, _ => absurd z (Nat.not_lt_zero _)
  | f + 1, c, st, hs, hc, hf, hr => by
    obtain ⟨o, o1, o2, o3⟩ := R.obj
    rw [setSearchFrom_succ]
    refine wpAny_bind (wpAny_setState_of o1 o3 R.fit ?_)
    dsimp only
    refine wp_if_neg R.whole ?_
    try refine wpAny_bind (wpAny_pure ?_)
    have on : ∀ q, nth t.mask (road t (k.hash w) c) q = road t (k.hash w) (c + q) := fun q => (nth_add t.mask c _ q).symm
    have onj : ∀ q, (nth t.mask (road t (k.hash w) c) q).j = way t.mask (k.hash w) (c + q) := fun q => congrArg SetTable.Probe.j (on q)
    have eG : c + (G - c) = G := by omega
    have found := go_spec t R.tab.ris R.tab.dm (fun i => (es[i]?.map (·.1)).getD 0) (k.hash w) (10 * SetTable.turns t.mask) (G - c) _ (nth_dummy t.mask c _ rfl) (by omega)
      (fun q hq => by rw [onj]; exact g3 (c + q) (by omega)) (by rw [onj, eG]; exact g2)
    have hash : ∀ (i : Nat) (p : NRow), L[i]? = some p → (es[i]?.map (·.1)).getD 0 = hN w p := fun i p hp => by
      rw [R.at hp]
      rfl
    rcases found with ⟨q, i, q1, q2, q3, q4, q5⟩ | ⟨q4, q5⟩
    · have q5' : t.probe (fun i => (es[i]?.map (·.1)).getD 0) (k.hash w) (st.getD (t.probeStart (k.hash w))) = some (.candidate (way t.mask (k.hash w) (c + q)) i (road t (k.hash w) (c + (q + 1)))) := by
        rw [hs, ← onj, ← on]
        exact q5
      rw [q5']
      dsimp only
      rw [onj] at q2
      have il : i < L.length := by
        have h1 := (List.getElem?_eq_some_iff.mp q2).1
        have h2 := R.tab.sz
        rw [List.length_map] at h2
        rw [Array.length_toList] at h1
        omega
      obtain ⟨p, hp⟩ : ∃ p, L[i]? = some p := ⟨_, List.getElem?_eq_getElem il⟩
      have pm := List.mem_of_getElem? hp
      have pk := R.keys p pm
      have rest : wpAny (model P w) A (searchRest a (.ref x) (k.hash w) true f es t (way t.mask (k.hash w) (c + q)) i (road t (k.hash w) (c + (q + 1)))) Q E s := by
        unfold searchRest
        rw [R.at hp]
        unfold cell
        dsimp only
        refine wpAny_bind (wpAny_holding ((nestedKind P w).eqBool (x := p.2) (y := k) hu ⟨pk.it, pk.low⟩ ⟨hx.it, hx.low⟩ ?_))
        refine wpAny_bind (wpAny_setState_of o1 o3 R.fit ?_)
        dsimp only
        by_cases ek : p.2 = k
        · exact wp_if_pos (by simp [ek]) (wpAny_pure (yes (List.mem_map.mpr ⟨p, pm, ek⟩)))
        · refine wp_if_neg (by simp [ek]) ?_
          try refine wpAny_bind (wpAny_pure ?_)
          rw [sameMem]
          dsimp only
          have live : t.slot (way t.mask (k.hash w) (c + q)) = .live i := slot_live R.tab.ris q2
          simp only [if_true, live, R.at hp, cell]
          refine wpAny_bind (wpAny_isSame_ref_self (wpAny_bind (wpAny_pure ?_)))
          simp only [if_true]
          refine wp_if_neg (by simp [ek]) ?_
          refine look_on R hx hu g1 g2 g3 yes no f (c + (q + 1)) _ rfl (by omega) (by omega) fun i' p' hp' ek' => ?_
          obtain ⟨d, d1, d2, d3⟩ := hr i' p' hp' ek'
          refine ⟨d, ?_, d2, d3⟩
          rcases Nat.lt_trichotomy d (c + q) with z | z | z
          · refine absurd ((hash i' p' hp').trans (congrArg (NestedKey.hash w) ek')) (q4 (d - c) i' (by omega) ?_)
            rw [onj, show c + (d - c) = d by omega]
            exact d3
          · rw [z] at d3
            have s2 := slot_live R.tab.ris d3
            rw [live] at s2
            injection s2 with s2
            rw [← s2, hp] at hp'
            exact absurd ((congrArg Prod.snd (Option.some.inj hp')).trans ek') ek
          · omega
      by_cases hl : t.led = true
      · refine wp_if_neg (by simp [hl]) ?_
        try refine wpAny_bind (wpAny_pure ?_)
        exact rest
      · refine wp_if_pos (by simp [hl]) (wpAny_bind (unseen hx (fun y hy => ?_) ?_))
        · obtain ⟨e, he, rfl⟩ := List.mem_map.mp hy
          have m1 : e ∈ es ∧ e.1 = k.hash w := by simpa using he
          have m2 : e ∈ es.toList := by simpa using m1.1
          rw [R.rows] at m2
          obtain ⟨p', m3, rfl⟩ := List.mem_map.mp m2
          exact ⟨p'.2, p'.1, rfl, R.keys p' m3⟩
        · refine wp_if_neg (by decide) ?_
          try refine wpAny_bind (wpAny_pure ?_)
          exact rest
    · have q5' : t.probe (fun i => (es[i]?.map (·.1)).getD 0) (k.hash w) (st.getD (t.probeStart (k.hash w))) = some (.empty (way t.mask (k.hash w) G) none) := by
        have e2 : way t.mask (k.hash w) G = (nth t.mask (road t (k.hash w) c) (G - c)).j := by rw [onj, eG]
        rw [hs, e2]
        exact q5
      rw [q5']
      dsimp only
      refine wpAny_pure (no fun m => ?_)
      obtain ⟨p', m', ek'⟩ := List.mem_map.mp m
      obtain ⟨i', hi', e'⟩ := List.getElem_of_mem m'
      have hp' : L[i']? = some p' := by rw [List.getElem?_eq_getElem hi', e']
      obtain ⟨d, d1, d2, d3⟩ := hr i' p' hp' ek'
      refine q4 (d - c) i' (by omega) ?_ ((hash i' p' hp').trans (congrArg (NestedKey.hash w) ek'))
      rw [onj, show c + (d - c) = d by omega]
      exact d3
/-- the search of an adding -/
theorem look_for (R : NSet w s.heap a L es ep t) {x : Addr} {k : NestedKey} (hx : NI s.heap k x) (hu : A.units + 8 < cLine) {Q : SetFound → Shared → Prop} (yes : k ∈ L.map Prod.snd → Q (.there none) s)
    (no : ∀ G, k ∉ L.map Prod.snd → way t.mask (k.hash w) G ∉ t.place.toList → (∀ c, c < G → way t.mask (k.hash w) c ∈ t.place.toList) → Q (.free (way t.mask (k.hash w) G) false) s) :
    wpAny (model P w) A (setSearch a (.ref x) (k.hash w) true) Q E s := by
  have rm := R.room
  obtain ⟨G, g1, g2, g3⟩ := R.tab.first (by rw [List.length_map]; omega) (k.hash w)
  have big : G < 100000 := by
    have : 10 * SetTable.turns t.mask ≤ 1420 := by
      unfold SetTable.turns
      rcases R.tab.mok with e | e | e <;> omega
    omega
  unfold setSearch
  refine look_on R hx hu g1 g2 g3 yes (fun n => no G n g2 g3) 100000 0 none rfl (Nat.zero_le _) (by omega) fun i p hp ek => ?_
  have at1 : (L.map (hN w))[i]? = some (k.hash w) := by
    rw [List.getElem?_map, hp, ← ek]
    rfl
  have il : i < t.place.toList.length := by
    have h1 := (List.getElem?_eq_some_iff.mp hp).1
    have h2 := R.tab.sz
    rw [List.length_map] at h2
    rw [Array.length_toList]
    omega
  have at2 := List.getElem?_eq_getElem il
  obtain ⟨d, d1, d2⟩ := R.tab.before g2 at1 at2
  exact ⟨d, Nat.zero_le _, d1, by rw [at2, d2]⟩
theorem NI.set {h h' : Heap} {k : NestedKey} {a b : Addr} {o : Obj} {es : Array (Int × Value)} {ep : Nat} {t : SetTable} (n : NI h k b) (ho : h.get? a = some o) (hd : o.data = .set es ep t) (sb : Heap.SameBut a h h') : NI h' k b :=
  ⟨NestedIs.at (fun c u vs m hc hm => by
    refine (sb.2 c fun e => ?_).trans hc
    subst e
    rw [ho] at hc
    cases hc
    rw [hd] at hm
    cases hm) k _ n.it, n.low⟩
theorem NI.on {h h' : Heap} {k : NestedKey} {b : Addr} (n : NI h k b) (keep : ∀ c o, h.get? c = some o → h'.get? c = some o) : NI h' k b := ⟨NestedIs.at (fun c u _ _ hc _ => keep c u hc) k _ n.it, n.low⟩
/-- the rows in another order of the table -/
theorem reorder (L : List NRow) (es : Array (Int × Value)) (ord : Array Nat) (hr : es.toList = L.map (cell w)) (hp : ord.toList.Perm (List.range L.length)) :
    ∃ L2 : List NRow, (ord.filterMap (es[·]?)).toList = L2.map (cell w) ∧ L2.Perm L ∧ L2.map (hN w) = ord.toList.map fun i => (es.map (·.1)).getD i 0 := by
  have sz := cells_size hr
  have ent : ∀ i (h : i < L.length), es[i]? = some (cell w L[i]) := fun i h => by
    rw [← Array.getElem?_toList, hr, List.getElem?_map, List.getElem?_eq_getElem h]
    rfl
  refine ⟨ord.toList.filterMap fun i => L[i]?, ?_, ?_, ?_⟩
  · rw [Array.toList_filterMap]
    generalize hl : ord.toList = l at hp
    have all : ∀ i ∈ l, i < L.length := fun i hi => List.mem_range.mp (hp.mem_iff.mp hi)
    clear hl hp
    induction l with
    | nil => rfl
    | cons i l ih =>
      have il := all i List.mem_cons_self
      rw [List.filterMap_cons, List.filterMap_cons, List.getElem?_eq_getElem il, ent i il]
      dsimp only
      rw [List.map_cons, ih fun j m => all j (List.mem_cons_of_mem _ m)]
  · refine (hp.filterMap _).trans (List.Perm.of_eq ?_)
    have upto : ∀ n, n ≤ L.length → (List.range n).filterMap (fun i => L[i]?) = L.take n := by
      intro n
      induction n with
      | zero => exact fun _ => rfl
      | succ n ih =>
        intro hn
        rw [List.range_succ, List.filterMap_append, ih (by omega), List.take_add_one]
        congr 1
        first | rfl | done
    rw [upto _ (Nat.le_refl _), List.take_length]
  · generalize hl : ord.toList = l at hp
    have all : ∀ i ∈ l, i < L.length := fun i hi => List.mem_range.mp (hp.mem_iff.mp hi)
    clear hl hp
    induction l with
    | nil => rfl
    | cons i l ih =>
      have il := all i List.mem_cons_self
      rw [List.filterMap_cons, List.getElem?_eq_getElem il]
      dsimp only
      rw [List.map_cons, List.map_cons, ih fun j m => all j (List.mem_cons_of_mem _ m)]
      congr 1
      have : (es.map (·.1))[i]? = some (hN w L[i]) := by
        rw [Array.getElem?_map, ent i il]
        rfl
      simp [Array.getD_eq_getD_getElem?, this]
/-- the table grows -/
theorem laid_anew {o : Obj} (o1 : s.heap.get? a = some o) (o2 : o.ExactSet) (o3 : o.data = .set es ep t) (hr : es.toList = L.map (cell w)) (sz : t.place.size = es.size) (dm : t.dummies = #[]) (fl : es.size ≤ t.mask)
    (nd : (L.map Prod.snd).Nodup) (ks : ∀ p ∈ L, NI s.heap p.2 p.1) (ld : w.params.followText "set-order" = true ∨ t.led = true) (few : L.length < 64) {want M : Nat}
    (h1 : SetTable.sizeAbove want - 1 = M) (h2 : MaskOk M) (h3 : SetTable.sizeAbove want ≤ 128) (h4 : L.length * 5 < M * 3) {Q : Unit → Shared → Prop}
    (go : ∀ h' L' es' ep' t', Heap.SameBut a s.heap h' → NSet w h' a L' es' ep' t' → L'.Perm L → Q () { s with heap := h' }) : wpAny (model P w) A (setRelay a want) Q E s := by
  have sl := cells_size hr
  have fits : t.fits es.size = true := by
    unfold SetTable.fits SetTable.fill
    rw [dm, Bool.and_eq_true, beq_iff_eq, decide_eq_true_eq]
    show t.place.size = es.size ∧ t.place.size + 0 ≤ t.mask
    omega
  obtain ⟨t', ord, e, hp, T, em, el, _, ed⟩ := relaid_ok t (hs := es.map (·.1)) (wanted := want) h1 h2 (by rw [Array.size_map, sl]; omega)
  rw [Array.size_map, sl] at hp
  obtain ⟨L2, r1, r2, r3⟩ := reorder L es ord hr hp
  rw [← r3] at T
  have sz2 : (ord.filterMap (es[·]?)).size = es.size := by
    rw [cells_size r1, r2.length_eq, sl]
  rw [setRelay_eq]
  refine wpAny_bind (wpAny_setState_of o1 o3 fits ?_)
  dsimp only
  refine wp_if_neg (by rw [sizeLine_eq]; omega) ?_
  try refine wpAny_bind (wpAny_pure ?_)
  rw [e]
  dsimp only
  refine wpAny_bind (wp_if_neg (by rw [sz2]; simp) ?_)
  try refine wpAny_bind (wpAny_pure ?_)
  refine wpAny_pure ?_
  dsimp only
  refine wpAny_storeSet_of o1 o3 ?_ (by rw [sz2, sl, sizeLine_eq]; omega)
  have sb : Heap.SameBut a s.heap (s.heap.update a (Obj.putSet (ord.filterMap (es[·]?)) t')) := Heap.SameBut.update ..
  refine go _ L2 (ord.filterMap (es[·]?)) (ep + 1) t' sb ⟨⟨_, store_at o1 o3, ⟨o2.1, o2.2.1, o2.2.2⟩, rfl⟩, r1, T, (r2.map Prod.snd).nodup_iff.mpr nd, fun p m => (ks p (r2.mem_iff.mp m)).set o1 o3 sb, by rw [el]; exact ld, ?_, by rw [r2.length_eq]; exact few⟩ r2
  rw [r2.length_eq, em]
  exact h4
end
end Tl
set_option Elab.async false
set_option linter.all false
set_option autoImplicit false
set_option maxRecDepth 100000
set_option maxHeartbeats 3200000
/-! sets of tuples within tuples: adding, set(list) -/
namespace Tl
open PySem PySem.Spec PyProof.Rows L2
section
variable {P : Program} {w : World} {A : Around} {E : Value → Shared → Prop} {s : Shared} {a : Addr} {L : List NRow} {es : Array (Int × Value)} {ep : Nat} {t : SetTable}
theorem tab_plain {t : SetTable} {hs : List Int} (T : TabOk t hs) : TabOk { t with plain := false } hs := ⟨T.ris, T.dm, T.sz, T.mok, T.bd, T.reach⟩
theorem mid_perm (L : List NRow) (i : Nat) (p : NRow) : (L.take i ++ p :: L.drop i).Perm (p :: L) := by
  have h : (L.take i ++ p :: L.drop i).Perm (p :: (L.take i ++ L.drop i)) := List.perm_middle
  rwa [List.take_append_drop] at h
/-- what is stored at the end of an adding -/
theorem stored {o : Obj} (o1 : s.heap.get? a = some o) (o2 : o.ExactSet) (o3 : o.data = .set es ep t) {n : Nat} {L1 : List NRow} {es1 : Array (Int × Value)} {t1 : SetTable} (hn : L1.length = n + 1) (hr : es1.toList = L1.map (cell w)) (T : TabOk t1 (L1.map (hN w)))
    (nd : (L1.map Prod.snd).Nodup) (ks : ∀ p ∈ L1, NI s.heap p.2 p.1) (ld : w.params.followText "set-order" = true ∨ t1.led = true) (was : n * 5 < t1.mask * 3) (few : n + 1 < 64) (full : t1.tooFull = true ↔ (n + 1) * 5 ≥ t1.mask * 3) {Q : Bool → Shared → Prop}
    (go : ∀ h' L' es' ep' t', Heap.SameBut a s.heap h' → NSet w h' a L' es' ep' t' → L'.Perm L1 → Q true { s with heap := h' }) :
    wpAny (model P w) A (do
      storeSet a es1 t1
      if (!false && t1.tooFull) = true then do
        setRelay a (SetTable.grown (n + 1))
        return true
      else return true) Q E s := by
  have z1 := cells_size hr
  refine wpAny_bind (wpAny_storeSet_of o1 o3 ?_ (by rw [z1, hn, sizeLine_eq]; omega))
  have sb : Heap.SameBut a s.heap (s.heap.update a (Obj.putSet es1 t1)) := Heap.SameBut.update ..
  have at1 := store_at (es' := es1) (t' := t1) o1 o3
  have ks1 : ∀ p ∈ L1, NI (s.heap.update a (Obj.putSet es1 t1)) p.2 p.1 := fun p m => (ks p m).set o1 o3 sb
  generalize s.heap.update a (Obj.putSet es1 t1) = h1 at sb at1 ks1 ⊢
  by_cases hf : t1.tooFull = true
  · refine wp_if_pos (by simp [hf]) (wpAny_bind ?_)
    have hfull := full.mp hf
    have sz : t1.place.size = es1.size := by
      rw [T.sz, List.length_map, z1]
    have which : (t1.mask = 7 ∧ n = 4) ∨ (t1.mask = 31 ∧ n = 18) := by
      rcases T.mok with e | e | e
      · left; rw [e] at hfull was; exact ⟨e, by omega⟩
      · right; rw [e] at hfull was; exact ⟨e, by omega⟩
      · exfalso; rw [e] at hfull; omega
    have on : ∀ M, SetTable.sizeAbove (SetTable.grown (n + 1)) - 1 = M → MaskOk M → SetTable.sizeAbove (SetTable.grown (n + 1)) ≤ 128 → (n + 1) * 5 < M * 3 →
        wpAny (model P w) A (setRelay a (SetTable.grown (n + 1))) (fun _ s' => wpAny (model P w) A (pure true) Q E s') E { s with heap := h1 } := fun M m1 m2 m3 m4 => by
      refine laid_anew (s := { s with heap := h1 }) at1 ⟨o2.1, o2.2.1, o2.2.2⟩ rfl hr sz T.dm (by rw [z1, hn]; rcases which with ⟨e, e2⟩ | ⟨e, e2⟩ <;> omega) nd ks1 ld (by rw [hn]; exact few) m1 m2 m3 (by rw [hn]; exact m4) fun h2 L2 es2 ep2 t2 sb2 R2 pm2 => ?_
      exact wpAny_pure (go h2 L2 es2 ep2 t2 (sb.trans sb2) R2 pm2)
    rcases which with ⟨_, e2⟩ | ⟨_, e2⟩
    · exact on 31 (by rw [e2, size_20]) (.inr (.inl rfl)) (by rw [e2, size_20]; decide) (by omega)
    · exact on 127 (by rw [e2, size_76]) (.inr (.inr rfl)) (by rw [e2, size_76]; decide) (by omega)
  · refine wp_if_neg (by simp [hf]) ?_
    refine wpAny_pure (go h1 L1 es1 (ep + 1) t1 sb ⟨⟨_, at1, ⟨o2.1, o2.2.1, o2.2.2⟩, rfl⟩, hr, T, nd, ks1, ld, ?_, by rw [hn]; exact few⟩ (List.Perm.refl _))
    rw [hn]
    have : ¬ (n + 1) * 5 ≥ t1.mask * 3 := fun z => hf (full.mpr z)
    omega
theorem added (R : NSet w s.heap a L es ep t) {x : Addr} {k : NestedKey} (hx : NI s.heap k x) (hu : A.units + 8 < cLine) (few : L.length + 1 < 64) {Q : Bool → Shared → Prop}
    (go : ∀ b h' L' es' ep' t', Heap.SameBut a s.heap h' → NSet w h' a L' es' ep' t' → (k ∈ L.map Prod.snd → L' = L) → (k ∉ L.map Prod.snd → L'.Perm ((x, k) :: L)) → Q b { s with heap := h' }) :
    wpAny (model P w) A (setAddHashed a (.ref x) (k.hash w)) Q E s := by
  obtain ⟨o, o1, o2, o3⟩ := R.obj
  have sl := cells_size R.rows
  unfold setAddHashed
  refine wpAny_holding ?_
  rw [show (100000 : Nat) = 99999 + 1 from rfl, setAddHashedIn_succ]
  refine wpAny_bind (wpAny_setState_of o1 o3 R.fit ?_)
  dsimp only
  refine wp_if_neg (by simp [byScan, Value.scannable]) ?_
  try refine wpAny_bind (wpAny_pure ?_)
  refine wpAny_bind (look_for R hx hu (fun m => ?_) fun G m g2 g3 => ?_)
  · dsimp only
    exact wpAny_pure (go false s.heap L es ep t (Heap.SameBut.refl a s.heap) R (fun _ => rfl) fun z => absurd m z)
  · dsimp only
    refine wpAny_bind (wpAny_setState_of o1 o3 R.fit ?_)
    dsimp only
    obtain ⟨q1, q2, q3, q4, q5, q6, q7, q8, q9⟩ := R.tab.put g2 g3
    generalize hpt : t.put (way t.mask (k.hash w) G) = pt at q1 q3 q4 q5 q6 q7 q8 q9 ⊢
    obtain ⟨t1, i⟩ := pt
    dsimp only at q1 q3 q4 q5 q6 q7 q8 q9 ⊢
    subst q1
    have hin : (SetTable.insertAt es (SetTable.below t.place (way t.mask (k.hash w) G)) (k.hash w, Value.ref x)).toList = (L.take (SetTable.below t.place (way t.mask (k.hash w) G)) ++ (x, k) :: L.drop (SetTable.below t.place (way t.mask (k.hash w) G))).map (cell w) := by
      rw [SetTable.toList_insertAt, R.rows, List.map_append, List.map_cons, List.map_take, List.map_drop]
      rfl
    generalize SetTable.below t.place (way t.mask (k.hash w) G) = i at q2 q3 hin ⊢
    have pm := mid_perm L i (x, k)
    have len1 : (L.take i ++ (x, k) :: L.drop i).length = L.length + 1 := pm.length_eq
    have hs1 : (L.take i ++ (x, k) :: L.drop i).map (hN w) = (L.map (hN w)).take i ++ k.hash w :: (L.map (hN w)).drop i := by
      rw [List.map_append, List.map_cons, List.map_take, List.map_drop]
      rfl
    rw [← hs1] at q3
    have nd1 : ((L.take i ++ (x, k) :: L.drop i).map Prod.snd).Nodup := by
      refine (pm.map Prod.snd).nodup_iff.mpr ?_
      rw [List.map_cons]
      exact List.nodup_cons.mpr ⟨m, R.nodup⟩
    generalize SetTable.insertAt es i (k.hash w, Value.ref x) = es1 at hin ⊢
    generalize L.take i ++ (x, k) :: L.drop i = L1 at pm len1 q3 nd1 hin
    have ks1 : ∀ p ∈ L1, NI s.heap p.2 p.1 := fun p hp => by
      rcases List.mem_cons.mp (pm.mem_iff.mp hp) with e | hp
      · rw [e]; exact hx
      · exact R.keys p hp
    have full : t1.tooFull = true ↔ (L.length + 1) * 5 ≥ t1.mask * 3 := by
      unfold SetTable.tooFull
      rw [decide_eq_true_eq, q9, List.length_map]
    have hroom := R.room
    have fin : ∀ t2 : SetTable, TabOk t2 (L1.map (hN w)) → t2.mask = t1.mask → t2.led = t1.led → t2.tooFull = t1.tooFull → wpAny (model P w) A (do
        storeSet a es1 t2
        if (!false && t2.tooFull) = true then do
          setRelay a (SetTable.grown (es.size + 1))
          return true
        else return true) Q E s := fun t2 T2 m2 l2 f2 => by
      rw [sl]
      refine stored o1 o2 o3 (n := L.length) len1 hin T2 nd1 ks1 (by rw [l2, q5]; exact R.led) (by rw [m2, q4]; exact hroom) few (by rw [f2, m2]; exact full) fun h' L' es' ep' t' sb R' pm' => ?_
      exact go true h' L' es' ep' t' sb R' (fun z => absurd z m) fun _ => pm'.trans pm
    by_cases hp : t1.plain = true
    · first
        | (refine wpAny_bind ?_; refine wp_if_pos hp ?_; refine nk_some _ _ 8 hx.it _ _ _ fun b => ?_)
        | refine wp_if_pos hp (wpAny_bind (nk_some _ _ 8 hx.it _ _ _ fun b => ?_))
      cases b with
      | true => exact fin t1 q3 rfl rfl rfl
      | false => exact fin { t1 with plain := false } (tab_plain q3) rfl rfl rfl
    · first
        | (refine wpAny_bind ?_; refine wp_if_neg hp ?_; refine wpAny_pure ?_)
        | (refine wp_if_neg hp ?_; refine wpAny_bind (wpAny_pure ?_))
      exact fin t1 q3 rfl rfl rfl
/-- what came into the set out of the first i rows -/
structure Came (ks : List NRow) (i : Nat) (L : List NRow) : Prop where
  of : ∀ p ∈ L, p ∈ ks.take i
  got : ∀ p ∈ ks.take i, p.2 ∈ L.map Prod.snd
  len : L.length ≤ i
theorem take_more {α : Type} {l : List α} {i : Nat} {x : α} (h : l[i]? = some x) : l.take (i + 1) = l.take i ++ [x] := by
  rw [List.take_add_one, h]
  rfl
theorem Came.next {ks L L' : List NRow} {i : Nat} {p : NRow} (g : Came ks i L) (h : ks[i]? = some p) (c1 : p.2 ∈ L.map Prod.snd → L' = L) (c2 : p.2 ∉ L.map Prod.snd → L'.Perm (p :: L)) : Came ks (i + 1) L' := by
  by_cases c : p.2 ∈ L.map Prod.snd
  · rw [c1 c]
    refine ⟨fun q m => ?_, fun q m => ?_, Nat.le_succ_of_le g.len⟩
    · rw [take_more h]
      exact List.mem_append_left _ (g.of q m)
    · rw [take_more h] at m
      rcases List.mem_append.mp m with m | m
      · exact g.got q m
      · rw [List.mem_singleton.mp m]; exact c
  · have pm := c2 c
    refine ⟨fun q m => ?_, fun q m => ?_, ?_⟩
    · rw [take_more h]
      rcases List.mem_cons.mp (pm.mem_iff.mp m) with e | m
      · rw [e]; exact List.mem_append_right _ List.mem_cons_self
      · exact List.mem_append_left _ (g.of q m)
    · rw [(pm.map Prod.snd).mem_iff, List.map_cons]
      rw [take_more h] at m
      rcases List.mem_append.mp m with m | m
      · exact List.mem_cons_of_mem _ (g.got q m)
      · rw [List.mem_singleton.mp m]; exact List.mem_cons_self
    · rw [pm.length_eq]
      exact Nat.succ_le_succ g.len
theorem NSet.on {h h' : Heap} (R : NSet w h a L es ep t) (k : ∀ o, h.get? a = some o → h'.get? a = some o) (ks : ∀ p ∈ L, NI h' p.2 p.1) : NSet w h' a L es ep t := by
  obtain ⟨o, ho, r⟩ := R.obj
  exact ⟨⟨o, k o ho, r⟩, R.rows, R.tab, R.nodup, ks, R.led, R.room, R.few⟩
theorem nset_new {h : Heap} (e : h.get? a = some (nu w)) : NSet w h a [] #[] 0 (.fresh 0 0 (!w.params.followText "set-order")) where
  obj := ⟨_, e, ⟨rfl, rfl, rfl⟩, rfl⟩
  rows := rfl
  tab := ⟨List.Pairwise.nil, rfl, rfl, .inl rfl, fun _ m => (nomatch m), fun i _ j m => (by simp at m)⟩
  nodup := List.nodup_nil
  keys := fun p m => (nomatch m)
  led := by
    show _ ∨ (!w.params.followText "set-order") = true
    cases w.params.followText "set-order"
    · exact .inr rfl
    · exact .inl rfl
  room := (by decide : 0 * 5 < 7 * 3)
  few := (by decide : 0 < 64)
/-- the loop of an update by a walk over rows -/
theorem upd_loop {I : Addr} {fp wr : List Addr} {G : Array GenState → Array GenState → Prop} {n : Nat} {Pv : Nat → Value → Prop} {St : Nat → Shared → Prop} {R : Result → Shared → Prop}
    (W : WalksS P w A.in1 I fp wr G n Pv St) (S : Addr) (off : S ∉ fp) (ks : List NRow) (hn : n = ks.length) (few : ks.length < 64) (val : ∀ i v, Pv i v → ∃ p, ks[i]? = some p ∧ v = .ref p.1)
    (h0 : Heap) (hk : ∀ p ∈ ks, NI h0 p.2 p.1) (new : h0.get? S = none) (neww : ∀ b ∈ wr, h0.get? b = none) (hu : A.in1.units + 8 < cLine) :
    ∀ (m i : Nat) (s : Shared), n - i = m → i ≤ n → St i s → (∀ b o, h0.get? b = some o → s.heap.get? b = some o) → (∃ L es ep t, NSet w s.heap S L es ep t ∧ Came ks i L) →
      (∀ s' L es ep t, Moved (S :: wr) G s s' → NSet w s'.heap S L es ep t → Came ks n L → (∀ b o, h0.get? b = some o → s'.heap.get? b = some o) → R (.ok (.ret .none)) s') →
      codeAny (model P w) A (.builtin "set.update.loop" ⟨[.ref S, .ref I], []⟩) R s := by
  have offw : S ∉ wr := fun h => off (W.sub _ h)
  have up : ∀ b ∈ wr, b ∈ S :: wr := fun b m => List.mem_cons_of_mem _ m
  have still : ∀ {s s' : Shared}, Moved wr G s s' → (∀ b o, h0.get? b = some o → s.heap.get? b = some o) → ∀ b o, h0.get? b = some o → s'.heap.get? b = some o := fun mv z b o e =>
    mv.heap b o (fun m => by rw [neww b m] at e; cases e) (z b o e)
  intro m
  induction m with
  | zero =>
    rintro i s hm hi st keep ⟨L, es, ep, t, T, g⟩ fin
    obtain rfl : i = n := by omega
    refine codeAny_builtin F.entry_set_update_loop ?_
    rw [Around.under_plainId F.plain_set_update_loop _]
    show wpAny _ A.in1 (pyNext (.ref I) >>= _) _ _ s
    refine wpAny_bind (W.done s _ _ st fun s1 mv => ?_)
    show wpAny _ A.in1 (ret Value.none) _ _ s1
    have keep1 := still mv keep
    exact wpAny_pure (fin s1 L es ep t (mv.mono up) (T.on (fun o e => mv.heap S o offw e) fun p q => (hk p (List.mem_of_mem_take (g.of p q))).on keep1) g keep1)
  | succ m ih =>
    rintro i s hm hi st keep ⟨L, es, ep, t, T, g⟩ fin
    have lt : i < n := by omega
    refine codeAny_builtin F.entry_set_update_loop ?_
    rw [Around.under_plainId F.plain_set_update_loop _]
    show wpAny _ A.in1 (pyNext (.ref I) >>= _) _ _ s
    refine wpAny_bind (W.item i s _ _ lt st fun v s1 hv st1 mv => ?_)
    obtain ⟨p, hp, rfl⟩ := val i v hv
    have keep1 := still mv keep
    have T1 : NSet w s1.heap S L es ep t := T.on (fun o e => mv.heap S o offw e) fun q z => (hk q (List.mem_of_mem_take (g.of q z))).on keep1
    have hx : NI s1.heap p.2 p.1 := (hk p (List.mem_of_getElem? hp)).on keep1
    show wpAny _ A.in1 (holding [Value.ref p.1] (setAdd S (.ref p.1)) >>= _) _ _ s1
    refine wpAny_bind (wpAny_holding ?_)
    unfold setAdd
    refine wpAny_holding (wpAny_bind ((nestedKind P w).pyHash hu ⟨hx.it, hx.low⟩ ?_))
    refine added (s := { s1 with toks := s1.toks + p.2.draws }) T1 hx hu (by have := g.len; omega) fun b h1 L1 es1 ep1 t1 sb T2 c1 c2 => ?_
    have g1 := g.next hp c1 c2
    have keep2 : ∀ b o, h0.get? b = some o → h1.get? b = some o := fun b o e => (sb.2 b (fun z => by rw [z, new] at e; cases e)).trans (keep1 b o e)
    refine wpAny_pure ⟨plainId_quiet F.plain_set_update_loop _, ih (i + 1) _ (by omega) lt (W.frame _ s1 _ _ st1 (Nat.le_add_right _ _) fun b hb o e => ?_) keep2 ⟨L1, es1, ep1, t1, T2, g1⟩ fun s2 L2 es2 ep2 t2 mv2 T3 g3 keep3 => ?_⟩
    · rw [sb.2 b (fun z : b = S => off (z ▸ hb))]
      exact e
    · refine fin s2 L2 es2 ep2 t2 (Moved.trans W.gtrans ((mv.mono up).then_heap (Nat.le_add_right _ _) fun b o hb e => ?_) mv2) T3 g3 keep3
      rw [sb.2 b (fun z : b = S => hb (z ▸ List.mem_cons_self))]
      exact e
end
section
variable {P : Program} {w : World} {A : Around} {E : Value → Shared → Prop} {s : Shared}
/-- set(l), l a list of rows -/
theorem set_of_rows {l : Addr} {vs : Array Value} (ks : List NRow) {Q : Value → Shared → Prop} (calm : A.handled = none) (at_ : s.heap.IsList l vs)
    (are : vs.toList = ks.map fun p => Value.ref p.1) (ats : ∀ p ∈ ks, NI s.heap p.2 p.1) (few : ks.length < 64) (hu : A.units + 20 < cLine)
    (go : ∀ (h' : Heap) (tk : Nat) L es ep t, NSet w h' s.heap.objs.size L es ep t → Came ks ks.length L →
      (∀ b o, s.heap.get? b = some o → h'.get? b = some o) → Q (.ref s.heap.objs.size) { s with heap := h', toks := tk }) :
    wpAny (model P w) A (call (.type "set") [.ref l]) Q E s := by
  have same : vs.size = ks.length := by
    have := congrArg List.length are
    rwa [Array.length_toList, List.length_map] at this
  obtain ⟨c0, tl0, mro0⟩ := F.called_set.mro
  have f1 := F.called_set.made
  have f2 := F.called_set.sub
  refine wpAny_call (codeAny_of_tree ?_)
  show wpAny _ _ (callAny (.type "set") _) _ _ _
  refine wpAny_pure ⟨Code.quiet_builtin _ (by decide +kernel), codeAny_builtin F.entry_type_call ?_⟩
  rw [Around.under_plain (weight_type_call_type "set" [.ref l] []) rfl]
  have f3 := F.called_set.notType
  have f4 := F.called_set.canCreate
  have f5 := F.typeCall_set_1 (.ref l)
  repeat (any_goals (first | assumption | wp_step))
  refine codeAny_mono (code_set_led1 (.ref l) (E := E) (Q₁ := fun x u => x = .ref s.heap.objs.size ∧ u = { s with heap := s.heap.push (nu w) }) ⟨rfl, rfl⟩) fun r u hr => ?_
  match r, hr with
  | .error _, hr => exact hr
  | .ok .next, hr => exact hr.elim
  | .ok .brk, hr => exact hr.elim
  | .ok .cont, hr => exact hr.elim
  | .ok (.ret x), hr =>
    obtain ⟨e1, e2⟩ := hr
    subst e1 e2
    have g0 : (s.heap.push (nu w)).get? s.heap.objs.size = some (nu w) := Heap.get?_push_size _ rfl
    have ty0 : Shared.TypeIs { s with heap := s.heap.push (nu w) } (.ref s.heap.objs.size) "set" := ⟨_, g0, rfl⟩
    have f6 := F.called_set.init.lookup
    have f7 := F.called_set.init.bind (.ref s.heap.objs.size)
    repeat (any_goals (first | assumption | wp_step))
    refine codeAny_mono (codeAny_call_builtin (R := wants (fun r u => r = .none ∧ ∃ h' tk L es ep t2, u = { s with heap := h', toks := tk } ∧ NSet w h' s.heap.objs.size L es ep t2 ∧ Came ks ks.length L ∧
        ∀ b o, s.heap.get? b = some o → h'.get? b = some o) E) F.called_set.init.plain F.entry_set_init (check_set_init_1 ty0 ?_)) fun r u ht => ?_
    · obtain ⟨⟨oc, od, odt, osl⟩, ho, hoc, n, hod⟩ := at_
      simp only at hoc hod
      subst hoc hod
      have ho1 : (s.heap.push (nu w)).get? l = some { cls := .type "list", dict := od, data := .seq vs n, slots := osl } := Heap.get?_push_of_some _ ho
      have f8 := F.sub_list_set
      have f9 := F.sub_list_frozenset
      have f10 : (Value.type "list" == Value.type "dict") = false := by decide
      have isl : (s.heap.push (nu w)).IsList l vs := ⟨_, ho1, rfl, n, rfl⟩
      unfold Builtin.«set.__init__» noKeywords Builtin.Frozenset.updateFrom
      generalize hit : pyIter = it
      wp_walk
      subst hit
      refine wpAny_pyIter_list isl ?_
      refine wpAny_bind (wpAny_runValue ?_)
      have low : l < s.heap.objs.size := Heap.lt_size ho
      have calm3 : A.in1.in1.in1.handled = none := by simp [calm]
      have ne1 : l ≠ (s.heap.push (nu w)).objs.size := by
        rw [Heap.size_push]
        exact Nat.ne_of_lt (Nat.lt_succ_of_lt low)
      have off : s.heap.objs.size ∉ [(s.heap.push (nu w)).objs.size, l] := by
        intro hm
        rw [Heap.size_push] at hm
        rcases List.mem_cons.mp hm with q | hm
        · exact absurd q (Nat.ne_of_lt (Nat.lt_succ_self _))
        · exact absurd (List.mem_singleton.mp hm) (Nat.ne_of_gt low)
      have free : ∀ b, s.heap.objs.size ≤ b → s.heap.get? b = none := fun b hb => Heap.get?_none_of_le hb
      refine upd_loop ((Walks.list calm3 _ l ne1 vs).toS) s.heap.objs.size off ks same few (fun i v hv => ?_) s.heap ats (free _ (Nat.le_refl _)) (fun b m => free b (by
          rw [List.mem_singleton.mp m, Heap.size_push]
          exact Nat.le_succ _)) (by simp only [Around.in1_units]; omega) (vs.size - 0) 0 _ (by omega) (Nat.zero_le _)
        ⟨⟨_, Heap.get?_push_size _ rfl, rfl, rfl⟩, isl.push _⟩ (fun b o e => Heap.get?_push_of_some _ (Heap.get?_push_of_some _ e)) ⟨[], #[], 0, _, nset_new (Heap.get?_push_of_some _ g0), ⟨fun p m => (nomatch m), fun p m => (by simp at m), Nat.le_refl _⟩⟩ fun t' L es ep t2 moved set' got keep => ?_
      · have e : vs.toList[i]? = some v := by rw [Array.getElem?_toList]; exact hv
        rw [are, List.getElem?_map] at e
        cases k : ks[i]? with
        | none => rw [k] at e; cases e
        | some p =>
          rw [k] at e
          exact ⟨p, rfl, (Option.some.inj e).symm⟩
      · obtain ⟨h', g2, d', tk', os'⟩ := t'
        obtain rfl : g2 = s.gens := moved.gens
        obtain rfl : d' = s.drawn := moved.drawn
        obtain rfl : os' = s.os := moved.os
        show wpAny _ _ _ _ _ _
        refine wpAny_pure ?_
        show wpAny _ _ (ret Value.none) _ _ _
        rw [same] at got
        exact wpAny_pure ⟨rfl, h', tk', L, es, ep, t2, rfl, set', got, keep⟩
    · match r, ht with
      | .error _, ht => exact ht
      | .ok .next, ht => exact ht.elim
      | .ok .brk, ht => exact ht.elim
      | .ok .cont, ht => exact ht.elim
      | .ok (.ret x), ht =>
        obtain ⟨rfl, h', tk, L, es, ep, t2, rfl, set', got, keep⟩ := ht
        repeat (any_goals (first | assumption | wp_step))
        exact go _ _ _ _ _ _ set' got keep
end
end Tl
set_option Elab.async false
set_option linter.all false
set_option autoImplicit false
set_option maxRecDepth 100000
set_option maxHeartbeats 2000000
/-! data that may be set in order, though their places are of unlike kinds: what comes after the first difference is never looked at -/
namespace PySem.SeqAt
open AutoSeq1 (wpAny_loadPart')
open MeetsSeq MeetsSeq2 MeetsSeq3 SeqRoads2
/-- the built-in less-than of two tuples; below: asked only where all places before are equal -/
theorem tl_lt (p q : Addr) (us vs : Array Value) (m1 m2 : Nat) (d1 d2 : Option Addr) (k1 k2 : Array (Option Value)) (e r : Nat → Bool) :
    Meets (Builtin.«tuple.__lt__» ⟨[.ref p, .ref q], []⟩)
      (fun A R s => s.heap.get? p = some { cls := .type "tuple", dict := d1, data := .seq us m1, slots := k1 } ∧ s.heap.get? q = some { cls := .type "tuple", dict := d2, data := .seq vs m2, slots := k2 } ∧
        (∀ j (a : j < us.size) (b : j < vs.size), EqAt A.in1 s us[j] vs[j] (e j)) ∧ (∀ j (a : j < us.size) (b : j < vs.size), (∀ i, i < j → e i = true) → e j = false → RcLt A.in1 s us[j] vs[j] (r j)) ∧
        R (.ok (.ret (.bool (firstLt e r (decide (us.size < vs.size)) (List.range (min us.size vs.size)))))) s) :=
  .of_wp fun prog w A R s h => by
    obtain ⟨hp, g, dr, tk, os⟩ := s
    obtain ⟨gp, gq, eqs, lts, fin⟩ := h
    have sub := AutoSeq1.sub_tuple_tuple
    have zl : (us.toList.zip vs.toList).length = min us.size vs.size := by simp
    wp_walk using wpAny_loadPart' gp, wpAny_loadPart' gq, wpAny_forIn_list _ (fun left b s' => b.1 = none ∧ s' = ⟨hp, g, dr, tk, os⟩ ∧ ∃ i, left = (us.toList.zip vs.toList).drop i ∧ (∀ k, k < i → e k = true) ∧
      R (.ok (.ret (.bool (firstLt e r (decide (us.size < vs.size)) ((List.range (min us.size vs.size)).drop i))))) ⟨hp, g, dr, tk, os⟩) _
    case turn =>
      rintro ⟨y, x⟩ left b s' ⟨eb, rfl, i, ez, before, go⟩
      have il : i < (us.toList.zip vs.toList).length := by
        refine Nat.lt_of_not_le fun z => ?_
        rw [List.drop_of_length_le z] at ez
        cases ez
      have im : i < min us.size vs.size := zl ▸ il
      have i1 : i < us.size := by omega
      have i2 : i < vs.size := by omega
      rw [List.drop_eq_getElem_cons il] at ez
      injection ez with eyx el
      have ey : y = us[i] := by simpa using congrArg Prod.fst eyx
      have ex : x = vs[i] := by simpa using congrArg Prod.snd eyx
      subst ey ex
      have er : (List.range (min us.size vs.size)).drop i = i :: (List.range (min us.size vs.size)).drop (i + 1) := by simp [List.drop_eq_getElem_cons, im]
      rw [er] at go
      refine wpAny_bind (eqs i i1 i2 prog w _ _ ?_)
      cases ei : e i with
      | true =>
        rw [firstLt_yes ei] at go
        wp_walk
        refine ⟨rfl, rfl, i + 1, el, fun k hk => ?_, go⟩
        rcases Nat.lt_or_ge k i with z | z
        · exact before k z
        · rw [show k = i by omega]
          exact ei
      | false =>
        rw [firstLt_no ei] at go
        generalize hrc : PySem.richCompare = rc
        wp_walk
        subst hrc
        refine lts i i1 i2 before ei prog w _ _ ?_
        wp_walk
        exact ⟨_, rfl, go⟩
    case fin =>
      rintro ⟨b1, b2⟩ s' ⟨eb, rfl, i, ez, _, go⟩
      simp only at eb
      subst eb
      have ge : min us.size vs.size ≤ i := by
        refine Nat.le_of_not_lt fun z => ?_
        rw [List.drop_eq_getElem_cons (zl.symm ▸ z)] at ez
        cases ez
      rw [List.drop_of_length_le (by simpa using ge)] at go
      wp_walk
      exact ⟨_, rfl, by simpa [Builtin.Tuple.tupleCompareSizes, firstLt] using go⟩
    case h =>
      exact ⟨rfl, rfl, 0, rfl, fun k z => absurd z (Nat.not_lt_zero _), by simpa using fin⟩
theorem rc_tups {A : Around} {s : Shared} {p q : Addr} {us vs : Array Value} {e r : Nat → Bool} (hp : s.heap.IsTuple p us) (hq : s.heap.IsTuple q vs) (room : A.units < cLine)
    (eqs : ∀ j (a : j < us.size) (b : j < vs.size), EqAt A.in1 s us[j] vs[j] (e j)) (lts : ∀ j (a : j < us.size) (b : j < vs.size), (∀ i, i < j → e i = true) → e j = false → RcLt A.in1 s us[j] vs[j] (r j)) :
    RcLt A s (.ref p) (.ref q) (firstLt e r (decide (us.size < vs.size)) (List.range (min us.size vs.size))) := fun prog w E Q h => by
  obtain ⟨⟨c1, o1, t1, l1⟩, g1, e1, m1, f1⟩ := id hp
  obtain ⟨⟨c2, o2, t2, l2⟩, g2, e2, m2, f2⟩ := id hq
  simp only at e1 f1 e2 f2
  subst e1 f1 e2 f2
  refine richCompare_meets_room (op := .Lt) ⟨_, g1, rfl⟩ ⟨_, g2, rfl⟩ F.slot_tuple_lt F.entry_tuple_lt (F.args_tuple_lt_2 _ _) (tl_lt p q us vs m1 m2 o1 o2 l1 l2 e r) ⟨g1, g2, eqs, lts, ?_⟩ room
  exact ⟨(fun x => nomatch x), h⟩
end PySem.SeqAt
set_option Elab.async false
set_option linter.all false
set_option autoImplicit false
set_option maxRecDepth 100000
set_option maxHeartbeats 2000000
/-! data that may be set in order: their signs, their less-than, sorted -/
namespace Tl
open PySem PySem.W PySem.SeqAt PyProof.Rows
abbrev LX : List (Int ⊕ List Nat) → List (Int ⊕ List Nat) → Bool := PyProof.Rows.lexLt itemOrd
mutual
/-- x < y raises nothing -/
def cmpb : PyData → PyData → Bool
  | .int _, .int _ => true
  | .str _, .str _ => true
  | .tuple xs, .tuple ys => cmpAll xs ys
  | _, _ => false
def cmpAll : List PyData → List PyData → Bool
  | x :: xs, y :: ys => cmpb x y && (!PyData.eqv x y || cmpAll xs ys)
  | [], _ => true
  | _ :: _, [] => true
end
theorem cmpAll_cons {x y : PyData} {xs ys : List PyData} (h : cmpAll (x :: xs) (y :: ys) = true) : cmpb x y = true ∧ (PyData.eqv x y = true → cmpAll xs ys = true) := by
  rw [cmpAll, Bool.and_eq_true] at h
  refine ⟨h.1, fun e => ?_⟩
  have h2 := h.2
  rw [e] at h2
  exact h2
mutual
theorem ctoks : ∀ (x y : PyData), cmpb x y = true → (PyData.eqv x y = true → keyToks x = keyToks y) ∧ (PyData.eqv x y = false → ∀ l m, LX (keyToks x ++ l) (keyToks y ++ m) = dataLt x y)
  | .int a, .int b, _ => ⟨fun e => by
      have : a = b := by simpa [PyData.eqv] using e
      rw [this], fun e l m => by
      have ne : a ≠ b := by simpa [PyData.eqv] using e
      simp only [dataLt, keyToks, List.cons_append, List.nil_append]
      exact lex_atom (fun z => ne (Sum.inl.inj z)) l m⟩
  | .str a, .str b, _ => ⟨fun e => by
      have : a = b := by simpa [PyData.eqv] using e
      rw [this], fun e l m => by
      have ne : a ≠ b := by simpa [PyData.eqv] using e
      simp only [dataLt, keyToks, List.cons_append, List.nil_append]
      exact lex_atom (fun z => ne (str_of_cps (Sum.inr.inj z))) l m⟩
  | .tuple xs, .tuple ys, h => by
      have h' : cmpAll xs ys = true := by rw [cmpb] at h; exact h
      have := ctoksAll xs ys h'
      have e0 : PyData.eqv (.tuple xs) (.tuple ys) = PyData.eqvAll xs ys := by rw [PyData.eqv]
      rw [e0]
      simp only [dataLt, keyToks]
      exact this
  | .none, y, h => by cases y <;> cases h
  | .bool _, y, h => by cases y <;> cases h
  | .list _, y, h => by cases y <;> cases h
  | .dict _, y, h => by cases y <;> cases h
  | .int _, .none, h => by cases h
  | .int _, .bool _, h => by cases h
  | .int _, .str _, h => by cases h
  | .int _, .list _, h => by cases h
  | .int _, .tuple _, h => by cases h
  | .int _, .dict _, h => by cases h
  | .str _, .none, h => by cases h
  | .str _, .bool _, h => by cases h
  | .str _, .int _, h => by cases h
  | .str _, .list _, h => by cases h
  | .str _, .tuple _, h => by cases h
  | .str _, .dict _, h => by cases h
  | .tuple _, .none, h => by cases h
  | .tuple _, .bool _, h => by cases h
  | .tuple _, .int _, h => by cases h
  | .tuple _, .list _, h => by cases h
  | .tuple _, .str _, h => by cases h
  | .tuple _, .dict _, h => by cases h
theorem ctoksAll : ∀ (xs ys : List PyData), cmpAll xs ys = true → (PyData.eqvAll xs ys = true → keyToksAll xs = keyToksAll ys) ∧ (PyData.eqvAll xs ys = false → ∀ l m, LX (keyToksAll xs ++ l) (keyToksAll ys ++ m) = LX (keyToksAll xs) (keyToksAll ys))
  | [], [], _ => ⟨fun _ => rfl, fun e => by rw [PyData.eqvAll] at e; cases e⟩
  | [], y :: ys, _ => ⟨fun e => by rw [PyData.eqvAll] at e; cases e; done, fun _ l m => by
      rw [toks_all_cons]
      simp only [keyToksAll, List.cons_append, List.nil_append]
      exact (lex_atom (by simp) _ _).trans (lex_atom (by simp) _ _).symm⟩
  | x :: xs, [], _ => ⟨fun e => by rw [PyData.eqvAll] at e; cases e; done, fun _ l m => by
      rw [toks_all_cons]
      simp only [keyToksAll, List.cons_append, List.nil_append]
      exact (lex_atom (by simp) _ _).trans (lex_atom (by simp) _ _).symm⟩
  | x :: xs, y :: ys, h => by
      obtain ⟨h1, h2⟩ := cmpAll_cons h
      have ⟨a1, a2⟩ := ctoks x y h1
      rw [eqv_all_cons, toks_all_cons, toks_all_cons]
      cases e : PyData.eqv x y with
      | true =>
        have ⟨b1, b2⟩ := ctoksAll xs ys (h2 e)
        rw [Bool.true_and]
        refine ⟨fun z => by rw [a1 e, b1 z], fun z l m => ?_⟩
        rw [a1 e]
        simp only [List.cons_append, List.append_assoc]
        show PyProof.Rows.lexLt itemOrd _ _ = PyProof.Rows.lexLt itemOrd _ _
        rw [lex_self (O := itemOrd), lex_self (O := itemOrd), lex_pre, lex_pre]
        exact b2 z l m
      | false =>
        rw [Bool.false_and]
        refine ⟨fun z => (Bool.noConfusion z), fun _ l m => ?_⟩
        simp only [List.cons_append, List.append_assoc]
        show PyProof.Rows.lexLt itemOrd _ _ = PyProof.Rows.lexLt itemOrd _ _
        rw [lex_self (O := itemOrd), lex_self (O := itemOrd)]
        exact (a2 e _ _).trans (a2 e _ _).symm
end
theorem clt_yes {x y : PyData} {xs ys : List PyData} (h : cmpb x y = true) (e : PyData.eqv x y = true) : LX (keyToksAll (x :: xs)) (keyToksAll (y :: ys)) = LX (keyToksAll xs) (keyToksAll ys) := by
  rw [toks_all_cons, toks_all_cons, (ctoks x y h).1 e]
  show PyProof.Rows.lexLt itemOrd _ _ = PyProof.Rows.lexLt itemOrd _ _
  rw [lex_self (O := itemOrd), lex_pre]
theorem clt_no {x y : PyData} {xs ys : List PyData} (h : cmpb x y = true) (e : PyData.eqv x y = false) : LX (keyToksAll (x :: xs)) (keyToksAll (y :: ys)) = dataLt x y := by
  rw [toks_all_cons, toks_all_cons]
  show PyProof.Rows.lexLt itemOrd _ _ = _
  rw [lex_self (O := itemOrd)]
  exact (ctoks x y h).2 e _ _
/-- the first place that differs -/
theorem cfirst : ∀ (xs ys : List PyData), cmpAll xs ys = true →
    firstLt (fun j => PyData.eqv (xs.getD j .none) (ys.getD j .none)) (fun j => dataLt (xs.getD j .none) (ys.getD j .none)) (decide (xs.length < ys.length)) (List.range (min xs.length ys.length)) = LX (keyToksAll xs) (keyToksAll ys)
  | [], [], _ => by decide +kernel
  | [], y :: ys, _ => by
    rw [toks_all_cons]
    simp only [keyToksAll]
    show firstLt _ _ _ (List.range (min 0 _)) = PyProof.Rows.lexLt itemOrd _ _
    rw [Nat.zero_min, lex_atom (by simp)]
    simp only [List.range_zero, firstLt, List.length_nil, List.length_cons]
    rw [decide_eq_true (Nat.succ_pos _)]
    decide +kernel
  | x :: xs, [], _ => by
    rw [toks_all_cons]
    simp only [keyToksAll]
    show firstLt _ _ _ (List.range (min _ 0)) = PyProof.Rows.lexLt itemOrd _ _
    rw [Nat.min_zero, lex_atom (by simp)]
    simp only [List.range_zero, firstLt, List.length_nil, List.length_cons]
    rw [decide_eq_false (Nat.not_lt_zero _)]
    decide +kernel
  | x :: xs, y :: ys, h => by
    obtain ⟨h1, h2⟩ := cmpAll_cons h
    have em : min (x :: xs).length (y :: ys).length = min xs.length ys.length + 1 := by
      simp only [List.length_cons]
      omega
    rw [em, List.range_succ_eq_map]
    cases e : PyData.eqv x y with
    | true =>
      rw [clt_yes h1 e, firstLt_yes (by exact e), firstLt_map, ← cfirst xs ys (h2 e)]
      congr 1
      simp only [List.length_cons, Nat.add_lt_add_iff_right]
    | false =>
      rw [clt_no h1 e, firstLt_no (by exact e)]
      rfl
end Tl
set_option Elab.async false
set_option linter.all false
set_option autoImplicit false
set_option maxRecDepth 100000
set_option maxHeartbeats 2000000
/-! sorted, of data that may be set in order -/
namespace Tl
open PySem PySem.W PySem.SeqAt PyProof.Rows
theorem plain_cons {x : PyData} {xs : List PyData} (h : PyData.plainAll (x :: xs) = true) : x.plain = true ∧ PyData.plainAll xs = true := by
  rw [PyData.plainAll, Bool.and_eq_true] at h
  exact h
mutual
theorem rc_cmp : ∀ (da db : PyData) (A : Around) (s : Shared) (a b : Value) (as bs : List Addr), Reads s.heap a da as → Reads s.heap b db bs → cmpb da db = true → da.plain = true → db.plain = true → A.units + min da.depth db.depth < cLine → RcLt A s a b (dataLt da db)
  | .int x, db, A, s, a, b, as, bs, ra, rb, h, pa, pb, hu => by
    cases db with
    | int y => exact rcLt_alike (.int x) (.int y) A s a b as bs ra rb rfl (fun z => by cases z) hu
    | _ => cases h
  | .str x, db, A, s, a, b, as, bs, ra, rb, h, pa, pb, hu => by
    cases db with
    | str y => exact rcLt_alike (.str x) (.str y) A s a b as bs ra rb rfl (fun z => by cases z) hu
    | _ => cases h
  | .tuple xs, db, A, s, a, b, as, bs, ra, rb, h, pa, pb, hu => by
    cases db with
    | tuple ys =>
      have hc : cmpAll xs ys = true := by rw [cmpb] at h; exact h
      have px : PyData.plainAll xs = true := by rw [PyData.plain] at pa; exact pa
      have py : PyData.plainAll ys = true := by rw [PyData.plain] at pb; exact pb
      have room1 := room_here hu
      rw [PyData.depth, PyData.depth] at hu
      have room2 := room_in hu
      cases ra with
      | @tuple p o us m _ _ g1 g2 g3 g4 =>
        cases rb with
        | @tuple q o2 vs m2 _ _ k1 k2 k3 k4 =>
          have n1 : us.size = xs.length := by rw [← Array.length_toList]; exact SeqAt.ReadsAll.length _ _ _ g4
          have n2 : vs.size = ys.length := by rw [← Array.length_toList]; exact SeqAt.ReadsAll.length _ _ _ k4
          have e : dataLt (.tuple xs) (.tuple ys) = firstLt (pairEq xs ys) (fun j => dataLt (xs.getD j .none) (ys.getD j .none)) (decide (us.size < vs.size)) (List.range (min us.size vs.size)) := by
            rw [dataLt_tuple, n1, n2]
            exact (cfirst xs ys hc).symm
          rw [e]
          refine rc_tups ⟨o, g1, g2, m, g3⟩ ⟨o2, k1, k2, m2, k3⟩ room1 (fun j j1 j2 => ?_) fun j j1 j2 bef nej => ?_
          · have := eqAt_plainAll xs ys A.in1 s us.toList vs.toList _ _ g4 k4 px py room2 j (by rw [Array.length_toList]; exact j1) (by rw [Array.length_toList]; exact j2)
            simpa only [Array.getElem_toList] using this
          · have := rc_cmpAll xs ys A.in1 s us.toList vs.toList _ _ g4 k4 hc px py room2 j (by rw [Array.length_toList]; exact j1) (by rw [Array.length_toList]; exact j2) bef nej
            simpa only [Array.getElem_toList] using this
    | _ => cases h
  | .none, db, _, _, _, _, _, _, _, _, h, _, _, _ => by cases db <;> cases h
  | .bool _, db, _, _, _, _, _, _, _, _, h, _, _, _ => by cases db <;> cases h
  | .list _, db, _, _, _, _, _, _, _, _, h, _, _, _ => by cases db <;> cases h
  | .dict _, db, _, _, _, _, _, _, _, _, h, _, _, _ => by cases db <;> cases h
theorem rc_cmpAll : ∀ (xs ys : List PyData) (A : Around) (s : Shared) (us vs : List Value) (as bs : List Addr), ReadsAll s.heap us xs as → ReadsAll s.heap vs ys bs → cmpAll xs ys = true → PyData.plainAll xs = true → PyData.plainAll ys = true →
    A.units + min (PyData.depthAll xs) (PyData.depthAll ys) < cLine → ∀ j (j1 : j < us.length) (j2 : j < vs.length), (∀ i, i < j → pairEq xs ys i = true) → pairEq xs ys j = false → RcLt A s us[j] vs[j] (dataLt (xs.getD j .none) (ys.getD j .none))
  | [], _, _, _, _, _, _, _, ra, _, _, _, _, _, j, j1, _, _, _ => by cases ra; exact absurd j1 (Nat.not_lt_zero _)
  | _ :: _, [], _, _, _, _, _, _, _, rb, _, _, _, _, j, _, j2, _, _ => by cases rb; exact absurd j2 (Nat.not_lt_zero _)
  | x :: xs, y :: ys, A, s, _, _, _, _, ra, rb, h, px, py, hu, j, j1, j2, bef, nej => by
    obtain ⟨h1, h2⟩ := cmpAll_cons h
    obtain ⟨px1, px2⟩ := plain_cons px
    obtain ⟨py1, py2⟩ := plain_cons py
    rw [PyData.depthAll, PyData.depthAll] at hu
    cases ra with
    | cons r rs =>
      cases rb with
      | cons r' rs' =>
        cases j with
        | zero => exact rc_cmp x y A s _ _ _ _ r r' h1 px1 py1 (room_head hu)
        | succ j => exact rc_cmpAll xs ys A s _ _ _ _ rs rs' (h2 (bef 0 (Nat.succ_pos _))) px2 py2 (room_tail hu) j (Nat.lt_of_succ_lt_succ j1) (Nat.lt_of_succ_lt_succ j2) (fun i hi => bef (i + 1) (Nat.succ_lt_succ hi)) nej
end
section
variable {prog : Program} {w : World} {A : Around} {E : Value → Shared → Prop} {s : Shared}
theorem one_cmp {f : Bool} {da db : PyData} {a b : Value} {as bs : List Addr} {Q : Bool → Shared → Prop} (hf : f = true → ∀ xs, da ≠ .tuple xs) (ra : Reads s.heap a da as) (rb : Reads s.heap b db bs) (h : cmpb da db = true) (pa : da.plain = true) (pb : db.plain = true)
    (hu : A.units + min da.depth db.depth < cLine) (q : Q (dataLt da db) s) : wpAny (model prog w) A (oneLt' f a b) Q E s := by
  cases f with
  | false =>
    rw [oneLt'_eq, if_neg Bool.false_ne_true]
    exact wpAny_bind (rc_cmp da db A s a b as bs ra rb h pa pb hu prog w E _ (wpAny_truthy_bool q))
  | true =>
    cases da with
    | int x => cases db with
      | int y => exact oneLt_alike hf ra rb rfl (fun z => by cases z) hu q
      | _ => cases h
    | str x => cases db with
      | str y => exact oneLt_alike hf ra rb rfl (fun z => by cases z) hu q
      | _ => cases h
    | tuple xs => exact absurd rfl (hf rfl xs)
    | _ => cases db <;> cases h
theorem kat_cmp {b fin : Bool} {Q : Bool → Shared → Prop} : ∀ (xs ys : List PyData) (i : Nat) (us vs : List Value) (as bs : List Addr), ReadsAll s.heap us xs as → ReadsAll s.heap vs ys bs → cmpAll xs ys = true → PyData.plainAll xs = true → PyData.plainAll ys = true →
    A.units + min (PyData.depthAll xs) (PyData.depthAll ys) < cLine → (b = true → i = 0 → ∀ x r t, xs = x :: r → x ≠ .tuple t) → fin = decide (xs.length < ys.length) → Q (LX (keyToksAll xs) (keyToksAll ys)) s → KatLex prog w A b fin Q (us.zip vs) i s
  | [], [], i, _, _, _, _, ra, rb, _, _, _, _, _, hf, q => by
    cases ra
    cases rb
    refine kat_nil ?_
    rw [hf]
    exact q
  | [], y :: ys, i, _, _, _, _, ra, rb, _, _, _, _, _, hf, q => by
    cases ra
    refine kat_nil ?_
    rw [hf, show decide (([] : List PyData).length < (y :: ys).length) = LX (keyToksAll []) (keyToksAll (y :: ys)) from ?_]
    · exact q
    · rw [← cfirst [] (y :: ys) rfl]
      rfl
  | x :: xs, [], i, _, _, _, _, ra, rb, _, _, _, _, _, hf, q => by
    cases rb
    rw [List.zip_nil_right]
    refine kat_nil ?_
    rw [hf, show decide ((x :: xs).length < ([] : List PyData).length) = LX (keyToksAll (x :: xs)) (keyToksAll []) from ?_]
    · exact q
    · rw [← cfirst (x :: xs) [] rfl]
      rfl
  | x :: xs, y :: ys, i, _, _, _, _, ra, rb, h, px, py, hu, hb, hf, q => by
    obtain ⟨h1, h2⟩ := cmpAll_cons h
    obtain ⟨px1, px2⟩ := plain_cons px
    obtain ⟨py1, py2⟩ := plain_cons py
    rw [PyData.depthAll, PyData.depthAll] at hu
    cases ra with
    | cons r rs =>
      cases rb with
      | cons r' rs' =>
        rw [List.zip_cons_cons]
        refine kat_cons (eqAt_plain x y A s _ _ _ _ r r' px1 py1 (room_head hu) prog w _ _ ?_)
        cases e : PyData.eqv x y with
        | true =>
          rw [clt_yes h1 e] at q
          refine kat_yes (kat_cmp xs ys (i + 1) _ _ _ _ rs rs' (h2 e) px2 py2 (room_tail hu) (fun _ z => absurd z (Nat.succ_ne_zero i)) ?_ q)
          rw [hf, List.length_cons, List.length_cons]
          exact decide_eq_decide.mpr (by omega)
        | false =>
          rw [clt_no h1 e] at q
          refine kat_no (one_cmp (fun z t => ?_) r r' h1 px1 py1 (room_head hu) q)
          rw [Bool.and_eq_true] at z
          exact hb z.1 (by simpa using z.2) x xs t rfl
end
end Tl
set_option Elab.async false
set_option linter.all false
set_option autoImplicit false
set_option maxRecDepth 100000
set_option maxHeartbeats 2000000
/-! sorted(list of comparable tuples) -/
namespace Tl
open PySem PySem.W PySem.SeqAt PyProof.Rows L2
/-- any two of them may be compared; all are tuples whose first items are of one type -/
structure Cmps (T : Value) (ds : List PyData) : Prop where
  two : ∀ d ∈ ds, ∀ e ∈ ds, cmpb d e = true
  plain : ∀ d ∈ ds, d.plain = true
  first : ∀ d ∈ ds, ∃ x r, d = .tuple (x :: r) ∧ dataType x = T
theorem key_some {h : Heap} {ds : List PyData} (hp : ∀ d ∈ ds, d.plain = true) {v : Value} {d : PyData} {as : List Addr} (hd : d ∈ ds) (r : Reads h v d as) : (dataKind h ds).keyOf v = some (keyToks d) := by
  have q : ∃ d, d ∈ ds ∧ ∃ as, Reads h v d as := ⟨d, hd, as, r⟩
  have e : (dataKind h ds).keyOf v = some (keyToks q.choose) := by
    unfold dataKind
    dsimp only
    rw [dif_pos q]
  obtain ⟨q1, bs, q2⟩ := q.choose_spec
  rw [e, plain_unique _ _ _ _ _ (hp _ q1) q2 r]
section
variable {prog : Program} {w : World} {A : Around} {E : Value → Shared → Prop} {s : Shared}
theorem sorts_cmp {T : Value} {us : List Value} {ds : List PyData} (e : EachIs (fun v d => ∃ as, Reads s.heap v d as) us ds) (c : Cmps T ds) (tt : (T == T) = true) (hu : ∀ d ∈ ds, A.units + d.depth < cLine) : SortsAt prog w A s (dataKind s.heap ds) us := by
  refine ⟨fun v hv => ?_, tuples' (T != Value.type "tuple"), ?_, fun l2 E Q q => ?_⟩
  · obtain ⟨d, hd, as, r⟩ := e.left v hv
    exact ⟨_, key_some c.plain hd r⟩
  · intro E x y a b Q ha hb q
    obtain ⟨d, as, hd, ra, rfl⟩ := dataKind_inv ha
    obtain ⟨d', bs, hd', rb, rfl⟩ := dataKind_inv hb
    have h := c.two d hd d' hd'
    have p1 := c.plain d hd
    have p2 := c.plain d' hd'
    have u1 := hu d hd
    obtain ⟨x1, r1, rfl, t1⟩ := c.first d hd
    obtain ⟨x2, r2, rfl, t2⟩ := c.first d' hd'
    rw [cmpb] at h
    rw [PyData.plain] at p1 p2
    have q : Q (LX (keyToksAll (x1 :: r1)) (keyToksAll (x2 :: r2))) s := by
      have q : Q (LX (keyToks (.tuple (x1 :: r1))) (keyToks (.tuple (x2 :: r2)))) s := q
      rw [keyToks, keyToks] at q
      exact q
    rw [PyData.depth] at u1
    cases ra with
    | @tuple p o us m _ _ g1 g2 g3 g4 =>
      cases rb with
      | @tuple p' o' vs m' _ _ k1 k2 k3 k4 =>
        have n1 : us.size = (x1 :: r1).length := by rw [← Array.length_toList]; exact SeqAt.ReadsAll.length _ _ _ g4
        have n2 : vs.size = (x2 :: r2).length := by rw [← Array.length_toList]; exact SeqAt.ReadsAll.length _ _ _ k4
        refine kat_lt g1 g3 k1 k3 (kat_cmp (x1 :: r1) (x2 :: r2) 0 _ _ _ _ g4 k4 h p1 p2 ?_ (fun z _ x r t ex => ?_) (by rw [n1, n2]) q)
        · have := Nat.min_le_left (PyData.depthAll (x1 :: r1)) (PyData.depthAll (x2 :: r2))
          omega
        · obtain ⟨rfl, rfl⟩ := List.cons.inj ex
          rw [← t1] at z
          exact dataType_tuple z t
  · obtain ⟨fs, t1, t2, t3⟩ := each_katTups e fun d hd => by
      obtain ⟨x, r, e1, _⟩ := c.first d hd
      exact ⟨x, r, e1⟩
    refine kat_kind (T := T) t1 (by omega) (fun f hf => ?_) tt q
    obtain ⟨x, r, as, m1, m2⟩ := t3 f hf
    obtain ⟨x', r', e1, e2⟩ := c.first _ m1
    cases e1
    rw [← e2]
    exact looks_reads m2
end
/-- the data in order -/
def srtD (ds : List PyData) : List PyData := ds.mergeSort (dataLe false id)
theorem zip_each {K : PySem.W.Frag} {H : Hp} : ∀ {xs : List V} {us : List Value} {ds : List PyData}, Vals xs us → Dts K H xs ds → EachIs (fun u (b : V × PyData) => L2.RelV b.1 u ∧ Dt K H b.1 b.2) us (xs.zip ds) ∧ (xs.zip ds).map Prod.snd = ds
  | _, _, _, .nil, .nil => ⟨.nil, rfl⟩
  | _, _, _, .cons r rs, .cons d dd => by
    obtain ⟨h1, h2⟩ := zip_each rs dd
    exact ⟨.cons ⟨r, d⟩ h1, by rw [List.zip_cons_cons, List.map_cons, h2]⟩
theorem each_out {K : PySem.W.Frag} {H : Hp} : ∀ {us : List Value} {bs : List (V × PyData)}, EachIs (fun u (b : V × PyData) => L2.RelV b.1 u ∧ Dt K H b.1 b.2) us bs → Vals (bs.map Prod.fst) us ∧ Dts K H (bs.map Prod.fst) (bs.map Prod.snd)
  | _, _, .nil => ⟨.nil, .nil⟩
  | _, _, .cons ⟨r, d⟩ t => by
    obtain ⟨h1, h2⟩ := each_out t
    exact ⟨.cons r h1, .cons d h2⟩
theorem dts_len {K : PySem.W.Frag} {H : Hp} : ∀ {xs : List V} {ds : List PyData}, Dts K H xs ds → xs.length = ds.length
  | _, _, .nil => rfl
  | _, _, .cons _ t => congrArg (· + 1) (dts_len t)
section
variable {X : Cx}
def rSortD (K : PySem.W.Frag) : List V → Hp → VK → Prop := fun vs H Q => ∃ (a : Addr) (xs : List V) (ds : List PyData) (T : Value), vs = [V.ref a] ∧ SqL K H a xs ∧ Dts K H xs ds ∧ Cmps T ds ∧ (T == T) = true ∧ (∀ d ∈ ds, d.depth ≤ 60) ∧
  ∀ (ys : List V) (p : Addr), Dts K H ys (srtD ds) → H p = none → Q (.ref p) (upd H p (.lst ys))
theorem cr_sortD (hu : X.A.units + 64 < cLine) : CallR X (.builtin "sorted") (rSortD X.K) := by
  intro pins s σ H vs us Q I r ⟨a, xs, ds, T, e, hs, hd, c, tt, dep, q⟩
  subst e
  rw [Vals.ref1 r]
  obtain ⟨its, rv, hl, lz⟩ := I.list hs
  obtain ⟨ee, em⟩ := zip_each rv hd
  have er : EachIs (fun v (b : V × PyData) => ∃ as, Reads s.heap v b.2 as) its (xs.zip ds) := ee.mono fun _ _ z => Dp.reads I _ _ _ z.2.p z.1
  have er2 : EachIs (fun v d => ∃ as, Reads (sortingHeap (copyHeap s.heap its) (s.heap.objs.size + 1) its) v d as) its ds := by
    have := each_map (R := fun v d => ∃ as, Reads (sortingHeap (copyHeap s.heap its) (s.heap.objs.size + 1) its) v d as) Prod.snd (er.mono fun _ _ ⟨as, z⟩ => ⟨as, PyProof.Rows.Reads.keeps (fun _ _ => sorting_copy_old) z⟩)
    rw [em] at this
    exact this
  have le : its.length ≤ sizeLine := by
    have := rv.length
    omega
  have S := sorts_cmp (prog := X.prog) (w := X.w) (A := X.A.in1.in1) (s := { s with heap := sortingHeap (copyHeap s.heap its) (s.heap.objs.size + 1) its }) er2 c tt fun d hd => by
    have := dep d hd
    show X.A.units + 1 + 1 + d.depth < cLine
    omega
  refine sorted_vals hl.isList S le ?_
  have out := sortVals_each (κ := dataKind (sortingHeap (copyHeap s.heap its) (s.heap.objs.size + 1) its) ds) (rev := false) (fun b : V × PyData => keyToks b.2) ee (by
    have := each_mem er2
    have h2 : EachIs (fun v d => (dataKind (sortingHeap (copyHeap s.heap its) (s.heap.objs.size + 1) its) ds).keyOf v = some (keyToks d)) its ds := this.mono fun _ _ ⟨⟨_, r⟩, m⟩ => key_some c.plain m r
    rw [← em] at h2
    have h3 := each_of_map Prod.snd h2
    rw [em] at h3
    exact h3)
  obtain ⟨v1, d1⟩ := each_out out
  have es : ((xs.zip ds).mergeSort (sortLe (dataKind (sortingHeap (copyHeap s.heap its) (s.heap.objs.size + 1) its) ds).toKeyOrd false fun b : V × PyData => keyToks b.2)).map Prod.snd = srtD ds := by
    refine (sort_maps Prod.snd (s := dataLe false id) fun a _ b _ => rfl).trans ?_
    rw [em]
    rfl
  rw [es] at d1
  generalize hys : ((xs.zip ds).mergeSort (sortLe (dataKind (sortingHeap (copyHeap s.heap its) (s.heap.objs.size + 1) its) ds).toKeyOrd false fun b : V × PyData => keyToks b.2)).map Prod.fst = ys at v1 d1
  generalize sortVals (dataKind (sortingHeap (copyHeap s.heap its) (s.heap.objs.size + 1) its) ds) false its its = outs at v1
  obtain ⟨ep, he⟩ := PyProof.Rows.sortedAll_at s.heap its outs.toArray
  have ly : ys.length ≤ sizeLine := by
    rw [dts_len d1]
    unfold srtD
    rw [List.length_mergeSort, ← dts_len hd]
    exact lz
  exact ⟨.ref _, upd H (s.heap.objs.size + 1) (.lst ys), I.laid (t' := s.toks) (fun _ _ => PyProof.Rows.sortedAll_old) (Nat.le_succ _) ⟨ly, outs, ep, v1, he⟩, rfl, q ys _ d1 (I.hok.fresh (Nat.le_succ _))⟩
end
end Tl
set_option Elab.async false
set_option linter.all false
set_option autoImplicit false
set_option maxRecDepth 100000
set_option maxHeartbeats 2000000
/-! concepts in order -/
namespace Tl
open PySem PySem.W PySem.SeqAt PyProof.Rows L2
theorem cmp_head {x y : Str} {xs ys : List PyData} (h : x = y → cmpAll xs ys = true) : cmpb (.tuple (.str x :: xs)) (.tuple (.str y :: ys)) = true := by
  rw [cmpb, cmpAll, cmpb, Bool.true_and, Bool.or_eq_true, Bool.not_eq_true']
  by_cases e : x = y
  · exact .inr (h e)
  · refine .inl ?_
    rw [PyData.eqv]
    simpa using e
theorem cmp_two {a b c d : PyData} (h1 : cmpb a c = true) (h2 : cmpb b d = true) : cmpAll [a, b] [c, d] = true := by
  rw [cmpAll, cmpAll, cmpAll, h1, h2]
  simp
theorem cmp_one {a c : PyData} (h1 : cmpb a c = true) : cmpAll [a] [c] = true := by
  rw [cmpAll, cmpAll, h1]
  simp
theorem cmp_str (x y : Str) : cmpb (.str x) (.str y) = true := by rw [cmpb]
theorem cmp_con : ∀ a b : C, cmpb a.d b.d = true
  | .all, b => by cases b <;> exact cmp_head fun e => by first | rfl | exact absurd e (by decide +kernel)
  | .non, b => by cases b <;> exact cmp_head fun e => by first | rfl | exact absurd e (by decide +kernel)
  | .word x, b => by
    cases b with
    | word y => exact cmp_head fun _ => cmp_one (cmp_str x y)
    | _ => exact cmp_head fun e => absurd e (by decide +kernel)
  | .some r c, b => by
    cases b with
    | some r' c' => exact cmp_head fun _ => cmp_two (cmp_str r r') (cmp_con c c')
    | _ => exact cmp_head fun e => absurd e (by decide +kernel)
  | .and c e, b => by
    cases b with
    | and c' e' => exact cmp_head fun _ => cmp_two (cmp_con c c') (cmp_con e e')
    | _ => exact cmp_head fun e => absurd e (by decide +kernel)
theorem con_plain : ∀ c : C, c.d.plain = true
  | .all => by decide +kernel
  | .non => by decide +kernel
  | .word x => by simp [C.d, PyData.plain, PyData.plainAll]
  | .some r c => by
    have := con_plain c
    simp [C.d, PyData.plain, PyData.plainAll, this]
  | .and a b => by
    have h1 := con_plain a
    have h2 := con_plain b
    simp [C.d, PyData.plain, PyData.plainAll, h1, h2]
theorem cmps_con (cs : List C) : Cmps (.type "str") (cs.map C.d) := by
  refine ⟨fun d hd e he => ?_, fun d hd => ?_, fun d hd => ?_⟩
  · obtain ⟨a, _, rfl⟩ := List.mem_map.mp hd
    obtain ⟨b, _, rfl⟩ := List.mem_map.mp he
    exact cmp_con a b
  · obtain ⟨a, _, rfl⟩ := List.mem_map.mp hd
    exact con_plain a
  · obtain ⟨a, _, rfl⟩ := List.mem_map.mp hd
    cases a <;> exact ⟨_, _, rfl, rfl⟩
theorem con_inj : ∀ a b : C, a.d = b.d → a = b
  | .all, b, h => by cases b <;> simp [C.d] at h ⊢ <;> exact absurd h (by decide +kernel)
  | .non, b, h => by cases b <;> simp [C.d] at h ⊢ <;> exact absurd h (by decide +kernel)
  | .word x, b, h => by
    cases b with
    | word y => simp [C.d] at h; rw [h]
    | _ => simp [C.d] at h <;> exact absurd h (by decide +kernel)
  | .some r c, b, h => by
    cases b with
    | some r' c' =>
      simp [C.d] at h
      rw [h.1, con_inj c c' h.2]
    | and c' e' =>
      simp [C.d] at h
      exact absurd h.1 (by decide +kernel)
    | _ => simp [C.d] at h
  | .and c e, b, h => by
    cases b with
    | and c' e' =>
      simp [C.d] at h
      rw [con_inj c c' h.1, con_inj e e' h.2]
    | some r' c' =>
      simp [C.d] at h
      exact absurd h.1 (by decide +kernel)
    | _ => simp [C.d] at h
/-! comparable data with the same signs are equal -/
mutual
theorem toks_pre : ∀ (x y : PyData), cmpb x y = true → ∀ l m, keyToks x ++ l = keyToks y ++ m → PyData.eqv x y = true ∧ l = m
  | .int a, y, h, l, m, e => by
    cases y with
    | int b =>
      simp only [keyToks, List.cons_append, List.nil_append, List.cons.injEq, Sum.inl.injEq] at e
      obtain ⟨rfl, e⟩ := e
      exact ⟨by simp [PyData.eqv], e⟩
    | _ => cases h
  | .str a, y, h, l, m, e => by
    cases y with
    | str b =>
      simp only [keyToks, List.cons_append, List.nil_append, List.cons.injEq, Sum.inr.injEq] at e
      obtain ⟨e1, e⟩ := e
      have := str_of_cps e1
      subst this
      exact ⟨by simp [PyData.eqv], e⟩
    | _ => cases h
  | .tuple xs, y, h, l, m, e => by
    cases y with
    | tuple ys =>
      rw [cmpb] at h
      simp only [keyToks] at e
      have := toks_preAll xs ys h l m e
      exact ⟨by rw [PyData.eqv]; exact this.1, this.2⟩
    | _ => cases h
  | .none, y, h, _, _, _ => by cases y <;> cases h
  | .bool _, y, h, _, _, _ => by cases y <;> cases h
  | .list _, y, h, _, _, _ => by cases y <;> cases h
  | .dict _, y, h, _, _, _ => by cases y <;> cases h
theorem toks_preAll : ∀ (xs ys : List PyData), cmpAll xs ys = true → ∀ l m, keyToksAll xs ++ l = keyToksAll ys ++ m → PyData.eqvAll xs ys = true ∧ l = m
  | [], [], _, l, m, e => by
    simp only [keyToksAll, List.cons_append, List.nil_append, List.cons.injEq, true_and] at e
    exact ⟨by rw [PyData.eqvAll], e⟩
  | [], y :: ys, _, l, m, e => by
    rw [toks_all_cons] at e
    simp [keyToksAll] at e
  | x :: xs, [], _, l, m, e => by
    rw [toks_all_cons] at e
    simp [keyToksAll] at e
  | x :: xs, y :: ys, h, l, m, e => by
    obtain ⟨h1, h2⟩ := cmpAll_cons h
    rw [toks_all_cons, toks_all_cons] at e
    simp only [List.cons_append, List.append_assoc, List.cons.injEq, true_and] at e
    obtain ⟨e1, e2⟩ := toks_pre x y h1 _ _ e
    obtain ⟨f1, f2⟩ := toks_preAll xs ys (h2 e1) l m e2
    exact ⟨by rw [eqv_all_cons, e1, f1]; rfl, f2⟩
end
end Tl
set_option Elab.async false
set_option linter.all false
set_option autoImplicit false
set_option maxRecDepth 100000
set_option maxHeartbeats 3200000
/-! sets of concepts; concepts in order, each once -/
namespace Tl
open PySem PySem.W PySem.SeqAt PySem.Spec PyProof.Rows L2
/-- a concept as a key -/
def kOf : C → NestedKey
  | .all => .tup [.text "all"]
  | .non => .tup [.text "none"]
  | .word x => .tup [.text "word", .text x]
  | .some r c => .tup [.text "some", .text r, kOf c]
  | .and a b => .tup [.text "and", kOf a, kOf b]
theorem kOf_data : ∀ c : C, (kOf c).data = c.d
  | .all => rfl
  | .non => rfl
  | .word x => rfl
  | .some r c => by
    have := kOf_data c
    simp [kOf, C.d, NestedKey.data, NestedKey.datas, this]
  | .and a b => by
    have h1 := kOf_data a
    have h2 := kOf_data b
    simp [kOf, C.d, NestedKey.data, NestedKey.datas, h1, h2]
theorem kOf_inj {a b : C} (h : kOf a = kOf b) : a = b := con_inj a b (by rw [← kOf_data, ← kOf_data, h])
theorem reads_all {h : Heap} {us : List Value} {d : PyData} {ds : List PyData} {as : List Addr} (r : ReadsAll h us (d :: ds) as) : ∃ u vs bs cs, us = u :: vs ∧ Reads h u d bs ∧ ReadsAll h vs ds cs := by
  cases r with
  | cons r1 r2 => exact ⟨_, _, _, _, rfl, r1, r2⟩
theorem reads_nil {h : Heap} {us : List Value} {as : List Addr} (r : ReadsAll h us [] as) : us = [] := by
  cases r
  rfl
theorem reads_str {h : Heap} {u : Value} {x : Str} {as : List Addr} (r : Reads h u (.str x) as) : NestedIs h (.text x) u := by
  cases r
  exact .text _ _
theorem reads_con {h : Heap} : ∀ (c : C) (u : Value) (as : List Addr), Reads h u c.d as → NestedIs h (kOf c) u
  | .all, _, _, r => by
    cases r with
    | tuple e1 e2 e3 e4 =>
      obtain ⟨u, vs, _, _, e, r1, r2⟩ := reads_all e4
      refine .tup e1 e2 e3 ?_
      rw [e, reads_nil r2]
      exact .cons (reads_str r1) .nil
  | .non, _, _, r => by
    cases r with
    | tuple e1 e2 e3 e4 =>
      obtain ⟨u, vs, _, _, e, r1, r2⟩ := reads_all e4
      refine .tup e1 e2 e3 ?_
      rw [e, reads_nil r2]
      exact .cons (reads_str r1) .nil
  | .word x, _, _, r => by
    cases r with
    | tuple e1 e2 e3 e4 =>
      obtain ⟨u, vs, _, _, e, r1, r2⟩ := reads_all e4
      obtain ⟨u2, vs2, _, _, e', r3, r4⟩ := reads_all r2
      refine .tup e1 e2 e3 ?_
      rw [e, e', reads_nil r4]
      exact .cons (reads_str r1) (.cons (reads_str r3) .nil)
  | .some r c, _, _, q => by
    cases q with
    | tuple e1 e2 e3 e4 =>
      obtain ⟨u, vs, _, _, e, r1, r2⟩ := reads_all e4
      obtain ⟨u2, vs2, _, _, e', r3, r4⟩ := reads_all r2
      obtain ⟨u3, vs3, _, _, e'', r5, r6⟩ := reads_all r4
      refine .tup e1 e2 e3 ?_
      rw [e, e', e'', reads_nil r6]
      exact .cons (reads_str r1) (.cons (reads_str r3) (.cons (reads_con c _ _ r5) .nil))
  | .and a b, _, _, q => by
    cases q with
    | tuple e1 e2 e3 e4 =>
      obtain ⟨u, vs, _, _, e, r1, r2⟩ := reads_all e4
      obtain ⟨u2, vs2, _, _, e', r3, r4⟩ := reads_all r2
      obtain ⟨u3, vs3, _, _, e'', r5, r6⟩ := reads_all r4
      refine .tup e1 e2 e3 ?_
      rw [e, e', e'', reads_nil r6]
      exact .cons (reads_str r1) (.cons (reads_con a _ _ r3) (.cons (reads_con b _ _ r5) .nil))
/-! ### the order of concepts -/
instance : DecidableEq C := fun a b => if h : kOf a = kOf b then .isTrue (kOf_inj h) else .isFalse fun e => h (by rw [e])
theorem ev_head {x y : Str} {xs ys : List PyData} (h : PyData.eqv (.tuple (.str x :: xs)) (.tuple (.str y :: ys)) = true) : x = y ∧ PyData.eqvAll xs ys = true := by
  rw [PyData.eqv, eqv_all_cons, Bool.and_eq_true] at h
  obtain ⟨h1, h2⟩ := h
  rw [PyData.eqv] at h1
  exact ⟨by simpa using h1, h2⟩
theorem ev_two {a b c d : PyData} (h : PyData.eqvAll [a, b] [c, d] = true) : PyData.eqv a c = true ∧ PyData.eqv b d = true := by
  rw [eqv_all_cons, eqv_all_cons, Bool.and_eq_true, Bool.and_eq_true] at h
  exact ⟨h.1, h.2.1⟩
theorem ev_one {a c : PyData} (h : PyData.eqvAll [a] [c] = true) : PyData.eqv a c = true := by
  rw [eqv_all_cons, Bool.and_eq_true] at h
  exact h.1
theorem ev_str {x y : Str} (h : PyData.eqv (.str x) (.str y) = true) : x = y := by
  rw [PyData.eqv] at h
  simpa using h
theorem eqv_eq : ∀ a b : C, PyData.eqv a.d b.d = true → a = b
  | .all, b, h => by cases b <;> first | rfl | exact absurd (ev_head h).1 (by decide +kernel)
  | .non, b, h => by cases b <;> first | rfl | exact absurd (ev_head h).1 (by decide +kernel)
  | .word x, b, h => by
    cases b with
    | word y => rw [ev_str (ev_one (ev_head h).2)]
    | _ => exact absurd (ev_head h).1 (by decide +kernel)
  | .some r c, b, h => by
    cases b with
    | some r' c' =>
      obtain ⟨h1, h2⟩ := ev_two (ev_head h).2
      rw [ev_str h1, eqv_eq c c' h2]
    | _ => exact absurd (ev_head h).1 (by decide +kernel)
  | .and c e, b, h => by
    cases b with
    | and c' e' =>
      obtain ⟨h1, h2⟩ := ev_two (ev_head h).2
      rw [eqv_eq c c' h1, eqv_eq e e' h2]
    | _ => exact absurd (ev_head h).1 (by decide +kernel)
def cle (a b : C) : Bool := dataLe false id a.d b.d
theorem cle_total : TotalLe cle := ⟨fun a b c h1 h2 => (sortLe_total (listOrd itemOrd) false fun b : PyData => keyToks b).trans a.d b.d c.d h1 h2, fun a b => (sortLe_total (listOrd itemOrd) false fun b : PyData => keyToks b).total a.d b.d⟩
theorem cle_anti {a b : C} (h1 : cle a b = true) (h2 : cle b a = true) : a = b := by
  have e1 : (listOrd itemOrd).blt (keyToks b.d) (keyToks a.d) = false := by
    have h1 : (!(listOrd itemOrd).blt (keyToks b.d) (keyToks a.d)) = true := h1
    simpa using h1
  have e2 : (listOrd itemOrd).blt (keyToks a.d) (keyToks b.d) = false := by
    have h2 : (!(listOrd itemOrd).blt (keyToks a.d) (keyToks b.d)) = true := h2
    simpa using h2
  have e : keyToks a.d = keyToks b.d := (listOrd itemOrd).total _ _ e2 e1
  have q := (toks_pre a.d b.d (cmp_con a b) [] [] (by rw [e])).1
  exact eqv_eq a b q
/-- in order, each once -/
def Strict (cs : List C) : Prop := cs.Pairwise fun a b => cle a b = true ∧ a ≠ b
theorem strict_of {cs : List C} (h : cs.Pairwise fun a b => cle a b = true) (n : cs.Nodup) : Strict cs := by
  exact List.Pairwise.and h n
theorem strict_nodup {cs : List C} (h : Strict cs) : cs.Nodup := List.Pairwise.imp (fun z => z.2) h
/-- only one list of the same concepts is so -/
theorem strict_one : ∀ {xs ys : List C}, Strict xs → Strict ys → (∀ c, c ∈ xs ↔ c ∈ ys) → xs = ys
  | [], [], _, _, _ => rfl
  | [], y :: ys, _, _, h => absurd ((h y).mpr List.mem_cons_self) (by simp)
  | x :: xs, [], _, _, h => absurd ((h x).mp List.mem_cons_self) (by simp)
  | x :: xs, y :: ys, h1, h2, h => by
    have p1 := List.pairwise_cons.mp h1
    have p2 := List.pairwise_cons.mp h2
    have e : x = y := by
      rcases List.mem_cons.mp ((h x).mp List.mem_cons_self) with e | m1
      · exact e
      · rcases List.mem_cons.mp ((h y).mpr List.mem_cons_self) with e | m2
        · exact e.symm
        · exact cle_anti (p1.1 y m2).1 (p2.1 x m1).1
    subst e
    rw [strict_one p1.2 p2.2 fun c => ?_]
    constructor
    · intro m
      rcases List.mem_cons.mp ((h c).mp (List.mem_cons_of_mem _ m)) with e | m'
      · exact absurd e.symm (p1.1 c m).2
      · exact m'
    · intro m
      rcases List.mem_cons.mp ((h c).mpr (List.mem_cons_of_mem _ m)) with e | m'
      · exact absurd e.symm (p2.1 c m).2
      · exact m'
theorem srtD_con (cs : List C) : srtD (cs.map C.d) = (cs.mergeSort cle).map C.d := by
  unfold srtD
  exact (sort_maps C.d (s := dataLe false id) fun a _ b _ => rfl).symm
/-! ### set(list of concepts), sorted(set) -/
abbrev CRow := Addr × C
def nrow (p : CRow) : NRow := (p.1, kOf p.2)
structure SetC0 (w : World) (h : Heap) (a : Addr) (L : List CRow) : Prop where
  ex : ∃ (es : Array (Int × Value)) (ep : Nat) (t : SetTable), (∃ o, h.get? a = some o ∧ o.ExactSet ∧ o.data = .set es ep t) ∧ es.toList = (L.map nrow).map (cell w) ∧ TabOk t ((L.map nrow).map (hN w)) ∧ ((L.map nrow).map Prod.snd).Nodup ∧
    (w.params.followText "set-order" = true ∨ t.led = true) ∧ L.length * 5 < t.mask * 3 ∧ L.length < 64
def SetCO (w : World) (a : Addr) (L : List CRow) : HO := .ext fun h => SetC0 w h a L
theorem setCO_new {P : Program} {w : World} {H : Hp} {h : Heap} {a : Addr} {L : List CRow} (R : SetC0 w h a L) : ObjOk P w H h a (SetCO w a L) := by
  have ⟨es, ep, t, ⟨o, ho, r⟩, q⟩ := R.ex
  refine ⟨R, ⟨o, ho⟩, fun h1 h2 p k => ?_⟩
  have ⟨es', ep', t', ⟨o', ho', r'⟩, q'⟩ := SetC0.ex p
  exact ⟨es', ep', t', ⟨o', k o' ho', r'⟩, q'⟩
theorem pull {α β : Type} {f : α → β} {ks : List α} : ∀ {L : List β}, (∀ p ∈ L, p ∈ ks.map f) → ∃ L' : List α, L = L'.map f ∧ ∀ q ∈ L', q ∈ ks
  | [], _ => ⟨[], rfl, fun _ m => (nomatch m)⟩
  | p :: L, h => by
    obtain ⟨L', e, m⟩ := pull (L := L) fun q z => h q (List.mem_cons_of_mem _ z)
    obtain ⟨q, mq, eq⟩ := List.mem_map.mp (h p List.mem_cons_self)
    refine ⟨q :: L', by rw [List.map_cons, eq, e], fun r mr => ?_⟩
    rcases List.mem_cons.mp mr with z | z
    · rw [z]; exact mq
    · exact m r z
theorem refs_rows {α : Type} : ∀ {ks : List (Addr × α)} {us : List Value}, Vals (ks.map fun p => V.ref p.1) us → us = ks.map fun p => Value.ref p.1
  | [], _, .nil => rfl
  | p :: ks, _, .cons r t => by
    cases r
    rw [refs_rows t]
    rfl
section
variable {X : Cx}
theorem _root_.L2.Inv.ni {pins : List (Addr × Obj)} {σ : L2.St} {H : Hp} {s : Shared} {a : Addr} {c : C} (I : Inv X pins σ H s) (h : Con X.K H (.ref a) c) (low : (kOf c).depth ≤ 8) : NI s.heap (kOf c) a := by
  obtain ⟨as, r⟩ := Dp.reads I c.d (.ref a) (.ref a) h.p rfl
  exact ⟨reads_con c _ _ r, low⟩
def rSetC (K : PySem.W.Frag) (w : World) : List V → Hp → VK → Prop := fun xs H Q => ∃ (l : Addr) (ks : List CRow), xs = [V.ref l] ∧ SqL K H l (ks.map fun p => V.ref p.1) ∧ (∀ p ∈ ks, Con K H (.ref p.1) p.2 ∧ (kOf p.2).depth ≤ 8) ∧ ks.length < 64 ∧
  ∀ a L, H a = none → (∀ p ∈ L, p ∈ ks) → (∀ p ∈ ks, p.2 ∈ L.map Prod.snd) → (L.map Prod.snd).Nodup → Q (.ref a) (upd H a (SetCO w a L))
theorem cr_setC (calm : X.calm = true) (hu : X.A.units + 64 < cLine) : CallR X (.type "set") (rSetC X.K X.w) := by
  intro pins s σ H xs us Q I r ⟨l, ks, e, hl, hk, few, q⟩
  subst e
  rw [Vals.ref1 r]
  obtain ⟨its, rv, pl, _⟩ := I.list hl
  refine set_of_rows (P := X.prog) (w := X.w) (ks.map nrow) (I.ok.hd calm) pl.isList (by rw [List.map_map]; simpa [Function.comp_def, nrow] using refs_rows rv) (fun p m => ?_) (by rw [List.length_map]; exact few) (by omega) fun h' tk L es ep t R g k => ?_
  · obtain ⟨q, mq, rfl⟩ := List.mem_map.mp m
    exact I.ni (hk q mq).1 (hk q mq).2
  · rw [List.length_map] at g
    obtain ⟨L', rfl, sub⟩ := pull (f := nrow) (ks := ks) (L := L) fun p m => List.mem_of_mem_take (g.of p m)
    have len : (L'.map nrow).length = L'.length := List.length_map ..
    have snd : (L'.map nrow).map Prod.snd = (L'.map Prod.snd).map kOf := by
      rw [List.map_map, List.map_map]
      rfl
    refine ⟨.ref s.heap.objs.size, _, I.laid (t' := tk) k (Nat.le_refl _) (setCO_new (L := L') ⟨es, ep, t, R.obj, R.rows, R.tab, R.nodup, R.led, by have := R.room; rwa [len] at this, by have := R.few; rwa [len] at this⟩), rfl, q _ L' (I.hok.fresh (Nat.le_refl _)) sub (fun p m => ?_) ?_⟩
    · have := g.got (nrow p) (by
        rw [List.take_of_length_le (by rw [List.length_map]; exact Nat.le_refl _)]
        exact List.mem_map_of_mem m)
      rw [snd] at this
      obtain ⟨c, mc, ec⟩ := List.mem_map.mp this
      rw [← kOf_inj ec]
      exact mc
    · have := R.nodup
      rw [snd] at this
      exact List.Pairwise.imp (fun ne e => ne (congrArg kOf e)) (List.pairwise_map.mp this)
theorem each_refs : ∀ l : List CRow, EachIs (fun v (q : CRow) => v = Value.ref q.1) (l.map fun q => Value.ref q.1) l
  | [] => .nil
  | q :: l => .cons rfl (each_refs l)
theorem one_key {h : Heap} {a : Addr} {c d : C} {as bs : List Addr} (r1 : Reads h (.ref a) c.d as) (r2 : Reads h (.ref a) d.d bs) : c = d := kOf_inj (NestedIs.inj _ _ _ (reads_con c _ _ r1) (reads_con d _ _ r2))
end
section
variable {P : Program} {w : World} {A : Around} {E : Value → Shared → Prop} {s : Shared} {a : Addr}
theorem sorted_rows {L : List CRow} {Q : Value → Shared → Prop} (R : SetC0 w s.heap a L) (calm : A.handled = none) (hu : A.units + 64 < cLine) (con : ∀ p ∈ L, ∃ as, Reads s.heap (.ref p.1) p.2.d as) (dep : ∀ p ∈ L, p.2.d.depth ≤ 60)
    (go : ∀ s1 p (out : Array Value) (k : Nat) (L2 : List CRow), (∀ b o, s.heap.get? b = some o → s1.heap.get? b = some o) → s1.gens = s.gens → s1.os = s.os → s.heap.objs.size ≤ p →
      s1.heap.get? p = some (seqObj "list" out k) → out.toList = L2.map (fun q => Value.ref q.1) → L2.Pairwise (fun q r => cle q.2 r.2 = true) → (L2.map Prod.snd).Perm (L.map Prod.snd) → (∀ q ∈ L2, q ∈ L) → Q (.ref p) s1) :
    wpAny (model P w) A (call (.builtin "sorted") [.ref a]) Q E s := by
  obtain ⟨es, ep, t, ⟨o, ho, hx, hd⟩, rows, tab, nd, led, room, few⟩ := R.ex
  have sl : es.size = L.length := by
    have := cells_size rows
    rwa [List.length_map] at this
  have fit : t.fits es.size = true := by
    have h1 := tab.sz
    rw [List.length_map, List.length_map] at h1
    unfold SetTable.fits SetTable.fill
    rw [tab.dm, Bool.and_eq_true, beq_iff_eq, decide_eq_true_eq]
    show t.place.size = es.size ∧ t.place.size + 0 ≤ t.mask
    omega
  refine Calls.call_function_entry kind_sorted plain_sorted entry_sorted (args_sorted1 _) ?_
  unfold Builtin.«sorted»
  refine wpAny_bind (m := checkCount "sorted" 1 1 _) (wpAny_pure ?_)
  refine wpAny_bind (collect_set (A := A.in1) calm ⟨o, ho, hx.1, hd⟩ fit (by unfold scanBound; omega) tab.ris led fun s1 vs k1 hz g1 o1 pm => ?_)
  have vals : es.toList.map (·.2) = L.map fun q => Value.ref q.1 := by
    rw [rows, List.map_map, List.map_map]
    rfl
  rw [vals] at pm
  obtain ⟨L1, e1, sub⟩ := pull (f := fun q : CRow => Value.ref q.1) (ks := L) (L := vs) fun v m => pm.mem_iff.mp m
  -- the concept of a value
  have one : ∀ q ∈ L, ∀ r ∈ L, q.1 = r.1 → q.2 = r.2 := fun q hq r hr e => by
    obtain ⟨as, r1⟩ := con q hq
    obtain ⟨bs, r2⟩ := con r hr
    rw [e] at r1
    exact one_key r1 r2
  have pc : (L1.map Prod.snd).Perm (L.map Prod.snd) := by
    have gs : ∃ g : Value → C, ∀ q ∈ L, g (.ref q.1) = q.2 := by
      refine ⟨fun v => Classical.epsilon (h := ⟨C.all⟩) fun c => ∃ q ∈ L, v = Value.ref q.1 ∧ q.2 = c, fun q hq => ?_⟩
      obtain ⟨r, hr, e, e2⟩ := Classical.epsilon_spec (p := fun c => ∃ r ∈ L, Value.ref q.1 = Value.ref r.1 ∧ r.2 = c) ⟨q.2, q, hq, rfl, rfl⟩
      injection e with e
      exact (e2.symm.trans (one q hq r hr e).symm)
    obtain ⟨g, hg⟩ := gs
    have m1 : ∀ l : List CRow, (∀ q ∈ l, q ∈ L) → l.map Prod.snd = (l.map fun q => Value.ref q.1).map g := fun l h => by
      rw [List.map_map]
      exact List.map_congr_left fun q m => (hg q (h q m)).symm
    rw [m1 L1 sub, m1 L fun _ m => m]
    exact (e1 ▸ pm).map g
  have lvs : vs.length = L.length := by rw [pm.length_eq, List.length_map]
  have le : vs.length ≤ sizeLine := by rw [lvs, sizeLine_eq]; omega
  refine wpAny_bind (wpAny_newList ?_ le)
  have atL : (s1.heap.push (seqObj "list" vs.toArray 0)).get? s1.heap.objs.size = some (seqObj "list" vs.toArray 0) := Heap.get?_push_size _ rfl
  have old : ∀ b u, s.heap.get? b = some u → (sortingHeap (s1.heap.push (seqObj "list" vs.toArray 0)) s1.heap.objs.size vs).get? b = some u := fun b u e => by
    have q := k1 b u e
    have lt := Heap.lt_size q
    rw [sortingHeap_old (Nat.ne_of_lt lt)]
    exact Heap.get?_push_of_some _ q
  have each : EachIs (fun v (q : CRow) => ∃ as, Reads (sortingHeap (s1.heap.push (seqObj "list" vs.toArray 0)) s1.heap.objs.size vs) v q.2.d as) vs L1 := by
    exact (each_mem (show EachIs (fun v (q : CRow) => v = Value.ref q.1) vs L1 by rw [e1]; exact each_refs L1)).mono fun v q ⟨h1, h2⟩ => by
      obtain ⟨as, r⟩ := con q (sub q h2)
      exact ⟨as, by rw [h1]; exact PyProof.Rows.Reads.keeps old r⟩
  have eachd : EachIs (fun v d => ∃ as, Reads (sortingHeap (s1.heap.push (seqObj "list" vs.toArray 0)) s1.heap.objs.size vs) v d as) vs (L1.map fun q => q.2.d) := each_map (R := fun v d => ∃ as, Reads (sortingHeap (s1.heap.push (seqObj "list" vs.toArray 0)) s1.heap.objs.size vs) v d as) (fun q : CRow => q.2.d) each
  have cmps : Cmps (.type "str") (L1.map fun q => q.2.d) := by
    have := cmps_con (L1.map Prod.snd)
    rwa [List.map_map] at this
  have S := sorts_cmp (prog := P) (w := w) (A := A.in1.in1) (s := { s1 with heap := sortingHeap (s1.heap.push (seqObj "list" vs.toArray 0)) s1.heap.objs.size vs }) eachd cmps (by decide) fun d hd => by
    obtain ⟨q, m, rfl⟩ := List.mem_map.mp hd
    have := dep q (sub q m)
    show A.units + 1 + 1 + q.2.d.depth < cLine
    omega
  refine wpAny_bind (wpAny_holding (wpAny_call_entry slot_list_sort ⟨_, atL, rfl⟩ entry_list_sort
    (list_sort_vals (s := { s1 with heap := s1.heap.push (seqObj "list" vs.toArray 0) }) atL S le ⟨_, rfl, ?_⟩) (args_list_sort _)))
  have ee : EachIs (fun v (q : CRow) => v = Value.ref q.1) vs L1 := by rw [e1]; exact each_refs L1
  have out := sortVals_each (κ := dataKind (sortingHeap (s1.heap.push (seqObj "list" vs.toArray 0)) s1.heap.objs.size vs) (L1.map fun q => q.2.d)) (rev := false) (fun q : CRow => keyToks q.2.d) ee (by
    have h1 := each_mem eachd
    have h2 : EachIs (fun v d => (dataKind (sortingHeap (s1.heap.push (seqObj "list" vs.toArray 0)) s1.heap.objs.size vs) (L1.map fun q => q.2.d)).keyOf v = some (keyToks d)) vs (L1.map fun q => q.2.d) := h1.mono fun _ _ ⟨⟨_, r⟩, m⟩ => key_some cmps.plain m r
    exact each_of_map (fun q : CRow => q.2.d) h2)
  generalize hL2 : L1.mergeSort (sortLe (dataKind (sortingHeap (s1.heap.push (seqObj "list" vs.toArray 0)) s1.heap.objs.size vs) (L1.map fun q => q.2.d)).toKeyOrd false fun q : CRow => keyToks q.2.d) = L2 at out
  have pL : L2.Perm L1 := by rw [← hL2]; exact List.mergeSort_perm _ _
  have pw : L2.Pairwise fun q r => cle q.2 r.2 = true := by
    rw [← hL2]
    exact sort_pairwise (sortLe_total _ false _) L1
  generalize sortVals (dataKind (sortingHeap (s1.heap.push (seqObj "list" vs.toArray 0)) s1.heap.objs.size vs) (L1.map fun q => q.2.d)) false vs vs = outs at out
  have eo : outs = L2.map fun q => Value.ref q.1 := by
    clear pL pw hL2
    induction out with
    | nil => rfl
    | cons e _ ih => rw [e, ih]; rfl
  obtain ⟨k, hk⟩ := sortedHeap_at (vs := vs) (out := outs.toArray) atL
  refine wpAny_pure ⟨_, rfl, go _ s1.heap.objs.size _ k L2 (fun b u e => ?_) g1 o1 hz hk (by rw [← eo]) pw ((pL.map Prod.snd).trans pc) fun q m => sub q (pL.mem_iff.mp m)⟩
  have q := k1 b u e
  have lt := Heap.lt_size q
  show (sortedHeap (s1.heap.push (seqObj "list" vs.toArray 0)) s1.heap.objs.size vs _).get? b = some u
  rw [sortedHeap_old (Nat.ne_of_lt lt) (by rw [size_push']; exact Nat.lt_succ_of_lt lt)]
  exact Heap.get?_push_of_some _ q
end
section
variable {X : Cx}
theorem vals_rows {α : Type} : ∀ (ks : List (Addr × α)), Vals (ks.map fun p => V.ref p.1) (ks.map fun p => Value.ref p.1)
  | [] => .nil
  | p :: ks => .cons rfl (vals_rows ks)
theorem dts_rows {K : PySem.W.Frag} {H : Hp} : ∀ {L : List CRow}, (∀ p ∈ L, Con K H (.ref p.1) p.2) → Dts K H (L.map fun p => V.ref p.1) ((L.map Prod.snd).map C.d)
  | [], _ => .nil
  | p :: L, h => .cons (h p List.mem_cons_self) (dts_rows fun q m => h q (List.mem_cons_of_mem _ m))
def rSortC (K : PySem.W.Frag) (w : World) : List V → Hp → VK → Prop := fun vs H Q => ∃ (a : Addr) (L : List CRow), vs = [V.ref a] ∧ H a = some (SetCO w a L) ∧ (L.map Prod.snd).Nodup ∧ (∀ p ∈ L, Con K H (.ref p.1) p.2 ∧ p.2.d.depth ≤ 60) ∧
  ∀ (ys : List V) (cs : List C) (p : Addr), Dts K H ys (cs.map C.d) → Strict cs → (∀ c, c ∈ cs ↔ c ∈ L.map Prod.snd) → H p = none → Q (.ref p) (upd H p (.lst ys))
theorem cr_sortC (calm : X.calm = true) (hu : X.A.units + 64 < cLine) : CallR X (.builtin "sorted") (rSortC X.K X.w) := by
  intro pins s σ H vs us Q I r ⟨a, L, e, ha, nd, hk, q⟩
  subst e
  have R : SetC0 X.w s.heap a L := (I.hok a _ ha).1
  rw [Vals.ref1 r]
  refine sorted_rows R (I.ok.hd calm) hu (fun p m => Dp.reads I p.2.d (.ref p.1) (.ref p.1) (hk p m).1.p rfl) (fun p m => (hk p m).2) fun s1 p out k L2 kp g o hp hkk eo pw pc sub => ?_
  have few : L2.length < 64 := by
    obtain ⟨_, _, _, _, _, _, _, _, _, few⟩ := R.ex
    have := pc.length_eq
    rw [List.length_map, List.length_map] at this
    omega
  have len : (L2.map fun q => V.ref q.1).length ≤ sizeLine := by rw [List.length_map, sizeLine_eq]; omega
  have np : H p = none := I.hok.fresh hp
  have J : Inv X pins σ (upd H p (.lst (L2.map fun q => V.ref q.1))) { s with heap := s1.heap, gens := s1.gens, drawn := s1.drawn, toks := s1.toks } :=
    I.call (ch := []) (Un.laid kp hp np) (I.hok.laid kp hp ⟨len, out.toList, k, by rw [eo]; exact vals_rows L2, hkk⟩) (by rw [g]; exact I.bare) (fun _ z => nomatch z)
  have e : s1 = { s with heap := s1.heap, gens := s1.gens, drawn := s1.drawn, toks := s1.toks } := by
    cases s1
    cases s
    cases o
    rfl
  rw [e]
  exact ⟨.ref p, _, J, rfl, q _ (L2.map Prod.snd) p (dts_rows fun r m => (hk r (sub r m)).1) (strict_of (List.pairwise_map.mpr pw) (pc.nodup_iff.mpr nd)) (fun c => pc.mem_iff) np⟩
end
end Tl
set_option Elab.async false
set_option linter.all false
set_option autoImplicit false
set_option maxRecDepth 100000
set_option maxHeartbeats 4000000
namespace K21
open PySem PySem.Spec PyProof.Rows L2 Tl
open C8 (Cal pe_c)
/-! ### in order, each once -/
theorem kdep : ∀ c : C, (kOf c).depth ≤ dep c
  | .all => (by decide +kernel : (kOf .all).depth ≤ 1)
  | .non => (by decide +kernel : (kOf .non).depth ≤ 1)
  | .word x => by simp [kOf, NestedKey.depth, NestedKey.depthAll, dep]
  | .some r c => by
    have := kdep c
    simp only [kOf, NestedKey.depth, NestedKey.depthAll, dep]
    omega
  | .and a b => by
    have h1 := kdep a
    have h2 := kdep b
    have h3 : Nat.max (dep a) (dep b) = max (dep a) (dep b) := rfl
    simp only [kOf, NestedKey.depth, NestedKey.depthAll, dep, h3]
    omega
theorem eqv_self : ∀ c : C, PyData.eqv c.d c.d = true
  | .all => by simp [C.d, PyData.eqv, PyData.eqvAll]
  | .non => by simp [C.d, PyData.eqv, PyData.eqvAll]
  | .word x => by simp [C.d, PyData.eqv, PyData.eqvAll]
  | .some r c => by
    have := eqv_self c
    simp [C.d, PyData.eqv, PyData.eqvAll, this]
  | .and a b => by
    have h1 := eqv_self a
    have h2 := eqv_self b
    simp [C.d, PyData.eqv, PyData.eqvAll, h1, h2]
theorem eqv_con (a b : C) : PyData.eqv a.d b.d = decide (a = b) := by
  by_cases h : a = b
  · rw [h, decide_eq_true rfl]
    exact eqv_self b
  · rw [decide_eq_false h]
    exact Bool.eq_false_iff.mpr fun z => h (eqv_eq a b z)
theorem cl_zip {K : PySem.W.Frag} {H : Hp} {as : List Addr} {cs : List C} (h : CL K H as cs) : (as.zip cs).map (fun p => V.ref p.1) = as.map V.ref ∧ (as.zip cs).map Prod.snd = cs ∧ ∀ p ∈ as.zip cs, Con K H (.ref p.1) p.2 := by
  induction h with
  | nil => exact ⟨rfl, rfl, fun p m => (nomatch m)⟩
  | cons r _ ih =>
    obtain ⟨h1, h2, h3⟩ := ih
    refine ⟨by rw [List.zip_cons_cons, List.map_cons, List.map_cons, h1], by rw [List.zip_cons_cons, List.map_cons, h2], fun p m => ?_⟩
    rcases List.mem_cons.mp m with e | m
    · rw [e]; exact r
    · exact h3 p m
theorem dts_at {K : PySem.W.Frag} {H : Hp} : ∀ {xs : List V} {ds : List PyData} {i : Nat} {x : V}, Dts K H xs ds → xs[i]? = some x → ∃ d, ds[i]? = some d ∧ Dt K H x d
  | _ :: _, _ :: _, 0, _, .cons r _, h => ⟨_, rfl, by cases h; exact r⟩
  | _ :: _, _ :: _, i + 1, _, .cons _ t, h => dts_at (i := i) t h
theorem dts_snoc {K : PySem.W.Frag} {H : Hp} : ∀ {xs : List V} {ds : List PyData} {x : V} {d : PyData}, Dts K H xs ds → Dt K H x d → Dts K H (xs ++ [x]) (ds ++ [d])
  | _, _, _, _, .nil, h => .cons h .nil
  | _, _, _, _, .cons r t, h => .cons r (dts_snoc t h)
theorem cl_dts {K : PySem.W.Frag} {H : Hp} {as : List Addr} {cs : List C} (h : CL K H as cs) : Dts K H (as.map V.ref) (cs.map C.d) := by
  induction h with
  | nil => exact .nil
  | cons r _ ih => exact .cons r ih
theorem pw_lt {α : Type} {R : α → α → Prop} : ∀ {l : List α} {i j : Nat} {e f : α}, l.Pairwise R → l[i]? = some e → l[j]? = some f → i < j → R e f
  | _ :: _, 0, _ + 1, _, _, h, h1, h2, _ => by
    cases h1
    exact (List.pairwise_cons.mp h).1 _ (List.mem_of_getElem? h2)
  | _ :: _, i + 1, j + 1, _, _, h, h1, h2, lt => pw_lt (i := i) (j := j) (List.pairwise_cons.mp h).2 h1 h2 (by omega)
  | [], _, _, _, _, _, h1, _, _ => by cases h1
section
variable {P : Program} {w : World} {K : PySem.W.Frag} {mg : Str → Option Value} {base : Heap}
/-- what both give: a new tuple of the same concepts, in order, each once -/
def GivesSet (K : PySem.W.Frag) (H : Hp) (cs : List C) (Q : VK) : Prop := ∀ (t : Addr) (ys : List V) (es : List C) (H' : Hp), L2.Same H H' → H t = none → SqT K H' t ys → Dts K H' ys (es.map C.d) → Strict es → (∀ c, c ∈ es ↔ c ∈ cs) → Q (.ref t) H'
def spLAsc (K : PySem.W.Frag) : Sp := fun vs H Q _ => ∃ (p : Addr) (as : List Addr) (cs : List C), vs = [.ref p] ∧ SqL K H p (as.map V.ref) ∧ CL K H as cs ∧ cs.length < 64 ∧ (∀ c ∈ cs, dep c ≤ 8) ∧ GivesSet K H cs Q
theorem cLawAscending (T : Txt K mg) : Cal P w K mg base 1 "_law_ascending" (spLAsc K) [] := by
  refine cal_of T.lawAscending scLawAscending (fun _ _ _ _ _ _ us hl => match us, hl with | [_], _ => rfl) (fun vs H Q E h => ?_) (fun f cdv A outer s H vs Q E hr h => ?_)
  · obtain ⟨p, as, cs, rfl, _⟩ := h
    rfl
  obtain ⟨p, as, cs, rfl, hp, hcl, few, deep, q⟩ := h
  have hu64 := hr.units
  refine ⟨_, (pss_one (ps_ret (pe_callTy call_tuple_of (by rfl) T.tuple (by decide +kernel) (pa_cons (pe_callB (cr_sortC rfl hu64) (by rfl) T.sorted (by decide +kernel) (pa_cons (pe_callTy (cr_setC rfl hu64) (by rfl) T.set (by decide +kernel) (pa_cons (pv 0) pa_nil)) pa_nil)) pa_nil)))), ?_⟩
  obtain ⟨z1, z2, z3⟩ := cl_zip hcl
  have len : (as.zip cs).length = cs.length := by rw [← List.length_map (f := Prod.snd), z2]
  have inC : ∀ p ∈ as.zip cs, p.2 ∈ cs := fun p m => by rw [← z2]; exact List.mem_map_of_mem m
  refine ⟨.ref p, rfl, p, as.zip cs, rfl, by rw [z1]; exact hp, fun r m => ⟨z3 r m, Nat.le_trans (kdep r.2) (deep _ (inC r m))⟩, by omega, fun a L na sub all nd => ?_⟩
  have s1 := same_up (o := SetCO w a L) na
  refine ⟨a, L, rfl, upd_same, nd, fun r m => ⟨(z3 r (sub r m)).st (Tl.Same.stay s1), ?_⟩, fun ys es p2 hy st mem np2 => ?_⟩
  · have h1 := con_depth r.2
    have h2 := deep _ (inC r (sub r m))
    omega
  have s2 := same_add s1 (o := .lst ys) np2
  refine ⟨p2, ys, rfl, .inl ⟨lst_of upd_same, fun t nt => ?_⟩⟩
  have s3 := same_add s2 (o := .tup ys) nt
  refine q t ys es _ s3 (s2.free nt) (tupOf upd_same) (Dts.stay (Tl.Same.stay ((same_up (o := .lst ys) np2).trans (same_up (o := .tup ys) nt))) _ _ hy) st fun c => ?_
  rw [mem c, ← z2]
  constructor
  · intro m
    obtain ⟨r, mr, rfl⟩ := List.mem_map.mp m
    exact List.mem_map_of_mem (sub r mr)
  · intro m
    obtain ⟨r, mr, rfl⟩ := List.mem_map.mp m
    exact all r mr
def spAscC (K : PySem.W.Frag) : Sp := fun vs H Q _ => ∃ (p : Addr) (xs : List V) (cs : List C), vs = [.ref p] ∧ SqL K H p xs ∧ Dts K H xs (cs.map C.d) ∧ cs.length ≤ 500 ∧ (∀ c ∈ cs, Fit c) ∧ GivesSet K H cs Q
theorem cAscending (T : Txt K mg) : Cal P w K mg base 1 "ascending" (spAscC K) [] := by
  refine cal_of T.ascending scAscending (fun _ _ _ _ _ _ us hl => match us, hl with | [_], _ => rfl) (fun vs H Q E h => ?_) (fun f cdv A outer s H vs Q E hr h => ?_)
  · obtain ⟨p, xs, cs, rfl, _⟩ := h
    rfl
  obtain ⟨p, xs, cs, rfl, hp, hx, few, fits, q⟩ := h
  have hu64 := hr.units
  refine ⟨_, (pss_cons (ps_set (i := 1) scAscending.nd rfl (.inl rfl) (pe_lst pa_nil))
 (pss_cons (ps_for PassesOwn.never rfl (pi_list (pe_callB (cr_sortD hu64) (by rfl) T.sorted (by decide +kernel) (pa_cons (pv 0) pa_nil))) (pg_name (i := 2) scAscending.nd rfl (.inl rfl))
 (pss_one (ps_if (PW.pt (pw_or (pt_not (pt_truth (pv 1) (fun _ => rfl))) (pw_or1 (pt_cmpR (op_neD hu64) (pe_ix ix_list (pv 1) (pe_un un_neg pe_int) (fun _ _ => rfl)) (pv 2) (nomark _)))))
 (pss_one (ps_expr (pe_bm PySem.F.plainAttrs_list PySem.F.slot_list_append PySem.F.type_list_append mt_append (pv 1) (pa_cons (pv 2) pa_nil))))
 pss_nil)))
 (pss_one (ps_ret (pe_callTy call_tuple_of (by rfl) T.tuple (by decide +kernel) (pa_cons (pv 1) pa_nil)))))), ?_⟩
  refine ⟨Nat.zero_le _, fun f nf => ?_⟩
  have s1 := same_up (o := .lst []) nf
  refine ⟨.ref p, rfl, p, xs, cs.map C.d, .type "str", rfl, s1.seq hp, Dts.stay (Tl.Same.stay s1) _ _ hx, cmps_con cs, by decide, fun d hd => ?_, fun ys p2 hy np2 => ?_⟩
  · obtain ⟨c, m, rfl⟩ := List.mem_map.mp hd
    exact Nat.le_trans (con_depth c) (fits c m).2
  rw [srtD_con] at hy
  have pm : (cs.mergeSort cle).Perm cs := List.mergeSort_perm _ _
  have pw : (cs.mergeSort cle).Pairwise fun a b => cle a b = true := PySem.W.sort_pairwise cle_total cs
  generalize cs.mergeSort cle = ds at hy pm pw
  have ld : ds.length ≤ 500 := by rw [pm.length_eq]; exact few
  have ly : ys.length = ds.length := by rw [dts_len hy, List.length_map]
  have s2 := same_up (o := .lst ys) np2
  have hy2 := Dts.stay (Tl.Same.stay s2) _ _ hy
  have gf : upd (upd H f (.lst [])) p2 (.lst ys) f = some (.lst []) := s2 _ _ upd_same
  have pf : p2 ≠ f := fun z => by subst z; rw [upd_same] at np2; cases np2
  have sA := s1.trans s2
  have gp : upd (upd H f (.lst [])) p2 (.lst ys) p2 = some (.lst ys) := upd_same
  generalize upd (upd H f (.lst [])) p2 (.lst ys) = G at hy2 gf sA gp ⊢
  refine ⟨p2, rfl, ⟨_, lst_of gp⟩, for_list (K := K) (a := p2) (xs := ys) (fun i σ X => ∃ (zs : List V) (fs : List C) (t : Option V), σ = [some (.ref p), some (.ref f), t] ∧ L2.Same H X ∧ X p2 = some (.lst ys) ∧ X f = some (.lst zs) ∧ Dts K X ys (ds.map C.d) ∧ Dts K X zs (fs.map C.d) ∧ Strict fs ∧ (∀ c, c ∈ fs ↔ c ∈ ds.take i) ∧ fs.length ≤ i)
    ⟨[], [], none, rfl, sA, gp, gf, hy2, .nil, List.Pairwise.nil, fun c => (by simp), Nat.le_refl _⟩ (fun i σ X _ z => ?_) (fun i x σ X hx z => ?_) (fun σ X z => ?_)⟩
  · obtain ⟨_, _, _, _, _, z, _⟩ := z
    exact lst_of z
  · obtain ⟨zs, fs, t, rfl, sX, gX, fX, dy, dz, st, mem, lf⟩ := z
    have li : i < ys.length := (List.getElem?_eq_some_iff.mp hx).1
    obtain ⟨d, hd, hxd⟩ := dts_at dy hx
    obtain ⟨c, hc, rfl⟩ : ∃ c, ds[i]? = some c ∧ d = c.d := by
      rw [List.getElem?_map] at hd
      obtain ⟨c, h, e⟩ := Option.map_eq_some_iff.mp hd
      exact ⟨c, h, e.symm⟩
    have fc : Fit c := fits c (pm.mem_iff.mp (List.mem_of_getElem? hc))
    have htk : ds.take (i + 1) = ds.take i ++ [c] := by rw [List.take_add_one, hc]; rfl
    -- putting it behind
    have lz : zs.length = fs.length := by rw [dts_len dz, List.length_map]
    have bnd : zs.length < sizeLine := Nat.lt_of_le_of_lt (show zs.length ≤ 500 by omega) (by decide)
    have put : (∀ a ∈ fs, cle a c = true ∧ a ≠ c) → ∃ (zs' : List V) (fs : List C) (t : Option V), [some (V.ref p), some (V.ref f), some x] = [some (V.ref p), some (V.ref f), t] ∧ L2.Same H (upd X f (.lst (zs ++ [x]))) ∧ upd X f (.lst (zs ++ [x])) p2 = some (.lst ys) ∧ upd X f (.lst (zs ++ [x])) f = some (.lst zs') ∧ Dts K (upd X f (.lst (zs ++ [x]))) ys (ds.map C.d) ∧ Dts K (upd X f (.lst (zs ++ [x]))) zs' (fs.map C.d) ∧ Strict fs ∧ (∀ c, c ∈ fs ↔ c ∈ ds.take (i + 1)) ∧ fs.length ≤ i + 1 := fun all => by
      have stm : Stay X (upd X f (.lst (zs ++ [x]))) := stay_mut (by rw [fX]; trivial)
      refine ⟨zs ++ [x], fs ++ [c], _, rfl, same_mut sX nf, (upd_ne pf).trans gX, upd_same, Dts.stay stm _ _ dy, ?_, ?_, fun a => ?_, by rw [List.length_append, List.length_singleton]; omega⟩
      · rw [List.map_append]
        exact dts_snoc (Dts.stay stm _ _ dz) (hxd.st stm)
      · unfold Strict
        rw [List.pairwise_append]
        refine ⟨st, List.pairwise_singleton _ _, fun a ha b hb => ?_⟩
        rw [List.mem_singleton.mp hb]
        exact all a ha
      · rw [htk, List.mem_append, List.mem_append, mem a]
    refine ⟨.ref f, rfl, !zs.isEmpty, .inl ⟨zs, lst_of fX, rfl⟩, ?_⟩
    rcases last_or fs with e | ⟨gs, z, e⟩
    · subst e
      cases dz
      exact iteT (iteT ⟨.ref f, rfl, .inl ⟨rfl, _, lst_of fX⟩, x, rfl, f, _, x, rfl, rfl, fX, bnd, put fun a ha => nomatch ha⟩)
    · subst e
      obtain ⟨zs', z', ez, dz1, dz2⟩ : ∃ zs' z', zs = zs' ++ [z'] ∧ Dts K X zs' (gs.map C.d) ∧ Dt K X z' z.d := by
        rw [List.map_append] at dz
        exact dts_last dz
      subst ez
      rw [show (!(zs' ++ [z']).isEmpty) = true by simp]
      refine iteF ⟨.ref f, rfl, 1, rfl, f, _, -1, z', rfl, rfl, lst_of fX, atI_last _ _, x, rfl, z.d, c.d, dz2.p, hxd.p, con_shaped (fits z ?_).1 (fits z ?_).2, con_shaped fc.1 fc.2, _, rfl, ?_⟩
      · exact pm.mem_iff.mp (List.mem_of_mem_take ((mem z).mp (by simp)))
      · exact pm.mem_iff.mp (List.mem_of_mem_take ((mem z).mp (by simp)))
      rw [eqv_con]
      have le_all : ∀ a ∈ gs ++ [z], cle a c = true := fun a ha => by
        obtain ⟨k, hk, e⟩ := List.getElem_of_mem ((mem a).mp ha)
        have hk2 : k < i := by
          rw [List.length_take] at hk
          omega
        have hk3 : ds[k]? = some a := by
          rw [← e, List.getElem_take]
          exact List.getElem?_eq_getElem (by rw [List.length_take] at hk; omega)
        exact pw_lt (R := fun a b => cle a b = true) pw hk3 hc hk2
      by_cases hzc : z = c
      · rw [decide_eq_true hzc]
        refine iteF ⟨zs' ++ [z'], gs ++ [z], _, rfl, sX, gX, fX, dy, dz, st, fun a => ?_, by omega⟩
        rw [htk, List.mem_append (s := ds.take i), ← mem a]
        constructor
        · exact fun m => .inl m
        · rintro (m | m)
          · exact m
          · rw [List.mem_singleton.mp m, ← hzc]
            simp
      · rw [decide_eq_false hzc]
        refine iteT ⟨.ref f, rfl, .inl ⟨rfl, _, lst_of fX⟩, x, rfl, f, _, x, rfl, rfl, fX, bnd, put fun a ha => ⟨le_all a ha, fun e => ?_⟩⟩
        rcases List.mem_append.mp ha with m | m
        · have h1 : cle a z = true ∧ a ≠ z := by
            have := List.pairwise_append.mp st
            exact this.2.2 a m z List.mem_cons_self
          rw [e] at h1
          exact h1.2 (cle_anti h1.1 (le_all z (by simp)))
        · exact hzc ((List.mem_singleton.mp m).symm.trans e)
  · obtain ⟨zs, fs, t, rfl, sX, gX, fX, dy, dz, st, mem, lf⟩ := z
    rw [ly, List.take_of_length_le (Nat.le_refl _)] at mem
    refine ⟨.ref f, rfl, f, zs, rfl, .inl ⟨lst_of fX, fun t' nt => ?_⟩⟩
    have s3 := same_up (o := .tup zs) nt
    exact q t' zs fs _ (sX.trans s3) (sX.free nt) (tupOf upd_same) (Dts.stay (Tl.Same.stay s3) _ _ dz) st fun c => by rw [mem c, pm.mem_iff]
where
  dts_last {K : PySem.W.Frag} {X : Hp} {z : PyData} : ∀ {gs : List PyData} {zs : List V}, Dts K X zs (gs ++ [z]) → ∃ zs' z', zs = zs' ++ [z'] ∧ Dts K X zs' gs ∧ Dt K X z' z
    | [], _, .cons h .nil => ⟨[], _, rfl, .nil, h⟩
    | _ :: gs, _, .cons h t => by
      obtain ⟨zs', z', e, h1, h2⟩ := dts_last (gs := gs) t
      exact ⟨_ :: zs', z', by rw [e]; rfl, .cons h h1, h2⟩
end
end K21
set_option Elab.async false
set_option linter.all false
set_option autoImplicit false
set_option maxRecDepth 100000
set_option maxHeartbeats 8000000
namespace K21
open PySem PySem.Spec PyProof.Rows L2 Tl
open C8 (Cal pe_c)
/-! ### the program: the weaker ones -/
theorem wk_ok : ∀ c : C, COk c → ∀ x ∈ wk c, COk x ∧ dep x ≤ dep c ∧ csz x ≤ csz c ∧ cst x + 1 ≤ cst c
  | .all, _, x, m => nomatch m
  | .non, _, x, m => by
    rw [List.mem_singleton.mp m]
    exact ⟨trivial, Nat.le_refl _, Nat.le_refl _, Nat.le_refl _⟩
  | .word _, _, x, m => by
    rw [List.mem_singleton.mp m]
    exact ⟨trivial, Nat.le_refl _, Nat.le_refl _, Nat.le_refl _⟩
  | .some r c, h, x, m => by
    rcases List.mem_append.mp m with m | m
    · rw [List.mem_singleton.mp m]
      refine ⟨trivial, Nat.succ_le_succ (Nat.zero_le _), ?_, ?_⟩
      · show 1 ≤ 1 + csz c
        omega
      · show 0 + 1 ≤ 1 + cst c
        omega
    · obtain ⟨y, my, rfl⟩ := List.mem_map.mp m
      obtain ⟨h1, h2, h3, h4⟩ := wk_ok c h.2 y my
      refine ⟨⟨h.1, h1⟩, Nat.succ_le_succ h2, ?_, ?_⟩
      · show 1 + csz y ≤ 1 + csz c
        omega
      · show 1 + cst y + 1 ≤ 1 + cst c
        omega
  | .and a b, h, x, m => by
    have e1 : dep (.and a b) = Nat.max (dep a) (dep b) + 1 := rfl
    have m1 : dep a ≤ Nat.max (dep a) (dep b) := Nat.le_max_left _ _
    have m2 : dep b ≤ Nat.max (dep a) (dep b) := Nat.le_max_right _ _
    rcases List.mem_append.mp m with m | m
    · rcases List.mem_append.mp m with m | m
      · rcases List.mem_cons.mp m with rfl | m
        · refine ⟨h.1, by omega, ?_, ?_⟩
          · show csz x ≤ csz x + csz b
            omega
          · show cst x + 1 ≤ 1 + cst x + cst b
            omega
        · rw [List.mem_singleton.mp m]
          refine ⟨h.2, by omega, ?_, ?_⟩
          · show csz b ≤ csz a + csz b
            omega
          · show cst b + 1 ≤ 1 + cst a + cst b
            omega
      · obtain ⟨y, my, rfl⟩ := List.mem_map.mp m
        obtain ⟨h1, h2, h3, h4⟩ := wk_ok a h.1 y my
        refine ⟨⟨h1, h.2⟩, Nat.succ_le_succ (Nat.max_le.mpr ⟨Nat.le_trans h2 m1, m2⟩), ?_, ?_⟩
        · show csz y + csz b ≤ csz a + csz b
          omega
        · show 1 + cst y + cst b + 1 ≤ 1 + cst a + cst b
          omega
    · obtain ⟨y, my, rfl⟩ := List.mem_map.mp m
      obtain ⟨h1, h2, h3, h4⟩ := wk_ok b h.2 y my
      refine ⟨⟨h.1, h1⟩, Nat.succ_le_succ (Nat.max_le.mpr ⟨m1, Nat.le_trans h2 m2⟩), ?_, ?_⟩
      · show csz a + csz y ≤ csz a + csz b
        omega
      · show 1 + cst a + cst y + 1 ≤ 1 + cst a + cst b
        omega
section
variable {P : Program} {w : World} {K : PySem.W.Frag} {mg : Str → Option Value} {base : Heap}
def Stk2 (K : PySem.W.Frag) (l : Addr) (X : Hp) (v : V) (c : C) : Prop := ∃ (a : Addr) (as : List Addr), v = .ref a ∧ a ≠ l ∧ X a = some (.lst (as.map V.ref)) ∧ CL K X as (wk c)
theorem stk2_same {l : Addr} {X X' : Hp} {v : V} {c : C} (s : L2.Same X X') (h : Stk2 K l X v c) : Stk2 K l X' v c := by
  obtain ⟨a, as, e, n, g, h⟩ := h
  exact ⟨a, as, e, n, s _ _ g, CL.st h (Tl.Same.stay s)⟩
theorem stk2_mut {l : Addr} {X : Hp} {v : V} {c : C} {o : HO} (m : Mut (X l)) (h : Stk2 K l X v c) : Stk2 K l (upd X l o) v c := by
  obtain ⟨a, as, e, n, g, h⟩ := h
  exact ⟨a, as, e, n, (upd_ne n).trans g, CL.st h (stay_mut m)⟩
structure M2 (K : PySem.W.Frag) (G : Hp) (l p : Addr) (xs : List V) (ps : List C) (vs : List V) (cs : List C) (X : Hp) : Prop where
  g : L2.Same G X
  nl : G l = none
  pl : p ≠ l
  gp : X p = some (.lst xs)
  cn : Paired (Con K X) xs ps
  gl : X l = some (.lst vs)
  st : Paired (Stk2 K l X) vs cs
theorem M2.same {G : Hp} {l p : Addr} {xs : List V} {ps : List C} {vs : List V} {cs : List C} {X X' : Hp} (m : M2 K G l p xs ps vs cs X) (s : L2.Same X X') : M2 K G l p xs ps vs cs X' :=
  ⟨m.g.trans s, m.nl, m.pl, s _ _ m.gp, Paired.mapP m.cn fun _ _ z => z.st (Tl.Same.stay s), s _ _ m.gl, Paired.mapP m.st fun _ _ z => stk2_same s z⟩
theorem M2.set {G : Hp} {l p : Addr} {xs : List V} {ps : List C} {vs vs' : List V} {cs cs' : List C} {X : Hp} (m : M2 K G l p xs ps vs cs X) (h : Paired (Stk2 K l X) vs' cs') : M2 K G l p xs ps vs' cs' (upd X l (.lst vs')) :=
  ⟨same_mut m.g m.nl, m.nl, m.pl, (upd_ne m.pl).trans m.gp, Paired.mapP m.cn fun _ _ z => z.st (stay_mut (by rw [m.gl]; trivial)), upd_same, Paired.mapP h fun _ _ z => stk2_mut (by rw [m.gl]; trivial) z⟩
def spWeaker (K : PySem.W.Frag) : Sp := fun vs H Q _ => ∃ (u : V) (c : C), vs = [u] ∧ Arg K H u c ∧ nodes c ≤ 100 ∧ GivesSet K H (wk c) Q
abbrev nWk : List Str := ["concept", "found", "item", "second", "first", "steps", "step", "inner"]
theorem fWeaker (T : Txt K mg) : CalF P w K mg base 6 "weaker" sWeaker ["concept"] (spWeaker K) := by
  refine calF_of T.weaker scWeaker (fun vs H Q E h => ?_) (fun f cdv A outer s H vs Q E hr h => ?_)
  · obtain ⟨u, c, rfl, _⟩ := h
    rfl
  obtain ⟨u, c0, rfl, arg, few, q⟩ := h
  refine ⟨_, (pss_cons (ps_expr (pe_c (cCheckConcept T) hr (by decide) rfl (pa_cons (pv 0) pa_nil)))
 (pss_cons (ps_set (i := 1) scWeaker.nd rfl (.inl rfl) (pe_lst pa_nil))
 (pss_cons (ps_for PassesOwn.never rfl (pi_list (pe_c (cBottomUp T) hr (by decide) rfl (pa_cons (pv 0) pa_nil))) (pg_name (i := 2) scWeaker.nd rfl (.inr rfl))
 (C8.pss_cut (ps_if (pt_cmpR op_eq (pe_ix ix_tup (pv 2) pe_int (fun _ _ => rfl)) pe_str (nomark _))
 (pss_cons (ps_set (i := 3) scWeaker.nd rfl (.inl rfl) (pe_bm0 PySem.F.plainAttrs_list PySem.F.slot_list_pop PySem.F.type_list_pop mt_pop (pv 1)))
 (pss_cons (ps_set (i := 4) scWeaker.nd rfl (.inl rfl) (pe_bm0 PySem.F.plainAttrs_list PySem.F.slot_list_pop PySem.F.type_list_pop mt_pop (pv 1)))
 (pss_cons (ps_set (i := 5) scWeaker.nd rfl (.inl rfl) (pe_lst (pa_cons (pe_ix ix_tup (pv 2) pe_int (fun _ _ => rfl)) (pa_cons (pe_ix ix_tup (pv 2) pe_int (fun _ _ => rfl)) pa_nil))))
 (pss_cons (ps_expr (pe_bm PySem.F.plainAttrs_list PySem.F.slot_list_extend PySem.F.type_list_extend mt_extend (pv 5) (pa_cons (pe_lc (own := [("step", 6)]) (by rfl) scWeaker.nd (pi_list (pv 4)) (blkOk_by (own := [("step", 6)]) (N := ["concept", "found", "item", "second", "first", "steps", "step", "inner"]) (sc := defScope sWeaker) (by decide +kernel)) (fun _ _ _ _ _ => (pg_name (i := 6) scWeaker.nd rfl (.inl rfl))) (fun _ _ _ _ _ => pts_nil) (fun _ _ _ _ _ => (pe_tup (pa_cons pe_str (pa_cons (pv 6) (pa_cons (pe_ix (ix_tupK (K := K) rfl) (pv 2) pe_int (fun _ _ => rfl)) pa_nil)))))) pa_nil)))
 (pss_one (ps_expr (pe_bm PySem.F.plainAttrs_list PySem.F.slot_list_extend PySem.F.type_list_extend mt_extend (pv 5) (pa_cons (pe_lc (own := [("step", 6)]) (by rfl) scWeaker.nd (pi_list (pv 3)) (blkOk_by (own := [("step", 6)]) (N := ["concept", "found", "item", "second", "first", "steps", "step", "inner"]) (sc := defScope sWeaker) (by decide +kernel)) (fun _ _ _ _ _ => (pg_name (i := 6) scWeaker.nd rfl (.inl rfl))) (fun _ _ _ _ _ => pts_nil) (fun _ _ _ _ _ => (pe_tup (pa_cons pe_str (pa_cons (pe_ix (ix_tupK (K := K) rfl) (pv 2) pe_int (fun _ _ => rfl)) (pa_cons (pv 6) pa_nil)))))) pa_nil))))))))
 (pss_one (ps_if (pt_cmpR op_eq (pe_ix ix_tup (pv 2) pe_int (fun _ _ => rfl)) pe_str (nomark _))
 (pss_cons (ps_set (i := 7) scWeaker.nd rfl (.inl rfl) (pe_bm0 PySem.F.plainAttrs_list PySem.F.slot_list_pop PySem.F.type_list_pop mt_pop (pv 1)))
 (pss_cons (ps_set (i := 5) scWeaker.nd rfl (.inl rfl) (pe_lst (pa_cons (pe_tup (pa_cons pe_str pa_nil)) pa_nil)))
 (pss_one (ps_expr (pe_bm PySem.F.plainAttrs_list PySem.F.slot_list_extend PySem.F.type_list_extend mt_extend (pv 5) (pa_cons (pe_lc (own := [("step", 6)]) (by rfl) scWeaker.nd (pi_list (pv 7)) (blkOk_by (own := [("step", 6)]) (N := ["concept", "found", "item", "second", "first", "steps", "step", "inner"]) (sc := defScope sWeaker) (by decide +kernel)) (fun _ _ _ _ _ => (pg_name (i := 6) scWeaker.nd rfl (.inl rfl))) (fun _ _ _ _ _ => pts_nil) (fun _ _ _ _ _ => (pe_tup (pa_cons pe_str (pa_cons (pe_ix (ix_tupK (K := K) rfl) (pv 2) pe_int (fun _ _ => rfl)) (pa_cons (pv 6) pa_nil)))))) pa_nil))))))
 (pss_one (ps_set (i := 5) scWeaker.nd rfl (.inl rfl) (pe_ifExp (pt_cmpR op_eq (pe_ix ix_tup (pv 2) pe_int (fun _ _ => rfl)) pe_str (nomark _)) (pe_lst pa_nil) (pe_lst (pa_cons (pe_tup (pa_cons pe_str pa_nil)) pa_nil))))))))
 (pss_one (ps_expr (pe_bm PySem.F.plainAttrs_list PySem.F.slot_list_append PySem.F.type_list_append mt_append (pv 1) (pa_cons (pv 5) pa_nil))))))
 (pss_one (ps_ret (pe_c (cAscending T) hr (by decide) rfl (pa_cons (pe_bm0 PySem.F.plainAttrs_list PySem.F.slot_list_pop PySem.F.type_list_pop mt_pop (pv 1)) pa_nil))))))), ?_⟩
  have hc0 := arg.con
  refine ⟨u, rfl, u, c0, rfl, arg.con, arg.fit, arg.few, fun G0 s0 => ⟨Nat.zero_le _, fun l nl => ?_⟩⟩
  have s1 := same_up (o := .lst []) nl
  refine ⟨u, rfl, u, c0, rfl, hc0.st (Tl.Same.stay (s0.trans s1)), arg.fit, arg.few, fun p xs X0 s4 np gp hp => ⟨p, rfl, ⟨_, lst_of gp⟩, ?_⟩⟩
  have pl : p ≠ l := fun z => by subst z; rw [upd_same] at np; cases np
  have len : xs.length ≤ 100 := by rw [hp.length, post_len]; exact few
  refine for_list (K := K) (a := p) (xs := xs) (fun i σ X => ∃ (vs : List V) (cs : List C) (t2 t3 t4 t5 t6 t7 : Option V), σ = [some u, some (.ref l), t2, t3, t4, t5, t6, t7] ∧
      M2 K G0 l p xs (post c0) vs cs X ∧ Run cs ((post c0).drop i) [c0] ∧ vs.length ≤ i)
    ⟨[], [], none, none, none, none, none, none, rfl, ⟨s1.trans s4, nl, pl, gp, hp, s4 _ _ upd_same, .nil⟩, by
      have := run_post c0 [] [] [c0] rfl
      rw [List.append_nil] at this
      exact this, Nat.le_refl _⟩ (fun i σ X _ z => ?_) (fun i x σ X hx z => ?_) (fun σ X z => ?_)
  · obtain ⟨vs, cs, t2, t3, t4, t5, t6, t7, rfl, mi, _, _⟩ := z
    exact lst_of mi.gp
  · obtain ⟨vs, cs, t2, t3, t4, t5, t6, t7, rfl, mi, run, lv⟩ := z
    obtain ⟨c, hci, hcx⟩ := getP mi.cn hx
    rw [drop_at hci] at run
    have li : i < xs.length := (List.getElem?_eq_some_iff.mp hx).1
    have fewc : nodes c ≤ 100 := Nat.le_trans (post_nodes c0 c (List.mem_of_getElem? hci)) few
    obtain ⟨ca, cxs, rfl, hca⟩ := con_ref hcx
    refine ⟨fun σ' X' => ∃ (vs' : List V) (cs' : List C) (t3 t4 t6 t7 : Option V) (st : Addr) (as : List Addr), σ' = [some u, some (.ref l), some (.ref ca), t3, t4, some (.ref st), t6, t7] ∧ M2 K G0 l p xs (post c0) vs' cs' X' ∧ st ≠ l ∧
        X' st = some (.lst (as.map V.ref)) ∧ CL K X' as (wk c) ∧ vs'.length ≤ i ∧ Run (cs' ++ [c]) ((post c0).drop (i + 1)) [c0], ?_, ?_⟩
    · cases c with
      | all =>
        obtain ⟨b, e, hb⟩ := con_all hcx
        cases e
        refine ⟨.ref ca, rfl, ca, _, 0, _, rfl, rfl, hb, atI_nat (j := 0) rfl, rfl, _, rfl, ?_⟩
        rw [sne (show ¬ ("all" : Str) = "and" by decide +kernel)]
        refine iteF ⟨.ref ca, rfl, ca, _, 0, _, rfl, rfl, hb, atI_nat (j := 0) rfl, rfl, _, rfl, ?_⟩
        rw [sne (show ¬ ("all" : Str) = "some" by decide +kernel)]
        refine iteF ⟨.ref ca, rfl, ca, _, 0, _, rfl, rfl, hb, atI_nat (j := 0) rfl, rfl, _, rfl, ?_⟩
        rw [seq]
        refine iteT ⟨Nat.zero_le _, fun st nst => ?_⟩
        have sS := same_up (o := .lst []) nst
        exact ⟨vs, cs, _, _, _, _, st, [], rfl, mi.same sS, fun z => (by rw [z, mi.gl] at nst; cases nst), upd_same, .nil, lv, run⟩
      | non =>
        obtain ⟨b, e, hb⟩ := con_non hcx
        cases e
        refine ⟨.ref ca, rfl, ca, _, 0, _, rfl, rfl, hb, atI_nat (j := 0) rfl, rfl, _, rfl, ?_⟩
        rw [sne (show ¬ ("none" : Str) = "and" by decide +kernel)]
        refine iteF ⟨.ref ca, rfl, ca, _, 0, _, rfl, rfl, hb, atI_nat (j := 0) rfl, rfl, _, rfl, ?_⟩
        rw [sne (show ¬ ("none" : Str) = "some" by decide +kernel)]
        refine iteF ⟨.ref ca, rfl, ca, _, 0, _, rfl, rfl, hb, atI_nat (j := 0) rfl, rfl, _, rfl, ?_⟩
        rw [sne (show ¬ ("none" : Str) = "all" by decide +kernel)]
        refine iteF ⟨by show 1 ≤ sizeLine; decide, fun e ne => ⟨by show 1 ≤ sizeLine; decide, fun st nst => ?_⟩⟩
        have sE := same_up (o := .tup [.str "all"]) ne
        have sS := same_up (o := .lst [.ref e]) nst
        exact ⟨vs, cs, _, _, _, _, st, [e], rfl, mi.same (sE.trans sS), fun z => (by rw [z, sE _ _ mi.gl] at nst; cases nst), upd_same, .cons (mk_all (tupOf (sS _ _ upd_same))) .nil, lv, run⟩
      | word y =>
        obtain ⟨b, e, hb⟩ := con_word hcx
        cases e
        refine ⟨.ref ca, rfl, ca, _, 0, _, rfl, rfl, hb, atI_nat (j := 0) rfl, rfl, _, rfl, ?_⟩
        rw [sne (show ¬ ("word" : Str) = "and" by decide +kernel)]
        refine iteF ⟨.ref ca, rfl, ca, _, 0, _, rfl, rfl, hb, atI_nat (j := 0) rfl, rfl, _, rfl, ?_⟩
        rw [sne (show ¬ ("word" : Str) = "some" by decide +kernel)]
        refine iteF ⟨.ref ca, rfl, ca, _, 0, _, rfl, rfl, hb, atI_nat (j := 0) rfl, rfl, _, rfl, ?_⟩
        rw [sne (show ¬ ("word" : Str) = "all" by decide +kernel)]
        refine iteF ⟨by show 1 ≤ sizeLine; decide, fun e ne => ⟨by show 1 ≤ sizeLine; decide, fun st nst => ?_⟩⟩
        have sE := same_up (o := .tup [.str "all"]) ne
        have sS := same_up (o := .lst [.ref e]) nst
        exact ⟨vs, cs, _, _, _, _, st, [e], rfl, mi.same (sE.trans sS), fun z => (by rw [z, sE _ _ mi.gl] at nst; cases nst), upd_same, .cons (mk_all (tupOf (sS _ _ upd_same))) .nil, lv, run⟩
      | and c1 c2 =>
        obtain ⟨b, u1, u2, e, hb, h1, h2⟩ := con_and hcx
        cases e
        obtain ⟨b1, _, rfl, _⟩ := con_ref h1
        obtain ⟨b2, _, rfl, _⟩ := con_ref h2
        have fewc : nodes c1 + nodes c2 + 1 ≤ 100 := fewc
        refine ⟨.ref ca, rfl, ca, _, 0, _, rfl, rfl, hb, atI_nat (j := 0) rfl, rfl, _, rfl, ?_⟩
        rw [seq]
        obtain ⟨cs', rfl, run⟩ := run
        obtain ⟨vs1, y2, rfl, st1, hy2⟩ := lastP2 mi.st
        refine iteT ⟨.ref l, rfl, .inl ⟨rfl, _, lst_of mi.gl⟩, l, _, y2, rfl, rfl, mi.gl, by simp, ?_⟩
        rw [List.dropLast_concat]
        have mu0 : Mut (X l) := by rw [mi.gl]; trivial
        have m1 := mi.set st1
        have hy2' := stk2_mut (o := .lst vs1) mu0 hy2
        have ha1 := (stay_mut (o := .lst vs1) mu0).tup hb
        have h11 := h1.st (stay_mut (o := .lst vs1) mu0)
        have h21 := h2.st (stay_mut (o := .lst vs1) mu0)
        generalize upd X l (HO.lst vs1) = X1 at m1 hy2' ha1 h11 h21 ⊢
        obtain ⟨vs2, y1, rfl, st2, hy1⟩ := lastP2 m1.st
        refine ⟨.ref l, rfl, .inl ⟨rfl, _, lst_of m1.gl⟩, l, _, y1, rfl, rfl, m1.gl, by simp, ?_⟩
        rw [List.dropLast_concat]
        have mu1 : Mut (X1 l) := by rw [m1.gl]; trivial
        have m2 := m1.set st2
        obtain ⟨q2, as2, rfl, nq2, gq2, has2⟩ := stk2_mut (o := .lst vs2) mu1 hy2'
        obtain ⟨q1, as1, rfl, nq1, gq1, has1⟩ := stk2_mut (o := .lst vs2) mu1 hy1
        have ha := (stay_mut (o := .lst vs2) mu1).tup ha1
        have h1 := h11.st (stay_mut (o := .lst vs2) mu1)
        have h2 := h21.st (stay_mut (o := .lst vs2) mu1)
        generalize upd X1 l (HO.lst vs2) = X2 at m2 gq2 has2 gq1 has1 ha h1 h2 ⊢
        rw [List.length_append, List.length_append] at lv
        have lv' : vs2.length + 1 + 1 ≤ i := lv
        -- steps
        refine ⟨.ref ca, rfl, ca, _, 1, .ref b1, rfl, rfl, ha, atI_nat (j := 1) rfl, .ref ca, rfl, ca, _, 2, .ref b2, rfl, rfl, ha, atI_nat (j := 2) rfl, by show 2 ≤ sizeLine; decide, fun st nst => ?_⟩
        have sG := same_up (o := .lst [.ref b1, .ref b2]) nst
        have stl : st ≠ l := fun z => by rw [z, m2.gl] at nst; cases nst
        have gst : upd X2 st (.lst [.ref b1, .ref b2]) st = some (.lst ([b1, b2].map V.ref)) := upd_same
        have gq1G := sG _ _ gq1
        have gq2G := sG _ _ gq2
        have has1G := CL.st has1 (Tl.Same.stay sG)
        generalize upd X2 st (.lst [.ref b1, .ref b2]) = G at sG gst gq1G gq2G has1G ⊢
        refine ⟨.ref st, rfl, .inl ⟨rfl, _, lst_of gst⟩, ?_⟩
        refine ⟨.ref q1, rfl, q1, rfl, ⟨_, lst_of gq1G⟩, fun D1 nD1 => ?_⟩
        refine lc_list (K := K) (a := q1) (xs := as1.map V.ref) (fun i X => L2.Same G X ∧ ∃ bs : List Addr, X D1 = some (.lst (bs.map V.ref)) ∧ CL K X bs (((wk c1).take i).map fun c => .and c c2))
          ⟨same_up nD1, [], upd_same, .nil⟩ (fun i X _ z => z.1.seq (lst_of gq1G)) (fun i x X hx z => ?_) (fun X z => ?_)
        · obtain ⟨sX, bs, gX, hb⟩ := z
          obtain ⟨a0, ha0, rfl⟩ : ∃ m, as1[i]? = some m ∧ x = V.ref m := by
            rw [List.getElem?_map] at hx
            obtain ⟨m, h, e⟩ := Option.map_eq_some_iff.mp hx
            exact ⟨m, h, e.symm⟩
          obtain ⟨c0', hc0, hcon⟩ := getP has1G ha0
          have hcon : Con K X (.ref a0) c0' := Dt.st hcon (Tl.Same.stay sX)
          have lw := wk_nodes c1
          have lb := hb.length
          rw [List.length_map, List.length_take] at lb
          have htk : (wk c1).take (i + 1) = (wk c1).take i ++ [c0'] := by rw [List.take_add_one, hc0]; rfl
          have haX := (Tl.Same.stay (sG.trans sX)).tup ha
          refine ⟨rfl, .ref a0, rfl, .ref ca, rfl, ca, _, 2, .ref b2, rfl, rfl, haX, atI_nat (j := 2) rfl, by show 3 ≤ sizeLine; decide, fun t nt => ?_⟩
          have sT := same_up (o := .tup [.str "and", .ref a0, .ref b2]) nt
          have hT : Con K (upd X t (.tup [.str "and", .ref a0, .ref b2])) (.ref t) (.and c0' c2) := mk_and (tupOf upd_same) (Dt.st hcon (stay_new nt)) (h2.st (Tl.Same.stay ((sG.trans sX).trans sT)))
          generalize upd X t (.tup [.str "and", .ref a0, .ref b2]) = XT at sT hT ⊢
          have gX2 := sT _ _ gX
          have stm : Stay XT (upd XT D1 (.lst (bs.map V.ref ++ [.ref t]))) := stay_mut (by rw [gX2]; trivial)
          refine ⟨_, gX2, ?_, same_mut (sX.trans sT) nD1, bs ++ [t], by rw [upd_same, List.map_append]; rfl, ?_⟩
          · rw [List.length_map]
            exact Nat.lt_of_le_of_lt (show bs.length ≤ 1000 by omega) (by decide)
          · rw [htk, List.map_append]
            refine snoc (CL.st hb ((Tl.Same.stay sT).trans stm)) ?_
            exact Dt.st hT stm
        · obtain ⟨sX, bs, gX, hb⟩ := z
          rw [List.length_map, has1G.length, List.take_of_length_le (Nat.le_refl _)] at hb
          have lb := hb.length
          rw [List.length_map] at lb
          have lw := wk_nodes c1
          have gfX := sX _ _ gst
          have nst' : X2 st = none := nst
          refine ⟨st, D1, _, _, rfl, rfl, gfX, gX, by rw [List.length_map, List.length_map]; exact Nat.le_trans (show 2 + bs.length ≤ 1000 by omega) (by decide), ?_⟩
          have stm : Stay X (upd X st (.lst ([b1, b2].map V.ref ++ bs.map V.ref))) := stay_mut (by rw [gfX]; trivial)
          have gf2 : upd X st (.lst ([b1, b2].map V.ref ++ bs.map V.ref)) st = some (.lst (([b1, b2] ++ bs).map V.ref)) := by rw [upd_same, List.map_append]
          have sG3 : L2.Same X2 (upd X st (.lst ([b1, b2].map V.ref ++ bs.map V.ref))) := same_mut (sG.trans sX) nst
          have hb := CL.st hb stm
          have gq2H := sG3 _ _ gq2
          generalize upd X st (.lst ([b1, b2].map V.ref ++ bs.map V.ref)) = G3 at gf2 sG3 hb gq2H ⊢
          have cs1 : CL K G3 ([b1, b2] ++ bs) ([c1, c2] ++ (wk c1).map fun n => .and n c2) := .cons (h1.st (Tl.Same.stay sG3)) (.cons (h2.st (Tl.Same.stay sG3)) hb)
          have has2G := CL.st has2 (Tl.Same.stay sG3)
          clear gX sX stm gfX hb
          generalize hbs : [b1, b2] ++ bs = ds at gf2 cs1
          have ld : ds.length ≤ 2 + 200 := by rw [← hbs, List.length_append]; simp only [List.length_cons, List.length_nil]; omega
          refine ⟨.ref st, rfl, .inl ⟨rfl, _, lst_of gf2⟩, ?_⟩
          refine ⟨.ref q2, rfl, q2, rfl, ⟨_, lst_of gq2H⟩, fun D2 nD2 => ?_⟩
          refine lc_list (K := K) (a := q2) (xs := as2.map V.ref) (fun i X => L2.Same G3 X ∧ ∃ bs : List Addr, X D2 = some (.lst (bs.map V.ref)) ∧ CL K X bs (((wk c2).take i).map fun c => .and c1 c))
            ⟨same_up nD2, [], upd_same, .nil⟩ (fun i X _ z => z.1.seq (lst_of gq2H)) (fun i x X hx z => ?_) (fun X z => ?_)
          · obtain ⟨sX, bs, gX, hb⟩ := z
            obtain ⟨a0, ha0, rfl⟩ : ∃ m, as2[i]? = some m ∧ x = V.ref m := by
              rw [List.getElem?_map] at hx
              obtain ⟨m, h, e⟩ := Option.map_eq_some_iff.mp hx
              exact ⟨m, h, e.symm⟩
            obtain ⟨c0', hc0, hcon⟩ := getP has2G ha0
            have hcon : Con K X (.ref a0) c0' := Dt.st hcon (Tl.Same.stay sX)
            have lw := wk_nodes c2
            have lb := hb.length
            rw [List.length_map, List.length_take] at lb
            have htk : (wk c2).take (i + 1) = (wk c2).take i ++ [c0'] := by rw [List.take_add_one, hc0]; rfl
            have haX := (Tl.Same.stay (sG3.trans sX)).tup ha
            refine ⟨rfl, .ref ca, rfl, ca, _, 1, .ref b1, rfl, rfl, haX, atI_nat (j := 1) rfl, .ref a0, rfl, by show 3 ≤ sizeLine; decide, fun t nt => ?_⟩
            have sT := same_up (o := .tup [.str "and", .ref b1, .ref a0]) nt
            have hT : Con K (upd X t (.tup [.str "and", .ref b1, .ref a0])) (.ref t) (.and c1 c0') := mk_and (tupOf upd_same) (h1.st (Tl.Same.stay ((sG3.trans sX).trans sT))) (Dt.st hcon (stay_new nt))
            generalize upd X t (.tup [.str "and", .ref b1, .ref a0]) = XT at sT hT ⊢
            have gX2 := sT _ _ gX
            have stm : Stay XT (upd XT D2 (.lst (bs.map V.ref ++ [.ref t]))) := stay_mut (by rw [gX2]; trivial)
            refine ⟨_, gX2, ?_, same_mut (sX.trans sT) nD2, bs ++ [t], by rw [upd_same, List.map_append]; rfl, ?_⟩
            · rw [List.length_map]
              exact Nat.lt_of_le_of_lt (show bs.length ≤ 1000 by omega) (by decide)
            · rw [htk, List.map_append]
              refine snoc (CL.st hb ((Tl.Same.stay sT).trans stm)) ?_
              exact Dt.st hT stm
          · obtain ⟨sX, bs, gX, hb⟩ := z
            rw [List.length_map, has2G.length, List.take_of_length_le (Nat.le_refl _)] at hb
            have lb := hb.length
            rw [List.length_map] at lb
            have lw := wk_nodes c2
            have gfX := sX _ _ gf2
            refine ⟨st, D2, _, _, rfl, rfl, gfX, gX, by rw [List.length_map, List.length_map]; exact Nat.le_trans (show ds.length + bs.length ≤ 1000 by omega) (by decide), ?_⟩
            have stm : Stay X (upd X st (.lst (ds.map V.ref ++ bs.map V.ref))) := stay_mut (by rw [gfX]; trivial)
            refine ⟨vs2, cs', _, _, _, _, st, ds ++ bs, rfl, m2.same (same_mut (sG3.trans sX) nst), stl, by rw [upd_same, List.map_append], ?_, by omega, run⟩
            exact joinP (CL.st cs1 ((Tl.Same.stay sX).trans stm)) (CL.st hb stm)
      | some r c2 =>
        obtain ⟨b, u2, e, hb, h2⟩ := con_some hcx
        cases e
        have fewc : nodes c2 + 1 ≤ 100 := fewc
        refine ⟨.ref ca, rfl, ca, _, 0, _, rfl, rfl, hb, atI_nat (j := 0) rfl, rfl, _, rfl, ?_⟩
        rw [sne t_sd]
        refine iteF ⟨.ref ca, rfl, ca, _, 0, _, rfl, rfl, hb, atI_nat (j := 0) rfl, rfl, _, rfl, ?_⟩
        rw [seq]
        obtain ⟨cs', rfl, run⟩ := run
        obtain ⟨vs1, y2, rfl, st1, hy2⟩ := lastP2 mi.st
        refine iteT ⟨.ref l, rfl, .inl ⟨rfl, _, lst_of mi.gl⟩, l, _, y2, rfl, rfl, mi.gl, by simp, ?_⟩
        rw [List.dropLast_concat]
        have mu0 : Mut (X l) := by rw [mi.gl]; trivial
        have m2 := mi.set st1
        obtain ⟨q1, as1, rfl, nq1, gq1, has1⟩ := stk2_mut (o := .lst vs1) mu0 hy2
        have ha := (stay_mut (o := .lst vs1) mu0).tup hb
        have h2 := h2.st (stay_mut (o := .lst vs1) mu0)
        generalize upd X l (HO.lst vs1) = X2 at m2 gq1 has1 ha h2 ⊢
        rw [List.length_append] at lv
        have lv' : vs1.length + 1 ≤ i := lv
        refine ⟨by show 1 ≤ sizeLine; decide, fun e ne => ⟨by show 1 ≤ sizeLine; decide, fun st nst => ?_⟩⟩
        have sE := same_up (o := .tup [.str "all"]) ne
        have sS := same_up (o := .lst [.ref e]) nst
        have sG := sE.trans sS
        have nst0 := sE.free nst
        have stl : st ≠ l := fun z => by rw [z, m2.gl] at nst0; cases nst0
        have hall : Con K _ (.ref e) .all := mk_all (tupOf (sS _ _ upd_same))
        have gst : upd (upd X2 e (.tup [.str "all"])) st (.lst [.ref e]) st = some (.lst ([e].map V.ref)) := upd_same
        have gq1G := sG _ _ gq1
        have has1G := CL.st has1 (Tl.Same.stay sG)
        clear sE sS
        generalize upd (upd X2 e (.tup [.str "all"])) st (.lst [.ref e]) = G at sG gst gq1G has1G hall ⊢
        refine ⟨.ref st, rfl, .inl ⟨rfl, _, lst_of gst⟩, ?_⟩
        refine ⟨.ref q1, rfl, q1, rfl, ⟨_, lst_of gq1G⟩, fun D1 nD1 => ?_⟩
        refine lc_list (K := K) (a := q1) (xs := as1.map V.ref) (fun i X => L2.Same G X ∧ ∃ bs : List Addr, X D1 = some (.lst (bs.map V.ref)) ∧ CL K X bs (((wk c2).take i).map fun c => .some r c))
          ⟨same_up nD1, [], upd_same, .nil⟩ (fun i X _ z => z.1.seq (lst_of gq1G)) (fun i x X hx z => ?_) (fun X z => ?_)
        · obtain ⟨sX, bs, gX, hb⟩ := z
          obtain ⟨a0, ha0, rfl⟩ : ∃ m, as1[i]? = some m ∧ x = V.ref m := by
            rw [List.getElem?_map] at hx
            obtain ⟨m, h, e⟩ := Option.map_eq_some_iff.mp hx
            exact ⟨m, h, e.symm⟩
          obtain ⟨c0', hc0, hcon⟩ := getP has1G ha0
          have hcon : Con K X (.ref a0) c0' := Dt.st hcon (Tl.Same.stay sX)
          have lw := wk_nodes c2
          have lb := hb.length
          rw [List.length_map, List.length_take] at lb
          have htk : (wk c2).take (i + 1) = (wk c2).take i ++ [c0'] := by rw [List.take_add_one, hc0]; rfl
          have haX := (Tl.Same.stay (sG.trans sX)).tup ha
          refine ⟨rfl, .ref ca, rfl, ca, _, 1, .str r, rfl, rfl, haX, atI_nat (j := 1) rfl, .ref a0, rfl, by show 3 ≤ sizeLine; decide, fun t nt => ?_⟩
          have sT := same_up (o := .tup [.str "some", .str r, .ref a0]) nt
          have hT : Con K (upd X t (.tup [.str "some", .str r, .ref a0])) (.ref t) (.some r c0') := mk_some (tupOf upd_same) (Dt.st hcon (stay_new nt))
          generalize upd X t (.tup [.str "some", .str r, .ref a0]) = XT at sT hT ⊢
          have gX2 := sT _ _ gX
          have stm : Stay XT (upd XT D1 (.lst (bs.map V.ref ++ [.ref t]))) := stay_mut (by rw [gX2]; trivial)
          refine ⟨_, gX2, ?_, same_mut (sX.trans sT) nD1, bs ++ [t], by rw [upd_same, List.map_append]; rfl, ?_⟩
          · rw [List.length_map]
            exact Nat.lt_of_le_of_lt (show bs.length ≤ 1000 by omega) (by decide)
          · rw [htk, List.map_append]
            refine snoc (CL.st hb ((Tl.Same.stay sT).trans stm)) ?_
            exact Dt.st hT stm
        · obtain ⟨sX, bs, gX, hb⟩ := z
          rw [List.length_map, has1G.length, List.take_of_length_le (Nat.le_refl _)] at hb
          have lb := hb.length
          rw [List.length_map] at lb
          have lw := wk_nodes c2
          have gfX := sX _ _ gst
          refine ⟨st, D1, _, _, rfl, rfl, gfX, gX, by rw [List.length_map, List.length_map]; exact Nat.le_trans (show 1 + bs.length ≤ 1000 by omega) (by decide), ?_⟩
          have stm : Stay X (upd X st (.lst ([e].map V.ref ++ bs.map V.ref))) := stay_mut (by rw [gfX]; trivial)
          refine ⟨vs1, cs', _, _, _, _, st, [e] ++ bs, rfl, m2.same (same_mut (sG.trans sX) nst0), stl, by rw [upd_same, List.map_append], ?_, by omega, run⟩
          exact .cons (Dt.st hall ((Tl.Same.stay sX).trans stm)) (CL.st hb stm)
    -- found.append(steps)
    rintro σ' X' ⟨vs', cs', t3, t4, t6, t7, st, as, rfl, m', stl, gst, has, lv', run'⟩
    refine ⟨.ref l, rfl, .inl ⟨rfl, _, lst_of m'.gl⟩, .ref st, rfl, l, _, _, rfl, rfl, m'.gl, Nat.lt_of_lt_of_le (show vs'.length < 400 by omega) (by decide), ?_⟩
    exact ⟨vs' ++ [.ref st], cs' ++ [c], _, _, _, _, _, _, rfl, m'.set (snoc m'.st ⟨st, as, rfl, stl, gst, has⟩), run', by rw [List.length_append]; show vs'.length + 1 ≤ i + 1; omega⟩
  · obtain ⟨vs, cs, t2, t3, t4, t5, t6, t7, rfl, mi, run, lv⟩ := z
    rw [List.drop_of_length_le (by rw [post_len, ← post_len c0, ← hp.length]; exact Nat.le_refl _)] at run
    obtain rfl : cs = [c0] := run
    obtain ⟨vs1, y, rfl, st1, hy⟩ := lastP2 (cs := []) mi.st
    cases st1
    refine ⟨.ref l, rfl, .inl ⟨rfl, _, lst_of mi.gl⟩, l, _, y, rfl, rfl, mi.gl, by simp, ?_⟩
    have mu : Mut (X l) := by rw [mi.gl]; trivial
    obtain ⟨a, as, rfl, na, ga, has⟩ := stk2_mut (o := .lst (([] : List V) ++ [y]).dropLast) mu hy
    have sF : L2.Same H (upd X l (.lst (([] : List V) ++ [V.ref a]).dropLast)) := s0.trans (same_mut mi.g mi.nl)
    refine ⟨a, _, wk c0, rfl, lst_of ga, cl_dts has, ?_, fun c m => ⟨(wk_ok c0 arg.fit.1 c m).1, Nat.le_trans (wk_ok c0 arg.fit.1 c m).2.1 arg.fit.2⟩, fun t ys es H' s5 nt h5 h6 h7 h8 => q t ys es H' (sF.trans s5) (sF.free nt) h5 h6 h7 h8⟩
    have := wk_nodes c0
    omega
where
  post_nodes : ∀ (c x : C), x ∈ post c → nodes x ≤ nodes c
    | .all, x, m => by rw [List.mem_singleton.mp m]; exact Nat.le_refl _
    | .non, x, m => by rw [List.mem_singleton.mp m]; exact Nat.le_refl _
    | .word _, x, m => by rw [List.mem_singleton.mp m]; exact Nat.le_refl _
    | .some r c, x, m => by
      rcases List.mem_append.mp m with m | m
      · exact Nat.le_succ_of_le (post_nodes c x m)
      · rw [List.mem_singleton.mp m]; exact Nat.le_refl _
    | .and a b, x, m => by
      have e : nodes (.and a b) = nodes a + nodes b + 1 := rfl
      rcases List.mem_append.mp m with m | m
      · have := post_nodes a x m
        omega
      · rcases List.mem_append.mp m with m | m
        · have := post_nodes b x m
          omega
        · rw [List.mem_singleton.mp m]; exact Nat.le_refl _
theorem cWeaker (T : Txt K mg) : Cal P w K mg base 6 "weaker" (spWeaker K) [] := (fWeaker T).cal fun _ _ _ _ _ _ us hl => match us, hl with | [_], _ => rfl
/-- weaker(concept=c) -/
def gWk {α : Type} : List α → List α → List α
  | [], [c] => [c]
  | _, _ => []
theorem kbWk : KBindH "weaker" sWeaker ["concept"] ["concept"] gWk := fun kV doc pm an cdv ct us ws h => by
  match us, ws, h with
  | [], [_], _ => rfl
  | [], [], h => cases h
  | [], _ :: _ :: _, h => cases h
  | _ :: _, _, h => cases h
theorem relWk {vs : List V} {us : List Value} {zs : List V} {ws : List Value} (a : Vals vs us) (b : Vals zs ws) : Vals (gWk vs zs) (gWk us ws) := by
  cases a with
  | cons _ _ => exact .nil
  | nil =>
    cases b with
    | nil => exact .nil
    | cons h1 t1 =>
      cases t1 with
      | nil => exact .cons h1 .nil
      | cons h2 t2 => exact .nil
end
end K21
set_option Elab.async false
set_option linter.all false
set_option autoImplicit false
set_option maxRecDepth 100000
set_option maxHeartbeats 4000000
namespace K21
open PySem PySem.Spec PyProof.Rows L2 Tl
open C8 (Cal pe_c)
/-! ### what the law knows of the answers -/
structure Shows (d : PyData) : Prop where
  sh : d.showable = true
  nd : d.hasDict = false
  dp : d.depth ≤ 60
  len : d.shown.length ≤ sizeLine
theorem dis {α : Type} [DecidableEq α] (a : α) : (!decide (a = a)) = false := by simp
theorem nd_len {α : Type} [DecidableEq α] : ∀ (l D : List α), l.Nodup → (∀ x ∈ l, x ∈ D) → l.length ≤ D.length
  | [], _, _, _ => Nat.zero_le _
  | x :: l, D, n, h => by
    have hx := h x List.mem_cons_self
    have n' := List.nodup_cons.mp n
    have := nd_len l (D.erase x) n'.2 fun y hy => (List.mem_erase_of_ne fun (e : y = x) => n'.1 (by rw [← e]; exact hy)).mpr (h y (List.mem_cons_of_mem _ hy))
    rw [List.length_erase_of_mem hx] at this
    have := List.length_pos_of_mem hx
    show l.length + 1 ≤ D.length
    omega
theorem tag_ok (x : Str) (h : (x.cps.toList.all fun c => decide (c < 16 ^ 8)) = true) : (PyData.str x).leavesShort 8 = true := h
theorem w_leaf {x : Str} (h : isW x = true) : (PyData.str x).leavesShort 8 = true ∧ (PyData.str x).bulk ≤ 10 := by
  have l := isW_lt h
  refine ⟨?_, ?_⟩
  · show (x.cps.toList.all fun c => decide (c < 16 ^ 8)) = true
    refine List.all_eq_true.mpr fun c m => ?_
    have := List.all_eq_true.mp l.2.2 c m
    unfold lett at this
    simp only [Bool.and_eq_true, decide_eq_true_eq] at this
    exact decide_eq_true (by omega)
  · have h2 := l.2.1
    show x.cps.size ≤ 10
    have e : x.cps.size = x.length := rfl
    omega
theorem two_all {f : List PyData → Bool} {g : PyData → Bool} : True := trivial
/-- what is shown of a concept -/
theorem con_shows : ∀ c : C, COk c → c.d.showable = true ∧ c.d.leavesShort 8 = true ∧ c.d.hasDict = false ∧ c.d.bulk ≤ 20 * nodes c
  | .all, _ => ⟨by decide +kernel, by decide +kernel, by decide +kernel, by decide +kernel⟩
  | .non, _ => ⟨by decide +kernel, by decide +kernel, by decide +kernel, by decide +kernel⟩
  | .word x, h => by
    obtain ⟨h1, h2⟩ := w_leaf h
    have t1 : (PyData.str "word").leavesShort 8 = true := by decide +kernel
    have t2 : (PyData.str "word").bulk = 4 := by decide +kernel
    refine ⟨?_, ?_, ?_, ?_⟩
    · simp [C.d, PyData.showable, PyData.showableAll]
    · rw [C.d, PyData.leavesShort, PyData.leavesShortAll, PyData.leavesShortAll, PyData.leavesShortAll, t1, h1]; rfl
    · simp [C.d, PyData.hasDict, PyData.hasDictAll]
    · rw [C.d, PyData.bulk, PyData.bulkAll, PyData.bulkAll, PyData.bulkAll, t2]
      show _ ≤ 20 * 1
      omega
  | .some r c, h => by
    obtain ⟨h1, h2⟩ := w_leaf h.1
    obtain ⟨a1, a2, a3, a4⟩ := con_shows c h.2
    have t1 : (PyData.str "some").leavesShort 8 = true := by decide +kernel
    have t2 : (PyData.str "some").bulk = 4 := by decide +kernel
    refine ⟨?_, ?_, ?_, ?_⟩
    · simp [C.d, PyData.showable, PyData.showableAll, a1]
    · rw [C.d, PyData.leavesShort, PyData.leavesShortAll, PyData.leavesShortAll, PyData.leavesShortAll, PyData.leavesShortAll, t1, h1, a2]; rfl
    · simp [C.d, PyData.hasDict, PyData.hasDictAll, a3]
    · rw [C.d, PyData.bulk, PyData.bulkAll, PyData.bulkAll, PyData.bulkAll, PyData.bulkAll, t2]
      show _ ≤ 20 * (nodes c + 1)
      omega
  | .and a b, h => by
    obtain ⟨a1, a2, a3, a4⟩ := con_shows a h.1
    obtain ⟨b1, b2, b3, b4⟩ := con_shows b h.2
    have t1 : (PyData.str "and").leavesShort 8 = true := by decide +kernel
    have t2 : (PyData.str "and").bulk = 3 := by decide +kernel
    refine ⟨?_, ?_, ?_, ?_⟩
    · simp [C.d, PyData.showable, PyData.showableAll, a1, b1]
    · rw [C.d, PyData.leavesShort, PyData.leavesShortAll, PyData.leavesShortAll, PyData.leavesShortAll, PyData.leavesShortAll, t1, a2, b2]; rfl
    · simp [C.d, PyData.hasDict, PyData.hasDictAll, a3, b3]
    · rw [C.d, PyData.bulk, PyData.bulkAll, PyData.bulkAll, PyData.bulkAll, PyData.bulkAll, t2]
      show _ ≤ 20 * (nodes a + nodes b + 1)
      omega
theorem cons_show : ∀ es : List C, (∀ c ∈ es, COk c ∧ dep c ≤ 50 ∧ nodes c ≤ 60) → PyData.showableAll (es.map C.d) = true ∧ PyData.leavesShortAll 8 (es.map C.d) = true ∧ PyData.hasDictAll (es.map C.d) = false ∧ PyData.bulkAll (es.map C.d) ≤ 1201 * es.length ∧ PyData.depthAll (es.map C.d) ≤ 50
  | [], _ => ⟨by simp [PyData.showableAll], by simp [PyData.leavesShortAll], by simp [PyData.hasDictAll], by simp [PyData.bulkAll], by simp [PyData.depthAll]⟩
  | c :: es, h => by
    obtain ⟨a1, a2, a3, a4, a5⟩ := cons_show es fun x hx => h x (List.mem_cons_of_mem _ hx)
    obtain ⟨ok, dp, nn⟩ := h c List.mem_cons_self
    obtain ⟨b1, b2, b3, b4⟩ := con_shows c ok
    have b5 := con_depth c
    refine ⟨?_, ?_, ?_, ?_, ?_⟩
    · rw [List.map_cons, PyData.showableAll, b1, a1]; rfl
    · rw [List.map_cons, PyData.leavesShortAll, b2, a2]; rfl
    · rw [List.map_cons, PyData.hasDictAll, b3, a3]; rfl
    · rw [List.map_cons, PyData.bulkAll, List.length_cons]
      omega
    · rw [List.map_cons, PyData.depthAll]
      omega
theorem shows_cons {es : List C} (h : ∀ c ∈ es, COk c ∧ dep c ≤ 50 ∧ nodes c ≤ 60) (len : es.length ≤ 100) : Shows (.tuple (es.map C.d)) := by
  obtain ⟨a1, a2, a3, a4, a5⟩ := cons_show es h
  refine ⟨?_, ?_, ?_, ?_⟩
  · rw [PyData.showable]; exact a1
  · rw [PyData.hasDict]; exact a3
  · rw [PyData.depth]; omega
  · have := PyData.shown_le_bulk 8 (Nat.le_refl 8) (.tuple (es.map C.d)) (by rw [PyData.leavesShort]; exact a2)
    rw [PyData.bulk] at this
    rw [sizeLine_eq]
    omega
theorem six_cases {x : Int} (h0 : 0 ≤ x) (h1 : x < 6) : x = 0 ∨ x = 1 ∨ x = 2 ∨ x = 3 ∨ x = 4 ∨ x = 5 := by omega
theorem sixth_ok {x : Int} (h0 : 0 ≤ x) (h1 : x < 6) : (PyData.int x).showable = true ∧ (PyData.int x).leavesShort 8 = true := by
  rcases six_cases h0 h1 with rfl | rfl | rfl | rfl | rfl | rfl <;> exact ⟨by decide +kernel, by decide +kernel⟩
theorem ints_ok : ∀ ns : List Int, (∀ x ∈ ns, 0 ≤ x ∧ x < 6) → PyData.showableAll (ns.map PyData.int) = true ∧ PyData.leavesShortAll 8 (ns.map PyData.int) = true ∧ PyData.hasDictAll (ns.map PyData.int) = false ∧ PyData.bulkAll (ns.map PyData.int) = ns.length
  | [], _ => ⟨by simp [PyData.showableAll], by simp [PyData.leavesShortAll], by simp [PyData.hasDictAll], by simp [PyData.bulkAll]⟩
  | n :: ns, h => by
    obtain ⟨a1, a2, a3, a4⟩ := ints_ok ns fun x hx => h x (List.mem_cons_of_mem _ hx)
    obtain ⟨b1, b2⟩ := sixth_ok (h n List.mem_cons_self).1 (h n List.mem_cons_self).2
    refine ⟨?_, ?_, ?_, ?_⟩
    · rw [List.map_cons, PyData.showableAll, b1, a1]; rfl
    · rw [List.map_cons, PyData.leavesShortAll, b2, a2]; rfl
    · rw [List.map_cons, PyData.hasDictAll, a3]; simp [PyData.hasDict]
    · rw [List.map_cons, PyData.bulkAll, a4]
      simp [PyData.bulk]
      omega
theorem shows_pair {ms ns : List Int} (h : ∀ x ∈ ms, 0 ≤ x ∧ x < 6) (h2 : ∀ x ∈ ns, 0 ≤ x ∧ x < 6) (len : ms.length ≤ 100) (len2 : ns.length ≤ 100) : Shows (.tuple [.tuple (ms.map PyData.int), .tuple (ns.map PyData.int)]) := by
  obtain ⟨a1, a2, a3, a4⟩ := ints_ok ms h
  obtain ⟨b1, b2, b3, b4⟩ := ints_ok ns h2
  refine ⟨?_, ?_, ?_, ?_⟩
  · simp [PyData.showable, PyData.showableAll, a1, b1]
  · simp [PyData.hasDict, PyData.hasDictAll, a3, b3]
  · simp [PyData.depth, PyData.depthAll, depth_ints]
  · have := PyData.shown_le_bulk 8 (Nat.le_refl 8) (.tuple [.tuple (ms.map PyData.int), .tuple (ns.map PyData.int)]) (by simp [PyData.leavesShort, PyData.leavesShortAll, a2, b2])
    simp only [PyData.bulk, PyData.bulkAll, a4, b4] at this
    rw [sizeLine_eq]
    omega
theorem den_six {W : Wd} (ok : WOk W) (c : C) : ∀ x ∈ den W c, 0 ≤ x ∧ x < 6 := fun x hx => by
  have h := (den_good ok c).2 x hx
  have := ok.many
  omega
/-- a weaker one has at least the same things -/
theorem wk_den {W : Wd} (ok : WOk W) : ∀ (c x : C), x ∈ wk c → ∀ y ∈ den W c, y ∈ den W x
  | .all, x, m, _, _ => nomatch m
  | .non, x, m, y, h => nomatch h
  | .word z, x, m, y, h => by
    rw [List.mem_singleton.mp m]
    exact mem_rgI.mpr ((den_good ok (.word z)).2 y h)
  | .some r c, x, m, y, h => by
    have hy := (den_good ok (.some r c)).2 y h
    rcases List.mem_append.mp m with m | m
    · rw [List.mem_singleton.mp m]
      exact mem_rgI.mpr hy
    · obtain ⟨z, mz, rfl⟩ := List.mem_map.mp m
      have h := List.mem_filter.mp h
      refine List.mem_filter.mpr ⟨h.1, ?_⟩
      obtain ⟨e, he, h2⟩ := List.any_eq_true.mp h.2
      rw [Bool.and_eq_true, decide_eq_true_eq, decide_eq_true_eq] at h2
      refine List.any_eq_true.mpr ⟨e, he, ?_⟩
      rw [Bool.and_eq_true, decide_eq_true_eq, decide_eq_true_eq]
      exact ⟨h2.1, wk_den ok c z mz _ h2.2⟩
  | .and a b, x, m, y, h => by
    have h := List.mem_filter.mp h
    have h2 := of_decide_eq_true h.2
    rcases List.mem_append.mp m with m | m
    · rcases List.mem_append.mp m with m | m
      · rcases List.mem_cons.mp m with rfl | m
        · exact h.1
        · rw [List.mem_singleton.mp m]
          exact h2
      · obtain ⟨z, mz, rfl⟩ := List.mem_map.mp m
        exact List.mem_filter.mpr ⟨wk_den ok a z mz y h.1, decide_eq_true h2⟩
    · obtain ⟨z, mz, rfl⟩ := List.mem_map.mp m
      exact List.mem_filter.mpr ⟨h.1, decide_eq_true (wk_den ok b z mz y h2)⟩
theorem wk_nil : ∀ c : C, wk c = [] → c = .all
  | .all, _ => rfl
  | .non, h => nomatch h
  | .word _, h => nomatch h
  | .some _ _, h => nomatch h
  | .and _ _, h => nomatch h
theorem wk_csz : ∀ c : C, (wk c).length + 2 ≤ 3 * csz c ∧ nodes c + 1 ≤ 2 * csz c ∧ cst c ≤ nodes c
  | .all => by decide
  | .non => by decide
  | .word _ => ⟨(by decide : 1 + 2 ≤ 3 * 1), (by decide : 1 + 1 ≤ 2 * 1), (by decide : 1 ≤ 1)⟩
  | .some r c => by
    obtain ⟨h1, h2, h3⟩ := wk_csz c
    simp only [wk, List.length_append, List.length_map, List.length_singleton, csz, nodes, cst]
    omega
  | .and a b => by
    obtain ⟨h1, h2, h3⟩ := wk_csz a
    obtain ⟨k1, k2, k3⟩ := wk_csz b
    simp only [wk, List.length_append, List.length_map, List.length_cons, List.length_nil, csz, nodes, cst]
    omega
theorem dts_mem {K : PySem.W.Frag} {H : Hp} : ∀ {xs : List V} {es : List C} {x : V}, Dts K H xs (es.map C.d) → x ∈ xs → ∃ c ∈ es, Con K H x c
  | _ :: _, c :: _, x, .cons r t, h => by
    rcases List.mem_cons.mp h with e | h
    · exact ⟨c, List.mem_cons_self, e ▸ r⟩
    · obtain ⟨c', m, h⟩ := dts_mem t h
      exact ⟨c', List.mem_cons_of_mem _ m, h⟩
theorem tup_nil (es : List C) : PyData.eqv (.tuple (es.map C.d)) (.tuple []) = es.isEmpty := by
  cases es <;> simp [PyData.eqv, PyData.eqvAll]
theorem canLay_cons : ∀ es : List C, (∀ c ∈ es, COk c) → PyData.canLayAll0 (es.map C.d) = true
  | [], _ => by simp [PyData.canLayAll0]
  | c :: es, h => by
    rw [List.map_cons, PyData.canLayAll0, con_canLay c (h c List.mem_cons_self), canLay_cons es fun x m => h x (List.mem_cons_of_mem _ m)]
    rfl
theorem shaped_cons {es : List C} (h : ∀ c ∈ es, COk c ∧ dep c ≤ 50 ∧ nodes c ≤ 60) : SeqAt.shaped (.tuple (es.map C.d)) = true := by
  have h1 := canLay_cons es fun c m => (h c m).1
  have h2 := (cons_show es h).2.2.2.2
  simp only [SeqAt.shaped, PyData.canLay0, PyData.depth, h1, Bool.true_and, decide_eq_true_eq]
  first | omega | (simp; omega)
end K21
set_option Elab.async false
set_option linter.all false
set_option autoImplicit false
set_option maxRecDepth 100000
set_option maxHeartbeats 8000000
namespace K21
open PySem PySem.Spec PyProof.Rows L2 Tl
open C8 (Cal pe_c)
abbrev nLaw : List Str := ["script", "deck", "turn", "vocabulary", "world", "concept", "strength", "go", "due", "told", "near", "here", "there", "x"]
theorem deck_same {X X' : Hp} {d l : Addr} (s : L2.Same X X') (D : Deck X d l) : Deck X' d l := D.same s
section
variable {P : Program} {w : World} {K : PySem.W.Frag} {mg : Str → Option Value} {base : Heap}
/-- the frame in a turn, from the world on -/
def SgC (a d : Addr) (i : Int) (v wv u : V) (st : Int) (σ : L2.St) : Prop := ∃ t7 t8 t9 t10 t11 t12 t13 : Option V,
  σ = [some (.ref a), some (.ref d), some (.int i), some v, some wv, some u, some (.int st), t7, t8, t9, t10, t11, t12, t13]
def spLaw (K : PySem.W.Frag) : Sp := fun vs H Q _ => ∃ (a : Addr) (ns : List Int), vs = [.ref a] ∧ SqL K H a (ns.map V.int) ∧ ns.length ≤ 63 ∧ ∀ H', Q (.bl true) H'
theorem gLaw (T : Txt K mg) {f : Addr} {fd : FuncData} (F : L2.Fun K "law" "law" sLaw f fd) : FnG P w K mg base CX0 42 f fd ["script"] (spLaw K) := by
  refine Tl.Fun.okG F scLaw (fun vs H Q E h => ?_) (fun cdv A outer s H vs Q E quiet hr h => ?_)
  · obtain ⟨a, ns, rfl, _⟩ := h
    rfl
  obtain ⟨a, ns, rfl, ha, n63, q⟩ := h
  have hu64 := hr.units
  have bare : (A.deeper (envOfC "law" (defScope sLaw) s.heap.objs.size f cdv)).guards = some [] := quiet
  refine ⟨_, (pss_cons (ps_set (i := 1) scLaw.nd rfl (.inl rfl) (pe_c (cLawDeck T) hr (by decide) rfl (pa_cons (pv 0) pa_nil)))
 (pss_cons (ps_for PassesOwn.never rfl (pi_range1 rfl T.range (pa_cons pe_int pa_nil)) (pg_name (i := 2) scLaw.nd rfl (.inl rfl))
 (pss_cons (ps_par (i := 3) (j := 4) rfl scLaw.nd rfl rfl (by decide) rfl rfl (pa_cons (pe_c (cLawVocabulary T) hr (by decide) rfl (pa_cons (pv 1) pa_nil)) (pa_cons (pe_c (cLawWorld T) hr (by decide) rfl (pa_cons (pv 1) (pa_cons pe_int pa_nil))) pa_nil)) rfl)
 (pss_cons (ps_set (i := 5) scLaw.nd rfl (.inl rfl) (pe_c (cLawConcept T 5) hr (by decide) rfl (pa_cons (pv 1) (pa_cons (pv 3) (pa_cons (pe_c (cLawPick T) hr (by decide) rfl (pa_cons (pv 1) (pa_cons (pe_tup (pa_cons pe_int (pa_cons pe_int (pa_cons pe_int pa_nil)))) pa_nil))) pa_nil)))))
 (C8.pss_cut (ps_set (i := 5) scLaw.nd rfl (.inl rfl) (pe_ifExp (pt_cmpR op_eq (pe_c (cLawDraw T) hr (by decide) rfl (pa_cons (pv 1) (pa_cons pe_int pa_nil))) pe_int (nomark _)) (pe_tup (pa_cons pe_str (pa_cons (pv 5) (pa_cons (pv 5) pa_nil)))) (pv 5)))
 (C8.pss_cut (ps_set (i := 5) scLaw.nd rfl (.inl rfl) (pe_ifExp (pt_cmpR op_lt (pe_c (cLawSize T 7) hr (by decide) rfl (pa_cons (pv 5) pa_nil)) pe_int (nomark _)) (pv 5) (pe_tup (pa_cons pe_str (pa_cons pe_str (pa_cons (pe_tup (pa_cons pe_str pa_nil)) pa_nil))))))
 (pss_cons (ps_set (i := 6) scLaw.nd rfl (.inl rfl) (pe_c (cLawStrength T 7) hr (by decide) rfl (pa_cons (pv 5) pa_nil)))
 (C8.pss_cut (ps_for PassesOwn.never rfl (pi_range1 rfl T.range (pa_cons pe_int pa_nil)) (pg_name (i := 7) scLaw.nd rfl (.inl rfl))
 (pss_cons (ps_set (i := 8) scLaw.nd rfl (.inl rfl) (pe_c (cLawAscending T) hr (by decide) rfl (pa_cons (pe_c (cLawWeaker T 7) hr (by decide) rfl (pa_cons (pv 5) pa_nil)) pa_nil)))
 (C8.pss_cut (ps_set (i := 9) scLaw.nd rfl (.inl rfl) (pe_ifExp (pt_cmpR op_eq (pe_op op_mod (pe_callTy call_int1 (by rfl) T.int (by decide +kernel) (pa_cons (pv 7) pa_nil)) pe_int) pe_int (nomark _)) (pe_c (cWeaker T) hr (by decide) rfl (pa_cons (pv 5) pa_nil)) (pe_ck (ps := ["concept"]) (ks := ["concept"]) (fWeaker T) hr (by decide) rfl kbWk relWk (pk_cons (pv 5) pk_nil))))
 (pss_cons (ps_if (pt_cmpR op_ne (pe_callB (cr_repD bare hu64) (by rfl) T.repr (by decide +kernel) (pa_cons (pv 9) pa_nil)) (pe_callB (cr_repD bare hu64) (by rfl) T.repr (by decide +kernel) (pa_cons (pv 8) pa_nil)) (nomark _))
 (pss_one (ps_ret pe_bl))
 pss_nil)
 (pss_cons (ps_if (pt_cmpR (op_eqD hu64) (pv 8) (pe_tup pa_nil) (nomark _))
 (pss_one ps_break)
 pss_nil)
 (pss_cons (ps_set (i := 10) scLaw.nd rfl (.inl rfl) (pe_c (cLawPick T) hr (by decide) rfl (pa_cons (pv 1) (pa_cons (pv 8) pa_nil))))
 (pss_cons (ps_asg (pe_tup (pa_cons (pe_c (cLawIn T 7) hr (by decide) rfl (pa_cons (pv 4) (pa_cons (pv 5) pa_nil))) (pa_cons (pe_c (cLawIn T 7) hr (by decide) rfl (pa_cons (pv 4) (pa_cons (pv 10) pa_nil))) pa_nil))) (pg_tup rfl (pgs_cons (pg_name (i := 11) scLaw.nd rfl (.inl rfl)) (pgs_cons (pg_name (i := 12) scLaw.nd rfl (.inr rfl)) pgs_nil))))
 (pss_cons (ps_if (pt_cmpR op_ne (pe_callB (cr_repD bare hu64) (by rfl) T.repr (by decide +kernel) (pa_cons (pe_tup (pa_cons (pe_c (cThingsIn T) hr (by decide) rfl (pa_cons (pv 4) (pa_cons (pv 5) pa_nil))) (pa_cons (pe_ck (ps := ["world", "concept"]) (ks := ["concept", "world"]) (fThingsIn T) hr (by decide) rfl kbTI relTI (pk_cons (pv 10) (pk_cons (pv 4) pk_nil))) pa_nil))) pa_nil)) (pe_callB (cr_repD bare hu64) (by rfl) T.repr (by decide +kernel) (pa_cons (pe_tup (pa_cons (pe_callTy call_tuple_of (by rfl) T.tuple (by decide +kernel) (pa_cons (pv 11) pa_nil)) (pa_cons (pe_callTy call_tuple_of (by rfl) T.tuple (by decide +kernel) (pa_cons (pv 12) pa_nil)) pa_nil))) pa_nil)) (nomark _))
 (pss_one (ps_ret pe_bl))
 pss_nil)
 (pss_cons (ps_if (pt_cmpR (op_neD hu64) (pe_lc (own := [("x", 13)]) (by rfl) scLaw.nd (pi_list (pv 11)) (blkOk_by (own := [("x", 13)]) (N := nLaw) (sc := defScope sLaw) (by decide +kernel)) (fun _ _ _ _ _ => (pg_name (i := 13) scLaw.nd rfl (.inl rfl))) (fun _ _ _ _ _ => pts_one (pt_cmpR (op_notinK (K := K) rfl) (pv 13) (pv 12) rfl)) (fun _ _ _ _ _ => (pv 13))) (pe_lst pa_nil) (nomark _))
 (pss_one (ps_ret pe_bl))
 pss_nil)
 (pss_cons (ps_par (i := 5) (j := 6) rfl scLaw.nd rfl rfl (by decide) rfl rfl (pa_cons (pv 10) (pa_cons (pe_op op_sub (pv 6) pe_int) pa_nil)) rfl)
 (pss_one (ps_if (pt_cmpR op_gt (pe_c (cLawStrength T 7) hr (by decide) rfl (pa_cons (pv 5) pa_nil)) (pv 6) (nomark _))
 (pss_one (ps_ret pe_bl))
 pss_nil))))))))))))
 (pss_one (ps_if (pt_cmpR (op_neD hu64) (pv 5) (pe_tup (pa_cons pe_str pa_nil)) (nomark _))
 (pss_one (ps_ret pe_bl))
 pss_nil)))))))))
 (pss_one (ps_ret pe_bl)))), ?_⟩
  refine ⟨.ref a, rfl, a, ns, rfl, ha, n63, fun d l G0 nd nl s0 D0 => ?_⟩
  refine ⟨6, rfl, by omega, by omega, ?_⟩
  refine for_range (lo := 0) (n := 6) (fun i σ X => (∃ t2 t3 t4 t5 t6 t7 t8 t9 t10 t11 t12 t13 : Option V, σ = [some (.ref a), some (.ref d), t2, t3, t4, t5, t6, t7, t8, t9, t10, t11, t12, t13]) ∧ Deck X d l) ⟨⟨_, _, _, _, _, _, _, _, _, _, _, _, rfl⟩, D0⟩ (fun i σ X hi z => ?_) (fun σ X z => q X)
  obtain ⟨⟨t2, t3, t4, t5, t6, t7, t8, t9, t10, t11, t12, t13, rfl⟩, DX⟩ := z
  -- the vocabulary, the world
  refine ⟨.ref d, rfl, d, l, rfl, DX, fun v ns rs X1 hv o1 D1 => ?_⟩
  refine ⟨.ref d, rfl, d, l, 4, rfl, D1, by omega, by omega, fun wv W X2 hw ok o2 D2 => ⟨v, wv, rfl, ?_⟩⟩
  have hv2 := hv.st (o2.stay D1)
  have many6 := ok.many
  -- the concept
  refine ⟨.ref d, rfl, v, rfl, .ref d, rfl, by show 3 ≤ sizeLine; decide, fun t nt => ?_⟩
  obtain ⟨td, tl⟩ := D2.off nt
  have s3 := same_up (o := .tup [.int 3, .int 4, .int 2]) nt
  refine ⟨d, l, t, _, rfl, D2.new nt, .inr (tupOf upd_same), td, tl, by simp, by simp, fun x X3 hx o3 D3 => ?_⟩
  obtain ⟨n, rfl, n4⟩ : ∃ n : Nat, x = .int n ∧ n ≤ 4 := by
    simp only [List.mem_cons, List.not_mem_nil, or_false] at hx
    rcases hx with rfl | rfl | rfl
    · exact ⟨3, rfl, by decide⟩
    · exact ⟨4, rfl, by decide⟩
    · exact ⟨2, rfl, by decide⟩
  have st3 := (Tl.Same.stay s3).trans (o3.stay (D2.new nt))
  have hw3 := iswd_st st3 hw
  refine ⟨d, l, v, ns, rs, n, n4, rfl, D3, hv2.st st3, fun u c X4 hc okc dpc nnc o4 D4 => ?_⟩
  have hw4 := iswd_st (o4.stay D3) hw3
  -- and twice
  refine ⟨fun σ Z => ∃ u c, (∃ t6 t7 t8 t9 t10 t11 t12 t13 : Option V, σ = [some (.ref a), some (.ref d), some (.int (0 + (i : Int))), some v, some wv, some u, t6, t7, t8, t9, t10, t11, t12, t13]) ∧ Con K Z u c ∧ COk c ∧ dep c ≤ 6 ∧ IsWd K Z wv W ∧ Deck Z d l, ?_, ?_⟩
  · refine ⟨.ref d, rfl, d, l, 6, rfl, D4, by omega, by omega, fun j X5 j0 j1 o5 D5 => ⟨rfl, _, rfl, ite2 (fun _ => ?_) (fun _ => ?_)⟩⟩
    · refine ⟨u, rfl, u, rfl, by show 3 ≤ sizeLine; decide, fun p np => ?_⟩
      have hc5 := (hc.st (o5.stay D4)).st (stay_new (o := .tup [.str "and", u, u]) np)
      refine ⟨.ref p, .and c c, ⟨_, _, _, _, _, _, _, _, rfl⟩, mk_and (tupOf upd_same) hc5 hc5, ⟨okc, okc⟩, ?_, iswd_st (stay_new np) (iswd_st (o5.stay D4) hw4), D5.new np⟩
      show Nat.max (dep c) (dep c) + 1 ≤ 6
      have : Nat.max (dep c) (dep c) = dep c := Nat.max_self _
      omega
    · exact ⟨u, rfl, u, c, ⟨_, _, _, _, _, _, _, _, rfl⟩, hc.st (o5.stay D4), okc, by omega, iswd_st (o5.stay D4) hw4, D5⟩
  rintro σ' Z ⟨u, c, ⟨t6, t7, t8, t9, t10, t11, t12, t13, rfl⟩, hc, okc, dpc, hwZ, DZ⟩
  -- not too great
  refine ⟨fun σ Z => ∃ u c, (∃ t6 t7 t8 t9 t10 t11 t12 t13 : Option V, σ = [some (.ref a), some (.ref d), some (.int (0 + (i : Int))), some v, some wv, some u, t6, t7, t8, t9, t10, t11, t12, t13]) ∧ Con K Z u c ∧ COk c ∧ dep c ≤ 6 ∧ csz c < 15 ∧ IsWd K Z wv W ∧ Deck Z d l, ?_, ?_⟩
  · refine ⟨u, rfl, u, c, rfl, hc, by omega, _, _, rfl, rfl, _, rfl, ite2 (fun y => ?_) (fun _ => ?_)⟩
    · have y := of_decide_eq_true y
      exact ⟨u, rfl, u, c, ⟨_, _, _, _, _, _, _, _, rfl⟩, hc, okc, dpc, by omega, hwZ, DZ⟩
    · refine ⟨by show 1 ≤ sizeLine; decide, fun p1 n1 => ⟨by show 3 ≤ sizeLine; decide, fun p2 n2 => ?_⟩⟩
      have sA := same_add (same_up (o := .tup [.str "none"]) n1) (o := .tup [.str "some", .str "r", .ref p1]) n2
      refine ⟨.ref p2, .some "r" .non, ⟨_, _, _, _, _, _, _, _, rfl⟩, mk_some (tupOf upd_same) (mk_non (tupOf ((same_up n2) _ _ upd_same))), ⟨by decide +kernel, trivial⟩, by decide, by decide, iswd_st (Tl.Same.stay sA) hwZ, DZ.same sA⟩
  rintro σ' Z1 ⟨u, c, ⟨t6, t7, t8, t9, t10, t11, t12, t13, rfl⟩, hc, okc, dpc, sc, hw1, D1'⟩
  refine ⟨u, rfl, u, c, rfl, hc, by omega, ?_⟩
  have many := wk_csz c
  -- weaker and weaker
  refine ⟨fun σ Z => ∃ (u : V) (k : Int), SgC a d (0 + (i : Int)) v wv u k σ ∧ Con K Z u .all ∧ Deck Z d l, ?_, ?_⟩
  · refine ⟨40, rfl, by omega, by omega, ?_⟩
    refine for_range (lo := 0) (n := 40) (fun j σ Z => ∃ (u : V) (c : C) (k : Int), SgC a d (0 + (i : Int)) v wv u k σ ∧ Con K Z u c ∧ COk c ∧ dep c ≤ 6 ∧ csz c < 15 ∧ (cst c : Int) ≤ k ∧ k + (j : Int) ≤ 30 ∧ IsWd K Z wv W ∧ Deck Z d l)
      ⟨u, c, _, ⟨_, _, _, _, _, _, _, rfl⟩, hc, okc, dpc, sc, Int.le_refl _, by omega, hw1, D1'⟩ (fun j σ Z hj z => ?_) (fun σ Z z => ?_)
    · clear hc okc dpc sc hw1 D1' many
      obtain ⟨u, c, k, ⟨t7, t8, t9, t10, t11, t12, t13, rfl⟩, hc, okc, dpc, sc, ck, kj, hwZ, DZ⟩ := z
      obtain ⟨w1, w2, w3⟩ := wk_csz c
      -- due
      refine ⟨u, rfl, u, c, rfl, hc, by omega, by omega, fun p as Y1 s1 np gp hcl => ⟨p, as, wk c, rfl, lst_of gp, hcl, by omega, fun x m => by have := (wk_ok c okc x m).2.1; omega, fun td ys es Y2 s2 ntd htd hys str mem => ?_⟩⟩
      have s12 := s1.trans s2
      -- told
      refine ⟨fun σ Z' => ∃ (t2 : Addr) (ys2 : List V), σ = [some (.ref a), some (.ref d), some (.int (0 + (i : Int))), some v, some wv, some u, some (.int k), some (.int (0 + (j : Int))), some (.ref td), some (.ref t2), t10, t11, t12, t13] ∧ L2.Same Y2 Z' ∧ SqT K Z' t2 ys2 ∧ Dts K Z' ys2 (es.map C.d), ?_, ?_⟩
      · have argY : Arg K Y2 u c := ⟨hc.st (Tl.Same.stay s12), ⟨okc, by omega⟩, by omega⟩
        have both : ∀ (Q' : VK), (∀ (t2 : Addr) (ys2 : List V) (Z' : Hp), L2.Same Y2 Z' → SqT K Z' t2 ys2 → Dts K Z' ys2 (es.map C.d) → Q' (.ref t2) Z') → GivesSet K Y2 (wk c) Q' := fun Q' k t2 ys2 es2 Z' s3 _ h3 h4 st2 mem2 => by
          have : es2 = es := strict_one st2 str fun x => by rw [mem2 x, mem x]
          rw [this] at h4
          exact k t2 ys2 Z' s3 h3 h4
        refine ⟨.int (0 + (j : Int)), rfl, .inl ⟨_, rfl, _, _, rfl, rfl, (by show (0 : Int) < 2; decide), rfl, _, rfl, ite2 (fun _ => ?_) (fun _ => ?_)⟩⟩
        · exact ⟨u, rfl, u, c, rfl, argY, by omega, both _ fun t2 ys2 Z' s3 h3 h4 => ⟨t2, ys2, rfl, s3, h3, h4⟩⟩
        · exact ⟨u, rfl, u, c, rfl, argY, by omega, both _ fun t2 ys2 Z' s3 h3 h4 => ⟨t2, ys2, rfl, s3, h3, h4⟩⟩
      rintro σ' Y3 ⟨t2, ys2, rfl, s3, h2, hd2⟩
      have each : ∀ x ∈ es, COk x ∧ dep x ≤ 50 ∧ nodes x ≤ 60 := fun x m => by
        obtain ⟨h1, h2, h3, _⟩ := wk_ok c okc x ((mem x).mp m)
        have := wk_csz x
        exact ⟨h1, by omega, by omega⟩
      have len : es.length ≤ 100 := by
        have := nd_len es (wk c) (strict_nodup str) fun x m => (mem x).mp m
        omega
      have sh := shows_cons each len
      have htd3 := (Tl.Same.stay s3).tup htd
      have hys3 := Dts.stay (Tl.Same.stay s3) _ _ hys
      have dtold : Dp K Y3 (.ref t2) (.tuple (es.map C.d)) := (Dt.tup h2 hd2).p
      have ddue : Dp K Y3 (.ref td) (.tuple (es.map C.d)) := (Dt.tup htd3 hys3).p
      refine ⟨.ref t2, rfl, .ref t2, .tuple (es.map C.d), rfl, dtold, sh.sh, sh.nd, sh.dp, sh.len, .ref td, rfl, .ref td, .tuple (es.map C.d), rfl, ddue, sh.sh, sh.nd, sh.dp, sh.len, rfl, _, rfl, ?_⟩
      rw [dis]
      have sA := s12.trans s3
      -- if due == ()
      refine iteF ⟨.ref td, rfl, Nat.zero_le _, fun z nz => ⟨.tuple (es.map C.d), .tuple [], ((Dt.tup htd3 hys3).st (stay_new nz)).p, .tup (tupOf upd_same) .nil, shaped_cons each, shaped_cons (es := []) (fun x m => nomatch m), _, rfl, ?_⟩⟩
      rw [tup_nil]
      have s4 := same_up (o := .tup []) nz
      have sB := sA.trans s4
      cases hes : es with
      | nil =>
        have e0 : c = .all := wk_nil c (by
          cases hw : wk c with
          | nil => rfl
          | cons x xr =>
            have := (mem x).mpr (by rw [hw]; exact List.mem_cons_self)
            rw [hes] at this
            cases this)
        subst e0
        exact iteT ⟨u, k, ⟨_, _, _, _, _, _, _, rfl⟩, hc.st (Tl.Same.stay sB), DZ.same sB⟩
      | cons e0 er =>
        rw [← hes]
        rw [show es.isEmpty = false by rw [hes]; rfl]
        have DB := DZ.same sB
        have tdd : td ≠ d ∧ td ≠ l := (DZ.same s1).off ntd
        have htdB := (Tl.Same.stay s4).tup htd3
        have hysB := Dts.stay (Tl.Same.stay s4) _ _ hys3
        have lys : ys.length = es.length := by rw [dts_len hysB, List.length_map]
        -- near
        refine iteF ⟨.ref d, rfl, .ref td, rfl, d, l, td, ys, rfl, DB, .inr htdB, tdd.1, tdd.2, ?_, by omega, fun x Y4 hx o5 D5 => ?_⟩
        · intro e
          rw [e, hes] at lys
          cases lys
        have st5 := o5.stay DB
        obtain ⟨c', mc, hcx⟩ := dts_mem (Dts.stay st5 _ _ hysB) hx
        have good := wk_ok c okc c' ((mem c').mp mc)
        have good2 := wk_csz c'
        have stZ := (Tl.Same.stay sB).trans st5
        have hw5 := iswd_st stZ hwZ
        have hc5 := hc.st stZ
        -- here, there
        refine ⟨wv, rfl, u, rfl, wv, u, W, c, rfl, hw5, ok, hc5, by omega, fun p1 Y5 s5 n5 g5 => ?_⟩
        refine ⟨wv, rfl, x, rfl, wv, x, W, c', rfl, iswd_st (Tl.Same.stay s5) hw5, ok, hcx.st (Tl.Same.stay s5), by omega, fun p2 Y6 s6 n6 g6 => ?_⟩
        refine ⟨by show 2 ≤ sizeLine; decide, fun tt ntt => ⟨tt, _, rfl, tupOf upd_same, rfl, .ref p1, [.ref p2], rfl, .ref p2, [], rfl, rfl, ?_⟩⟩
        have s7 := same_up (o := .tup [.ref p1, .ref p2]) ntt
        have sC := (s5.trans s6).trans s7
        have g5' := (s6.trans s7) _ _ g5
        have g6' := s7 _ _ g6
        generalize upd Y6 tt (.tup [.ref p1, .ref p2]) = Y7 at s7 sC g5' g6' ⊢
        have hw7 := iswd_st (Tl.Same.stay sC) hw5
        have hc7 := hc5.st (Tl.Same.stay sC)
        have hx7 := hcx.st (Tl.Same.stay sC)
        have D7 := D5.same sC
        have arg7 : Arg K Y7 u c := ⟨hc7, ⟨okc, by omega⟩, by omega⟩
        have argx : Arg K Y7 x c' := ⟨hx7, ⟨good.1, by omega⟩, by omega⟩
        have sh2 := shows_pair (den_six ok c) (den_six ok c') (by have := den_len ok c; omega) (by have := den_len ok c'; omega)
        -- the same things
        refine ⟨wv, rfl, u, rfl, wv, u, W, c, rfl, hw7, ok, arg7, fun q1 Y8 s8 h8 => ?_⟩
        refine ⟨x, rfl, wv, rfl, wv, x, W, c', rfl, iswd_st (Tl.Same.stay s8) hw7, ok, argx.same s8, fun q2 Y9 s9 h9 => ⟨by show 2 ≤ sizeLine; decide, fun q3 n10 => ?_⟩⟩
        have s10 := same_up (o := .tup [.ref q1, .ref q2]) n10
        have pd1 : Dp K (upd Y9 q3 (.tup [.ref q1, .ref q2])) (.ref q3) (.tuple [.tuple ((den W c).map PyData.int), .tuple ((den W c').map PyData.int)]) :=
          .tup (tupOf upd_same) (.cons (.tup ((Tl.Same.stay (s9.trans s10)).tup h8) (dp_ints _)) (.cons (.tup ((Tl.Same.stay s10).tup h9) (dp_ints _)) .nil))
        have sD := (s8.trans s9).trans s10
        generalize upd Y9 q3 (.tup [.ref q1, .ref q2]) = Y10 at sD pd1 ⊢
        refine ⟨.ref q3, _, rfl, pd1, sh2.sh, sh2.nd, sh2.dp, sh2.len, ?_⟩
        have g5'' := sD _ _ g5'
        have g6'' := sD _ _ g6'
        refine ⟨.ref p1, rfl, p1, _, rfl, .inl ⟨lst_of g5'', fun r1 nr1 => ?_⟩⟩
        have s11 := same_up (o := .tup ((den W c).map V.int)) nr1
        refine ⟨.ref p2, rfl, p2, _, rfl, .inl ⟨lst_of (s11 _ _ g6''), fun r2 nr2 => ⟨by show 2 ≤ sizeLine; decide, fun r3 nr3 => ?_⟩⟩⟩
        have s12' := same_up (o := .tup ((den W c').map V.int)) nr2
        have s13 := same_up (o := .tup [.ref r1, .ref r2]) nr3
        have pd2 : Dp K _ (.ref r3) (.tuple [.tuple ((den W c).map PyData.int), .tuple ((den W c').map PyData.int)]) :=
          .tup (tupOf (upd_same (o := .tup [.ref r1, .ref r2]))) (.cons (.tup (tupOf ((s12'.trans s13) _ _ upd_same)) (dp_ints _)) (.cons (.tup (tupOf (s13 _ _ upd_same)) (dp_ints _)) .nil))
        refine ⟨.ref r3, _, rfl, pd2, sh2.sh, sh2.nd, sh2.dp, sh2.len, rfl, _, rfl, ?_⟩
        rw [dis]
        have sE := sD.trans ((s11.trans s12').trans s13)
        generalize upd (upd (upd Y10 r1 (.tup ((den W c).map V.int))) r2 (.tup ((den W c').map V.int))) r3 (.tup [.ref r1, .ref r2]) = Y11 at sE ⊢
        have g5e := sE _ _ g5'
        have g6e := sE _ _ g6'
        -- none is lost
        refine iteF ⟨.ref p1, rfl, p1, rfl, ⟨_, lst_of g5e⟩, fun D nD => ?_⟩
        refine lc_list (K := K) (a := p1) (xs := (den W c).map V.int) (fun i X => L2.Same Y11 X ∧ X D = some (.lst [])) ⟨same_up nD, upd_same⟩ (fun i X _ z => lst_of (z.1 _ _ g5e)) (fun i y X hy z => ?_) (fun X z => ?_)
        · obtain ⟨sX, gX⟩ := z
          obtain ⟨m, hm, rfl⟩ : ∃ m, (den W c)[i]? = some m ∧ y = V.int m := by
            rw [List.getElem?_map] at hy
            obtain ⟨m, h, e⟩ := Option.map_eq_some_iff.mp hy
            exact ⟨m, h, e.symm⟩
          have inn := wk_den ok c c' ((mem c').mp mc) m (List.mem_of_getElem? hm)
          refine ⟨rfl, .int m, rfl, .ref p2, rfl, p2, _, rfl, .inl (lst_of (sX _ _ g6e)), rfl, flat_ints _, _, rfl, ?_⟩
          show if (!inV (.int m) ((den W c').map V.int)) = true then _ else _
          rw [inV_int, decide_eq_true inn]
          exact iteF ⟨sX, gX⟩
        · obtain ⟨sX, gX⟩ := z
          refine ⟨Nat.zero_le _, fun z2 nz2 => ?_⟩
          have s14 := same_up (o := .lst []) nz2
          refine ⟨.list (([] : List Int).map PyData.int), .list [], .lst (lst_of (s14 _ _ gX)) .nil, .lst (lst_of upd_same) .nil, shaped_nil, shaped_nil, _, rfl, ?_⟩
          rw [lnil_ne]
          have sF := sE.trans (sX.trans s14)
          have hxF := hx7.st (Tl.Same.stay sF)
          -- concept, strength = near, strength - 1
          refine iteF ⟨x, rfl, .int k, rfl, k, 1, rfl, rfl, x, .int (k - 1), rfl, ?_⟩
          refine ⟨x, rfl, x, c', rfl, hxF, by omega, .int (k - 1), rfl, _, _, rfl, rfl, _, rfl, ?_⟩
          rw [show decide ((k - 1 : Int) < (cst c' : Int)) = false from decide_eq_false (by omega)]
          exact iteF ⟨x, c', k - 1, ⟨_, _, _, _, _, _, _, rfl⟩, hxF, good.1, by omega, by omega, by omega, by omega, iswd_st (Tl.Same.stay sF) hw7, D7.same sF⟩
    · obtain ⟨u, c, k, _, _, _, _, _, ck, kj, _⟩ := z
      omega
  rintro σ' Z2 ⟨u, k, ⟨t7, t8, t9, t10, t11, t12, t13, rfl⟩, hall, D2'⟩
  refine ⟨u, rfl, by show 1 ≤ sizeLine; decide, fun z nz => ⟨C.all.d, .tuple [.str "all"], (hall.st (stay_new nz)).p, .tup (tupOf upd_same) (.cons (.str _) .nil), con_shaped (c := .all) trivial (by decide), shaped_all, _, rfl, ?_⟩⟩
  rw [show PyData.eqv C.all.d (.tuple [.str "all"]) = true from eqv_self .all]
  exact iteF ⟨⟨_, _, _, _, _, _, _, _, _, _, _, _, rfl⟩, D2'.new nz⟩
end
end K21
set_option Elab.async false
set_option linter.all false
set_option autoImplicit false
set_option maxRecDepth 100000
set_option maxHeartbeats 4000000
namespace K21
open PySem PySem.Spec PyProof.Rows L2 Tl
theorem dAt {K : PySem.W.Frag} {h : Heap} {mg : Str → Option Value} {x : Str} {st : Stmt} {f : Addr} {od an : Option Addr} {osl : Array (Option Value)} {oc kV doc pm cdv ct : Value} (X : K.In h) (G : h.Ns mainGlobals mg)
    (a : PySem.W.nsIn K mainGlobals x = some (some (.ref f))) (l : K.lookup f = some ⟨oc, od, .func (PySem.W.fnOf x x (defArgs st) (defBody st) (defScope st) .none kV doc pm an cdv ct), osl⟩) (c : PySem.W.codeIn K cdv x = true) (k : PySem.W.keepIn K (.ref f) = true) : DefAt K mg x st :=
  ⟨f, _, fun_mk l c k, PySem.W.mg_of X G a⟩
theorem iAt {K : PySem.W.Frag} {h : Heap} {mg : Str → Option Value} {x : Str} {i : Int} {t : Tok} (X : K.In h) (G : h.Ns mainGlobals mg) (a : PySem.W.nsIn K mainGlobals x = some (some (.int i t))) : ∃ t, mg x = some (.int i t) := ⟨t, PySem.W.mg_of X G a⟩
theorem nwAt {K : PySem.W.Frag} {h : Heap} {mg : Str → Option Value} {a : Addr} {dd : Option Addr} {n : Nat} {sl : Array (Option Value)} {t1 t2 t3 t4 t5 t6 : Tok} (X : K.In h) (G : h.Ns mainGlobals mg)
    (e : PySem.W.nsIn K mainGlobals "NO_WORDS" = some (some (.ref a))) (l : K.lookup a = some ⟨.type "tuple", dd, .seq #[.str "all" t1, .str "none" t2, .str "some" t3, .str "and" t4, .str "each" t5, .str "is" t6] n, sl⟩) :
    ∃ a, mg "NO_WORDS" = some (.ref a) ∧ ∀ H, SqT K H a [.str "all", .str "none", .str "some", .str "and", .str "each", .str "is"] :=
  ⟨a, PySem.W.mg_of X G e, fun H => .inr ⟨_, _, n, l, rfl, rfl, (by show 6 ≤ sizeLine; decide), .cons ⟨_, rfl⟩ (.cons ⟨_, rfl⟩ (.cons ⟨_, rfl⟩ (.cons ⟨_, rfl⟩ (.cons ⟨_, rfl⟩ (.cons ⟨_, rfl⟩ .nil)))))⟩⟩
theorem fin {P : Program} {w : World} {K : PySem.W.Frag} {mg : Str → Option Value} {fa : Addr} (T : Txt K mg) (hfa : mg "law" = some (.ref fa)) :
    ∃ fd : FuncData, (∀ (s : Shared) (u : Value), BindsTo s fd ⟨[u], []⟩ [("script", u)]) ∧ ∀ base : Heap, K.In base → base.Ns mainGlobals mg → FnG P w K mg base CX0 42 fa fd ["script"] (spLaw K) := by
  obtain ⟨f, fd, F, hm⟩ := T.law.ex
  cases hfa.symm.trans hm
  refine ⟨fd, fun s u => ?_, fun base _ _ => gLaw T F⟩
  obtain ⟨oc, od, kV, doc, pm, an, cdv, ct, osl, rfl, lk, hcd⟩ := F.ex
  exact .of_eq rfl
theorem walk {l : PySem.W.OpenLaw} {q : Program} {loose : List Str} {XP : (Str → Option Value) → Heap → Prop} {YP : World → Heap → Prop} {d : DefRec} {K : Params → PySem.W.Frag} (hn : l.most = some 63) (hdf : d.params.defaults = [])
    (hY : ∀ (w : World) (h : Heap), YP w h → (K w.params).In h) (hd : d.name = "law")
    (F : ∀ (w : World) (mg : Str → Option Value) (h : Heap), (K w.params).In h → h.Ns mainGlobals mg → Txt (K w.params) mg) :
    PySem.W.WalkO q loose XP YP l.row.toRowW d [] (fun f vs => PySem.call f vs) :=
  Tl.walkG (n := 63) (k := 42) (x := "script") (sp := fun w => spLaw (K w.params)) hn (by decide) hdf ⟨rfl, by decide, by decide⟩ hY (fun w mg fa h KX G hmg => fin (F w mg h KX G) (by rw [hd] at hmg; exact hmg)) (fun _ _ a ns hl _ _ hS => ⟨a, ns, rfl, hS, hl, fun _ => rfl⟩)
end K21
open PySem PySem.W PyProof.Rows in
set_option maxRecDepth 100000 in
set_option maxHeartbeats 0 in
theorem PySem.Challenge.cw_tellalike_k21_weaker_concepts_holds : PySem.Challenge.rw_tellalike_k21_weaker_concepts.Holds := by
  w_on; o_law; k_head; (case hw => w_witness2)
  k_fill
  refine K21.walk (l := PySem.Challenge.rw_tellalike_k21_weaker_concepts) rfl rfl (fun w h Y => PySem.W.kIn_of Y) rfl ?F
  case F =>
    intro w mg h KX G
    refine' K21.Txt.mk (PySem.W.mg_none_of KX G ?n_all)
      (PySem.W.mg_none_of KX G ?n_bool)
      (PySem.W.mg_none_of KX G ?n_dict)
      (PySem.W.mg_none_of KX G ?n_int)
      (PySem.W.mg_none_of KX G ?n_isinstance)
      (PySem.W.mg_none_of KX G ?n_len)
      (PySem.W.mg_none_of KX G ?n_list)
      (PySem.W.mg_none_of KX G ?n_max)
      (PySem.W.mg_none_of KX G ?n_range)
      (PySem.W.mg_none_of KX G ?n_repr)
      (PySem.W.mg_none_of KX G ?n_set)
      (PySem.W.mg_none_of KX G ?n_sorted)
      (PySem.W.mg_none_of KX G ?n_str)
      (PySem.W.mg_none_of KX G ?n_tuple)
      (K21.dAt (st := K21.sIsInteger) KX G ?a_isInteger ?l_isInteger ?c_isInteger ?k_isInteger)
      (K21.dAt (st := K21.sIsPair) KX G ?a_isPair ?l_isPair ?c_isPair ?k_isPair)
      (K21.dAt (st := K21.sIsAscending) KX G ?a_isAscending ?l_isAscending ?c_isAscending ?k_isAscending)
      (K21.dAt (st := K21.sAscending) KX G ?a_ascending ?l_ascending ?c_ascending ?k_ascending)
      (K21.dAt (st := K21.sIsWord) KX G ?a_isWord ?l_isWord ?c_isWord ?k_isWord)
      (K21.dAt (st := K21.sIsConcept) KX G ?a_isConcept ?l_isConcept ?c_isConcept ?k_isConcept)
      (K21.dAt (st := K21.sCheckConcept) KX G ?a_checkConcept ?l_checkConcept ?c_checkConcept ?k_checkConcept)
      (K21.dAt (st := K21.sBottomUp) KX G ?a_bottomUp ?l_bottomUp ?c_bottomUp ?k_bottomUp)
      (K21.dAt (st := K21.sInner) KX G ?a_inner ?l_inner ?c_inner ?k_inner)
      (K21.dAt (st := K21.sIsLetter) KX G ?a_isLetter ?l_isLetter ?c_isLetter ?k_isLetter)
      (K21.dAt (st := K21.sIsWorld) KX G ?a_isWorld ?l_isWorld ?c_isWorld ?k_isWorld)
      (K21.dAt (st := K21.sThingsIn) KX G ?a_thingsIn ?l_thingsIn ?c_thingsIn ?k_thingsIn)
      (K21.dAt (st := K21.sCheckWorld) KX G ?a_checkWorld ?l_checkWorld ?c_checkWorld ?k_checkWorld)
      (K21.dAt (st := K21.sIsListing) KX G ?a_isListing ?l_isListing ?c_isListing ?k_isListing)
      (K21.dAt (st := K21.sAreItems) KX G ?a_areItems ?l_areItems ?c_areItems ?k_areItems)
      (K21.dAt (st := K21.sIsThing) KX G ?a_isThing ?l_isThing ?c_isThing ?k_isThing)
      (K21.dAt (st := K21.sIsTie) KX G ?a_isTie ?l_isTie ?c_isTie ?k_isTie)
      (K21.dAt (st := K21.sMembers) KX G ?a_members ?l_members ?c_members ?k_members)
      (K21.dAt (st := K21.sInBoth) KX G ?a_inBoth ?l_inBoth ?c_inBoth ?k_inBoth)
      (K21.dAt (st := K21.sTiedInto) KX G ?a_tiedInto ?l_tiedInto ?c_tiedInto ?k_tiedInto)
      (K21.dAt (st := K21.sWeaker) KX G ?a_weaker ?l_weaker ?c_weaker ?k_weaker)
      (K21.dAt (st := K21.sLawDeck) KX G ?a_lawDeck ?l_lawDeck ?c_lawDeck ?k_lawDeck)
      (K21.dAt (st := K21.sLawDraw) KX G ?a_lawDraw ?l_lawDraw ?c_lawDraw ?k_lawDraw)
      (K21.dAt (st := K21.sLawPick) KX G ?a_lawPick ?l_lawPick ?c_lawPick ?k_lawPick)
      (K21.dAt (st := K21.sLawShuffled) KX G ?a_lawShuffled ?l_lawShuffled ?c_lawShuffled ?k_lawShuffled)
      (K21.dAt (st := K21.sLawWorld) KX G ?a_lawWorld ?l_lawWorld ?c_lawWorld ?k_lawWorld)
      (K21.dAt (st := K21.sLawVocabulary) KX G ?a_lawVocabulary ?l_lawVocabulary ?c_lawVocabulary ?k_lawVocabulary)
      (K21.dAt (st := K21.sLawTied) KX G ?a_lawTied ?l_lawTied ?c_lawTied ?k_lawTied)
      (K21.dAt (st := K21.sLawIn) KX G ?a_lawIn ?l_lawIn ?c_lawIn ?k_lawIn)
      (K21.dAt (st := K21.sLawWeaker) KX G ?a_lawWeaker ?l_lawWeaker ?c_lawWeaker ?k_lawWeaker)
      (K21.dAt (st := K21.sLawAscending) KX G ?a_lawAscending ?l_lawAscending ?c_lawAscending ?k_lawAscending)
      (K21.dAt (st := K21.sLawConcept) KX G ?a_lawConcept ?l_lawConcept ?c_lawConcept ?k_lawConcept)
      (K21.dAt (st := K21.sLawSize) KX G ?a_lawSize ?l_lawSize ?c_lawSize ?k_lawSize)
      (K21.dAt (st := K21.sLawStrength) KX G ?a_lawStrength ?l_lawStrength ?c_lawStrength ?k_lawStrength)
      (K21.dAt (st := K21.sLaw) KX G ?a_law ?l_law ?c_law ?k_law)
      (K21.iAt KX G ?i_longest_word)
      (K21.nwAt KX G ?w_no_words ?v_no_words)
      (K21.iAt KX G ?i_most_things)
    (case n_all => k_is)
    (case n_bool => k_is)
    (case n_dict => k_is)
    (case n_int => k_is)
    (case n_isinstance => k_is)
    (case n_len => k_is)
    (case n_list => k_is)
    (case n_max => k_is)
    (case n_range => k_is)
    (case n_repr => k_is)
    (case n_set => k_is)
    (case n_sorted => k_is)
    (case n_str => k_is)
    (case n_tuple => k_is)
    (case a_isInteger => k_is); (case l_isInteger => k_is); (case c_isInteger => k_is); (case k_isInteger => k_is)
    (case a_isPair => k_is); (case l_isPair => k_is); (case c_isPair => k_is); (case k_isPair => k_is)
    (case a_isAscending => k_is); (case l_isAscending => k_is); (case c_isAscending => k_is); (case k_isAscending => k_is)
    (case a_ascending => k_is); (case l_ascending => k_is); (case c_ascending => k_is); (case k_ascending => k_is)
    (case a_isWord => k_is); (case l_isWord => k_is); (case c_isWord => k_is); (case k_isWord => k_is)
    (case a_isConcept => k_is); (case l_isConcept => k_is); (case c_isConcept => k_is); (case k_isConcept => k_is)
    (case a_checkConcept => k_is); (case l_checkConcept => k_is); (case c_checkConcept => k_is); (case k_checkConcept => k_is)
    (case a_bottomUp => k_is); (case l_bottomUp => k_is); (case c_bottomUp => k_is); (case k_bottomUp => k_is)
    (case a_inner => k_is); (case l_inner => k_is); (case c_inner => k_is); (case k_inner => k_is)
    (case a_isLetter => k_is); (case l_isLetter => k_is); (case c_isLetter => k_is); (case k_isLetter => k_is)
    (case a_isWorld => k_is); (case l_isWorld => k_is); (case c_isWorld => k_is); (case k_isWorld => k_is)
    (case a_thingsIn => k_is); (case l_thingsIn => k_is); (case c_thingsIn => k_is); (case k_thingsIn => k_is)
    (case a_checkWorld => k_is); (case l_checkWorld => k_is); (case c_checkWorld => k_is); (case k_checkWorld => k_is)
    (case a_isListing => k_is); (case l_isListing => k_is); (case c_isListing => k_is); (case k_isListing => k_is)
    (case a_areItems => k_is); (case l_areItems => k_is); (case c_areItems => k_is); (case k_areItems => k_is)
    (case a_isThing => k_is); (case l_isThing => k_is); (case c_isThing => k_is); (case k_isThing => k_is)
    (case a_isTie => k_is); (case l_isTie => k_is); (case c_isTie => k_is); (case k_isTie => k_is)
    (case a_members => k_is); (case l_members => k_is); (case c_members => k_is); (case k_members => k_is)
    (case a_inBoth => k_is); (case l_inBoth => k_is); (case c_inBoth => k_is); (case k_inBoth => k_is)
    (case a_tiedInto => k_is); (case l_tiedInto => k_is); (case c_tiedInto => k_is); (case k_tiedInto => k_is)
    (case a_weaker => k_is); (case l_weaker => k_is); (case c_weaker => k_is); (case k_weaker => k_is)
    (case a_lawDeck => k_is); (case l_lawDeck => k_is); (case c_lawDeck => k_is); (case k_lawDeck => k_is)
    (case a_lawDraw => k_is); (case l_lawDraw => k_is); (case c_lawDraw => k_is); (case k_lawDraw => k_is)
    (case a_lawPick => k_is); (case l_lawPick => k_is); (case c_lawPick => k_is); (case k_lawPick => k_is)
    (case a_lawShuffled => k_is); (case l_lawShuffled => k_is); (case c_lawShuffled => k_is); (case k_lawShuffled => k_is)
    (case a_lawWorld => k_is); (case l_lawWorld => k_is); (case c_lawWorld => k_is); (case k_lawWorld => k_is)
    (case a_lawVocabulary => k_is); (case l_lawVocabulary => k_is); (case c_lawVocabulary => k_is); (case k_lawVocabulary => k_is)
    (case a_lawTied => k_is); (case l_lawTied => k_is); (case c_lawTied => k_is); (case k_lawTied => k_is)
    (case a_lawIn => k_is); (case l_lawIn => k_is); (case c_lawIn => k_is); (case k_lawIn => k_is)
    (case a_lawWeaker => k_is); (case l_lawWeaker => k_is); (case c_lawWeaker => k_is); (case k_lawWeaker => k_is)
    (case a_lawAscending => k_is); (case l_lawAscending => k_is); (case c_lawAscending => k_is); (case k_lawAscending => k_is)
    (case a_lawConcept => k_is); (case l_lawConcept => k_is); (case c_lawConcept => k_is); (case k_lawConcept => k_is)
    (case a_lawSize => k_is); (case l_lawSize => k_is); (case c_lawSize => k_is); (case k_lawSize => k_is)
    (case a_lawStrength => k_is); (case l_lawStrength => k_is); (case c_lawStrength => k_is); (case k_lawStrength => k_is)
    (case a_law => k_is); (case l_law => k_is); (case c_law => k_is); (case k_law => k_is)
    (case i_longest_word => k_is)
    (case w_no_words => k_is); (case v_no_words => k_is)
    (case i_most_things => k_is)
