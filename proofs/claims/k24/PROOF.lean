import PyProof.Rows.All
import Wide.All
import OpenK.AllK
import Wide.FinOn
import HandS.ForMost
import HandS.SetFor
import HandS.Strs
import HandS.SetBool
import HandS.More
import HandS.Defaults
import HandS.Conv
import HandS.TupAny
import HandS.SortInts
import HandS.IsInst
import HandS.CallLocal
import HandS.Wide
import HandS.EndBits
import HandS.Flow
import HandS.Style
import HandS.Codes
import KE.KDictPairs
import HandS.ClsMeth
import PyProof.Draws
import PyProof.EnumMake
import PyProof.EnumFor
import PyProof.Rows.MinMaxN
import KE.KRevSl
import PyProof.StrOps2
import PyProof.Rows.EqBoolInt
import PyProof.Rows.IntBool
import PyProof.CallStr
import PyProof.Rows.ReprOcc
import HandS.TryOnly
import HandS.DictTup
import HandS.ListItems
import HandS.TupLen
import KE.LtData
import KE.DataEq
import KE.KSortTupG
import KE.SortData
import PySem.Challenge.RW_tellalike_k24_whole_simulations_one_afte
import HandS.WideBits
import HandS.SetKeys
import HandS.DictComp
import PyProof.P3In
import PyProof.ReprBulk
import HandS.Zip
set_option Elab.async false
set_option linter.all false
set_option maxRecDepth 100000
/-! my own rules over the layer: extend by a tuple, set of ints, repr of data, dict of a tuple of pairs -/
namespace Tl
open PySem PySem.Spec PyProof.Rows L2
section
variable {X : Cx}
/-! ### list.extend(tuple) -/
def rExtT (K : PySem.W.Frag) : V → List V → Hp → VK → Prop := fun x vs H Q => ∃ (l b : Addr) (xs zs : List V),
  x = V.ref l ∧ vs = [V.ref b] ∧ H l = some (.lst xs) ∧ SqT K H b zs ∧ xs.length + zs.length ≤ sizeLine ∧
    Q V.non (upd H l (.lst (xs ++ zs)))
theorem meets_extT {l b : Addr} {own its : Array Value} {n : Nat} (sz : own.size + its.size ≤ sizeLine) :
    Meets (Builtin.«list.extend» ⟨[.ref l, .ref b], []⟩) (fun _ R s =>
      s.heap.get? l = some { cls := .type "list", data := .seq own n } ∧ PyProof.Rows.IsTup s.heap b its ∧
        R (.ok (.ret Value.none)) { s with heap := s.heap.update l (Obj.mapSeq fun z => z ++ its) }) := by
  intro prog w A R s ⟨g1, ⟨o, g2, g3, m, g4⟩, fin⟩
  show wpAny _ A.in1 (Builtin.List.listExtendWith (.ref l) (.ref b) .none) _ _ s
  unfold Builtin.List.listExtendWith
  refine wpAny_bind (wpAny_typeOf (T := "tuple") ⟨o, g2, g3⟩ ?_)
  have yes : (Builtin.List.listSameRef (.ref l) (.ref b) || Value.type "tuple" == Value.type "list" || Value.type "tuple" == Value.type "tuple") = true := by simp
  simp only [yes, if_true]
  refine wpAny_bind ?_
  unfold Builtin.List.listItems
  refine wpAny_bind (wpAny_seqItems g2 g4 (wpAny_pure ?_))
  refine wpAny_bind ?_
  refine wpAny_bind (wpAny_seqItems g1 rfl (wpAny_pure ?_))
  have nl : (!own.isEmpty && Builtin.List.listTooLong (own.size + its.size)) = false := by
    rw [notLongL sz, Bool.and_false]
  simp only [nl, Bool.false_eq_true, if_false]
  show wpAny _ A.in1 (updateSeq l (fun z => z ++ its) >>= fun _ => ret Value.none) _ _ s
  refine wpAny_bind (wpAny_updateSeq g1 rfl ?_ (by omega) (by rw [Array.size_append]; omega))
  exact wpAny_pure fin
theorem mt_extT : MtM X "list.extend" (rExtT X.K) := by
  intro pins s σ H x vs v us Q I rx rv ⟨l, b, xs, zs, e1, e2, h1, h2, h3, q⟩
  subst e1 e2
  cases rx
  obtain ⟨u, e3, ru⟩ := rv.one
  subst e3
  cases ru
  obtain ⟨k1, own, n, r1, l1, g1⟩ := I.lstM h1
  obtain ⟨its, r2, g2, l2⟩ := I.tuple h2
  have k2 := r2.length
  refine call_meets PySem.F.slot_list_extend ⟨_, g1, rfl⟩ PySem.F.entry_list_extend (PySem.F.args_list_extend_2 _ _)
    (meets_extT (its := its.toArray) (by rw [List.size_toArray, List.size_toArray]; omega)) ⟨g1, g2, ?_⟩
  refine ⟨.non, _, I.lset (its' := own ++ its) h1 g1 (by simp) (r1.append r2) ?_, rfl, q⟩
  rw [List.length_append]
  omega
end
end Tl
set_option Elab.async false
set_option linter.all false
set_option maxRecDepth 100000
/-! set(l), l a list of ints; set(t); the rule for both -/
namespace Tl
open PySem PySem.Spec PyProof.Rows L2
/-- the object that a new set begins as -/
abbrev nu (w : World) : Obj := { cls := .type "set", dict := none, data := .set #[] 0 (.fresh 0 0 (!w.params.followText "set-order")) }
section
variable {P : Program} {w : World} {A : Around} {E : Value → Shared → Prop} {s : Shared}
set_option maxHeartbeats 3200000 in
theorem set_list_ints {l : Addr} {vs : Array Value} (ns : List Int) {Q : Value → Shared → Prop} (calm : A.handled = none) (at_ : s.heap.IsList l vs)
    (are : IntsAre vs.toList ns) (few : ns.length + 1 < scanBound)
    (go : ∀ (h' : Heap) (tk c : Nat), SetR w h' s.heap.objs.size (fun j => decide (j ∈ ns)) c → c ≤ ns.length →
      (∀ b o, s.heap.get? b = some o → h'.get? b = some o) → Q (.ref s.heap.objs.size) { s with heap := h', toks := tk }) :
    wpAny (model P w) A (call (.type "set") [.ref l]) Q E s := by
  have same : vs.size = ns.length := (Array.length_toList (xs := vs)).symm.trans (IntsAre.length are)
  obtain ⟨c0, tl0, mro0⟩ := F.called_set.mro
  have f1 := F.called_set.made
  have f2 := F.called_set.sub
  refine wpAny_call (codeAny_of_tree ?_)
  show wpAny _ _ (callAny (.type "set") _) _ _ _
  refine wpAny_pure ⟨Code.quiet_builtin _ (by decide +kernel), codeAny_builtin F.entry_type_call ?_⟩
  rw [Around.under_plain (weight_type_call_type "set" [.ref l] []) rfl]
  have f3 := F.called_set.notType
  have f4 := F.called_set.canCreate
  have f5 := F.typeCall_set_1 (.ref l)
  repeat (any_goals (first | assumption | wp_step))
  -- the new set
  refine codeAny_mono (code_set_led1 (.ref l) (E := E) (Q₁ := fun x t => x = .ref s.heap.objs.size ∧ t = { s with heap := s.heap.push (nu w) }) ⟨rfl, rfl⟩) fun r t hr => ?_
  match r, hr with
  | .error _, hr => exact hr
  | .ok .next, hr => exact hr.elim
  | .ok .brk, hr => exact hr.elim
  | .ok .cont, hr => exact hr.elim
  | .ok (.ret x), hr =>
    obtain ⟨e1, e2⟩ := hr
    subst e1 e2
    have g0 : (s.heap.push (nu w)).get? s.heap.objs.size = some (nu w) := Heap.get?_push_size _ rfl
    have ty0 : Shared.TypeIs { s with heap := s.heap.push (nu w) } (.ref s.heap.objs.size) "set" := ⟨_, g0, rfl⟩
    have f6 := F.called_set.init.lookup
    have f7 := F.called_set.init.bind (.ref s.heap.objs.size)
    repeat (any_goals (first | assumption | wp_step))
    -- it is filled
    refine codeAny_mono (codeAny_call_builtin (R := wants (fun r t => r = .none ∧ ∃ h' tk c, t = { s with heap := h', toks := tk } ∧ SetR w h' s.heap.objs.size (fun j => decide (j ∈ ns)) c ∧ c ≤ ns.length ∧
        ∀ b o, s.heap.get? b = some o → h'.get? b = some o) E) F.called_set.init.plain F.entry_set_init (check_set_init_1 ty0 ?_)) fun r t ht => ?_
    · obtain ⟨⟨oc, od, odt, osl⟩, ho, hoc, n, hod⟩ := at_
      simp only at hoc hod
      subst hoc hod
      have ho1 : (s.heap.push (nu w)).get? l = some { cls := .type "list", dict := od, data := .seq vs n, slots := osl } := Heap.get?_push_of_some _ ho
      have f8 := F.sub_list_set
      have f9 := F.sub_list_frozenset
      have f10 : (Value.type "list" == Value.type "dict") = false := by decide
      have isl : (s.heap.push (nu w)).IsList l vs := ⟨_, ho1, rfl, n, rfl⟩
      unfold Builtin.«set.__init__» noKeywords Builtin.Frozenset.updateFrom
      generalize hit : pyIter = it
      wp_walk
      subst hit
      refine wpAny_pyIter_list isl ?_
      refine wpAny_bind (wpAny_runValue ?_)
      have low : l < s.heap.objs.size := Heap.lt_size ho
      have calm3 : A.in1.in1.in1.handled = none := by simp [calm]
      have ne1 : l ≠ (s.heap.push (nu w)).objs.size := by
        rw [Heap.size_push]
        exact Nat.ne_of_lt (Nat.lt_succ_of_lt low)
      have off : s.heap.objs.size ∉ [(s.heap.push (nu w)).objs.size, l] := by
        intro hm
        rw [Heap.size_push] at hm
        rcases List.mem_cons.mp hm with q | hm
        · exact absurd q (Nat.ne_of_lt (Nat.lt_succ_self _))
        · exact absurd (List.mem_singleton.mp hm) (Nat.ne_of_gt low)
      refine set_update_ints ((Walks.list calm3 _ l ne1 vs).toS) s.heap.objs.size off ns same few (fun i v hv => ?_) (vs.size - 0) 0 _ (by omega) (Nat.zero_le _)
        ⟨⟨_, Heap.get?_push_size _ rfl, rfl, rfl⟩, isl.push _⟩ ⟨0, Nat.le_refl 0, setR_new_at (Heap.get?_push_of_some _ g0)⟩ fun t' c moved le set' => ?_
      · have hi : i < ns.length := same ▸ (Array.getElem?_eq_some_iff.mp hv).1
        obtain ⟨t, e⟩ := PyProof.Rows.IntsAre.int_at are i v (by rw [Array.getElem?_toList]; exact hv)
        refine ⟨ns[i], t, List.getElem?_eq_getElem hi, ?_⟩
        rw [e, List.getD_eq_getElem?_getD, List.getElem?_eq_getElem hi] <;> rfl
      · obtain ⟨h', g2, d', tk', os'⟩ := t'
        obtain rfl : g2 = s.gens := moved.gens
        obtain rfl : d' = s.drawn := moved.drawn
        obtain rfl : os' = s.os := moved.os
        show wpAny _ _ _ _ _ _
        refine wpAny_pure ?_
        show wpAny _ _ (ret Value.none) _ _ _
        refine wpAny_pure ⟨rfl, h', tk', c, rfl, set', by omega, fun b o e => ?_⟩
        have lb : b < s.heap.objs.size := Heap.lt_size e
        refine moved.heap b o (fun hm => ?_) (Heap.get?_push_of_some _ (Heap.get?_push_of_some _ e))
        rcases List.mem_cons.mp hm with q | hm
        · exact absurd q (Nat.ne_of_lt lb)
        · have q := List.mem_singleton.mp hm
          have q2 : b = s.heap.objs.size + 1 := q.trans (Heap.size_push ..)
          rw [q2] at lb
          exact absurd lb (Nat.not_lt.mpr (Nat.le_succ _))
    · match r, ht with
      | .error _, ht => exact ht
      | .ok .next, ht => exact ht.elim
      | .ok .brk, ht => exact ht.elim
      | .ok .cont, ht => exact ht.elim
      | .ok (.ret x), ht =>
        obtain ⟨rfl, h', tk, c, rfl, set', le, keep⟩ := ht
        repeat (any_goals (first | assumption | wp_step))
        exact go _ _ _ set' le keep
end
section
variable {X : Cx}
/-- set(x), x a list or a tuple of ints -/
def rSetI (K : PySem.W.Frag) (w : World) : List V → Hp → VK → Prop := fun vs H Q => ∃ (p : Addr) (ns : List Int), vs = [V.ref p] ∧
  (SqL K H p (ns.map V.int) ∨ SqT K H p (ns.map V.int)) ∧ ns.length ≤ 1000 ∧
    ∀ (a : Addr) (c : Nat), c ≤ ns.length → H a = none → Q (V.ref a) (upd H a (SetO w a (fun j => decide (j ∈ ns)) c))
theorem cr_setI (calm : X.calm = true) : CallR X (.type "set") (rSetI X.K X.w) := by
  intro pins s σ H xs us Q I r ⟨p, ns, e, sq, few, q⟩
  subst e
  rw [Vals.ref1 r]
  have bound : ns.length + 1 < scanBound := Nat.lt_of_le_of_lt (Nat.add_le_add_right few 1) (by decide)
  have done : ∀ (h' : Heap) (tk c : Nat), SetR X.w h' s.heap.objs.size (fun j => decide (j ∈ ns)) c → c ≤ ns.length → (∀ b o, s.heap.get? b = some o → h'.get? b = some o) →
      EP X pins σ Q (.ref s.heap.objs.size) { s with heap := h', toks := tk } := fun h' tk c R le k =>
    ⟨.ref s.heap.objs.size, _, I.laid k (Nat.le_refl _) (setO_new R), rfl, q _ c le (I.hok.fresh (Nat.le_refl _))⟩
  rcases sq with sq | sq
  · obtain ⟨its, rv, ⟨o, n, ho, hc, hd, hdat⟩, _⟩ := I.list sq
    exact set_list_ints ns (I.ok.hd calm) ⟨o, ho, hc, n, hdat⟩ (ints_of_vals rv) bound done
  · obtain ⟨its, rv, ⟨o, ho, hc, n, hdat⟩, _⟩ := I.tuple sq
    exact call_set_tupI ns (I.ok.hd calm) ⟨o, ho, hc, n, hdat⟩ (ints_of_vals rv) bound done
end
end Tl
set_option Elab.async false
set_option linter.all false
set_option maxRecDepth 100000
set_option maxHeartbeats 2000000
/-! repr of data, dict(t) of a tuple of pairs, {e for x in xs if ..} with any add -/
namespace Tl
open PySem PySem.Spec PyProof.Rows L2
section
variable {X : Cx}
/-! ### repr -/
def rRepD (K : PySem.W.Frag) : List V → Hp → VK → Prop := fun xs H Q => ∃ (v : V) (d : PyData), xs = [v] ∧ Dp K H v d ∧ d.showable = true ∧
  d.hasDict = false ∧ d.depth ≤ 60 ∧ d.shown.length ≤ sizeLine ∧ Q (.str d.shown) H
theorem cr_repD (bare : X.A.guards = some []) (hu : X.A.units + 64 < cLine) : CallR X (.builtin "repr") (rRepD X.K) := by
  intro pins s σ H xs us Q I r ⟨v, d, e, hd, h1, h2, h3, h4, q⟩
  subst e
  obtain ⟨u, e, ru⟩ := r.one
  subst e
  obtain ⟨as, rd⟩ := Dp.reads I d v u hd ru
  cases hd with
  | non =>
    cases ru
    exact PySem.P.repr_of_none ⟨.str _, H, I.tok _, ⟨_, rfl⟩, q⟩
  | bl b =>
    cases ru
    exact PySem.P.repr_of_bool ⟨.str _, H, I.tok _, ⟨_, rfl⟩, q⟩
  | int i =>
    obtain ⟨t, rfl⟩ := ru
    exact PySem.P.repr_of_int (by simpa [PyData.showable] using h1) ⟨.str _, H, I.tok _, ⟨_, rfl⟩, q⟩
  | str x =>
    obtain ⟨t, rfl⟩ := ru
    exact PySem.P.repr_of_str ⟨.str _, H, I.tok _, ⟨_, rfl⟩, q⟩ h4
  | lst _ _ =>
    cases ru
    exact repr_of_reads' rd h1 (fun z => by rw [h2] at z; cases z) bare (by omega) (fun _ _ z => z) (fun h' u tk k => ⟨.str _, H, I.kept k, ⟨_, rfl⟩, q⟩) h4
  | tup _ _ =>
    cases ru
    exact repr_of_reads' rd h1 (fun z => by rw [h2] at z; cases z) bare (by omega) (fun _ _ z => z) (fun h' u tk k => ⟨.str _, H, I.kept k, ⟨_, rfl⟩, q⟩) h4
/-! ### tuple(l), told with its object: it has no dict of its own -/
def rTupF (K : PySem.W.Frag) : List V → Hp → VK → Prop := fun xs H Q => ∃ (p : Addr) (ys : List V), xs = [V.ref p] ∧ SqL K H p ys ∧
  ∀ (l : Addr) (o : Obj), H l = none → o.dict = none → Q (V.ref l) (upd H l (.frz o (.tup ys)))
theorem cr_tupF : CallR X (.type "tuple") (rTupF X.K) := by
  intro pins s σ H xs us Q I r ⟨p, ys, e, sq, q⟩
  subst e
  rw [Vals.ref1 r]
  obtain ⟨its, rv, pl, sz⟩ := I.list sq
  have hl := rv.length
  refine call_tuple_list pl.isList (fun h' kp => ?_) (by rw [List.size_toArray]; omega)
  have J : Inv X pins σ H { s with heap := h' } := I.kept (t' := s.toks) kp
  refine ⟨.ref h'.objs.size, _, J.laid (t' := s.toks) (o := .frz { cls := .type "tuple", data := .seq its.toArray } (.tup ys)) (fun b o e => Heap.get?_push_of_some _ e) (Nat.le_refl _) ?_, rfl, q _ _ (J.hok.fresh (Nat.le_refl _)) rfl⟩
  exact ⟨Heap.get?_push_size _ rfl, sz, its, rv, IsTup.new _ _⟩
/-! ### dict(t), t a tuple of pairs -/
def rDctT (K : PySem.W.Frag) : List V → Hp → VK → Prop := fun xs H Q => ∃ (a : Addr) (o : Obj) (ps : List Addr) (kvs : List (Key × V)), xs = [V.ref a] ∧ H a = some (.frz o (.tup (ps.map V.ref))) ∧ o.dict = none ∧
  Paired (fun p kv => SqT K H p [kV kv.1, kv.2]) ps kvs ∧ ∀ p, H p = none → Q (V.ref p) (upd H p (.dK (mergeK [] kvs)))
theorem cr_dctT (calm : X.calm = true) : CallR X (.type "dict") (rDctT X.K) := by
  intro pins s σ H xs us Q I r ⟨a, o, ps, kvs, e, ha, nod, prd, q⟩
  subst e
  rw [Vals.ref1 r]
  obtain ⟨ho, sz, its, rv, o2, ho2, hc, n, hdat⟩ := I.hok a _ ha
  obtain rfl : o = o2 := Option.some.inj (ho.symm.trans ho2)
  have ei := refs_at rv
  subst ei
  rw [List.length_map] at sz
  obtain ⟨prs, rel, hl, hp⟩ := pairs_of I prd
  -- each pair's key as a value
  have keys : ∀ j : Nat, ∃ u : Value, ∀ q : Key × Value, prs[j]? = some q → ∃ b, ps[j]? = some b ∧ IsTup s.heap b #[u, q.2] ∧ keyIs q.1 u = true := fun j => by
    cases e : prs[j]? with
    | none => exact ⟨.none, fun q z => by cases z⟩
    | some q0 =>
      obtain ⟨b, u, e1, e2, e3⟩ := hp j q0 e
      exact ⟨u, fun q z => by cases z; exact ⟨b, e1, e2, e3⟩⟩
  obtain ⟨ku, hku⟩ := Classical.axiomOfChoice keys
  let pv2 : List (Value × Value) := prs.mapIdx fun j q => (ku j, q.2)
  have at2 : ∀ (j : Nat) (k v : Value), pv2[j]? = some (k, v) → ∃ q, prs[j]? = some q ∧ k = ku j ∧ v = q.2 := fun j k v e => by
    rw [List.getElem?_mapIdx] at e
    cases e2 : prs[j]? with
    | none => rw [e2] at e; cases e
    | some q =>
      rw [e2] at e
      cases e
      exact ⟨q, rfl, rfl, rfl⟩
  have len2 : pv2.length = ps.length := by rw [List.length_mapIdx, hl]
  refine PySem.call_dict_pairs (knd := mixKind X.prog X.w) (kvs := prs) (PySem.PairArg.tuple a _ (fun j => ps.getD j 0) pv2) (I.ok.hd calm)
    ⟨⟨o, n, ho, hc, nod, hdat⟩, by rw [List.size_toArray, List.length_map, len2], fun j k v e => ?_⟩ ⟨by rw [len2, hl], fun j k v e => ?_⟩ (by rw [len2]; exact sz) fun h' tk hd' k => ?_
  · obtain ⟨q, e1, rfl, rfl⟩ := at2 j k v e
    obtain ⟨b, e2, e3, _⟩ := hku j q e1
    refine ⟨by simp [e2], .inl ?_⟩
    have eb : ps.getD j 0 = b := by rw [List.getD_eq_getElem?_getD, e2] <;> rfl
    show IsTup s.heap (ps.getD j 0) _
    rw [eb]
    exact e3
  · obtain ⟨q, e1, rfl, rfl⟩ := at2 j k v e
    obtain ⟨b, e2, e3, e4⟩ := hku j q e1
    exact ⟨q.1, e1, e4⟩
  · have hm : (s.heap.objs.size == sysModules) = false := beq_eq_false_iff_ne.mpr (Nat.ne_of_gt I.big)
    have hlen : (mergeK [] kvs).length ≤ sizeLine := by
      have z := length_mergeK kvs []
      rw [List.length_nil, Nat.zero_add, rel.length, hl] at z
      exact Nat.le_trans z sz
    exact ⟨.ref s.heap.objs.size, _, I.laid (t' := tk) (o := .dK (mergeK [] kvs)) (fun b o e => k b o (by simp) e) (Nat.le_refl _) ⟨hlen, hm, merged [] prs, KV.merge rel .nil, hd'⟩, rfl, q _ (I.hok.fresh (Nat.le_refl _))⟩
end
end Tl
set_option Elab.async false
set_option linter.all false
set_option maxRecDepth 100000
set_option maxHeartbeats 2000000
/-! {e for x in xs if ..}: o0 is what the new set is tracked as, add the rule of set.add that its turns take -/
namespace Tl
open PySem PySem.Spec PyProof.Rows L2
abbrev AddR := V → List V → Hp → VK → Prop
def tSet (o0 : Addr → HO) (add : AddR) (wi : TI) (g : TG) (tt : TT) (te : TE) (vs : List Nat) : TE := fun σ H Q => wi σ H fun J H1 =>
  ∀ D, H1 D = none → ∃ W : Nat → Nat → Hp → Prop, (∃ m, W 0 m (upd H1 D (o0 D))) ∧ ∀ i m G, W i m G →
    (J.stop i G ∧ Q (V.ref D) G) ∨ (J.go i G ∧ ∃ Nx : Hp → Prop, (∀ G', Nx G' → ∃ k, k < m ∧ W (i + 1) k G') ∧
      ∀ x G', J.yld i G x G' → g x (wipe σ vs) G' fun σ2 G2 => wipe σ2 vs = wipe σ vs ∧ tt σ2 G2 fun b G3 =>
        if b = true then te σ2 G3 fun y G4 => add (V.ref D) [y] G4 fun _ G5 => Nx G5 else Nx G3)
section
variable {X : Cx}
theorem pe_set {elt tg iter : Expr} {ifs : List Expr} {scope : Scope} {own : List (Str × Nat)} {pos : Pos} {wi : TI} {g : TG} {tt : TT} {te : TE} {o0 : Addr → HO} {add : AddR}
    (calm : X.calm = true) (nd : X.N.Nodup) (hi : PI X tg iter wi) (ok : BlkOk X.N X.env.scope scope own)
    (begins : ∀ (H : Hp) (h : Heap), ObjOk X.prog X.w H (h.push (nu X.w)) h.objs.size (o0 h.objs.size))
    (adds : ∀ Y : Cx, Y.prog = X.prog → Y.w = X.w → Y.K = X.K → MtR Y "set.add" add)
    (hg : ∀ (s : Shared) (H : Hp) (C : Addr) (cl : List (Str × Addr)) (fp : List Addr), PG (X.blk s H scope (compEnvC scope cl C X.env) fp) tg g)
    (ht : ∀ (s : Shared) (H : Hp) (C : Addr) (cl : List (Str × Addr)) (fp : List Addr), PTs (X.blk s H scope (compEnvC scope cl C X.env) fp) ifs tt)
    (he : ∀ (s : Shared) (H : Hp) (C : Addr) (cl : List (Str × Addr)) (fp : List Addr), PE (X.blk s H scope (compEnvC scope cl C X.env) fp) elt te)
    (once : ∀ x, foldedSetIterable iter X.env x = pure x := by intro _; rfl) :
    PE X (.SetComp elt [⟨tg, iter, ifs, 0⟩] scope pos) (tSet o0 add wi g tt te (own.map (·.2))) := by
  refine ⟨fun pins s σ H Q I h => ?_⟩
  rw [PpSet.eval_SetComp]
  refine wpAny_comprehension_free (use := none) rfl once (closure_ok fun y hy z => (ok.free y hy z).elim (fun k => I.ok.has _ (.inl k)) fun k => I.ok.has _ (.inr k)) ok.kind (fun y hy z => by rw [ok.uniq y hy, z])
    (thn (hi.run pins s σ H _ I h) fun xv s1 hx => thn hx fun itv s2 h2 => ?_)
  obtain ⟨it, fp, tn, J, H2, e, I2, T, st2, f2, q⟩ := h2
  subst e
  refine PpSet.newSet_ok (newEnv_comp ?_)
  -- the new set, at D
  generalize hD : s2.heap.objs.size = D
  have free : H2 D = none := I2.hok.fresh (Nat.le_of_eq hD)
  obtain ⟨W, ⟨m0, w0⟩, turn⟩ := q D free
  generalize hs3 : ({ s2 with heap := s2.heap.push (nu X.w) } : Shared) = s3
  have hp3 : s3.heap = s2.heap.push (nu X.w) := by rw [← hs3]
  have old3 : ∀ b o, s2.heap.get? b = some o → s3.heap.get? b = some o := fun b o z => by
    rw [hp3]
    exact Heap.get?_push_of_some _ z
  generalize hH3 : upd H2 D (o0 D) = H3 at w0
  have I3 : L2.Inv X pins σ H3 s3 := by
    rw [← hs3, ← hH3]
    refine I2.laid (t' := s2.toks) (fun b o z => Heap.get?_push_of_some _ z) (Nat.le_of_eq hD) ?_
    rw [← hD]
    exact begins _ _
  have f3 : ∀ b ∈ fp, FpOk X pins H3 b ∧ b < s3.heap.objs.size := fun b hb => by
    obtain ⟨o, eo, _⟩ := T.obj _ _ st2 b hb
    have lt : b < s2.heap.objs.size := Heap.lt_size eo
    refine ⟨⟨?_, (f2 b hb).2⟩, Heap.lt_size (old3 _ _ eo)⟩
    rw [← hH3, upd_ne (by rw [← hD]; exact Nat.ne_of_lt lt)]
    exact (f2 b hb).1
  have st3 : tn 0 s3.heap := T.keep _ _ _ st2 fun b _ o z => old3 b o z
  have I4 := block_start I3 ok nd f3
  -- its own frame, at C
  generalize hcl : cellsFrom (s3.heap.objs.size + 1) scope.names (cloFrom X.env.cells scope.names []) = cl at I4
  generalize hC : s3.heap.objs.size = C at I4 f3 hcl
  have free3 : ∀ b ∈ fp, H3 b = none := fun b hb => (f3 b hb).1.1
  show codeAny _ _ (.compStart (.SetComp elt [⟨tg, iter, ifs, 0⟩] scope pos) 0 (.ref it) (.ref D) (compEnvC scope cl C X.env))
    (compPost (model X.prog X.w) X.A X.xe none _ (.ref D) C) _
  have pg := hg s3 H3 C cl fp
  have pt := ht s3 H3 C cl fp
  have pe := he s3 H3 C cl fp
  have ad := adds (X.blk s3 H3 scope (compEnvC scope cl C X.env) fp) rfl rfl rfl
  generalize hcx : compEnvC scope cl C X.env = ce at I4 pg pt pe ad ⊢
  have locC : ce.locals = C := by rw [← hcx] <;> rfl
  generalize hs4 : ({ s3 with heap := pushCells (s3.heap.push { cls := .type "dict", data := .dict #[] }) scope.names } : Shared) = s4 at I4 ⊢
  have st4 : tn 0 s4.heap := T.keep _ _ _ st3 fun b _ o z => by
    rw [← hs4]
    exact pushCells_keeps _ _ _ _ (Heap.get?_push_of_some _ z)
  have calmB : (X.blk s3 H3 scope ce fp).calm = true := calm
  have fpB : ∀ {τ : L2.St} {G : Hp} {t : Shared}, L2.Inv (X.blk s3 H3 scope ce fp) [] τ G t → (∀ b ∈ fp, G b = none) → ∀ b ∈ fp, FpOk (X.blk s3 H3 scope ce fp) [] G b := fun {τ G t} IB z b hb =>
    ⟨z b hb, (IB.ok.exf b hb).1, IB.ok.exfs b hb, .inl hb, fun x c z2 => (IB.ok.exf b hb).2 x c z2, fun p hp => by cases hp⟩
  have loop : codeAny (model X.prog X.w) X.A (.compLoop (.SetComp elt [⟨tg, iter, ifs, 0⟩] scope pos) 0 (.ref it) (.ref D) ce)
      (compPost (model X.prog X.w) X.A X.xe none (EP X pins σ Q) (.ref D) C) s4 := by
    refine PpSet.compLoopS_any (fun n t => ∃ i G, L2.Inv (X.blk s3 H3 scope ce fp) [] (wipe σ (own.map (·.2))) G t ∧ tn i t.heap ∧ (∀ b ∈ fp, G b = none) ∧ W i n G) ?_ m0 ⟨0, H3, I4, st4, free3, w0⟩
    rintro n s5 ⟨i, H5, I5, st5, free5, w5⟩
    rcases turn i n H5 w5 with ⟨stop, fin⟩ | ⟨go, Nx, less, step⟩
    · refine thnF (T.done (X.blk s3 H3 scope ce fp) rfl rfl rfl calmB i [] s5 _ H5 (fun _ _ => False) I5 (fpB I5 free5) st5 stop) fun r s6 ⟨hr, I6⟩ => ?_
      subst hr
      have I7 : L2.Inv X pins σ H5 s6 := I3.call' (ch := fp) I6.os I6.base I6.hok I6.bare fun b hb => ⟨(f3 b hb).1.2.2.2.1, (f3 b hb).1.2.1, (f3 b hb).1.2.2.2.2.1, (f3 b hb).1.2.2.2.2.2⟩
      have nC : H5 C = none := by
        have z : H5 ce.locals = none := I6.free
        rwa [locC] at z
      obtain ⟨m, hn, _⟩ := I6.loc
      have hn : s6.heap.Ns ce.locals m := hn
      rw [locC] at hn
      obtain ⟨z0, z1, z2, z3, z4, z5⟩ := I3.fpOk (Nat.le_of_eq hC) nC
      exact ⟨m, hn, fun h' sb => ⟨.ref D, H5, I7.turned (t' := s6.toks) (fun b o hb z => (sb.2 b hb).trans z) z0 z1 z3 z4 z5, rfl, fin⟩⟩
    · refine thnF (T.item (X.blk s3 H3 scope ce fp) rfl rfl rfl calmB i [] s5 _ H5 (fun _ _ => False) I5 (fpB I5 free5) st5 go) fun r s6 ⟨u, hr, h6⟩ => ?_
      subst hr
      refine thnF h6 fun _ s7 ⟨x, H7, I7, r7, y7, st7, free7⟩ => ?_
      refine thnF (pg.run _ s7 _ H7 x u _ (I7.pinned (fpB I7 free7) (T.obj _ _ st7)) r7 (step x H7 y7)) fun _ s8 ⟨σ8, H8, I8, same8, q8⟩ => ?_
      refine thnF (pt.run _ s8 σ8 H8 _ I8 q8) fun b s9 ⟨H9, I9, q9⟩ => ?_
      have back : ∀ {t : Shared} {G : Hp}, L2.Inv (X.blk s3 H3 scope ce fp) ([] ++ pinsAt fp s7.heap) σ8 G t → Nx G →
          ∃ k, k < n ∧ ∃ i G, L2.Inv (X.blk s3 H3 scope ce fp) [] (wipe σ (own.map (·.2))) G t ∧ tn i t.heap ∧ (∀ b ∈ fp, G b = none) ∧ W i k G := fun {t G} IG nx => by
        obtain ⟨k, hk, wk⟩ := less G nx
        have kept : ∀ b ∈ fp, ∀ o, s7.heap.get? b = some o → t.heap.get? b = some o ∧ G b = none := fun b hb o z =>
          have w := IG.pin (b, o) (List.mem_append_right _ (List.mem_append_right _ (mem_pinsAt hb z)))
          ⟨w.1, w.2.1⟩
        refine ⟨k, hk, i + 1, G, (IG.unpinned (pins := [])).weak (by rw [← same8, wipe_length]) (fun j v z => ?_), T.keep _ _ _ st7 fun b hb o z => (kept b hb o z).1, fun b hb => ?_, wk⟩
        · rw [← same8] at z
          exact (wipe_some z).1
        · obtain ⟨o, z, _⟩ := T.obj _ _ st7 b hb
          exact (kept b hb o z).2
      cases b with
      | false =>
        simp only [Bool.false_eq_true, if_false] at q9 ⊢
        exact back I9 q9
      | true =>
        simp only [if_true] at q9 ⊢
        refine thnF (pe.run _ s9 σ8 H9 _ I9 q9) fun z s10 ⟨yv, H10, I10, r10, qa⟩ => ?_
        exact thnF (ad _ s10 σ8 H10 (.ref D) [yv] (.ref D) [z] _ I10 rfl (.cons r10 .nil) qa) fun _ s11 ⟨_, H11, I11, _, nx⟩ => back I11 nx
  exact PpSet.codeAny_compStart_set loop (T.self X.A 0 _ _ _ st4 loop)
end
end Tl
set_option Elab.async false
set_option linter.all false
set_option maxRecDepth 100000
set_option maxHeartbeats 2000000
/-! a def's promise where no repr is under way around it (FnG), and the end of a row over such a promise -/
namespace Tl
open PySem PySem.Spec PyProof.Rows L2
/-- no repr is under way -/
def Quiet (A : Around) : Prop := A.guards = some []
structure FnG (P : Program) (w : World) (K : PySem.W.Frag) (mg : Str → Option Value) (base : Heap) (CX : CXT) (k : Nat) (f : Addr) (fd : FuncData) (ps : List Str) (sp : Sp) : Prop where
  many : ∀ vs H Q E, sp vs H Q E → vs.length = ps.length
  runs : ∀ (A : Around) (outer : List Env) (s : Shared) (H : Hp) (args : Args) (us : List Value) (vs : List V) (Q : VK) (E : XK), Quiet A → Room k A → Env0 P w K mg base A outer s H →
    BindsTo s fd args (ps.zip us) → Vals vs us → sp vs H Q E → codeAny (model P w) A (.call (.ref f) args) (CR CX outer P w H s Q E) s
section
variable {P : Program} {w : World} {K : PySem.W.Frag} {mg : Str → Option Value} {base : Heap}
theorem Fun.okG {x qual : Str} {st : Stmt} {f : Addr} {fd : FuncData} {N ps : List Str} {k : Nat} {sp : Sp} (F : L2.Fun K x qual st f fd) (S : FnScope N ps (defScope st)) (many : ∀ vs H Q E, sp vs H Q E → vs.length = ps.length)
    (body : ∀ (cdv : Value) (A : Around) (outer : List Env) (s : Shared) (H : Hp) (vs : List V) (Q : VK) (E : XK), Quiet A → Room k (A.deeper (envOfC qual (defScope st) s.heap.objs.size f cdv)) → sp vs H Q E →
      ∃ t, PSs (cxOf CX0 P w K mg base N qual (defScope st) f cdv A outer s H E).nox (defBody st) t ∧ t { nx := fun _ H' => Q .non H', rt := Q } (start N vs) H) :
    FnG P w K mg base CX0 (k + 1) f fd ps sp := by
  obtain ⟨oc, od, kV, doc, pm, an, cdv, ct, osl, e, lk, hcd⟩ := F.ex
  subst e
  refine ⟨many, fun A outer s H args us vs Q E quiet hr e0 hb r hsp => ?_⟩
  obtain ⟨t, ht, hq⟩ := body cdv A outer s H vs Q E quiet (hr.deeper _) hsp
  have old : ∀ b o, base.get? b = some o → s.heap.get? b = some o := fun b o z => (e0.bs b o z).1
  have KX : K.In s.heap := e0.mod.kin.keeps old
  have kinds : ∀ y ∈ ps.zip us, (defScope st).names.lookup y.1 = some .local ∨ ((defScope st).names.lookup y.1 = some .cell ∧ ((cellsFrom (s.heap.objs.size + 1) (defScope st).names []).lookup y.1).isSome = true) := by
    intro y hy
    refine (S.par y.1 (List.of_mem_zip hy).1).imp id fun z => ⟨z, ?_⟩
    exact PySem.W.cellsFrom_some _ _ _ (.inl z)
  refine codeAny_call_function hr.depth (KX _ _ lk) rfl S.co S.gen rfl (PySem.W.codeRec_of KX hcd) (hb _ _ _ _ ?_)
  refine wpAny_newFunctionEnv_cells S.kind kinds fun env he s1 inside => ?_
  subst he
  refine ⟨e0.mod.nolimit.keeps fun b o z => inside.toInCall.keep b o (old b o z), codeAny_func ?_⟩
  have I := inv_start (CX := CX0) (E := E) S hr.hd e0 (many _ _ _ _ hsp) r inside
  refine wpAny_mono (ht.nox.run [] s1 (start N vs) H _ I hq) (fun fl s' hs => ?_) fun e s' hs => hs
  match fl, hs with
  | .ret u, ⟨v, σ', H', J, rv, q⟩ => exact ⟨v, H', J.os, J.bare, J.base, J.hok, rv, q⟩
  | .next, ⟨σ', H', J, q⟩ => exact ⟨V.non, H', J.os, J.bare, J.base, J.hok, rfl, q⟩
  | .brk, ⟨_, _, _, q⟩ => exact q.elim
  | .cont, ⟨_, _, _, q⟩ => exact q.elim
end
/-- the law's def is called by the row -/
theorem law_callG {P : Program} {w : World} {K : PySem.W.Frag} {mg mb : Str → Option Value} {k : Nat} {fa a : Addr} {fd : FuncData} {x : Str} {sp : Sp} {s₁ : Shared} {vs : List Value} {ns : List Int}
    (KX : K.In s₁.heap) (nsG : s₁.heap.Ns mainGlobals mg) (nsB : s₁.heap.Ns builtinsNs mb) (same : ∀ x : Str, x ≠ "__name__" → mb x = bootBuiltins x) (lim : s₁.heap.NoLimit) (gens : s₁.gens = #[])
    (ha : s₁.heap.get? a = some { cls := .type "list", data := .seq vs.toArray }) (are : IntsAre vs ns) (few : ns.length ≤ sizeLine) (hr : Room k callerA)
    (F : ∀ base : Heap, K.In base → base.Ns mainGlobals mg → FnG P w K mg base CX0 k fa fd [x] sp) (binds : ∀ (s : Shared) (u : Value), BindsTo s fd ⟨[u], []⟩ [(x, u)])
    (hsp : ∀ H : Hp, Only H → SqL K H a (ns.map V.int) → sp [.ref a] H (fun v _ => v = .bl true) fun _ _ _ => False) :
    codeAny (model P w) callerA (.call (.ref fa) ⟨[.ref a], []⟩) (fun r s' => r = .ok (.ret (.bool true)) ∧ OldK s₁.heap s'.heap ∧ s'.os = s₁.os ∧ AllBare s'.gens) s₁ := by
  have rv := vals_ints are
  have from_ : ∀ H : Hp, Only H → SqL K H a (ns.map V.int) → HOk P w H s₁.heap → (∀ b, H b ≠ none → b = a ∧ K.lookup a = none) →
      codeAny (model P w) callerA (.call (.ref fa) ⟨[.ref a], []⟩) (fun r s' => r = .ok (.ret (.bool true)) ∧ OldK s₁.heap s'.heap ∧ s'.os = s₁.os ∧ AllBare s'.gens) s₁ := fun H only sq hok track => by
    have off : ∀ b, b ≠ a → H b = none := fun b z => Classical.byContradiction fun q => z (track b q).1
    have dicts : ∀ {b : Addr} {o : Obj} {es : Array DictEntry} {ep : Nat}, s₁.heap.get? b = some o → o.data = .dict es ep → H b = none := fun {b o es ep} e d => by
      refine off b fun z => ?_
      subst z
      rw [ha] at e
      cases e
      cases (show Data.seq vs.toArray _ = Data.dict es ep from d)
    have spaces : ∀ {b : Addr} {m : Str → Option Value}, s₁.heap.Ns b m → (hidT s₁.heap H).Ns b m := fun {b m} ⟨o, es, ep, e, d, r⟩ => ⟨o, es, ep, hidT_get e (dicts e d), d, r⟩
    have KB : K.In (hidT s₁.heap H) := fun b o e => hidT_get (KX b o e) (Classical.byContradiction fun q => by
      obtain ⟨e1, e2⟩ := track b q
      rw [e1, e2] at e
      cases e)
    have e0 : Env0 P w K mg (hidT s₁.heap H) callerA [] s₁ H := by
      refine ⟨rfl, ⟨KB, spaces nsG, ⟨mb, spaces nsB, same⟩, ?_⟩, fun b o e => of_hidT e, Nat.le_of_eq (hidT_size _ _), trivial, fun b hb => absurd (show b ∈ ([] : List Addr) from hb) (by simp), hok, .of_eq gens⟩
      obtain ⟨mc, h1, h2⟩ := lim
      exact ⟨mc, spaces h1, h2⟩
    refine codeAny_mono ((F _ KB (spaces nsG)).runs callerA [] s₁ H ⟨[.ref a], []⟩ [.ref a] [.ref a] _ _ rfl hr e0 (binds s₁ (.ref a)) (.cons rfl .nil) (hsp H only sq)) fun r s' h => ?_
    match r, h with
    | .error e, h => exact False.elim h
    | .ok .next, h => exact False.elim h
    | .ok .brk, h => exact False.elim h
    | .ok .cont, h => exact False.elim h
    | .ok (.ret u), ⟨v, H', os, bare, un, hok', rvu, q⟩ =>
      obtain rfl : v = .bl true := q
      obtain rfl : u = Value.bool true := rvu
      refine ⟨rfl, OldK.of_keep fun b o e => ?_, os, bare⟩
      rcases only b with z | ⟨ob, xs, z⟩
      · exact un.keep b o e z (fun y => absurd (show b ∈ ([] : List Addr) from y) (by simp)) (by simp)
      · have e1 := (hok b _ z).1
        rw [e] at e1
        cases e1
        exact (hok' b _ (un.frzs b _ _ z)).1
  cases hk : K.lookup a with
  | some o =>
    obtain rfl : _ = o := Option.some.inj (ha.symm.trans (KX a o hk))
    refine from_ (fun _ => none) (fun _ => .inl rfl) (.inr ⟨_, vs.toArray, _, hk, rfl, rfl, rfl, ?_, by simpa using rv⟩) (fun b u z => nomatch z) fun b z => absurd rfl z
    rw [List.size_toArray, are.length]
    exact few
  | none =>
    let S : HO := .frz { cls := .type "list", data := .seq vs.toArray } (.lst (ns.map V.int))
    refine from_ (upd (fun _ => none) a S) (fun b => ?_) (.inl (.inr ⟨_, upd_same⟩)) (fun b u z => ?_) fun b z => ⟨Classical.byContradiction fun y => z (upd_ne y), hk⟩
    · by_cases y : b = a
      · subst y
        exact .inr ⟨_, _, upd_same⟩
      · exact .inl (upd_ne y)
    · by_cases y : b = a
      · subst y
        rw [upd_same] at z
        cases z
        exact ⟨ha, by rw [List.length_map]; exact few, vs, _, rv, ha⟩
      · rw [upd_ne y] at z
        cases z
/-- the end of a row -/
theorem walkG {l : PySem.W.OpenLaw} {n k : Nat} {q : Program} {loose : List Str} {XP : (Str → Option Value) → Heap → Prop} {YP : World → Heap → Prop} {d : DefRec} {K : Params → PySem.W.Frag} {sp : World → Sp} {x : Str}
    (most : l.most = some n) (few : n ≤ sizeLine) (hdf : d.params.defaults = []) (hr : Room k callerA) (hY : ∀ (w : World) (h : Heap), YP w h → (K w.params).In h)
    (F : ∀ (w : World) (mg : Str → Option Value) (fa : Addr) (h : Heap), (K w.params).In h → h.Ns mainGlobals mg → mg d.name = some (.ref fa) →
      ∃ fd : FuncData, (∀ (s : Shared) (u : Value), BindsTo s fd ⟨[u], []⟩ [(x, u)]) ∧ ∀ base : Heap, (K w.params).In base → base.Ns mainGlobals mg → FnG l.prog w (K w.params) mg base CX0 k fa fd [x] (sp w))
    (hsp : ∀ (w : World) (H : Hp) (a : Addr) (ns : List Int), ns.length ≤ n → (∀ z ∈ ns, Builtin.Int.intBits z ≤ 1048576) → Only H → SqL (K w.params) H a (ns.map V.int) → sp w [.ref a] H (fun v _ => v = .bl true) fun _ _ _ => False) :
    PySem.W.WalkO q loose XP YP l.row.toRowW d [] (fun f vs => PySem.call f vs) := by
  refine Att.attach_callB most hdf fun w s₀ s₁ mg mb fa o pm cd doc a vs ns G Y ho hd hcd hmg hobj are len bits hg => ?_
  obtain ⟨fd, hb, hF⟩ := F w mg fa _ (hY w _ Y) G.T.g hmg
  exact law_callG (hY w _ Y) G.T.g G.T.b G.T.builtins G.T.nolimit hg hobj are (Nat.le_trans len few) hr hF hb fun H only sq => hsp w H a ns len bits only sq
end Tl
set_option Elab.async false
set_option linter.all false
set_option maxRecDepth 100000
set_option maxHeartbeats 1000000
/-! defs by their names; data of tuples; what stays of a heap -/
namespace Tl
open PySem PySem.Spec PyProof.Rows L2
open C8 (Cal pe_c)
/-! ### a def of the text under its name -/
structure DefAt (K : PySem.W.Frag) (mg : Str → Option Value) (x : Str) (st : Stmt) : Prop where
  ex : ∃ (f : Addr) (fd : FuncData), L2.Fun K x x st f fd ∧ mg x = some (.ref f)
section
variable {P : Program} {w : World} {K : PySem.W.Frag} {mg : Str → Option Value} {base : Heap}
abbrev BindH (x : Str) (st : Stmt) (ps : List Str) : Prop := ∀ (kV doc pm : Value) (an : Option Addr) (cdv ct : Value) (us : List Value), us.length = ps.length →
  bindArgs (PySem.W.fnOf x x (defArgs st) (defBody st) (defScope st) .none kV doc pm an cdv ct) ⟨us, []⟩ = pure (ps.zip us)
theorem cal_of {x : Str} {st : Stmt} {N ps : List Str} {k : Nat} {sp : Sp} (D : DefAt K mg x st) (S : FnScope N ps (defScope st)) (hb : BindH x st ps) (len : ∀ vs H Q E, sp vs H Q E → vs.length = ps.length)
    (body : ∀ (f : Addr) (cdv : Value) (A : Around) (outer : List Env) (s : Shared) (H : Hp) (vs : List V) (Q : VK) (E : XK), Room k (A.deeper (envOfC x (defScope st) s.heap.objs.size f cdv)) → sp vs H Q E →
      ∃ t, PSs (cxOf CX0 P w K mg base N x (defScope st) f cdv A outer s H E).nox (defBody st) t ∧ t { nx := fun _ H' => Q .non H', rt := Q } (start N vs) H) : Cal P w K mg base (k + 1) x sp [] := by
  obtain ⟨f, fd, F, hm⟩ := D.ex
  exact ⟨f, fd, ps, [], F.ok S len (fun cdv A outer s H vs Q E hr h => body f cdv A outer s H vs Q E hr h), hm, F.kp, F.binds hb, .nil⟩
/-- a def at one more call deep: a step of an induction -/
theorem calUp {x : Str} {k j : Nat} {sp : Sp} (c : Cal P w K mg base k x sp []) (h : k ≤ j) : Cal P w K mg base j x sp [] := by
  obtain ⟨f, fd, ps, ds, F, hm, kp, b, d⟩ := c.ex
  exact ⟨f, fd, ps, ds, F.mono h, hm, kp, b, d⟩
theorem calWeak {x : Str} {k : Nat} {sp sp' : Sp} (c : Cal P w K mg base k x sp []) (h : ∀ vs H Q E, sp' vs H Q E → sp vs H Q E) : Cal P w K mg base k x sp' [] := by
  obtain ⟨f, fd, ps, ds, F, hm, kp, b, d⟩ := c.ex
  exact ⟨f, fd, ps, ds, F.imp h, hm, kp, b, d⟩
end
/-! ### what stays -/
/-- tuples and known objects stay -/
def Stay (H H' : Hp) : Prop := ∀ a o, H a = some o → ((∃ xs, o = .tup xs) ∨ ∃ ob u, o = .frz ob u) → H' a = some o
theorem Stay.refl (H : Hp) : Stay H H := fun _ _ h _ => h
theorem Stay.trans {H H1 H2 : Hp} (a : Stay H H1) (b : Stay H1 H2) : Stay H H2 := fun x o h k => b x o (a x o h k) k
theorem Same.stay {H H' : Hp} (e : Same H H') : Stay H H' := fun a o h _ => e a o h
theorem stay_new {H : Hp} {p : Addr} {o : HO} (h : H p = none) : Stay H (upd H p o) := fun a u e _ => by
  rw [upd_ne (ne_of_none e h)]
  exact e
/-- a list or a dict is changed -/
theorem stay_mut {H : Hp} {p : Addr} {o : HO} (h : Mut (H p)) : Stay H (upd H p o) := fun a u e k => by
  have ne : a ≠ p := fun z => by
    subst z
    rw [e] at h
    rcases k with ⟨xs, rfl⟩ | ⟨ob, u, rfl⟩ <;> exact h
  rw [upd_ne ne]
  exact e
theorem Stay.rd {H H' : Hp} {a : Addr} {xs : List V} (e : Stay H H') (h : Rd H a (.tup xs)) : Rd H' a (.tup xs) := by
  rcases h with h | ⟨o, h⟩
  · exact .inl (e a _ h (.inl ⟨xs, rfl⟩))
  · exact .inr ⟨o, e a _ h (.inr ⟨_, _, rfl⟩)⟩
theorem Stay.tup {K : PySem.W.Frag} {H H' : Hp} {a : Addr} {xs : List V} (e : Stay H H') (h : SqT K H a xs) : SqT K H' a xs := h.imp (fun h => e.rd h) id
theorem Stay.frz {H H' : Hp} {a : Addr} {o : Obj} {u : HO} (e : Stay H H') (h : H a = some (.frz o u)) : H' a = some (.frz o u) := e a _ h (.inr ⟨_, _, rfl⟩)
theorem tupOf {K : PySem.W.Frag} {H : Hp} {a : Addr} {xs : List V} (h : H a = some (.tup xs)) : SqT K H a xs := .inl (.inl h)
/-! ### data of tuples alone -/
mutual
inductive Dt (K : PySem.W.Frag) (H : Hp) : V → PyData → Prop
  | non : Dt K H .non .none
  | bl (b : Bool) : Dt K H (.bl b) (.bool b)
  | int (i : Int) : Dt K H (.int i) (.int i)
  | str (x : Str) : Dt K H (.str x) (.str x)
  | tup {a : Addr} {xs : List V} {ds : List PyData} : SqT K H a xs → Dts K H xs ds → Dt K H (.ref a) (.tuple ds)
inductive Dts (K : PySem.W.Frag) (H : Hp) : List V → List PyData → Prop
  | nil : Dts K H [] []
  | cons {v : V} {vs : List V} {d : PyData} {ds : List PyData} : Dt K H v d → Dts K H vs ds → Dts K H (v :: vs) (d :: ds)
end
section
variable {K : PySem.W.Frag} {H H' : Hp}
mutual
theorem Dt.stay (e : Stay H H') : ∀ (d : PyData) (v : V), Dt K H v d → Dt K H' v d
  | .none, _, h => by cases h; exact .non
  | .bool _, _, h => by cases h; exact .bl _
  | .int _, _, h => by cases h; exact .int _
  | .str _, _, h => by cases h; exact .str _
  | .list _, _, h => by cases h
  | .tuple ds, _, h => by
    cases h with
    | tup h1 h2 => exact .tup (e.tup h1) (Dts.stay e ds _ h2)
  | .dict _, _, h => by cases h
theorem Dts.stay (e : Stay H H') : ∀ (ds : List PyData) (vs : List V), Dts K H vs ds → Dts K H' vs ds
  | [], _, h => by cases h; exact .nil
  | d :: ds, _, h => by
    cases h with
    | cons h1 h2 => exact .cons (Dt.stay e d _ h1) (Dts.stay e ds _ h2)
end
mutual
theorem Dt.dp : ∀ (d : PyData) (v : V), Dt K H v d → Dp K H v d
  | .none, _, h => by cases h; exact .non
  | .bool _, _, h => by cases h; exact .bl _
  | .int _, _, h => by cases h; exact .int _
  | .str _, _, h => by cases h; exact .str _
  | .list _, _, h => by cases h
  | .tuple ds, _, h => by
    cases h with
    | tup h1 h2 => exact .tup h1 (Dts.dp ds _ h2)
  | .dict _, _, h => by cases h
theorem Dts.dp : ∀ (ds : List PyData) (vs : List V), Dts K H vs ds → DpAll K H vs ds
  | [], _, h => by cases h; exact .nil
  | d :: ds, _, h => by
    cases h with
    | cons h1 h2 => exact .cons (Dt.dp d _ h1) (Dts.dp ds _ h2)
end
theorem Dt.st {v : V} {d : PyData} (h : Dt K H v d) (e : Stay H H') : Dt K H' v d := Dt.stay e d v h
theorem Dt.p {v : V} {d : PyData} (h : Dt K H v d) : Dp K H v d := Dt.dp d v h
theorem dp_ints : ∀ ns : List Int, DpAll K H (ns.map V.int) (ns.map PyData.int)
  | [] => .nil
  | n :: ns => .cons (.int n) (dp_ints ns)
theorem dp_strs : ∀ ns : List Str, DpAll K H (ns.map V.str) (ns.map PyData.str)
  | [] => .nil
  | n :: ns => .cons (.str n) (dp_strs ns)
theorem eqv_nil : ∀ ds : List PyData, PyData.eqvAll ds [] = ds.isEmpty
  | [] => by simp [PyData.eqvAll]
  | _ :: _ => by simp [PyData.eqvAll]
end
/-! ### concepts -/
inductive C where
  | all | non | word (w : Str) | some (r : Str) (c : C) | and (a b : C)
def C.d : C → PyData
  | .all => .tuple [.str "all"]
  | .non => .tuple [.str "none"]
  | .word w => .tuple [.str "word", .str w]
  | .some r c => .tuple [.str "some", .str r, c.d]
  | .and a b => .tuple [.str "and", a.d, b.d]
abbrev Con (K : PySem.W.Frag) (H : Hp) (v : V) (c : C) : Prop := Dt K H v c.d
section
variable {K : PySem.W.Frag} {H H' : Hp} {v : V}
theorem con_all (h : Con K H v .all) : ∃ a, v = .ref a ∧ SqT K H a [.str "all"] := by
  cases h with
  | tup h1 h2 => cases h2 with
    | cons g1 g2 => cases g1; cases g2; exact ⟨_, rfl, h1⟩
theorem con_non (h : Con K H v .non) : ∃ a, v = .ref a ∧ SqT K H a [.str "none"] := by
  cases h with
  | tup h1 h2 => cases h2 with
    | cons g1 g2 => cases g1; cases g2; exact ⟨_, rfl, h1⟩
theorem con_word {x : Str} (h : Con K H v (.word x)) : ∃ a, v = .ref a ∧ SqT K H a [.str "word", .str x] := by
  cases h with
  | tup h1 h2 => cases h2 with
    | cons g1 g2 => cases g1; cases g2 with
      | cons g3 g4 => cases g3; cases g4; exact ⟨_, rfl, h1⟩
theorem con_some {r : Str} {c : C} (h : Con K H v (.some r c)) : ∃ a u, v = .ref a ∧ SqT K H a [.str "some", .str r, u] ∧ Con K H u c := by
  cases h with
  | tup h1 h2 => cases h2 with
    | cons g1 g2 => cases g1; cases g2 with
      | cons g3 g4 => cases g3; cases g4 with
        | cons g5 g6 => cases g6; exact ⟨_, _, rfl, h1, g5⟩
theorem con_and {a b : C} (h : Con K H v (.and a b)) : ∃ p u y, v = .ref p ∧ SqT K H p [.str "and", u, y] ∧ Con K H u a ∧ Con K H y b := by
  cases h with
  | tup h1 h2 => cases h2 with
    | cons g1 g2 => cases g1; cases g2 with
      | cons g3 g4 => cases g4 with
        | cons g5 g6 => cases g6; exact ⟨_, _, _, rfl, h1, g3, g5⟩
theorem con_ref {c : C} (h : Con K H v c) : ∃ a xs, v = .ref a ∧ SqT K H a xs := by
  cases c with
  | all => obtain ⟨a, e, h⟩ := con_all h; exact ⟨a, _, e, h⟩
  | non => obtain ⟨a, e, h⟩ := con_non h; exact ⟨a, _, e, h⟩
  | word x => obtain ⟨a, e, h⟩ := con_word h; exact ⟨a, _, e, h⟩
  | some r c => obtain ⟨a, u, e, h, _⟩ := con_some h; exact ⟨a, _, e, h⟩
  | and x y => obtain ⟨a, _, _, e, h, _⟩ := con_and h; exact ⟨a, _, e, h⟩
theorem mk_all {a : Addr} (h : SqT K H a [.str "all"]) : Con K H (.ref a) .all := .tup h (.cons (.str _) .nil)
theorem mk_non {a : Addr} (h : SqT K H a [.str "none"]) : Con K H (.ref a) .non := .tup h (.cons (.str _) .nil)
theorem mk_word {a : Addr} {x : Str} (h : SqT K H a [.str "word", .str x]) : Con K H (.ref a) (.word x) := .tup h (.cons (.str _) (.cons (.str _) .nil))
theorem mk_some {a : Addr} {r : Str} {u : V} {c : C} (h : SqT K H a [.str "some", .str r, u]) (hc : Con K H u c) : Con K H (.ref a) (.some r c) := .tup h (.cons (.str _) (.cons (.str _) (.cons hc .nil)))
theorem mk_and {a : Addr} {u y : V} {c e : C} (h : SqT K H a [.str "and", u, y]) (hc : Con K H u c) (he : Con K H y e) : Con K H (.ref a) (.and c e) := .tup h (.cons (.str _) (.cons hc (.cons he .nil)))
end
end Tl
set_option Elab.async false
set_option linter.all false
set_option maxRecDepth 100000
set_option maxHeartbeats 1000000
/-! comprehensions and loops over any walked thing of n turns -/
namespace Tl
open PySem PySem.Spec PyProof.Rows L2
theorem lc_it {J : It} {n : Nat} {g : TG} {tt : TT} {te : TE} {vs : List Nat} {σ : L2.St} {H1 : Hp} {D : Addr} {Qd : Hp → Prop} (Pv : Nat → Hp → Prop) (h0 : Pv 0 (upd H1 D (.lst [])))
    (hgo : ∀ i G, i < n → Pv i G → J.go i G) (hst : ∀ G, Pv n G → J.stop n G)
    (hs : ∀ i x G G1, i < n → Pv i G → J.yld i G x G1 → g x (wipe σ vs) G1 fun σ2 G2 => wipe σ2 vs = wipe σ vs ∧ tt σ2 G2 fun b G3 =>
      if b = true then te σ2 G3 fun y G4 => ∃ acc, G4 D = some (.lst acc) ∧ acc.length < sizeLine ∧ Pv (i + 1) (upd G4 D (.lst (acc ++ [y]))) else Pv (i + 1) G3) (hd : ∀ G, Pv n G → Qd G) :
    ∃ W : Nat → Nat → Hp → Prop, (∃ m, W 0 m (upd H1 D (.lst []))) ∧ ∀ i m G, W i m G →
      (J.stop i G ∧ Qd G) ∨ (J.go i G ∧ ∃ Nx : Hp → Prop, (∀ G', Nx G' → ∃ m', m' < m ∧ W (i + 1) m' G') ∧ ∀ x G', J.yld i G x G' → g x (wipe σ vs) G' fun σ2 G2 => wipe σ2 vs = wipe σ vs ∧ tt σ2 G2 fun b G3 =>
        if b = true then te σ2 G3 fun y G4 => ∃ acc, G4 D = some (.lst acc) ∧ acc.length < sizeLine ∧ Nx (upd G4 D (.lst (acc ++ [y]))) else Nx G3) := by
  refine ⟨fun i m G => m + i = n ∧ Pv i G, ⟨n, rfl, h0⟩, fun i m G ⟨e, p⟩ => ?_⟩
  cases m with
  | zero =>
    obtain rfl : i = n := by omega
    exact .inl ⟨hst G p, hd G p⟩
  | succ m => exact .inr ⟨hgo i G (by omega) p, Pv (i + 1), fun G' p' => ⟨m, Nat.lt_succ_self m, by omega, p'⟩, fun x G' y => hs i x G G' (by omega) p y⟩
theorem set_it {o0 : Addr → HO} {add : AddR} {J : It} {n : Nat} {g : TG} {tt : TT} {te : TE} {vs : List Nat} {σ : L2.St} {H1 : Hp} {D : Addr} {Qd : Hp → Prop} (Pv : Nat → Hp → Prop) (h0 : Pv 0 (upd H1 D (o0 D)))
    (hgo : ∀ i G, i < n → Pv i G → J.go i G) (hst : ∀ G, Pv n G → J.stop n G)
    (hs : ∀ i x G G1, i < n → Pv i G → J.yld i G x G1 → g x (wipe σ vs) G1 fun σ2 G2 => wipe σ2 vs = wipe σ vs ∧ tt σ2 G2 fun b G3 =>
      if b = true then te σ2 G3 fun y G4 => add (V.ref D) [y] G4 fun _ G5 => Pv (i + 1) G5 else Pv (i + 1) G3) (hd : ∀ G, Pv n G → Qd G) :
    ∃ W : Nat → Nat → Hp → Prop, (∃ m, W 0 m (upd H1 D (o0 D))) ∧ ∀ i m G, W i m G →
      (J.stop i G ∧ Qd G) ∨ (J.go i G ∧ ∃ Nx : Hp → Prop, (∀ G', Nx G' → ∃ m', m' < m ∧ W (i + 1) m' G') ∧ ∀ x G', J.yld i G x G' → g x (wipe σ vs) G' fun σ2 G2 => wipe σ2 vs = wipe σ vs ∧ tt σ2 G2 fun b G3 =>
        if b = true then te σ2 G3 fun y G4 => add (V.ref D) [y] G4 fun _ G5 => Nx G5 else Nx G3) := by
  refine ⟨fun i m G => m + i = n ∧ Pv i G, ⟨n, rfl, h0⟩, fun i m G ⟨e, p⟩ => ?_⟩
  cases m with
  | zero =>
    obtain rfl : i = n := by omega
    exact .inl ⟨hst G p, hd G p⟩
  | succ m => exact .inr ⟨hgo i G (by omega) p, Pv (i + 1), fun G' p' => ⟨m, Nat.lt_succ_self m, by omega, p'⟩, fun x G' y => hs i x G G' (by omega) p y⟩
theorem seq_off {K : PySem.W.Frag} {H H' : Hp} {a : Addr} {xs : List V} (k : ∀ o, H a = some o → H' a = some o) (h : SqL K H a xs) : SqL K H' a xs := by
  rcases h with (h | ⟨o, h⟩) | h
  · exact .inl (.inl (k _ h))
  · exact .inl (.inr ⟨o, k _ h⟩)
  · exact .inr h
theorem same_add {H H' : Hp} {p : Addr} {o : HO} (e : L2.Same H H') (h : H' p = none) : L2.Same H (upd H' p o) := fun b u k => by
  rw [upd_ne (ne_of_none (e _ _ k) h)]
  exact e _ _ k
/-- a thing that H did not know changes -/
theorem same_mut {H H' : Hp} {p : Addr} {o : HO} (e : L2.Same H H') (h : H p = none) : L2.Same H (upd H' p o) := fun b u k => by
  rw [upd_ne (ne_of_none k h)]
  exact e _ _ k
theorem same_up {H : Hp} {p : Addr} {o : HO} (h : H p = none) : L2.Same H (upd H p o) := same_add (L2.Same.refl H) h
theorem lst_of {K : PySem.W.Frag} {H : Hp} {a : Addr} {xs : List V} (h : H a = some (.lst xs)) : SqL K H a xs := .inl (.inl h)
section
variable {X : Cx} {K : PySem.W.Frag}
theorem op_inK (h : X.K = K) : OpR X (compareOp .In) (rIn K false) := by
  subst h
  exact op_in_seq
theorem op_notinK (h : X.K = K) : OpR X (compareOp .NotIn) (rIn K true) := by
  subst h
  exact op_notIn_seq
theorem pg_tupK {es : List Expr} {k : Nat} {pos : Pos} {t : TGs} {n : Nat} (hK : X.K = K) (hc : X.calm = true) (h : PGs X es t)
    (hn : (assignEach es X.env).length = n := by rfl) (hst : (assignEach es X.env).findIdx? (·.1) = none := by rfl) : PG X (.Tuple es k pos) (gTup K n t) := by
  subst hK
  exact pg_tup hc h hn hst
end
end Tl
set_option Elab.async false
set_option linter.all false
set_option maxRecDepth 100000
set_option maxHeartbeats 1000000
/-! a call with keywords alone -/
namespace Tl
open PySem PySem.Spec PyProof.Rows L2
open C8 (Cal)
section
variable {X : Cx} {CX : CXT} {k : Nat} {f : Addr} {fd : FuncData} {ps ks : List Str} {sp : Sp} {E : XK} {x : Str} {p pos : Pos} {kws : List Keyword} {tk : TA} {g : List Value → List Value → List Value} {gV : List V → List V → List V}
theorem pe_callKw (F : FnOk X.prog X.w X.K X.mg X.base CX k f fd ps sp) (hr : Room k X.A) (hg : Gl X x) (hm : X.mg x = some (.ref f)) (hk : PySem.W.keepIn X.K (.ref f) = true) (hb : KBinds X.K fd ps ks g gV) (hx : Passes CX X E)
    (hkw : PK X kws tk) (hall : (backToKw pos (keywordEach kws X.env)).all (·.1.isSome) = true) (hks : (backToKw pos (keywordEach kws X.env)).filterMap (·.1) = ks)
    (hdb : (x == ("__debug__" : Str)) = false)
    (hpl : ((backTo pos (starEach [] X.env)).any (·.1) || (backToKw pos (keywordEach kws X.env)).any (·.1.isNone)) = false) :
    PE X (.Call (.Name x p) [] kws pos) (tCallK sp gV E tNil tk) := by
  refine ⟨fun pins s σ H Q I h => ?_⟩
  refine wpAny_Call_Name_kw (ld_glob I hg hm ?_ hdb)
  refine PySem.W.callWith_KW0 (h₀ := X.base) I.ok.mod.kin hk hall (thn (hkw.run pos pins s σ H _ I h) fun ws s2 ⟨zs, H2, I2, rz, q2⟩ => ⟨I2.kIn, ?_⟩) hpl
  rw [hks]
  exact run_fnk F hr hb hx I2 .nil rz q2
end
/-- a def with its text: it may be called with keywords too -/
structure CalF (P : Program) (w : World) (K : PySem.W.Frag) (mg : Str → Option Value) (base : Heap) (k : Nat) (x : Str) (st : Stmt) (ps : List Str) (sp : Sp) : Prop where
  ex : ∃ (f : Addr) (fd : FuncData), FnOk P w K mg base CX0 k f fd ps sp ∧ mg x = some (.ref f) ∧ L2.Fun K x x st f fd
section
variable {P : Program} {w : World} {K : PySem.W.Frag} {mg : Str → Option Value} {base : Heap}
theorem calF_of {x : Str} {st : Stmt} {N ps : List Str} {k : Nat} {sp : Sp} (D : DefAt K mg x st) (S : FnScope N ps (defScope st)) (len : ∀ vs H Q E, sp vs H Q E → vs.length = ps.length)
    (body : ∀ (f : Addr) (cdv : Value) (A : Around) (outer : List Env) (s : Shared) (H : Hp) (vs : List V) (Q : VK) (E : XK), Room k (A.deeper (envOfC x (defScope st) s.heap.objs.size f cdv)) → sp vs H Q E →
      ∃ t, PSs (cxOf CX0 P w K mg base N x (defScope st) f cdv A outer s H E).nox (defBody st) t ∧ t { nx := fun _ H' => Q .non H', rt := Q } (start N vs) H) : CalF P w K mg base (k + 1) x st ps sp := by
  obtain ⟨f, fd, F, hm⟩ := D.ex
  exact ⟨f, fd, F.ok S len (fun cdv A outer s H vs Q E hr h => body f cdv A outer s H vs Q E hr h), hm, F⟩
theorem CalF.cal {x : Str} {st : Stmt} {ps : List Str} {k : Nat} {sp : Sp} (c : CalF P w K mg base k x st ps sp) (hb : BindH x st ps) : Cal P w K mg base k x sp [] := by
  obtain ⟨f, fd, F, hm, G⟩ := c.ex
  exact ⟨f, fd, ps, [], F, hm, G.kp, G.binds hb, .nil⟩
abbrev KBindH (x : Str) (st : Stmt) (ps ks : List Str) (g : List Value → List Value → List Value) : Prop := ∀ (kV doc pm : Value) (an : Option Addr) (cdv ct : Value) (us ws : List Value), (g us ws).length = ps.length →
  bindArgs (PySem.W.fnOf x x (defArgs st) (defBody st) (defScope st) .none kV doc pm an cdv ct) ⟨us, ks.zip ws⟩ = pure (ps.zip (g us ws))
theorem kbinds {x : Str} {st : Stmt} {ps ks : List Str} {f : Addr} {fd : FuncData} {g : List Value → List Value → List Value} {gV : List V → List V → List V} (F : L2.Fun K x x st f fd) (hb : KBindH x st ps ks g)
    (rel : ∀ {vs : List V} {us : List Value} {zs : List V} {ws : List Value}, Vals vs us → Vals zs ws → Vals (gV vs zs) (g us ws)) : KBinds K fd ps ks g gV := by
  obtain ⟨oc, od, kV, doc, pm, an, cdv, ct, osl, rfl, lk, hcd⟩ := F.ex
  exact ⟨fun s us ws _ hl => .of_eq (hb kV doc pm an cdv ct us ws hl), rel⟩
end
section
variable {X : Cx} {k j : Nat} {ps ks : List Str} {sp : Sp} {x : Str} {st : Stmt} {p pos : Pos} {kws : List Keyword} {tk : TA} {g : List Value → List Value → List Value} {gV : List V → List V → List V}
theorem pe_ck (c : CalF X.prog X.w X.K X.mg X.base k x st ps sp) (hr : Room j X.A) (hk : k ≤ j) (hg : Gl X x) (hb : KBindH x st ps ks g)
    (rel : ∀ {vs : List V} {us : List Value} {zs : List V} {ws : List Value}, Vals vs us → Vals zs ws → Vals (gV vs zs) (g us ws))
    (hkw : PK X kws tk) (hall : (backToKw pos (keywordEach kws X.env)).all (·.1.isSome) = true := by rfl) (hks : (backToKw pos (keywordEach kws X.env)).filterMap (·.1) = ks := by rfl)
    (hdb : (x == ("__debug__" : Str)) = false := by decide)
    (hpl : ((backTo pos (starEach [] X.env)).any (·.1) || (backToKw pos (keywordEach kws X.env)).any (·.1.isNone)) = false := by rfl) :
    PE X (.Call (.Name x p) [] kws pos) (tCallK sp gV C8.E0 tNil tk) := by
  obtain ⟨f, fd, F, hm, G⟩ := c.ex
  exact pe_callKw F (hr.mono hk) hg hm G.kp (kbinds G hb rel) C8.pass0 hkw hall hks hdb hpl
end
end Tl
set_option Elab.async false
set_option linter.all false
set_option maxRecDepth 100000
set_option maxHeartbeats 1000000
/-! classes of the text: methods, making, a def read off a class -/
namespace Tl
open PySem PySem.Spec PyProof.Rows L2
open C8 (Cal Met Mak)
structure MAt (K : PySem.W.Frag) (C : Addr) (m qual : Str) (st : Stmt) : Prop where
  ex : ∃ (f : Addr) (fd : FuncData), L2.Fun K m qual st f fd ∧ Meth K C m f
  cls : Cls K C
structure KAt (K : PySem.W.Frag) (mg : Str → Option Value) (x qual : Str) (C : Addr) (st : Stmt) : Prop where
  ex : ∃ (f : Addr) (fd : FuncData), L2.Fun K "__init__" qual st f fd ∧ Mk K C f
  mgC : mg x = some (.ref C)
structure RAt (K : PySem.W.Frag) (mg : Str → Option Value) (x m qual : Str) (C : Addr) (st : Stmt) : Prop where
  ex : ∃ (f : Addr) (fd : FuncData) (mc : Value), L2.Fun K m qual st f fd ∧ ClX.CRead K C mc ∧ ClX.CVal K C mc m (.ref f) (.ref f)
  mgC : mg x = some (.ref C)
abbrev BindM (m qual : Str) (st : Stmt) (ps : List Str) : Prop := ∀ (kV doc pm : Value) (an : Option Addr) (cdv ct : Value) (us : List Value), us.length = ps.length →
  bindArgs (PySem.W.fnOf m qual (defArgs st) (defBody st) (defScope st) .none kV doc pm an cdv ct) ⟨us, []⟩ = pure (ps.zip us)
structure Rcl (P : Program) (w : World) (K : PySem.W.Frag) (mg : Str → Option Value) (base : Heap) (k : Nat) (x m : Str) (C : Addr) (sp : Sp) : Prop where
  ex : ∃ (f : Addr) (fd : FuncData) (ps : List Str) (mc : Value), FnOk P w K mg base CX0 k f fd ps sp ∧ ClX.CRead K C mc ∧ ClX.CVal K C mc m (.ref f) (.ref f) ∧ PySem.W.keepIn K (.ref f) = true ∧ Binds K fd ps [] ∧ mg x = some (.ref C)
section
variable {P : Program} {w : World} {K : PySem.W.Frag} {mg : Str → Option Value} {base : Heap} {C : Addr}
theorem met_of {m qual : Str} {st : Stmt} {N ps : List Str} {k : Nat} {sp : Sp} (D : MAt K C m qual st) (S : FnScope N ps (defScope st)) (hb : BindM m qual st ps) (len : ∀ vs H Q E, sp vs H Q E → vs.length = ps.length)
    (body : ∀ (f : Addr) (cdv : Value) (A : Around) (outer : List Env) (s : Shared) (H : Hp) (vs : List V) (Q : VK) (E : XK), Room k (A.deeper (envOfC qual (defScope st) s.heap.objs.size f cdv)) → sp vs H Q E →
      ∃ t, PSs (cxOf CX0 P w K mg base N qual (defScope st) f cdv A outer s H E).nox (defBody st) t ∧ t { nx := fun _ H' => Q .non H', rt := Q } (start N vs) H) : Met P w K mg base (k + 1) C m sp [] := by
  obtain ⟨f, fd, F, hm⟩ := D.ex
  exact ⟨f, fd, ps, [], D.cls, hm, F.ok S len (fun cdv A outer s H vs Q E hr h => body f cdv A outer s H vs Q E hr h), F.binds hb, .nil⟩
theorem mak_of {x qual : Str} {st : Stmt} {N ps : List Str} {k : Nat} {sp : Sp} (D : KAt K mg x qual C st) (S : FnScope N ps (defScope st)) (hb : BindM "__init__" qual st ps) (len : ∀ vs H Q E, sp vs H Q E → vs.length = ps.length)
    (body : ∀ (f : Addr) (cdv : Value) (A : Around) (outer : List Env) (s : Shared) (H : Hp) (vs : List V) (Q : VK) (E : XK), Room k (A.deeper (envOfC qual (defScope st) s.heap.objs.size f cdv)) → sp vs H Q E →
      ∃ t, PSs (cxOf CX0 P w K mg base N qual (defScope st) f cdv A outer s H E).nox (defBody st) t ∧ t { nx := fun _ H' => Q .non H', rt := Q } (start N vs) H) : Mak P w K mg base (k + 1) x C sp [] := by
  obtain ⟨f, fd, F, hm⟩ := D.ex
  exact ⟨f, fd, ps, [], hm, F.ok S len (fun cdv A outer s H vs Q E hr h => body f cdv A outer s H vs Q E hr h), D.mgC, F.binds hb, .nil⟩
theorem rcl_of {x m qual : Str} {st : Stmt} {N ps : List Str} {k : Nat} {sp : Sp} (D : RAt K mg x m qual C st) (S : FnScope N ps (defScope st)) (hb : BindM m qual st ps) (len : ∀ vs H Q E, sp vs H Q E → vs.length = ps.length)
    (body : ∀ (f : Addr) (cdv : Value) (A : Around) (outer : List Env) (s : Shared) (H : Hp) (vs : List V) (Q : VK) (E : XK), Room k (A.deeper (envOfC qual (defScope st) s.heap.objs.size f cdv)) → sp vs H Q E →
      ∃ t, PSs (cxOf CX0 P w K mg base N qual (defScope st) f cdv A outer s H E).nox (defBody st) t ∧ t { nx := fun _ H' => Q .non H', rt := Q } (start N vs) H) : Rcl P w K mg base (k + 1) x m C sp := by
  obtain ⟨f, fd, mc, F, hr, hc⟩ := D.ex
  exact ⟨f, fd, ps, mc, F.ok S len (fun cdv A outer s H vs Q E hr h => body f cdv A outer s H vs Q E hr h), hr, hc, F.kp, F.binds hb, D.mgC⟩
end
/-- C.m(e, ..), m a plain def of the class at C -/
def tRcl (sp : Sp) (t : TA) : TE := fun σ H Q => t σ H fun vs H2 => sp vs H2 Q C8.E0
section
variable {X : Cx} {k j : Nat} {C : Addr} {sp : Sp} {e : Expr} {es : List Expr} {x m : Str} {p pos apos : Pos} {t : TA} {pl : Sem Bool}
theorem pe_rc (c : Rcl X.prog X.w X.K X.mg X.base k x m C sp) (hr : Room j X.A) (hk : k ≤ j) (hg : Gl X x) (ha : PA X (e :: es) t) (hd : (x == ("__debug__" : Str)) = false := by decide)
    (hst : starEach (e :: es) X.env = (false, eval e X.env) :: starEach es X.env := by rfl) (hpl : (backTo pos (starEach es X.env)).any (·.1) = false := by rfl)
    (ht : eval (.Call (.Attribute (.Name x p) m apos) (e :: es) [] pos) X.env = (do
      let ov ← eval (.Name x p) X.env
      standAt apos.atName
      let (f, first) ← holding [ov] (getMethod ov m pl)
      callWith pos f first (backTo pos (starEach (e :: es) X.env)) (backToKw pos (keywordEach [] X.env))) := by rfl) :
    PE X (.Call (.Attribute (.Name x p) m apos) (e :: es) [] pos) (tRcl sp t) := by
  obtain ⟨f, fd, ps, mc, F, r, cv, kp, b, hm⟩ := c.ex
  have he : PE X (.Name x p) (tC (.ref C)) := pe_glob (v := V.ref C) hg hm rfl hd
  refine ⟨fun pins s σ H Q I h => ?_⟩
  refine PySem.W.methodCall_KW (pl := pl) (thn (he.run pins s σ H (fun v H1 => v = .ref C ∧ t σ H1 fun vs H2 => sp vs H2 Q C8.E0) I ⟨rfl, h⟩) fun u s1 ⟨x, H1, I1, rx, ex, q⟩ => ?_) ht
  subst ex
  obtain rfl : u = Value.ref C := rx
  refine PySem.W.method_cls I1.kIn r.ga (ClX.getcval_ok I1 r cv fun s2 I2 => ?_)
  refine PySem.W.callWith_K (first := []) (h₀ := X.base) I2.ok.mod.kin kp (thn (ha.run pos pins s2 σ H1 _ I2 q) fun us s3 ⟨vs, H2, I3, rv, q2⟩ => ⟨I3.kIn, ?_⟩) hst hpl
  have q3 : sp (vs ++ []) H2 Q C8.E0 := by
    rw [List.append_nil]
    exact q2
  exact run_fn (us := us) (vs := vs) (dvs := []) (E := C8.E0) F (hr.mono hk) b .nil C8.pass0 I3 rv q3
end
end Tl
set_option Elab.async false
set_option linter.all false
set_option maxRecDepth 100000
set_option maxHeartbeats 2000000
/-! enumerate(t), t a tuple; min of a list of ints -/
namespace Tl
open PySem PySem.Spec PyProof.Rows L2
section
variable {prog : Program} {w : World} {A : Around} {E : Value → Shared → Prop} {s : Shared}
theorem nextTup {it t : Addr} {i : Nat} {its : Array Value} {x : Value} {Q : Value → Shared → Prop} (a : s.heap.IsTupleIter it t i) (b : s.heap.IsTuple t its) (hx : its[i]? = some x)
    (q : ∀ h', h'.IsTupleIter it t (i + 1) → Heap.SameBut it s.heap h' → Q x { s with heap := h' }) : wpAny (model prog w) A (Builtin.SmallTypes.nextOf (.ref it)) Q E s := by
  obtain ⟨o, ho, hc, hd⟩ := id a; obtain ⟨o2, ho2, _, n2, hd2⟩ := b
  unfold Builtin.SmallTypes.nextOf
  refine wpAny_bind (wpAny_callSpecial?_slot (name := Str.ofString "__next__") a.typeIs F.slot_tuple_iterator_next (wpAny_call_entry F.slot_tuple_iterator_next a.typeIs F.entry_tuple_iterator_next ?_ (F.args_tuple_iterator_next_1 _)))
  show wpAny _ _ (field (.ref it) 0 >>= _) _ _ s; refine wpAny_bind (wpAny_field ho hd (x := .ref t) rfl ?_)
  show wpAny _ _ (if (Value.ref t == Value.none) = true then _ else _) _ _ s; rw [if_neg (show ¬ ((Value.ref t == Value.none) = true) from Bool.false_ne_true)]
  show wpAny _ _ (field (.ref it) 1 >>= _) _ _ s; refine wpAny_bind (wpAny_field ho hd (x := .int i 0) rfl ?_)
  show wpAny _ _ (seqItems? (.ref t) >>= _) _ _ s; refine wpAny_bind (wpAny_seqItems ho2 hd2 ?_)
  simp only [Int.toNat_natCast, hx]
  refine wpAny_bind (wpAny_setField ho hd (by simp) (wpAny_pure ⟨x, rfl, wpAny_pure (q _ ?_ (Heap.SameBut.update ..))⟩))
  exact ⟨_, Heap.get?_update_self _ ho (Obj.isFreed_of_fields (Obj.data_mapFields hd _)), (Obj.cls_mapFields ..).trans hc, by rw [Obj.data_mapFields hd]; simp [rawInt]⟩
theorem nextTupEnd {it t : Addr} {i : Nat} {its : Array Value} {Q : Value → Shared → Prop} (hh : A.handled = none) (a : s.heap.IsTupleIter it t i) (b : s.heap.IsTuple t its) (hx : its[i]? = none)
    (q : ∀ h' e, Heap.ExtBut it s.heap h' → (∃ o, h'.get? e = some o ∧ o.cls = .type "StopIteration") → E (.ref e) { s with heap := h' }) : wpAny (model prog w) A (Builtin.SmallTypes.nextOf (.ref it)) Q E s := by
  obtain ⟨o, ho, hc, hd⟩ := id a; obtain ⟨o2, ho2, _, n2, hd2⟩ := b
  unfold Builtin.SmallTypes.nextOf
  refine wpAny_bind (wpAny_callSpecial?_slot (name := Str.ofString "__next__") a.typeIs F.slot_tuple_iterator_next (wpAny_call_entry F.slot_tuple_iterator_next a.typeIs F.entry_tuple_iterator_next ?_ (F.args_tuple_iterator_next_1 _)))
  show wpAny _ _ (field (.ref it) 0 >>= _) _ _ s; refine wpAny_bind (wpAny_field ho hd (x := .ref t) rfl ?_)
  show wpAny _ _ (if (Value.ref t == Value.none) = true then _ else _) _ _ s; rw [if_neg (show ¬ ((Value.ref t == Value.none) = true) from Bool.false_ne_true)]
  show wpAny _ _ (field (.ref it) 1 >>= _) _ _ s; refine wpAny_bind (wpAny_field ho hd (x := .int i 0) rfl ?_)
  show wpAny _ _ (seqItems? (.ref t) >>= _) _ _ s; refine wpAny_bind (wpAny_seqItems ho2 hd2 ?_)
  simp only [Int.toNat_natCast, hx]; refine wpAny_bind (wpAny_rule (wpAny_bind (wpAny_setField ho hd (by simp) ?_)))
  show wpAny _ _ (newExc (.type "StopIteration") [] >>= _) _ _ _; refine wpAny_bind ?_
  simp only [newExc, newTuple]; refine wpAny_bind (wpAny_newObj_type ?_ (by size_fits))
  refine wpAny_bind (m := firstArgMember _ _) (wpAny_of_eq (a := Value.none) (by first | rfl | (simp only [firstArgMember]; rfl)) ?_); refine wpAny_newObj_type ?_ (by size_fits)
  simp only [raiseNew]; refine wpAny_bind (wpAny_handled ?_)
  first | rw [show A.in1.handled = none from hh] | rw [hh]
  refine wpAny_bind (wpAny_pure (wpAny_throw ?_)); exact q _ _ (((Heap.SameBut.update ..).extBut.push _).push _) ⟨_, Heap.get?_push_size _ rfl, rfl⟩
end
theorem drawsTup {prog : Program} {w : World} {A : Around} (hh : A.handled = none) (it t : Addr) (hne : t ≠ it) (its : Array Value) :
    Draws prog w A it [it, t] its.size (fun i v => its[i]? = some v) (fun i h => h.IsTupleIter it t i ∧ h.IsTuple t its) where
  live := fun _ _ ⟨⟨o, ho, _⟩, _⟩ => ⟨o, ho⟩
  frame := fun i h h' st hk => by
    obtain ⟨⟨o, ho, h1⟩, ⟨o2, ho2, h2⟩⟩ := st
    exact ⟨⟨o, hk it (by simp) o ho, h1⟩, ⟨o2, hk t (by simp) o2 ho2, h2⟩⟩
  item := fun i s Q E hi st hQ => by
    refine nextTup st.1 st.2 (x := its[i]) (by simp [hi]) fun h' hit' hs' => ?_
    obtain ⟨o2, ho2, h2⟩ := st.2
    exact hQ _ h' s.toks (by simp [hi]) ⟨hit', ⟨o2, hs'.extBut t o2 hne ho2, h2⟩⟩ hs'
  done := fun s Q E st hE => nextTupEnd hh st.1 st.2 (by simp) hE
theorem meets_enumTup (t : Addr) (its : Array Value) (n : Nat) (dct : Option Addr) (sl : Array (Option Value)) :
    Meets (Builtin.«enumerate.__new__» ⟨[.type "enumerate", .ref t], []⟩) (fun _ R s => s.heap.get? t = some { cls := .type "tuple", dict := dct, data := .seq its n, slots := sl } ∧
      R (.ok (.ret (.ref (s.heap.push { cls := .type "tuple_iterator", data := .fields #[.ref t, .int 0 0] }).objs.size)))
        { s with heap := (s.heap.push { cls := .type "tuple_iterator", data := .fields #[.ref t, .int 0 0] }).push { cls := .type "enumerate", data := .fields #[.none, .bool false, .ref s.heap.objs.size, rawInt 0, .none, .none] } }) :=
  .of_wp fun prog w A R s h => by
    obtain ⟨hp, g, d, tk, os⟩ := s; obtain ⟨hl, h⟩ := h
    have e0 := sub_enumerate; have hT : Heap.IsTuple (Shared.heap ⟨hp, g, d, tk, os⟩) t its := ⟨_, hl, rfl, n, rfl⟩
    wp_walk using wpAny_loadPart' hl
    refine wpAny_stack_any fun st => wpAny_pure ?_
    split
    · rename_i c _ _ _ _ _
      cases (c == Value.type "enumerate")
      · wp_walk using wpAny_loadPart' hl, wpAny_pyIter_tuple hT
        exact ⟨_, rfl, h⟩
      · wp_walk using wpAny_loadPart' hl, wpAny_pyIter_tuple hT
        exact ⟨_, rfl, h⟩
    · wp_walk using wpAny_loadPart' hl, wpAny_pyIter_tuple hT
      exact ⟨_, rfl, h⟩
section
variable {prog : Program} {w : World} {A : Around} {E : Value → Shared → Prop} {s : Shared}
theorem call_enumTup {t : Addr} {its : Array Value} {Q : Value → Shared → Prop} (hT : s.heap.IsTuple t its)
    (h : ∀ h', IsEnum h' (s.heap.objs.size + 1) s.heap.objs.size 0 .none → h'.IsTupleIter s.heap.objs.size t 0 → (∀ b o, s.heap.get? b = some o → h'.get? b = some o) → Q (.ref (s.heap.objs.size + 1)) { s with heap := h' }) :
    wpAny (model prog w) A (call (.type "enumerate") [.ref t]) Q E s := by
  obtain ⟨⟨c, dct, dt, sl⟩, hl, hc, n, hd⟩ := hT
  obtain rfl : c = .type "tuple" := hc
  obtain rfl : dt = .seq its n := hd
  refine callType_new F.called_enumerate (by decide) (F.typeCall_enumerate_1 _) (F.newCall_enumerate_1 _) (fun obj => F.args_object_init_2 obj _) F.entry_enumerate_new (meets_enumTup t its n dct sl) ⟨hl, ?_⟩
  have z1 : (s.heap.push { cls := .type "tuple_iterator", data := .fields #[.ref t, .int 0 0] }).objs.size = s.heap.objs.size + 1 := Heap.size_push ..
  show _ ∧ _; rw [z1]
  have he := Heap.get?_push_size (s.heap.push { cls := .type "tuple_iterator", data := .fields #[.ref t, .int 0 0] }) (o := { cls := .type "enumerate", data := .fields #[.none, .bool false, .ref s.heap.objs.size, rawInt 0, .none, .none] }) rfl
  rw [z1] at he
  exact ⟨⟨_, he, rfl⟩, h _ he ⟨_, Heap.get?_push_of_some _ (Heap.get?_push_size _ rfl), rfl, rfl⟩ fun b o x => Heap.get?_push_of_some _ (Heap.get?_push_of_some _ x)⟩
end
section
variable {prog : Program} {w : World} {A : Around} {E : Value → Shared → Prop} {s : Shared}
theorem enumTupEnd {e it t : Addr} {i : Nat} {its : Array Value} {j : Int} {old : Value} {Q : Option Value → Shared → Prop} (hh : A.in1.handled = none) (he : IsEnum s.heap e it j old) (a : s.heap.IsTupleIter it t i) (b : s.heap.IsTuple t its) (hx : its[i]? = none)
    (hQ : ∀ h', Heap.ExtBut it s.heap h' → Q none { s with heap := h' }) : wpAny (model prog w) A (pyNext (.ref e)) Q E s := by
  have hT : s.TypeIs (.ref e) "enumerate" := ⟨_, he, rfl⟩; unfold pyNext
  refine wpAny_bind (wpAny_attempt (wpAny_callSpecial?_slot (name := Str.ofString "__next__") hT F.slot_enumerate_next (wpAny_call_entry F.slot_enumerate_next hT F.entry_enumerate_next ?_ (F.args_enumerate_next_1 _))))
  show wpAny _ _ (field (.ref e) 2 >>= _) _ _ _; refine wpAny_bind (wpAny_field he rfl (x := .ref it) rfl ?_)
  refine wpAny_bind (nextTupEnd hh a b hx fun h' x he' hx' => ?_); obtain ⟨o, ho, hc⟩ := hx'
  refine wpAny_bind (wpAny_isInstance (T := "StopIteration") (b := true) ⟨o, ho, hc⟩ isSubtype_stop ?_); exact wpAny_pure (hQ _ he')
end
/-- the tuple at a, each item in a new pair -/
def IteT (K : PySem.W.Frag) (a : Addr) : It :=
  ⟨fun i H => ∃ (xs : List V) (x : V), SqT K H a xs ∧ xs[i]? = some x, fun i H v H' => ∃ T x, v = .ref T ∧ H T = none ∧ H' = upd H T (.tup [.int (i : Nat), x]) ∧ ∀ xs, SqT K H a xs → xs[i]? = some x, fun i H => ∃ xs : List V, SqT K H a xs ∧ xs.length ≤ i⟩
theorem iter_apart {h : Heap} {it t : Addr} {i : Nat} {its : Array Value} (a : h.IsTupleIter it t i) (b : h.IsTuple t its) : t ≠ it := fun z => by
  subst z
  obtain ⟨o, ho, hc, _⟩ := a
  obtain ⟨o2, ho2, hc2, _⟩ := b
  cases ho.symm.trans ho2
  exact absurd (Value.type.inj (hc.symm.trans hc2)) (by decide)
theorem turn_enumT {P : Program} {w : World} {K : PySem.W.Frag} {elts : List Expr} {kk : Nat} {tpos : Pos} (a e it : Addr) :
    Turn P w K (.Tuple elts kk tpos) (IteT K a) [e, it] e (fun i h => (∃ old, IsEnum h e it ((i : Nat) : Int) old) ∧ h.IsTupleIter it a i ∧ e ≠ it) where
  mem := by simp
  obj := fun i h st b hb => by
    obtain ⟨⟨old, he⟩, ⟨o, ho, hc, hd⟩, _⟩ := st
    rcases (show b = e ∨ b = it by simpa using hb) with rfl | rfl
    · exact ⟨_, he, fun v q => nomatch q⟩
    · exact ⟨o, ho, fun v q => by rw [hd] at q; cases q⟩
  keep := fun i h h' ⟨⟨old, he⟩, ⟨o, ho, r⟩, hne⟩ k => ⟨⟨old, k e (by simp) _ he⟩, ⟨o, k it (by simp) o ho, r⟩, hne⟩
  item := by
    intro X hP hw hK hc i pins s σ H E I hf st hg; subst hP hw hK
    obtain ⟨⟨old, he⟩, hit, hne⟩ := st; obtain ⟨xs, x, hq, hx⟩ := hg
    obtain ⟨its, rv, p, hz⟩ := I.tuple hq; obtain ⟨u, hu, ru⟩ := rv.get hx
    have p : s.heap.IsTuple a its.toArray := p
    have ap := iter_apart hit p
    have hel : e < s.heap.objs.size := Heap.lt_size he
    have hil : it < s.heap.objs.size := by obtain ⟨_, q, _⟩ := hit; exact Heap.lt_size q
    have li : i < its.length := (List.getElem?_eq_some_iff.mp hu).1
    have ea : e ≠ a := fun z => by
      subst z; obtain ⟨o2, ho2, hc2, _⟩ := p
      cases he.symm.trans ho2; exact absurd (Value.type.inj hc2) (by decide)
    refine wpAny_pyNext_enum_itemD (drawsTup (prog := X.prog) (w := X.w) (A := X.A.in1) (I.ok.hd hc) it a ap its.toArray) he ⟨hit, p⟩ (by simpa using li) hne (by simp [hne, ea]) fun v h' tk hv ho st' hT hsz hk => ?_
    have hv : its[i]? = some v := by simpa using hv
    obtain rfl : u = v := Option.some.inj (hu.symm.trans hv)
    refine ⟨_, rfl, wpAny_letOwnedTupleGo_enum (s := { s with heap := h', toks := tk + 1 }) ho fun h'' he' sb => ?_⟩
    have hT2 : h''.get? s.heap.objs.size = some { cls := .type "tuple", data := .seq #[.int i tk, u] } := (sb.2 _ (Nat.ne_of_gt hel)).trans hT
    have new : ObjOk X.prog X.w (upd H s.heap.objs.size (.tup [.int (i : Nat), x])) h'' s.heap.objs.size (.tup [.int (i : Nat), x]) := ⟨by show 2 ≤ sizeLine; decide, [.int i tk, u], .cons ⟨_, rfl⟩ (.cons ru .nil), ⟨_, hT2, rfl, _, rfl⟩⟩
    have I1 : Inv X pins σ (upd H s.heap.objs.size (.tup [.int (i : Nat), x])) { s with heap := h'', toks := tk + 1 } :=
      I.turnedNew (ch := [e, it]) (fun b ob hb q => (sb.2 b (fun z => hb (by simp [z]))).trans (hk b ob (fun z => hb (by simp [z])) (fun z => hb (by simp [z])) q)) hf (Nat.le_refl _) new
    refine ⟨.ref s.heap.objs.size, _, I1, rfl, ⟨_, x, rfl, I.hok.fresh (Nat.le_refl _), rfl, fun ys hy => ?_⟩, ⟨⟨u, ?_⟩, ?_, hne⟩, fun b hb => ?_⟩
    · rw [I.tuple_inj hy hq]; exact hx
    · rw [show ((i + 1 : Nat) : Int) = (i : Int) + 1 by omega]; exact he'
    · obtain ⟨⟨o, ho, r⟩, _⟩ := st'
      exact ⟨o, (sb.2 it (Ne.symm hne)).trans ho, r⟩
    · have hb' : b < s.heap.objs.size := by
        rcases (show b = e ∨ b = it by simpa using hb) with rfl | rfl
        · exact hel
        · exact hil
      rw [upd_ne (Nat.ne_of_lt hb')]; exact (hf b hb).1
  done := by
    intro X hP hw hK hc i pins s σ H E I hf st hg; subst hP hw hK
    obtain ⟨⟨old, he⟩, hit, hne⟩ := st; obtain ⟨xs, hq, hx⟩ := hg
    obtain ⟨its, rv, p, hz⟩ := I.tuple hq
    have p : s.heap.IsTuple a its.toArray := p
    have ap := iter_apart hit p
    have hl := rv.length
    obtain ⟨f0, f1, f2, f3, f4, f5⟩ := hf it (by simp)
    have en : its.toArray[i]? = none := by simp; omega
    exact enumTupEnd (show X.A.in1.handled = none from I.ok.hd hc) he hit p en fun h' eb => ⟨rfl, I.turned (t' := s.toks) (fun b o hb q => eb b o hb q) f0 f1 f3 f4 f5⟩
  self := fun A i s Q E st h => let ⟨⟨_, he⟩, _⟩ := st; wpAny_pyIter_enum he h
def iEnumT (K : PySem.W.Frag) (ta : TA) : TI := fun σ H R => ta σ H fun vs H1 => ∃ a xs, vs = [.ref a] ∧ SqT K H1 a xs ∧ R (IteT K a) H1
theorem pi_enumT {X : Cx} {K : PySem.W.Frag} {e : Expr} {ta : TA} {p pos tpos : Pos} {elts : List Expr} {kk : Nat} (hK : X.K = K) (hg : Gl X "enumerate") (hm : X.mg "enumerate" = none) (ha : PA X [e] ta) (hs : starEach [e] X.env = [(false, eval e X.env)] := by rfl) :
    PI X (.Tuple elts kk tpos) (.Call (.Name "enumerate" p) [e] [] pos) (iEnumT K ta) := by
  subst hK
  refine ⟨fun pins s σ H R I h => Call_ (ld_blt I hg hm boot_enumerate (PyProof.Rows.callWith_type1 (thn (ha.run pos pins s σ H _ I h) fun us s1 ⟨vs, H1, I1, r1, q1⟩ => ?_) hs rfl))⟩
  obtain ⟨a, xs, rfl, hq, q⟩ := q1
  obtain ⟨u, rfl, ru⟩ := r1.one
  obtain rfl : u = Value.ref a := ru
  obtain ⟨its, rv, p', hz⟩ := I1.tuple hq
  refine call_enumTup (its := its.toArray) p' fun h' he hit hk => wpAny_pyIter_enum he ⟨s1.heap.objs.size + 1, [s1.heap.objs.size + 1, s1.heap.objs.size], _, _, H1, rfl, I1.kept (t' := s1.toks) hk, turn_enumT a (s1.heap.objs.size + 1) s1.heap.objs.size, ⟨⟨.none, he⟩, hit, Nat.succ_ne_self _⟩, fun b hb => ?_, q⟩
  have hle : s1.heap.objs.size ≤ b := by
    rcases (show b = s1.heap.objs.size + 1 ∨ b = s1.heap.objs.size by simpa using hb) with rfl | rfl
    · exact Nat.le_succ _
    · exact Nat.le_refl _
  exact I1.fpOk hle (I1.hok.fresh hle)
/-- a loop over the places and the items of a tuple -/
theorem for_enumT {K : PySem.W.Frag} {a : Addr} {xs : List V} {g : TG} {tb : TS} {D : Ends} {σ : L2.St} {H : Hp} (Pv : Nat → L2.St → Hp → Prop) (h0 : Pv 0 σ H) (hl : ∀ i σ H, i ≤ xs.length → Pv i σ H → SqT K H a xs)
    (hs : ∀ i x σ H T, xs[i]? = some x → Pv i σ H → H T = none → g (.ref T) σ (upd H T (.tup [.int (i : Nat), x])) fun σ2 H2 => tb { D with nx := Pv (i + 1), ct := Pv (i + 1), bk := D.nx } σ2 H2) (hd : ∀ σ H, Pv xs.length σ H → D.nx σ H) :
    ∃ W : Nat → Nat → L2.St → Hp → Prop, (∃ m, W 0 m σ H) ∧ ∀ i m σ H, W i m σ H →
      ((IteT K a).stop i H ∧ D.nx σ H) ∨ ((IteT K a).go i H ∧ ∃ N : L2.St → Hp → Prop, (∀ σ' H', N σ' H' → ∃ m', m' < m ∧ W (i + 1) m' σ' H') ∧ ∀ x H', (IteT K a).yld i H x H' → g x σ H' fun σ2 H2 => tb { D with nx := N, ct := N, bk := D.nx } σ2 H2) := by
  refine ⟨fun i m σ H => m + i = xs.length ∧ Pv i σ H, ⟨xs.length, rfl, h0⟩, fun i m σ H ⟨e, p⟩ => ?_⟩
  cases m with
  | zero =>
    obtain rfl : i = xs.length := by omega
    exact .inl ⟨⟨xs, hl _ _ _ (Nat.le_refl _) p, Nat.le_refl _⟩, hd σ H p⟩
  | succ m =>
    have li : i < xs.length := by omega
    refine .inr ⟨⟨xs, xs[i], hl _ _ _ (by omega) p, List.getElem?_eq_getElem li⟩, Pv (i + 1), fun σ' H' p' => ⟨m, Nat.lt_succ_self m, by omega, p'⟩, fun v H' y => ?_⟩
    obtain ⟨T, x, rfl, nT, rfl, hx⟩ := y
    exact hs i x σ H T (hx xs (hl _ _ _ (by omega) p)) p nT
/-- min(l), l a list of ints -/
def rMinI (K : PySem.W.Frag) : List V → Hp → VK → Prop := fun vs H Q => ∃ (p : Addr) (ns : List Int), vs = [V.ref p] ∧ SqL K H p (ns.map V.int) ∧ ns ≠ [] ∧ ∀ M, M ∈ ns → (∀ a, a ∈ ns → M ≤ a) → Q (.int M) H
theorem cr_minI {X : Cx} (calm : X.calm = true) : CallR X (.builtin "min") (rMinI X.K) := by
  intro pins s σ H vs us Q I r ⟨p, ns, e, sq, ne, q⟩
  subst e
  rw [Vals.ref1 r]
  obtain ⟨its, rv, pl, sz⟩ := I.list sq
  have hi : IntsAre its ns := intsAre_of rv
  obtain ⟨xs, ex⟩ := hi.allInts.items
  have hns : ns = xs.toList.map (·.1) := by rw [← hi.numsOf, ← nums_intItems, ← ex]
  have hsz : 0 < xs.size := by
    have := List.length_pos_iff.mpr ne
    rw [hns, List.length_map, Array.length_toList] at this
    exact this
  have hl := pl.isList
  rw [ex] at hl
  refine min_intList (I.ok.hd calm) hl hsz fun v h' tk hv hk => ?_
  obtain ⟨t, rfl⟩ := intItems_at hv
  obtain ⟨h1, h2⟩ := argBest_lt (numAt xs) (xs.size - 1)
  have inn : numAt xs (argBest (fun i j => decide (numAt xs i < numAt xs j)) (xs.size - 1)) ∈ ns := by
    rw [hns, numAt_eq]
    exact getD_mem (by simp; omega)
  refine ⟨.int _, H, I.kept (t' := tk) hk, ⟨t, rfl⟩, q _ inn fun a ha => ?_⟩
  rw [hns] at ha
  obtain ⟨j, hj, e⟩ := mem_getD ha
  subst e
  have hj : j < xs.size := by simpa using hj
  rw [← numAt_eq xs j]
  exact h2 j (by omega)
end Tl
set_option Elab.async false
set_option linter.all false
set_option maxRecDepth 100000
set_option maxHeartbeats 2000000
/-! t[::-1] of a tuple, 'a' * n -/
namespace Tl
open PySem PySem.Spec PyProof.Rows L2
theorem rev_pick (xs : Array Value) : ((List.range xs.size).filterMap fun (m : Nat) => xs[(((xs.size : Int) - 1) + (m : Int) * (-1)).toNat]?).toArray = xs.toList.reverse.toArray := by
  have e : (List.range xs.size).filterMap (fun (m : Nat) => xs[(((xs.size : Int) - 1) + (m : Int) * (-1)).toNat]?) = ((List.range xs.size).map fun (m : Nat) => (((xs.size : Int) - 1) + (m : Int) * (-1)).toNat).filterMap (xs[·]?) := by
    rw [List.filterMap_map]
    rfl
  rw [e, ← PySem.W.krv_pick]
  unfold slicePick
  rw [PySem.W.krv_bounds]
  show _ = ((sliceRange ((xs.size : Int) - 1) (-1) (-1)).filterMap (xs[·]?)).toArray
  rw [PySem.W.krv_sliceRange]
  congr 2
  refine List.map_congr_left fun m hm => ?_
  have := List.mem_range.mp hm
  omega
section
variable {prog : Program} {w : World} {A : Around} {E : Value → Shared → Prop} {s : Shared}
theorem applied_rev {sl : Addr} {vl vu vs : Value} {n : Nat} {Q : Int × Int × Nat → Shared → Prop} (hs : s.heap.IsSliceOf sl vl vu vs) (pl : IsPart vl none) (pu : IsPart vu none) (ps : IsPart vs (some (-1)))
    (h : Q ((n : Int) - 1, -1, n) s) : wpAny (model prog w) A (Builtin.Slice.sliceApplied (.ref sl) (pure (n : Int))) Q E s := by
  obtain ⟨os, hos, hcs, hds⟩ := id hs
  unfold Builtin.Slice.sliceApplied Builtin.Slice.sliceFields
  refine wpAny_bind (wpAny_bind (wpAny_field hos hds (x := vl) rfl (wpAny_bind (wpAny_field hos hds (x := vu) rfl (wpAny_bind (wpAny_field hos hds (x := vs) rfl (wpAny_pure ?_)))))))
  refine wpAny_bind (HT.slicePart_ ps ?_)
  show wpAny _ _ (if ((-1 : Int) == 0) = true then _ else _) _ _ s; rw [if_neg (by decide)]
  refine wpAny_bind (HT.slicePart_ pl (wpAny_bind (HT.slicePart_ pu (wpAny_bind (wpAny_pure ?_)))))
  have e1 : Builtin.Slice.sliceAdjust none none (-1) (n : Int) = ((n : Int) - 1, -1) := rfl
  have e2 : Builtin.Slice.slicePlaces ((n : Int) - 1) (-1) (-1) = n := by
    unfold Builtin.Slice.slicePlaces
    rw [if_neg (by decide), show (-(-1) : Int) = 1 by decide, Int.ediv_one]
    split <;> omega
  show wpAny _ _ (match Builtin.Slice.sliceAdjust none none (-1) (n : Int) with | (lo, hi) => pure (lo, (-1 : Int), Builtin.Slice.slicePlaces lo hi (-1))) _ _ s
  rw [e1]
  show wpAny _ _ (pure ((n : Int) - 1, (-1 : Int), Builtin.Slice.slicePlaces ((n : Int) - 1) (-1) (-1))) _ _ s
  rw [e2]; exact wpAny_pure h
theorem getItem_rev {t sl : Addr} {its : Array Value} {vl vu vs : Value} {Q : Value → Shared → Prop} (ht : IsTup s.heap t its) (hs : s.heap.IsSliceOf sl vl vu vs) (pl : IsPart vl none) (pu : IsPart vu none) (ps : IsPart vs (some (-1)))
    (h : Q (.ref s.heap.objs.size) { s with heap := s.heap.push { cls := .type "tuple", data := .seq its.toList.reverse.toArray } }) (hsz : its.size ≤ sizeLine) : wpAny (model prog w) A (getItem (.ref t) (.ref sl)) Q E s := by
  have room : sizeOk (.seq its.toList.reverse.toArray) := by show its.toList.reverse.toArray.size ≤ sizeLine; simpa using hsz
  obtain ⟨os, hos, hcs, hds⟩ := id hs
  have hTs : s.TypeIs (.ref sl) "slice" := ⟨os, hos, hcs⟩
  unfold getItem
  try with_reducible refine wpAny_holding ?_
  first | refine wpAny_bind (wpAny_pure ?_) | skip
  refine wpAny_bind (wpAny_sequenceKey ht.typeIs (by decide) ?_)
  refine wpAny_bind (wpAny_callSpecial?_slot (name := Str.ofString "__getitem__") ht.typeIs PyProof.Rows.slot_tuple_getitem (wpAny_call_entry PyProof.Rows.slot_tuple_getitem ht.typeIs entry_tuple_getitem ?_ (args_tuple_getitem _ _)))
  show wpAny _ _ (Builtin.Tuple.tupleItemsOf (.ref t) >>= _) _ _ s; refine wpAny_bind (tupleItemsOf_ ht ?_)
  refine wpAny_bind (wpAny_typeOf hTs ?_); rw [if_pos (by decide)]
  refine wpAny_bind (applied_rev (n := its.size) hs pl pu ps ?_)
  have no : ¬ ((((its.size : Int) - 1) == 0 && (-1 : Int) == 1 && its.size == its.size) = true) := by simp
  show wpAny _ _ (if (((its.size : Int) - 1) == 0 && (-1 : Int) == 1 && its.size == its.size) = true then _ else _) _ _ s
  rw [if_neg no, rev_pick]
  first
    | exact wpAny_bind (m := Builtin.Tuple.tupleExact _) (wpAny_newObj_type (wpAny_pure ⟨_, rfl, wpAny_pure h⟩) room)
    | exact wpAny_bind (m := Builtin.Tuple.tupleExact _) (wpAny_newObj_type (wpAny_bind (wpAny_pure (wpAny_pure ⟨_, rfl, wpAny_pure h⟩))) room)
    | exact wpAny_bind (wpAny_bind (m := Builtin.Tuple.tupleExact _) (wpAny_newObj_type (wpAny_pure (wpAny_pure ⟨_, rfl, wpAny_pure h⟩)) room))
    | exact wpAny_bind (wpAny_bind (m := Builtin.Tuple.tupleExact _) (wpAny_newObj_type (wpAny_pure ⟨_, rfl, wpAny_pure h⟩) room))
end
section
variable {X : Cx} {K : PySem.W.Frag}
def tRevT (K : PySem.W.Frag) (te : TE) : TE := fun σ H Q => te σ H fun x H1 => ∃ a xs, x = .ref a ∧ SqT K H1 a xs ∧ ∀ p, H1 p = none → Q (.ref p) (upd H1 p (.tup xs.reverse))
theorem pe_revT {e : Expr} {te : TE} {k : Nat} {p1 p2 p3 pos : Pos} (hK : X.K = K) (he : PE X e te) : PE X (.Subscript e (.Slice none none (some (.UnaryOp .USub (.Constant (.int 1) k p1) p2)) p3) pos) (tRevT K te) := by
  subst hK
  refine ⟨fun pins s σ H Q I h => Subscript_ (thn (he.run pins s σ H _ I h) fun v s1 ⟨x, H1, I1, r1, q1⟩ => ?_)⟩
  obtain ⟨a, xs, rfl, hx, q⟩ := q1
  obtain rfl : v = Value.ref a := r1
  have part : PO X (some (.UnaryOp .USub (.Constant (.int 1) k p1) p2)) (tPart (tUn (rU fun i => .int (-i)) (tC (.int 1)))) := po_some (pe_un un_neg pe_int)
  refine wpAny_Slice (thn (po_none.run pins s1 σ H1 (fun o H2 => o = none ∧ H2 = H1) I1 ⟨rfl, rfl⟩) fun vl s2 ⟨l, H2, I2, pl, e1, e2⟩ => ?_); subst e1 e2
  refine thn (po_none.run pins s2 σ _ (fun o H3 => o = none ∧ H3 = H2) I2 ⟨rfl, rfl⟩) fun vu s3 ⟨u, H3, I3, pu, e3, e4⟩ => ?_; subst e3 e4
  refine thn (part.run pins s3 σ _ (fun o H4 => o = some (-1) ∧ H4 = H3) I3 ⟨1, rfl, -1, rfl, rfl, rfl⟩) fun vs s4 ⟨o, H4, I4, ps, e5, e6⟩ => ?_; subst e5 e6
  have I5 : Inv X pins σ H4 { s4 with heap := s4.heap.push { cls := .type "slice", data := .fields #[vl, vu, vs] } } := I4.kept (t' := s4.toks) fun b ob q => Heap.get?_push_of_some _ q
  obtain ⟨its, r, ht, hz⟩ := I5.tuple hx
  have hlen := r.length
  refine tail_any (ops := [.ref a, .ref s4.heap.objs.size]) ht.typeIs PyProof.Rows.slot_tuple_getitem.lookup ?_ (by with_unfolding_all rfl)
  refine getItem_rev ht (Heap.IsSliceOf.new _ vl vu vs) pl pu ps ?_ (by rw [List.size_toArray]; omega)
  refine ⟨.ref _, _, I5.laid (t' := s4.toks) (o := .tup xs.reverse) (fun b ob q => Heap.get?_push_of_some _ q) (Nat.le_refl _) ?_, rfl, q _ (I5.hok.fresh (Nat.le_refl _))⟩
  exact ⟨by rw [List.length_reverse]; exact hz, _, r.reverse, IsTup.new _ _⟩
/-- 'a' * 11 -/
def rMulA : R2 := fun x y H Q => x = .str "a" ∧ y = .int 11 ∧ Q (.str "aaaaaaaaaaa") H
theorem op_mulA : OpR X (binaryOp .Mult) rMulA := by
  intro pins s σ H x y v u Q I rx ry ⟨ex, ey, q⟩
  subst ex ey
  obtain ⟨t, rfl⟩ := rx
  obtain ⟨t', rfl⟩ := ry
  refine PySem.P.mul_str (by decide) (fun _ _ => by decide) (fun _ _ => by decide +kernel) ?_
  rw [if_neg (by decide), if_neg (by decide +kernel)]
  exact ⟨by decide +kernel, ⟨.str "aaaaaaaaaaa", H, I.tok _, ⟨_, by rfl⟩, q⟩⟩
end
end Tl
set_option Elab.async false
set_option linter.all false
set_option autoImplicit false
set_option maxRecDepth 100000
set_option maxHeartbeats 2000000
/-! any value: none, bools, ints, texts, tuples, lists, the empty dict; M: the things that may be written -/
namespace Tl
open PySem PySem.Spec PyProof.Rows L2
/-- tuples and all that M does not name stay -/
def Keep (M : Addr → Prop) (H H' : Hp) : Prop := Stay H H' ∧ ∀ a o, ¬ M a → H a = some o → H' a = some o
theorem Keep.refl (M : Addr → Prop) (H : Hp) : Keep M H H := ⟨Stay.refl H, fun _ _ _ h => h⟩
theorem Keep.trans {M : Addr → Prop} {H H1 H2 : Hp} (a : Keep M H H1) (b : Keep M H1 H2) : Keep M H H2 := ⟨a.1.trans b.1, fun x o m h => b.2 x o m (a.2 x o m h)⟩
theorem keep_same {M : Addr → Prop} {H H' : Hp} (e : L2.Same H H') : Keep M H H' := ⟨Same.stay e, fun a o _ h => e a o h⟩
theorem keep_up {M : Addr → Prop} {H : Hp} {p : Addr} {o : HO} (h : Mut (H p)) (m : M p) : Keep M H (upd H p o) := ⟨stay_mut h, fun a u n e => by
  have ne : a ≠ p := fun z => by
    subst z
    exact n m
  rw [upd_ne ne]
  exact e⟩
theorem keep_sub {M N : Addr → Prop} {H H' : Hp} (k : Keep M H H') (s : ∀ a, M a → N a) : Keep N H H' := ⟨k.1, fun a o n h => k.2 a o (fun m => n (s a m)) h⟩
mutual
inductive Av (K : PySem.W.Frag) (M : Addr → Prop) (H : Hp) : V → PyData → Prop
  | non : Av K M H .non .none
  | bl (b : Bool) : Av K M H (.bl b) (.bool b)
  | int (i : Int) : Av K M H (.int i) (.int i)
  | str (x : Str) : Av K M H (.str x) (.str x)
  | lst {a : Addr} {xs : List V} {ds : List PyData} : ¬ M a → Rd H a (.lst xs) → Avs K M H xs ds → Av K M H (.ref a) (.list ds)
  | tup {a : Addr} {xs : List V} {ds : List PyData} : SqT K H a xs → Avs K M H xs ds → Av K M H (.ref a) (.tuple ds)
  | dct {a : Addr} : ¬ M a → Rd H a (.dK []) → Av K M H (.ref a) (.dict [])
inductive Avs (K : PySem.W.Frag) (M : Addr → Prop) (H : Hp) : List V → List PyData → Prop
  | nil : Avs K M H [] []
  | cons {v : V} {vs : List V} {d : PyData} {ds : List PyData} : Av K M H v d → Avs K M H vs ds → Avs K M H (v :: vs) (d :: ds)
end
theorem rd_keep {M : Addr → Prop} {H H' : Hp} {a : Addr} {u : HO} (k : Keep M H H') (m : ¬ M a) (h : Rd H a u) : Rd H' a u := by
  rcases h with h | ⟨o, h⟩
  · exact .inl (k.2 a _ m h)
  · exact .inr ⟨o, k.2 a _ m h⟩
section
variable {K : PySem.W.Frag} {M N : Addr → Prop} {H H' : Hp}
mutual
theorem Av.kp (e : Keep M H H') : ∀ (d : PyData) (v : V), Av K M H v d → Av K M H' v d
  | .none, _, h => by cases h; exact .non
  | .bool _, _, h => by cases h; exact .bl _
  | .int _, _, h => by cases h; exact .int _
  | .str _, _, h => by cases h; exact .str _
  | .list ds, _, h => by
    cases h with
    | lst m h1 h2 => exact .lst m (rd_keep e m h1) (Avs.kp e ds _ h2)
  | .tuple ds, _, h => by
    cases h with
    | tup h1 h2 => exact .tup (e.1.tup h1) (Avs.kp e ds _ h2)
  | .dict _, _, h => by
    cases h with
    | dct m h1 => exact .dct m (rd_keep e m h1)
theorem Avs.kp (e : Keep M H H') : ∀ (ds : List PyData) (vs : List V), Avs K M H vs ds → Avs K M H' vs ds
  | [], _, h => by cases h; exact .nil
  | d :: ds, _, h => by
    cases h with
    | cons h1 h2 => exact .cons (Av.kp e d _ h1) (Avs.kp e ds _ h2)
end
mutual
/-- other things may be written -/
theorem Av.re (e : ∀ a o, ¬ M a → H a = some o → ¬ N a) : ∀ (d : PyData) (v : V), Av K M H v d → Av K N H v d
  | .none, _, h => by cases h; exact .non
  | .bool _, _, h => by cases h; exact .bl _
  | .int _, _, h => by cases h; exact .int _
  | .str _, _, h => by cases h; exact .str _
  | .list ds, _, h => by
    cases h with
    | lst m h1 h2 => exact .lst (h1.elim (fun z => e _ _ m z) (fun ⟨_, z⟩ => e _ _ m z)) h1 (Avs.re e ds _ h2)
  | .tuple ds, _, h => by
    cases h with
    | tup h1 h2 => exact .tup h1 (Avs.re e ds _ h2)
  | .dict _, _, h => by
    cases h with
    | dct m h1 => exact .dct (h1.elim (fun z => e _ _ m z) (fun ⟨_, z⟩ => e _ _ m z)) h1
theorem Avs.re (e : ∀ a o, ¬ M a → H a = some o → ¬ N a) : ∀ (ds : List PyData) (vs : List V), Avs K M H vs ds → Avs K N H vs ds
  | [], _, h => by cases h; exact .nil
  | d :: ds, _, h => by
    cases h with
    | cons h1 h2 => exact .cons (Av.re e d _ h1) (Avs.re e ds _ h2)
end
theorem Av.k {v : V} {d : PyData} (h : Av K M H v d) (e : Keep M H H') : Av K M H' v d := Av.kp e d v h
theorem Av.s {v : V} {d : PyData} (h : Av K M H v d) (e : L2.Same H H') : Av K M H' v d := h.k (keep_same e)
theorem Avs.k {vs : List V} {ds : List PyData} (h : Avs K M H vs ds) (e : Keep M H H') : Avs K M H' vs ds := Avs.kp e ds vs h
theorem Avs.s {vs : List V} {ds : List PyData} (h : Avs K M H vs ds) (e : L2.Same H H') : Avs K M H' vs ds := h.k (keep_same e)
theorem Avs.len : ∀ {vs : List V} {ds : List PyData}, Avs K M H vs ds → vs.length = ds.length
  | _, _, .nil => rfl
  | _, _, .cons _ t => by rw [List.length_cons, List.length_cons, Avs.len t]
theorem Avs.at : ∀ {vs : List V} {ds : List PyData}, Avs K M H vs ds → ∀ {i : Nat} {v : V}, vs[i]? = some v → ∃ d, ds[i]? = some d ∧ Av K M H v d
  | _, _, .nil, _, _, h => nomatch h
  | _, _, .cons r _, 0, _, h => by cases h; exact ⟨_, rfl, r⟩
  | _, _, .cons _ t, i + 1, _, h => Avs.at t (i := i) h
theorem Avs.app : ∀ {xs ys : List V} {ds es : List PyData}, Avs K M H xs ds → Avs K M H ys es → Avs K M H (xs ++ ys) (ds ++ es)
  | _, _, _, _, .nil, h => h
  | _, _, _, _, .cons r t, h => .cons r (Avs.app t h)
theorem Avs.take : ∀ {xs : List V} {ds : List PyData} (n : Nat), Avs K M H xs ds → Avs K M H (xs.take n) (ds.take n)
  | _, _, 0, _ => by rw [List.take_zero, List.take_zero]; exact .nil
  | _, _, _ + 1, .nil => .nil
  | _, _, n + 1, .cons r t => .cons r (Avs.take n t)
theorem Avs.drop : ∀ {xs : List V} {ds : List PyData} (n : Nat), Avs K M H xs ds → Avs K M H (xs.drop n) (ds.drop n)
  | _, _, 0, h => h
  | _, _, _ + 1, .nil => .nil
  | _, _, n + 1, .cons _ t => Avs.drop n t
theorem Avs.rev {xs : List V} {ds : List PyData} (h : Avs K M H xs ds) : Avs K M H xs.reverse ds.reverse := by
  match h with
  | .nil => exact .nil
  | .cons r t =>
    rw [List.reverse_cons, List.reverse_cons]
    exact Avs.app (Avs.rev t) (.cons r .nil)
theorem Avs.ints : ∀ (ns : List Int), Avs K M H (ns.map V.int) (ns.map PyData.int)
  | [] => .nil
  | n :: ns => .cons (.int n) (Avs.ints ns)
theorem Avs.mem {vs : List V} {ds : List PyData} (h : Avs K M H vs ds) {v : V} (m : v ∈ vs) : ∃ d, d ∈ ds ∧ Av K M H v d := by
  obtain ⟨i, hi, e⟩ := List.getElem_of_mem m
  obtain ⟨d, h1, h2⟩ := h.at (i := i) (v := v) (by rw [List.getElem?_eq_getElem hi, e])
  exact ⟨d, List.mem_of_getElem? h1, h2⟩
end
/-! ### the type of a value -/
def tyN : PyData → String
  | .none => "NoneType"
  | .bool _ => "bool"
  | .int _ => "int"
  | .str _ => "str"
  | .list _ => "list"
  | .tuple _ => "tuple"
  | .dict _ => "dict"
theorem ty_tupA {K : PySem.W.Frag} {H : Hp} {a : Addr} {xs : List V} (h : SqT K H a xs) : TyX K H (.ref a) (.type "tuple") := by
  rcases h with (h | ⟨o, h⟩) | ⟨o, its, n, h1, h2, _⟩
  · exact .base (.tup h)
  · exact .fTuple h
  · exact .kTuple h1 h2

theorem ty_av {K : PySem.W.Frag} {M : Addr → Prop} {H : Hp} {v : V} {d : PyData} (h : Av K M H v d) : TyX K H v (.type (tyN d)) := by
  cases h with
  | non => exact .base .non
  | bl b => exact .base (.bl b)
  | int i => exact .base (.int i)
  | str x => exact .base (.str x)
  | lst m h _ =>
    rcases h with h | ⟨o, h⟩
    · exact .base (.lst h)
    · exact .base (.frz h)
  | tup h _ => exact ty_tupA h
  | dct m h =>
    rcases h with h | ⟨o, h⟩
    · exact .base (.dK h)
    · exact .fDict h
/-- isinstance(x, T) of any value -/
theorem isi_av {K : PySem.W.Frag} {M : Addr → Prop} {H : Hp} {v : V} {d : PyData} {T : String} {b : Bool} {Q : VK} (h : Av K M H v d) (hb : kitB (tyN d) T = some b) (q : Q (.bl b) H) : rIsi K [v, .ty T] H Q :=
  ⟨v, .ty T, .type (tyN d), .type T, b, rfl, .ty _, ty_av h, kit_ty hb, q⟩
def isTup : PyData → Bool
  | .tuple _ => true
  | _ => false
def isStr : PyData → Bool
  | .str _ => true
  | _ => false
def isBl : PyData → Bool
  | .bool _ => true
  | _ => false
def isIntB : PyData → Bool
  | .int _ => true
  | .bool _ => true
  | _ => false
theorem kb_tup (d : PyData) : kitB (tyN d) "tuple" = some (isTup d) := by cases d <;> (simp only [tyN, isTup, isStr, isBl, isIntB]; decide +kernel)
theorem kb_str (d : PyData) : kitB (tyN d) "str" = some (isStr d) := by cases d <;> (simp only [tyN, isTup, isStr, isBl, isIntB]; decide +kernel)
theorem kb_bool (d : PyData) : kitB (tyN d) "bool" = some (isBl d) := by cases d <;> (simp only [tyN, isTup, isStr, isBl, isIntB]; decide +kernel)
theorem kb_int (d : PyData) : kitB (tyN d) "int" = some (isIntB d) := by cases d <;> (simp only [tyN, isTup, isStr, isBl, isIntB]; decide +kernel)
/-! ### repr -/
section
variable {X : Cx} {pins : List (Addr × Obj)} {σ : L2.St} {H : Hp} {s : Shared} {M : Addr → Prop}
mutual
theorem Av.reads (I : Inv X pins σ H s) (ms : M sysModules) : ∀ (d : PyData) (v : V) (u : Value), Av X.K M H v d → RelV v u → ∃ as, Reads s.heap u d as ∧ sysModules ∉ as
  | .none, _, _, h, r => by
    cases h
    cases r
    exact ⟨_, Reads.none, by simp⟩
  | .bool b, _, _, h, r => by
    cases h
    cases r
    exact ⟨_, Reads.bool b, by simp⟩
  | .int i, _, _, h, r => by
    cases h
    obtain ⟨t, rfl⟩ := r
    exact ⟨_, Reads.int i t, by simp⟩
  | .str x, _, _, h, r => by
    cases h
    obtain ⟨t, rfl⟩ := r
    exact ⟨_, Reads.str x t, by simp⟩
  | .list ds, _, _, h, r => by
    cases h with
    | @lst a _ _ m hs ha =>
      cases r
      obtain ⟨its, rv, ⟨o, n, ho, hc, _, hd⟩, _⟩ := I.list (.inl hs)
      obtain ⟨as, hr, hn⟩ := Avs.reads I ms ds _ its ha rv
      refine ⟨_, Reads.list ho hc hd hr, fun z => ?_⟩
      rcases List.mem_cons.mp z with z | z
      · subst z
        exact m ms
      · exact hn z
  | .tuple ds, _, _, h, r => by
    cases h with
    | tup hs ha =>
      cases r
      obtain ⟨its, rv, ⟨o, ho, hc, n, hd⟩, _⟩ := I.tuple hs
      obtain ⟨as, hr, hn⟩ := Avs.reads I ms ds _ its ha rv
      exact ⟨_, Reads.tuple ho hc hd hr, hn⟩
  | .dict _, _, _, h, r => by
    cases h with
    | @dct a m h1 =>
      cases r
      obtain ⟨_, _, vs, rel, o, es, ep, h2, h3, h4, _, h5, _⟩ := dk_rd I.hok h1
      cases rel
      obtain rfl : es = #[] := by
        have := h5
        cases es with
        | mk l =>
          cases l with
          | nil => rfl
          | cons e r => cases this
      refine ⟨_, Reads.dict (kvs := []) h2 h3.1 h4 ReadsAll.nil ReadsAll.nil, fun z => ?_⟩
      simp only [List.append_nil, List.mem_cons, List.not_mem_nil, or_false] at z
      subst z
      exact m ms
theorem Avs.reads (I : Inv X pins σ H s) (ms : M sysModules) : ∀ (ds : List PyData) (vs : List V) (us : List Value), Avs X.K M H vs ds → Vals vs us → ∃ as, ReadsAll s.heap us ds as ∧ sysModules ∉ as
  | [], _, _, h, r => by
    cases h
    cases r
    exact ⟨_, ReadsAll.nil, by simp⟩
  | d :: ds, _, _, h, r => by
    cases h with
    | cons h1 h2 =>
      cases r with
      | cons r1 r2 =>
        obtain ⟨as, q1, n1⟩ := Av.reads I ms d _ _ h1 r1
        obtain ⟨bs, q2, n2⟩ := Avs.reads I ms ds _ _ h2 r2
        refine ⟨_, ReadsAll.cons q1 q2, fun z => ?_⟩
        rcases List.mem_append.mp z with z | z
        · exact n1 z
        · exact n2 z
end
end
section
variable {X : Cx}
def rRepA (K : PySem.W.Frag) : List V → Hp → VK → Prop := fun xs H Q => ∃ (v : V) (d : PyData) (M : Addr → Prop), xs = [v] ∧ M sysModules ∧ Av K M H v d ∧ d.showable = true ∧
  d.depth ≤ 60 ∧ d.shown.length ≤ sizeLine ∧ Q (.str d.shown) H
theorem cr_repA (bare : X.A.guards = some []) (hu : X.A.units + 64 < cLine) : CallR X (.builtin "repr") (rRepA X.K) := by
  intro pins s σ H xs us Q I r ⟨v, d, M, e, ms, hd, h1, h3, h4, q⟩
  subst e
  obtain ⟨u, e, ru⟩ := r.one
  subst e
  obtain ⟨as, rd, hn⟩ := Av.reads I ms d v u hd ru
  cases hd with
  | non =>
    cases ru
    exact PySem.P.repr_of_none ⟨.str _, H, I.tok _, ⟨_, rfl⟩, q⟩
  | bl b =>
    cases ru
    exact PySem.P.repr_of_bool ⟨.str _, H, I.tok _, ⟨_, rfl⟩, q⟩
  | int i =>
    obtain ⟨t, rfl⟩ := ru
    exact PySem.P.repr_of_int (by simpa [PyData.showable] using h1) ⟨.str _, H, I.tok _, ⟨_, rfl⟩, q⟩
  | str x =>
    obtain ⟨t, rfl⟩ := ru
    exact PySem.P.repr_of_str ⟨.str _, H, I.tok _, ⟨_, rfl⟩, q⟩ h4
  | lst _ _ _ =>
    cases ru
    exact repr_of_reads' rd h1 (fun _ => hn) bare (by omega) (fun _ _ z => z) (fun h' u tk k => ⟨.str _, H, I.kept k, ⟨_, rfl⟩, q⟩) h4
  | tup _ _ =>
    cases ru
    exact repr_of_reads' rd h1 (fun _ => hn) bare (by omega) (fun _ _ z => z) (fun h' u tk k => ⟨.str _, H, I.kept k, ⟨_, rfl⟩, q⟩) h4
  | dct _ _ =>
    cases ru
    exact repr_of_reads' rd h1 (fun _ => hn) bare (by omega) (fun _ _ z => z) (fun h' u tk k => ⟨.str _, H, I.kept k, ⟨_, rfl⟩, q⟩) h4
/-! ### beside the empty tuple, the empty list -/
def rEqNilT (K : PySem.W.Frag) : R2 := fun x y H Q => ∃ a b xs, x = .ref a ∧ y = .ref b ∧ SqT K H a xs ∧ SqT K H b [] ∧ Q (.bl xs.isEmpty) H
def rNeNilT (K : PySem.W.Frag) : R2 := fun x y H Q => ∃ a b xs, x = .ref a ∧ y = .ref b ∧ SqT K H a xs ∧ SqT K H b [] ∧ Q (.bl (!xs.isEmpty)) H
def rEqNilL (K : PySem.W.Frag) : R2 := fun x y H Q => ∃ a b xs, x = .ref a ∧ y = .ref b ∧ SqL K H a xs ∧ SqL K H b [] ∧ Q (.bl xs.isEmpty) H
def rNeNilL (K : PySem.W.Frag) : R2 := fun x y H Q => ∃ a b xs, x = .ref a ∧ y = .ref b ∧ SqL K H a xs ∧ SqL K H b [] ∧ Q (.bl (!xs.isEmpty)) H
theorem empty_size {its : List Value} {xs : List V} (r : Vals xs its) : (its.toArray.size == 0) = xs.isEmpty := by
  have := r.length
  cases xs with
  | nil => cases r; rfl
  | cons x xs => cases r; rfl
theorem op_eqNilT {K : PySem.W.Frag} (hK : X.K = K) (hu : X.A.units < cLine) : OpR X (compareOp .Eq) (rEqNilT K) := by
  subst hK
  intro pins s σ H x y v u Q I rx ry h
  obtain ⟨a, b, xs, rfl, rfl, ha, hb, q⟩ := h
  cases rx
  cases ry
  obtain ⟨its, rv, pl, _⟩ := I.tuple ha
  obtain ⟨it2, rv2, pl2, _⟩ := I.tuple hb
  cases rv2
  refine SeqAt.RcAt.tuples (items := its.toArray) (items2 := #[]) (e := fun _ => true) pl pl2 hu (fun j _ h2 => absurd h2 (Nat.not_lt_zero _)) _ _ _ _ ⟨.bl xs.isEmpty, H, I, ?_, q⟩
  show Value.bool _ = Value.bool _
  congr 1
  rw [← empty_size rv]
  simp
theorem op_neNilT {K : PySem.W.Frag} (hK : X.K = K) (hu : X.A.units < cLine) : OpR X (compareOp .NotEq) (rNeNilT K) := by
  subst hK
  intro pins s σ H x y v u Q I rx ry h
  obtain ⟨a, b, xs, rfl, rfl, ha, hb, q⟩ := h
  cases rx
  cases ry
  obtain ⟨its, rv, pl, _⟩ := I.tuple ha
  obtain ⟨it2, rv2, pl2, _⟩ := I.tuple hb
  cases rv2
  refine SeqAt.RcNeAt.tuples (items := its.toArray) (items2 := #[]) (e := fun _ => true) pl pl2 hu (fun j _ h2 => absurd h2 (Nat.not_lt_zero _)) _ _ _ _ ⟨.bl (!xs.isEmpty), H, I, ?_, q⟩
  show Value.bool _ = Value.bool _
  congr 1
  rw [← empty_size rv]
  simp
theorem op_eqNilL {K : PySem.W.Frag} (hK : X.K = K) (hu : X.A.units < cLine) : OpR X (compareOp .Eq) (rEqNilL K) := by
  subst hK
  intro pins s σ H x y v u Q I rx ry h
  obtain ⟨a, b, xs, rfl, rfl, ha, hb, q⟩ := h
  cases rx
  cases ry
  obtain ⟨its, rv, pl, _⟩ := I.list ha
  obtain ⟨it2, rv2, pl2, _⟩ := I.list hb
  cases rv2
  have e := empty_size rv
  by_cases z : its.toArray.size = 0
  · refine SeqAt.RcAt.lists (items := its.toArray) (items2 := #[]) (e := fun _ => true) pl.isList pl2.isList (by simpa using z) hu (fun j _ h2 => absurd h2 (Nat.not_lt_zero _)) _ _ _ _ ⟨.bl xs.isEmpty, H, I, ?_, q⟩
    show Value.bool _ = Value.bool _
    congr 1
    rw [← e, z]
    rfl
  · refine SeqAt.RcAt.lists_lengths (items := its.toArray) (items2 := #[]) pl.isList pl2.isList (by simpa using z) hu _ _ _ _ ⟨.bl xs.isEmpty, H, I, ?_, q⟩
    show Value.bool _ = Value.bool _
    congr 1
    rw [← e]
    exact (beq_eq_false_iff_ne.mpr z).symm
theorem op_neNilL {K : PySem.W.Frag} (hK : X.K = K) (hu : X.A.units < cLine) : OpR X (compareOp .NotEq) (rNeNilL K) := by
  subst hK
  intro pins s σ H x y v u Q I rx ry h
  obtain ⟨a, b, xs, rfl, rfl, ha, hb, q⟩ := h
  cases rx
  cases ry
  obtain ⟨its, rv, pl, _⟩ := I.list ha
  obtain ⟨it2, rv2, pl2, _⟩ := I.list hb
  cases rv2
  have e := empty_size rv
  by_cases z : its.toArray.size = 0
  · refine SeqAt.RcNeAt.lists (items := its.toArray) (items2 := #[]) (e := fun _ => true) pl.isList pl2.isList (by simpa using z) hu (fun j _ h2 => absurd h2 (Nat.not_lt_zero _)) _ _ _ _ ⟨.bl (!xs.isEmpty), H, I, ?_, q⟩
    show Value.bool _ = Value.bool _
    congr 1
    rw [← e, z]
    rfl
  · refine SeqAt.RcNeAt.lists_lengths (items := its.toArray) (items2 := #[]) pl.isList pl2.isList (by simpa using z) hu _ _ _ _ ⟨.bl (!xs.isEmpty), H, I, ?_, q⟩
    show Value.bool _ = Value.bool _
    congr 1
    rw [← e, beq_eq_false_iff_ne.mpr z]
    rfl
/-! ### lists that are laid: not where sys.modules is -/
def tLstN (t : TA) : TE := fun σ H Q => t σ H fun xs H1 => xs.length ≤ sizeLine ∧ ∀ p, H1 p = none → p ≠ sysModules → Q (.ref p) (upd H1 p (.lst xs))
theorem pe_lstN {es : List Expr} {pos : Pos} {t : TA} (h : PA X es t) : PE X (.List es pos) (tLstN t) := by
  refine ⟨fun pins s σ H Q I hq => ?_⟩
  refine wpAny_List_spliced (thn (h.run pos pins s σ H _ I hq) fun us s1 ⟨xs, H1, I1, r, z, q⟩ => ⟨by rw [← r.length]; exact z, ?_⟩)
  have hf : H1 s1.heap.objs.size = none := I1.hok.fresh (Nat.le_refl _)
  refine ⟨.ref s1.heap.objs.size, upd H1 s1.heap.objs.size (.lst xs), I1.laid (t' := s1.toks) (fun b u e => Heap.get?_push_of_some _ e) (Nat.le_refl _) ?_, rfl, q _ hf (Nat.ne_of_gt I1.big)⟩
  exact ⟨z, us, 0, r, Heap.get?_push_size _ rfl⟩
def rLstOfN (K : PySem.W.Frag) : List V → Hp → VK → Prop := fun xs H Q => ∃ p ys, xs = [.ref p] ∧ (SqL K H p ys ∨ SqT K H p ys) ∧ ∀ l, H l = none → l ≠ sysModules → Q (.ref l) (upd H l (.lst ys))
theorem call_list_ofN : CallR X (.type "list") (rLstOfN X.K) := by
  intro pins s σ H xs us Q I r h
  obtain ⟨p, ys, rfl, hq, q⟩ := h
  obtain ⟨u, rfl, rx⟩ := vals1 r
  cases rx
  have fin : ∀ (its : List Value), Vals ys its → ys.length ≤ sizeLine → ∀ (h' : Heap) (c' : Nat), (∀ b o', s.heap.get? b = some o' → h'.get? b = some o') →
      h'.get? s.heap.objs.size = some { cls := .type "list", dict := none, data := .seq its.toArray c', slots := #[] } → EP X pins σ Q (.ref s.heap.objs.size) { s with heap := h' } := fun its r' hz h' c' kp e =>
    ⟨.ref s.heap.objs.size, _, I.laid (t' := s.toks) kp (Nat.le_refl _) (show ObjOk X.prog X.w _ h' _ (.lst ys) from ⟨hz, its, c', r', e⟩), rfl, q _ (I.hok.fresh (Nat.le_refl _)) (Nat.ne_of_gt I.big)⟩
  rcases hq with hq | hq
  · obtain ⟨its, r', pl, hz⟩ := I.list hq
    have hlen := r'.length
    obtain ⟨o, ho, hc, n, hd⟩ := pl.isList
    exact call_list_seq p (.inl rfl) ho hc hd (fun h' c' kp e => fin its r' hz h' c' kp e) (by simp only [List.size_toArray] <;> omega)
  · obtain ⟨its, r', pl, hz⟩ := I.tuple hq
    have hlen := r'.length
    obtain ⟨o, ho, hc, n, hd⟩ := pl
    exact call_list_seq p (.inr rfl) ho hc hd (fun h' c' kp e => fin its r' hz h' c' kp e) (by simp only [List.size_toArray] <;> omega)
end
end Tl
set_option Elab.async false
set_option linter.all false
set_option autoImplicit false
set_option maxRecDepth 100000
set_option maxHeartbeats 2000000
/-! written data: constants, names of data, tuples, lists, {} -/
namespace Tl
open PySem PySem.Spec PyProof.Rows L2
inductive Lt where
  | non | bl (b : Bool) | int (i : Int) | str (x : Str) | var (i : Nat) | ixs (i : Nat) (k : Int) | tup (l : Lt) | lst (l : Lt) | dct | nil | cons (a b : Lt)
  deriving DecidableEq
/-- what is known of a local name -/
inductive Rho where
  | no | dat (d : PyData) | seq (ds : List PyData)
def rdat : Option Rho → Option PyData
  | some (.dat d) => some d
  | _ => none
def rseq : Option Rho → Option (List PyData)
  | some (.seq d) => some d
  | _ => none
def Lt.ev (ρ : List Rho) : Lt → Option (List PyData)
  | .non => some [.none]
  | .bl b => some [.bool b]
  | .int i => some [.int i]
  | .str x => some [.str x]
  | .var i => (rdat ρ[i]?).map fun d => [d]
  | .ixs i k => (rseq ρ[i]?).bind fun ds => (atI ds k).map fun d => [d]
  | .tup l => (l.ev ρ).map fun ds => [.tuple ds]
  | .lst l => (l.ev ρ).map fun ds => [.list ds]
  | .dct => some [.dict []]
  | .nil => some []
  | .cons a b => (a.ev ρ).bind fun x => (b.ev ρ).map fun y => x ++ y
def visB (sc : Scope) (x : Str) : Bool := (decide (sc.names.lookup x = some .local) || decide (sc.names.lookup x = some .cell) || decide (sc.names.lookup x = some .free)) && !(x == ("__debug__" : Str)) && !(x == ("__classdict__" : Str))
def nameOf (N : List Str) (sc : Scope) (x : Str) : Option Nat := match N.findIdx? (· == x) with
  | some i => if visB sc x && decide (N[i]? = some x) then some i else none
  | none => none
mutual
def ltOf (N : List Str) (sc : Scope) : Nat → Expr → Option Lt
  | 0, _ => none
  | n + 1, e => match e with
    | .Constant (.int i) _ _ => some (.int i)
    | .Constant (.bool b) _ _ => some (.bl b)
    | .Constant .none _ _ => some .non
    | .Constant (.str x) _ _ => some (.str x)
    | .Name x _ => (nameOf N sc x).map .var
    | .Tuple es _ _ => (ltsOf N sc n es).map .tup
    | .List es _ => (ltsOf N sc n es).map .lst
    | .Dict [] [] _ => some .dct
    | .UnaryOp .USub (.Constant (.int i) _ _) _ => some (.int (-i))
    | .BinOp (.Constant (.int i) _ _) .Pow (.Constant (.int j) _ _) _ => if 0 ≤ j ∧ j ≤ 1000 ∧ i.natAbs < 2 ^ 64 then some (.int (i ^ j.toNat)) else none
    | .BinOp (.Constant (.str x) _ _) .Mult (.Constant (.int j) _ _) _ => if x = ("a" : Str) ∧ j = 11 then some (.str "aaaaaaaaaaa") else none
    | .Subscript (.Name x _) (.Constant (.int k) _ _) _ => (nameOf N sc x).map fun i => .ixs i k
    | .Subscript (.Name x _) (.UnaryOp .USub (.Constant (.int k) _ _) _) _ => (nameOf N sc x).map fun i => .ixs i (-k)
    | _ => none
def ltsOf (N : List Str) (sc : Scope) : Nat → List Expr → Option Lt
  | 0, _ => none
  | _ + 1, [] => some .nil
  | n + 1, e :: es => (ltOf N sc n e).bind fun a => (ltsOf N sc n es).map fun b => .cons a b
end
/-- what the local names have -/
def EnvA (K : PySem.W.Frag) (M : Addr → Prop) (H : Hp) : List (Option V) → List Rho → Prop
  | _, [] => True
  | [], _ :: _ => False
  | _ :: σ, .no :: ρ => EnvA K M H σ ρ
  | o :: σ, .dat d :: ρ => (∃ v, o = some v ∧ Av K M H v d) ∧ EnvA K M H σ ρ
  | o :: σ, .seq ds :: ρ => (∃ b xs, o = some (.ref b) ∧ SqL K H b xs ∧ (∀ H', L2.Same H H' → SqL K H' b xs) ∧ Avs K M H xs ds) ∧ EnvA K M H σ ρ
section
variable {K : PySem.W.Frag} {M : Addr → Prop} {H H' : Hp}
theorem EnvA.same (s : L2.Same H H') : ∀ {σ : List (Option V)} {ρ : List Rho}, EnvA K M H σ ρ → EnvA K M H' σ ρ
  | _, [], _ => by unfold EnvA; trivial
  | [], _ :: _, h => by unfold EnvA at h; exact h.elim
  | _ :: σ, .no :: ρ, h => by
    unfold EnvA at h ⊢
    exact EnvA.same s h
  | o :: σ, .dat d :: ρ, h => by
    unfold EnvA at h ⊢
    obtain ⟨⟨v, e, a⟩, r⟩ := h
    exact ⟨⟨v, e, a.s s⟩, EnvA.same s r⟩
  | o :: σ, .seq ds :: ρ, h => by
    unfold EnvA at h ⊢
    obtain ⟨⟨b, xs, e, h1, h2, a⟩, r⟩ := h
    exact ⟨⟨b, xs, e, h2 _ s, fun H2 s2 => h2 _ (s.trans s2), a.s s⟩, EnvA.same s r⟩
theorem EnvA.var : ∀ {σ : List (Option V)} {ρ : List Rho} {i : Nat} {d : PyData}, EnvA K M H σ ρ → ρ[i]? = some (.dat d) → ∃ v, σ[i]? = some (some v) ∧ Av K M H v d
  | _, [], _, _, _, e => by cases e
  | [], _ :: _, _, _, h, _ => by unfold EnvA at h; exact h.elim
  | o :: σ, r :: ρ, 0, d, h, e => by
    cases e
    unfold EnvA at h
    obtain ⟨⟨v, e, a⟩, _⟩ := h
    exact ⟨v, by rw [e]; rfl, a⟩
  | o :: σ, r :: ρ, i + 1, d, h, e => by
    have e' : ρ[i]? = some (.dat d) := e
    have h' : EnvA K M H σ ρ := by
      cases r <;> unfold EnvA at h
      · exact h
      · exact h.2
      · exact h.2
    exact EnvA.var (σ := σ) h' e'
theorem EnvA.seq : ∀ {σ : List (Option V)} {ρ : List Rho} {i : Nat} {ds : List PyData}, EnvA K M H σ ρ → ρ[i]? = some (.seq ds) → ∃ b xs, σ[i]? = some (some (.ref b)) ∧ SqL K H b xs ∧ Avs K M H xs ds
  | _, [], _, _, _, e => by cases e
  | [], _ :: _, _, _, h, _ => by unfold EnvA at h; exact h.elim
  | o :: σ, r :: ρ, 0, ds, h, e => by
    cases e
    unfold EnvA at h
    obtain ⟨⟨b, xs, e, h1, _, a⟩, _⟩ := h
    exact ⟨b, xs, by rw [e]; rfl, h1, a⟩
  | o :: σ, r :: ρ, i + 1, ds, h, e => by
    have e' : ρ[i]? = some (.seq ds) := e
    have h' : EnvA K M H σ ρ := by
      cases r <;> unfold EnvA at h
      · exact h
      · exact h.2
      · exact h.2
    exact EnvA.seq (σ := σ) h' e'
end
def Pre (M : Addr → Prop) (H : Hp) : Prop := M sysModules ∧ ∀ a, M a → H a = none → a = sysModules
theorem Pre.same {M : Addr → Prop} {H H' : Hp} (p : Pre M H) (s : L2.Same H H') : Pre M H' := ⟨p.1, fun a m n => p.2 a m (by
  cases e : H a with
  | none => rfl
  | some o =>
    have := s a o e
    rw [n] at this
    cases this)⟩
theorem Pre.new {M : Addr → Prop} {H : Hp} {a : Addr} (p : Pre M H) (n : H a = none) (ne : a ≠ sysModules) : ¬ M a := fun m => ne (p.2 a m n)
def tLt (K : PySem.W.Frag) (M : Addr → Prop) (L : Lt) : TE := fun σ H Q => Pre M H ∧ ∃ (ρ : List Rho) (d : PyData), EnvA K M H σ ρ ∧ L.ev ρ = some [d] ∧ ∀ v H', L2.Same H H' → Av K M H' v d → Q v H'
def tLts (K : PySem.W.Frag) (M : Addr → Prop) (L : Lt) : TA := fun σ H Q => Pre M H ∧ ∃ (ρ : List Rho) (ds : List PyData), EnvA K M H σ ρ ∧ L.ev ρ = some ds ∧ ∀ vs H', L2.Same H H' → Avs K M H' vs ds → Q vs H'
section
variable {X : Cx}
theorem _root_.L2.PE.wk {e : Expr} {t t' : TE} (h : PE X e t) (w : ∀ σ H Q, t' σ H Q → t σ H Q) : PE X e t' := ⟨fun pins s σ H Q I q => h.run pins s σ H Q I (w σ H Q q)⟩
theorem _root_.L2.PA.wk {es : List Expr} {t t' : TA} (h : PA X es t) (w : ∀ σ H Q, t' σ H Q → t σ H Q) : PA X es t' := ⟨fun pos pins s σ H Q I q => h.run pos pins s σ H Q I (w σ H Q q)⟩
def tDNewN : TE := fun _ H Q => ∀ p, H p = none → p ≠ sysModules → Q (.ref p) (upd H p (.dK []))
theorem pe_dnewN {pos : Pos} : PE X (.Dict [] [] pos) tDNewN := ⟨fun pins s σ H Q I h =>
  wpAny_Dict_empty ⟨.ref s.heap.objs.size, _, I.laid (a := s.heap.objs.size) (o := .dK []) (t' := s.toks) (fun _ _ q => Heap.get?_push_of_some _ q) (Nat.le_refl _) (dk_empty s.heap I.big), rfl, h _ (I.hok.fresh (Nat.le_refl _)) (Nat.ne_of_gt I.big)⟩⟩
theorem nameOf_ok {N : List Str} {sc : Scope} {x : Str} {i : Nat} (h : nameOf N sc x = some i) : N[i]? = some x ∧ Vis sc x ∧ (x == ("__debug__" : Str)) = false ∧ (x == ("__classdict__" : Str)) = false := by
  unfold nameOf at h
  split at h
  · split at h
    · rename_i j _ hc
      cases h
      rw [Bool.and_eq_true, decide_eq_true_eq] at hc
      obtain ⟨h1, h2⟩ := hc
      unfold visB at h1
      simp only [Bool.and_eq_true, Bool.or_eq_true, decide_eq_true_eq, Bool.not_eq_true'] at h1
      obtain ⟨⟨h3, h4⟩, h5⟩ := h1
      exact ⟨h2, h3.elim (fun z => z.elim .inl fun z => .inr (.inl z)) fun z => .inr (.inr z), h4, h5⟩
    · cases h
  · cases h
theorem ltOf_one {N : List Str} {sc : Scope} {n : Nat} {e : Expr} {L : Lt} (h : ltOf N sc n e = some L) : ∀ (ρ : List Rho) (xs : List PyData), L.ev ρ = some xs → ∃ d, xs = [d] := by
  intro ρ xs hx
  cases n with
  | zero => simp [ltOf] at h
  | succ n =>
    unfold ltOf at h
    split at h
    all_goals (first | cases h | skip)
    all_goals (first | (cases hx; exact ⟨_, rfl⟩) | skip)
    all_goals (first | (split at h <;> (first | cases h | skip); cases hx; exact ⟨_, rfl⟩) | skip)
    all_goals (first
      | (obtain ⟨l, hl, rfl⟩ := Option.map_eq_some_iff.mp h
         first
           | (obtain ⟨l2, hl2, rfl⟩ := Option.map_eq_some_iff.mp hx; exact ⟨_, rfl⟩)
           | (obtain ⟨l2, hl2, hx⟩ := Option.bind_eq_some_iff.mp hx
              obtain ⟨l3, hl3, rfl⟩ := Option.map_eq_some_iff.mp hx; exact ⟨_, rfl⟩)))
theorem atI_avs {K : PySem.W.Frag} {M : Addr → Prop} {H : Hp} {xs : List V} {ds : List PyData} {k : Int} {d : PyData} (h : Avs K M H xs ds) (e : atI ds k = some d) : ∃ v, atI xs k = some v ∧ Av K M H v d := by
  unfold atI at e ⊢
  rw [h.len]
  obtain ⟨j, h1, h2⟩ := Option.bind_eq_some_iff.mp e
  rw [h1]
  have hj : j < xs.length := by
    rw [h.len]
    exact (List.getElem?_eq_some_iff.mp h2).1
  obtain ⟨d', h3, h4⟩ := h.at (List.getElem?_eq_getElem hj)
  rw [h2] at h3
  cases h3
  exact ⟨_, List.getElem?_eq_getElem hj, h4⟩
section
variable {M : Addr → Prop} {N : List Str} {sc : Scope}
theorem lt_tup {es : List Expr} {L : Lt} {k : Nat} {pos : Pos} (h : PA X es (tLts X.K M L)) (sz : es.length ≤ 1000) (ln : ∀ ρ ds, L.ev ρ = some ds → ds.length = es.length) : PE X (.Tuple es k pos) (tLt X.K M (.tup L)) := by
  refine (pe_tup h).wk fun σ H Q ⟨pr, ρ, d, en, e, q⟩ => ?_
  obtain ⟨ds, e1, e2⟩ := Option.map_eq_some_iff.mp e
  cases e2
  refine ⟨pr, ρ, ds, en, e1, fun vs H' s hv => ⟨?_, fun p np => ?_⟩⟩
  · rw [hv.len, ln ρ ds e1]
    exact Nat.le_trans sz (by decide)
  · have s2 := same_up (o := .tup vs) np
    exact q _ _ (s.trans s2) (.tup (tupOf upd_same) (hv.s s2))
theorem lt_lst {es : List Expr} {L : Lt} {pos : Pos} (h : PA X es (tLts X.K M L)) (sz : es.length ≤ 1000) (ln : ∀ ρ ds, L.ev ρ = some ds → ds.length = es.length) : PE X (.List es pos) (tLt X.K M (.lst L)) := by
  refine (pe_lstN h).wk fun σ H Q ⟨pr, ρ, d, en, e, q⟩ => ?_
  obtain ⟨ds, e1, e2⟩ := Option.map_eq_some_iff.mp e
  cases e2
  refine ⟨pr, ρ, ds, en, e1, fun vs H' s hv => ⟨?_, fun p np ne => ?_⟩⟩
  · rw [hv.len, ln ρ ds e1]
    exact Nat.le_trans sz (by decide)
  · have s2 := same_up (o := .lst vs) np
    exact q _ _ (s.trans s2) (.lst ((pr.same s).new np ne) (.inl upd_same) (hv.s s2))
theorem ltsOf_len {n : Nat} : ∀ {es : List Expr} {L : Lt}, ltsOf N sc n es = some L → es.length ≤ n ∧ ∀ (ρ : List Rho) (ds : List PyData), L.ev ρ = some ds → ds.length = es.length := by
  induction n with
  | zero => intro es L h; simp [ltsOf] at h
  | succ n ih =>
    intro es L h
    cases es with
    | nil =>
      unfold ltsOf at h
      cases h
      exact ⟨Nat.zero_le _, fun ρ ds e => by cases e; rfl⟩
    | cons e es =>
      unfold ltsOf at h
      obtain ⟨a, h1, h⟩ := Option.bind_eq_some_iff.mp h
      obtain ⟨b, h2, rfl⟩ := Option.map_eq_some_iff.mp h
      obtain ⟨g1, g2⟩ := ih h2
      refine ⟨Nat.succ_le_succ g1, fun ρ ds e => ?_⟩
      obtain ⟨x, k1, e⟩ := Option.bind_eq_some_iff.mp e
      obtain ⟨y, k2, rfl⟩ := Option.map_eq_some_iff.mp e
      obtain ⟨d, rfl⟩ := ltOf_one h1 ρ x k1
      rw [List.length_append, List.length_cons, g2 ρ y k2, List.length_cons, List.length_nil]
      omega
theorem starOf {n : Nat} {e : Expr} {L : Lt} (h : ltOf N sc n e = some L) (es : List Expr) (env : Env) : starEach (e :: es) env = (false, eval e env) :: starEach es env := by
  cases n with
  | zero => simp [ltOf] at h
  | succ n =>
    unfold ltOf at h
    split at h
    all_goals (first | rfl | cases h)
theorem pe_ltn (hN : X.N = N) (hs : X.env.scope = sc) : ∀ n, n ≤ 1000 → (∀ e L, ltOf N sc n e = some L → PE X e (tLt X.K M L)) ∧ ∀ es L, ltsOf N sc n es = some L → PA X es (tLts X.K M L) := by
  have nm : ∀ {x : Str} {pos : Pos} {i : Nat}, nameOf N sc x = some i → PE X (.Name x pos) (tVar i) := fun {x pos i} h => by
    obtain ⟨h1, h2, h3, h4⟩ := nameOf_ok h
    exact pe_var (hN ▸ h1) (hs ▸ h2) h3 h4
  have ixc : ∀ {x : Str} {p1 p2 : Pos} {i : Nat} {k : Int} {e2 : Expr}, nameOf N sc x = some i → PE X e2 (fun σ H Q => Q (.int k) H) → PlainIx e2 → PE X (.Subscript (.Name x p1) e2 p2) (tLt X.K M (.ixs i k)) := fun {x p1 p2 i k e2} h h2 pl => by
    refine (pe_ix ix_list (nm h) h2 pl).wk fun σ H Q ⟨pr, ρ, d, en, e, q⟩ => ?_
    obtain ⟨ds, e1, e2⟩ := Option.bind_eq_some_iff.mp e
    obtain ⟨d2, e3, e4⟩ := Option.map_eq_some_iff.mp e2
    cases e4
    have e5 : ρ[i]? = some (.seq ds) := by
      cases hr : ρ[i]? with
      | none => rw [hr] at e1; cases e1
      | some r =>
        rw [hr] at e1
        cases r <;> cases e1
        rfl
    obtain ⟨b, xs, h1, h2, h3⟩ := en.seq e5
    obtain ⟨v, h4, h5⟩ := atI_avs h3 e3
    exact ⟨.ref b, h1, b, xs, k, v, rfl, rfl, h2, h4, q v H (L2.Same.refl H) h5⟩
  intro n
  induction n with
  | zero => exact fun _ => ⟨fun e L h => by simp [ltOf] at h, fun es L h => by simp [ltsOf] at h⟩
  | succ n ih =>
    intro hn
    obtain ⟨ih1, ih2⟩ := ih (by omega)
    refine ⟨fun e L h => ?_, fun es L h => ?_⟩
    · unfold ltOf at h
      split at h
      · cases h
        exact pe_int.wk fun σ H Q ⟨_, ρ, d, _, e, q⟩ => by cases e; exact q _ _ (L2.Same.refl H) (.int _)
      · cases h
        exact pe_bl.wk fun σ H Q ⟨_, ρ, d, _, e, q⟩ => by cases e; exact q _ _ (L2.Same.refl H) (.bl _)
      · cases h
        exact pe_non.wk fun σ H Q ⟨_, ρ, d, _, e, q⟩ => by cases e; exact q _ _ (L2.Same.refl H) .non
      · cases h
        exact pe_str.wk fun σ H Q ⟨_, ρ, d, _, e, q⟩ => by cases e; exact q _ _ (L2.Same.refl H) (.str _)
      · obtain ⟨i, h1, rfl⟩ := Option.map_eq_some_iff.mp h
        refine (nm h1).wk fun σ H Q ⟨_, ρ, d, en, e, q⟩ => ?_
        obtain ⟨d2, e1, e2⟩ := Option.map_eq_some_iff.mp e
        cases e2
        have e5 : ρ[i]? = some (.dat d) := by
          cases hr : ρ[i]? with
          | none => rw [hr] at e1; cases e1
          | some r =>
            rw [hr] at e1
            cases r <;> cases e1
            rfl
        obtain ⟨v, h2, h3⟩ := en.var e5
        exact ⟨v, h2, q v H (L2.Same.refl H) h3⟩
      · obtain ⟨l, h1, rfl⟩ := Option.map_eq_some_iff.mp h
        exact lt_tup (ih2 _ _ h1) (Nat.le_trans (ltsOf_len h1).1 (by omega)) (ltsOf_len h1).2
      · obtain ⟨l, h1, rfl⟩ := Option.map_eq_some_iff.mp h
        exact lt_lst (ih2 _ _ h1) (Nat.le_trans (ltsOf_len h1).1 (by omega)) (ltsOf_len h1).2
      · cases h
        refine pe_dnewN.wk fun σ H Q ⟨pr, ρ, d, _, e, q⟩ p np ne => ?_
        cases e
        exact q _ _ (same_up np) (.dct (pr.new np ne) (.inl upd_same))
      · cases h
        exact (pe_un un_neg pe_int).wk fun σ H Q ⟨_, ρ, d, _, e, q⟩ => by cases e; exact ⟨_, rfl, q _ _ (L2.Same.refl H) (.int _)⟩
      · split at h
        · rename_i hc
          cases h
          exact (pe_op op_pow pe_int pe_int).wk fun σ H Q ⟨_, ρ, d, _, e, q⟩ => by cases e; exact ⟨_, _, rfl, rfl, ⟨hc.1, by omega, hc.2.2⟩, q _ _ (L2.Same.refl H) (.int _)⟩
        · cases h
      · split at h
        · rename_i hc
          cases h
          obtain ⟨rfl, rfl⟩ := hc
          exact (pe_op op_mulA pe_str pe_int).wk fun σ H Q ⟨_, ρ, d, _, e, q⟩ => by cases e; exact ⟨rfl, rfl, q _ _ (L2.Same.refl H) (.str _)⟩
        · cases h
      · obtain ⟨i, h1, rfl⟩ := Option.map_eq_some_iff.mp h
        exact ixc h1 pe_int (fun _ _ => rfl)
      · obtain ⟨i, h1, rfl⟩ := Option.map_eq_some_iff.mp h
        exact ixc h1 ((pe_un un_neg pe_int).wk fun σ H Q q => ⟨_, rfl, q⟩) (fun _ _ => rfl)
      · cases h
    · cases es with
      | nil =>
        unfold ltsOf at h
        cases h
        exact pa_nil.wk fun σ H Q ⟨_, ρ, ds, _, e, q⟩ => by cases e; exact q _ _ (L2.Same.refl H) .nil
      | cons e es =>
        unfold ltsOf at h
        obtain ⟨a, h1, h⟩ := Option.bind_eq_some_iff.mp h
        obtain ⟨b, h2, rfl⟩ := Option.map_eq_some_iff.mp h
        refine (pa_cons (ih1 _ _ h1) (ih2 _ _ h2) (starOf h1 _ _)).wk fun σ H Q ⟨pr, ρ, ds, en, e, q⟩ => ?_
        obtain ⟨x, k1, e⟩ := Option.bind_eq_some_iff.mp e
        obtain ⟨y, k2, rfl⟩ := Option.map_eq_some_iff.mp e
        obtain ⟨d, rfl⟩ := ltOf_one h1 ρ x k1
        refine ⟨pr, ρ, d, en, k1, fun v H' s hv => ⟨pr.same s, ρ, y, en.same s, k2, fun vs H2 s2 hvs => q (v :: vs) H2 (s.trans s2) (.cons (hv.s s2) hvs)⟩⟩
/-- a written value -/
theorem pe_lt {e : Expr} {L : Lt} (M : Addr → Prop) (n : Nat) (hN : X.N = N) (hs : X.env.scope = sc) (h : ltOf N sc n e = some L) (hn : n ≤ 1000 := by decide) : PE X e (tLt X.K M L) := (pe_ltn hN hs n hn).1 e L h
/-- written values -/
theorem pa_lts {es : List Expr} {L : Lt} (M : Addr → Prop) (n : Nat) (hN : X.N = N) (hs : X.env.scope = sc) (h : ltsOf N sc n es = some L) (hn : n ≤ 1000 := by decide) : PA X es (tLts X.K M L) := (pe_ltn hN hs n hn).2 es L h
end
end
end Tl
set_option Elab.async false
set_option linter.all false
set_option autoImplicit false
set_option maxRecDepth 100000
set_option maxHeartbeats 2000000
/-! any values: +, -, slices, items, turned about, list(), str(), == 1 -/
namespace Tl
open PySem PySem.Spec PyProof.Rows L2
def bI (b : Bool) : Int := if b = true then 1 else 0
def numO : PyData → Option Int
  | .int i => some i
  | .bool b => some (bI b)
  | _ => none
def addD : PyData → PyData → Option PyData
  | .tuple a, .tuple b => some (.tuple (a ++ b))
  | .int a, .int b => some (.int (a + b))
  | .bool a, .int b => some (.int (bI a + b))
  | .str a, .str b => some (.str (a ++ b))
  | _, _ => none
def subD : PyData → PyData → Option PyData
  | .int a, .int b => some (.int (a - b))
  | .bool a, .int b => some (.int (bI a - b))
  | _, _ => none
def negD : PyData → Option PyData
  | .int a => some (.int (-a))
  | .bool a => some (.int (-bI a))
  | _ => none
def eqID : PyData → PyData → Option PyData
  | .int a, .int b => some (.bool (a == b))
  | .bool a, .int b => some (.bool (bI a == b))
  | _, _ => none
def cutD (xs : List PyData) (lo hi : Option Int) : List PyData := (xs.drop (HT.sIx xs.length 0 lo)).take (HT.sIx xs.length xs.length hi - HT.sIx xs.length 0 lo)
def slD (lo hi : Option Int) : PyData → Option PyData
  | .tuple a => some (.tuple (cutD a lo hi))
  | .str a => some (.str (cutS a lo hi))
  | _ => none
def revD : PyData → Option PyData
  | .tuple a => some (.tuple a.reverse)
  | _ => none
def lstD : PyData → Option PyData
  | .tuple a => some (.list a)
  | _ => none
def strD : PyData → Option PyData
  | .int a => some (.str (toString a))
  | .bool b => some (.str (if b = true then "True" else "False"))
  | _ => none
def atD : PyData → PyData → Option PyData
  | .tuple a, .int k => atI a k
  | _, _ => none
/-- its tuples, lists, texts have at most k items, its ints less than k bits -/
def hz (k : Nat) : PyData → Bool
  | .int i => decide (i.natAbs < 2 ^ k)
  | .str x => decide (x.length ≤ k)
  | .list ds => decide (ds.length ≤ k) && hzAll ds
  | .tuple ds => decide (ds.length ≤ k) && hzAll ds
  | .dict kvs => kvs.isEmpty
  | _ => true
where hzAll : List PyData → Bool
  | [] => true
  | d :: ds => hz k d && hzAll ds
theorem hzAll_iff {k : Nat} : ∀ {ds : List PyData}, hz.hzAll k ds = true ↔ ∀ d ∈ ds, hz k d = true
  | [] => by simp [hz.hzAll]
  | d :: ds => by
    rw [hz.hzAll, Bool.and_eq_true, hzAll_iff]
    simp
theorem hz_tup {k : Nat} {ds : List PyData} : hz k (.tuple ds) = true ↔ ds.length ≤ k ∧ ∀ d ∈ ds, hz k d = true := by
  rw [hz, Bool.and_eq_true, decide_eq_true_eq, hzAll_iff]
theorem hz_lst {k : Nat} {ds : List PyData} : hz k (.list ds) = true ↔ ds.length ≤ k ∧ ∀ d ∈ ds, hz k d = true := by
  rw [hz, Bool.and_eq_true, decide_eq_true_eq, hzAll_iff]
theorem hz_str {k : Nat} {x : Str} : hz k (.str x) = true ↔ x.length ≤ k := by
  rw [hz, decide_eq_true_eq]
theorem hz_int {k : Nat} {i : Int} : hz k (.int i) = true ↔ i.natAbs < 2 ^ k := by
  rw [hz, decide_eq_true_eq]
theorem hz_up {j k : Nat} (h : j ≤ k) : ∀ {d : PyData}, hz j d = true → hz k d = true
  | .none, _ => rfl
  | .bool _, _ => rfl
  | .int i, z => hz_int.mpr (Nat.lt_of_lt_of_le (hz_int.mp z) (Nat.pow_le_pow_right (by decide) h))
  | .str x, z => hz_str.mpr (Nat.le_trans (hz_str.mp z) h)
  | .list ds, z => by
    have ⟨z1, z2⟩ := hz_lst.mp z
    exact hz_lst.mpr ⟨Nat.le_trans z1 h, fun d m => hz_up h (z2 d m)⟩
  | .tuple ds, z => by
    have ⟨z1, z2⟩ := hz_tup.mp z
    exact hz_tup.mpr ⟨Nat.le_trans z1 h, fun d m => hz_up h (z2 d m)⟩
  | .dict kvs, z => z
theorem cutD_sub {xs : List PyData} {lo hi : Option Int} {d : PyData} (m : d ∈ cutD xs lo hi) : d ∈ xs := List.mem_of_mem_drop (List.mem_of_mem_take m)
theorem cutD_len (xs : List PyData) (lo hi : Option Int) : (cutD xs lo hi).length ≤ xs.length := by
  unfold cutD
  rw [List.length_take, List.length_drop]
  omega
section
variable {K : PySem.W.Frag} {M : Addr → Prop} {H : Hp}
theorem Avs.cut {xs : List V} {ds : List PyData} (h : Avs K M H xs ds) (lo hi : Option Int) : Avs K M H (cutV xs lo hi) (cutD ds lo hi) := by
  unfold cutV cutD
  rw [h.len]
  exact (h.drop _).take _
end
/-- what an operation of any values gives -/
def Gv (K : PySem.W.Frag) (M : Addr → Prop) (H : Hp) (f : PyData) (Q : VK) : Prop := ∀ v H', L2.Same H H' → Av K M H' v f → Q v H'
def rAddA (K : PySem.W.Frag) : R2 := fun x y H Q => ∃ (M : Addr → Prop), ∃ d e f, Av K M H x d ∧ Av K M H y e ∧ hz 4000000 d = true ∧ hz 4000000 e = true ∧ addD d e = some f ∧ Gv K M H f Q
def rSubA (K : PySem.W.Frag) : R2 := fun x y H Q => ∃ (M : Addr → Prop), ∃ d e f, Av K M H x d ∧ Av K M H y e ∧ subD d e = some f ∧ Gv K M H f Q
def rEqIA (K : PySem.W.Frag) : R2 := fun x y H Q => ∃ (M : Addr → Prop), ∃ d e f, Av K M H x d ∧ Av K M H y e ∧ eqID d e = some f ∧ Gv K M H f Q
def rNegA (K : PySem.W.Frag) : V → Hp → VK → Prop := fun x H Q => ∃ (M : Addr → Prop), ∃ d f, Av K M H x d ∧ negD d = some f ∧ Gv K M H f Q
def rSlAv (K : PySem.W.Frag) : V → Option Int → Option Int → Hp → VK → Prop := fun x lo hi H Q => ∃ (M : Addr → Prop), ∃ d f, Av K M H x d ∧ hz 4000000 d = true ∧ slD lo hi d = some f ∧ Gv K M H f Q
def rIxAv (K : PySem.W.Frag) : R2 := fun x y H Q => ∃ (M : Addr → Prop), ∃ d e f, Av K M H x d ∧ Av K M H y e ∧ atD d e = some f ∧ Gv K M H f Q
def rStrA (K : PySem.W.Frag) : List V → Hp → VK → Prop := fun xs H Q => ∃ (M : Addr → Prop), ∃ x d f, xs = [x] ∧ Av K M H x d ∧ hz 1900 d = true ∧ strD d = some f ∧ Gv K M H f Q
def rLstA (K : PySem.W.Frag) : List V → Hp → VK → Prop := fun xs H Q => ∃ (M : Addr → Prop), ∃ x d f, xs = [x] ∧ Av K M H x d ∧ Pre M H ∧ lstD d = some f ∧ Gv K M H f Q
theorem sl_any {K : PySem.W.Frag} {H : Hp} {Q : VK} {a : Addr} {xs : List V} {lo hi : Option Int} (ha : SqT K H a xs) (q : ∀ r H', L2.Same H H' → SqT K H' r (cutV xs lo hi) → Q (.ref r) H') : rSlA K (.ref a) lo hi H Q := by
  refine ⟨a, xs, rfl, ha, fun e => ?_, fun _ p np => q p _ (same_up np) (tupOf upd_same)⟩
  refine q a H (L2.Same.refl H) ?_
  unfold cutV
  rw [e.1, e.2, List.drop_zero, Nat.sub_zero, List.take_of_length_le (Nat.le_refl _)]
  exact ha
theorem cat_any {K : PySem.W.Frag} {H : Hp} {Q : VK} {a b : Addr} {xs ys : List V} (ha : SqT K H a xs) (hb : SqT K H b ys) (len : xs.length + ys.length ≤ sizeLine) (q : ∀ r H', L2.Same H H' → SqT K H' r (xs ++ ys) → Q (.ref r) H') : rCatA K (.ref a) (.ref b) H Q := by
  refine ⟨a, b, xs, ys, rfl, rfl, ha, hb, len, fun e => ?_, fun _ e => ?_, fun _ _ p np => q p _ (same_up np) (tupOf upd_same)⟩
  · subst e
    exact q b H (L2.Same.refl H) hb
  · subst e
    exact q a H (L2.Same.refl H) (by rw [List.append_nil]; exact ha)
theorem neg_bool {prog : Program} {w : World} {A : Around} {E : Value → Shared → Prop} {s : Shared} {a : Bool} {Q : Value → Shared → Prop} (h : Q (.int (-bI a) s.toks) { s with toks := s.toks + 1 }) : wpAny (model prog w) A (unaryOp .USub (.bool a)) Q E s := by
  unfold unaryOp
  refine wpAny_holding ?_
  refine wpAny_bind (m := callSpecial? (.bool a) (Str.ofString "__neg__")) (wpAny_callSpecial?_slot (name := Str.ofString "__neg__") (PySem.typeIs_bool s a) PySem.F.slot_bool_neg
    (wpAny_call_entry PySem.F.slot_bool_neg (PySem.typeIs_bool s a) entry_int_neg ?_ (args_int_neg _)))
  show wpAny _ _ (do ret (← mkInt (-bI a))) _ _ s
  exact wpAny_ret_mkInt (wpAny_pure h)
section
variable {X : Cx}
theorem op_addA {K : PySem.W.Frag} (hK : X.K = K) : OpR X (binaryOp .Add) (rAddA K) := by
  subst hK
  intro pins s σ H x y v u Q I rx ry h
  obtain ⟨M, d, e, f, hd, he, zd, ze, hf, q⟩ := h
  unfold addD at hf
  split at hf <;> cases hf
  · cases hd with
    | tup a1 a2 => cases he with
      | tup b1 b2 =>
        refine op_catA pins s σ H _ _ v u Q I rx ry (cat_any a1 b1 ?_ fun r H' s h => q _ _ s (.tup h ((a2.s s).app (b2.s s))))
        have l1 := (hz_tup.mp zd).1
        have l2 := (hz_tup.mp ze).1
        rw [a2.len, b2.len, sizeLine_eq]
        omega
  · cases hd
    cases he
    exact op_add pins s σ H _ _ v u Q I rx ry ⟨_, _, rfl, rfl, q _ _ (L2.Same.refl H) (.int _)⟩
  · cases hd
    cases he
    cases rx
    obtain ⟨t, rfl⟩ := ry
    exact PySem.IntBool.add_bool_int ⟨.int _, H, I.tok _, ⟨_, rfl⟩, q _ _ (L2.Same.refl H) (.int _)⟩
  · cases hd
    cases he
    refine op_add_str pins s σ H _ _ v u Q I rx ry ⟨_, _, rfl, rfl, ?_, q _ _ (L2.Same.refl H) (.str _)⟩
    have l1 := hz_str.mp zd
    have l2 := hz_str.mp ze
    rw [sizeLine_eq]
    omega
theorem op_subA {K : PySem.W.Frag} (hK : X.K = K) : OpR X (binaryOp .Sub) (rSubA K) := by
  subst hK
  intro pins s σ H x y v u Q I rx ry h
  obtain ⟨M, d, e, f, hd, he, hf, q⟩ := h
  unfold subD at hf
  split at hf <;> cases hf
  · cases hd
    cases he
    exact op_sub pins s σ H _ _ v u Q I rx ry ⟨_, _, rfl, rfl, q _ _ (L2.Same.refl H) (.int _)⟩
  · cases hd
    cases he
    cases rx
    obtain ⟨t, rfl⟩ := ry
    exact PySem.IntBool.sub_bool_int ⟨.int _, H, I.tok _, ⟨_, rfl⟩, q _ _ (L2.Same.refl H) (.int _)⟩
theorem op_eqIA {K : PySem.W.Frag} (hK : X.K = K) : OpR X (compareOp .Eq) (rEqIA K) := by
  subst hK
  intro pins s σ H x y v u Q I rx ry h
  obtain ⟨M, d, e, f, hd, he, hf, q⟩ := h
  unfold eqID at hf
  split at hf <;> cases hf
  · cases hd
    cases he
    refine op_eq pins s σ H _ _ v u Q I rx ry ⟨rfl, ?_⟩
    rw [dec_int]
    exact q _ _ (L2.Same.refl H) (.bl _)
  · cases hd
    cases he
    cases rx
    obtain ⟨t, rfl⟩ := ry
    exact PySem.EqBoolInt.eq_bool_int ⟨.bl _, H, I, rfl, q _ _ (L2.Same.refl H) (.bl _)⟩
theorem un_negA {K : PySem.W.Frag} (hK : X.K = K) : UnR X (unaryOp .USub) (rNegA K) := by
  subst hK
  intro pins s σ H x v Q I rx h
  obtain ⟨M, d, f, hd, hf, q⟩ := h
  unfold negD at hf
  split at hf <;> cases hf
  · cases hd
    exact un_neg pins s σ H _ v Q I rx ⟨_, rfl, q _ _ (L2.Same.refl H) (.int _)⟩
  · cases hd
    cases rx
    exact neg_bool ⟨.int _, H, I.tok _, ⟨_, rfl⟩, q _ _ (L2.Same.refl H) (.int _)⟩
theorem sl_av {K : PySem.W.Frag} (hK : X.K = K) : SlR X (rSlAv K) := by
  subst hK
  intro pins s σ H x v vl vu lo hi sl Q I rx hs pl pu h
  obtain ⟨M, d, f, hd, zd, hf, q⟩ := h
  unfold slD at hf
  split at hf <;> cases hf
  · cases hd with
    | tup a1 a2 => exact sl_tupA pins s σ H _ v vl vu lo hi sl Q I rx hs pl pu (sl_any a1 fun r H' s h => q _ _ s (.tup h ((a2.s s).cut lo hi)))
  · cases hd
    refine sl_str pins s σ H _ v vl vu lo hi sl Q I rx hs pl pu ⟨_, rfl, ?_, q _ _ (L2.Same.refl H) (.str _)⟩
    have l1 := hz_str.mp zd
    rw [sizeLine_eq]
    omega
theorem ix_av {K : PySem.W.Frag} (hK : X.K = K) : IxR X (rIxAv K) := by
  subst hK
  intro value slice pins s σ H x y v u Q I rx ry h hs
  obtain ⟨M, d, e, f, hd, he, hf, q⟩ := h
  unfold atD at hf
  split at hf <;> try cases hf
  cases hd with
  | tup a1 a2 =>
    cases he
    obtain ⟨z, h1, h2⟩ := atI_avs a2 hf
    exact ix_tup value slice pins s σ H _ _ v u Q I rx ry ⟨_, _, _, z, rfl, rfl, a1, h1, q _ _ (L2.Same.refl H) h2⟩ hs
theorem log_lt {n k : Nat} (h : n < 2 ^ k) (hk : 0 < k) : n.log2 < k := by
  by_cases z : n = 0
  · subst z
    simpa using hk
  · exact (Nat.log2_lt z).mpr h
theorem cr_strA {K : PySem.W.Frag} (hK : X.K = K) : CallR X (.type "str") (rStrA K) := by
  subst hK
  intro pins s σ H xs us Q I r h
  obtain ⟨M, x, d, f, rfl, hd, zd, hf, q⟩ := h
  unfold strD at hf
  split at hf <;> cases hf
  · cases hd
    exact call_str_int pins s σ H _ us Q I r ⟨_, rfl, Nat.lt_trans (log_lt (hz_int.mp zd) (by decide)) (by decide), q _ _ (L2.Same.refl H) (.str _)⟩
  · cases hd
    obtain ⟨u, rfl, r1⟩ := vals1 r
    cases r1
    exact PySem.P.str_of_bool ⟨.str _, H, I.tok _, ⟨_, rfl⟩, q _ _ (L2.Same.refl H) (.str _)⟩
theorem cr_lstA {K : PySem.W.Frag} (hK : X.K = K) : CallR X (.type "list") (rLstA K) := by
  subst hK
  intro pins s σ H xs us Q I r h
  obtain ⟨M, x, d, f, rfl, hd, pr, hf, q⟩ := h
  unfold lstD at hf
  split at hf <;> cases hf
  cases hd with
  | tup a1 a2 =>
    refine call_list_ofN pins s σ H _ us Q I r ⟨_, _, rfl, .inr a1, fun l nl ne => ?_⟩
    exact q _ _ (same_up nl) (.lst (pr.new nl ne) (.inl upd_same) (a2.s (same_up nl)))
def tRevA (K : PySem.W.Frag) (te : TE) : TE := fun σ H Q => te σ H fun x H1 => ∃ (M : Addr → Prop), ∃ d f, Av K M H1 x d ∧ revD d = some f ∧ Gv K M H1 f Q
def tMono (te : TE) : TE := fun σ H Q => ∃ Q0 : VK, te σ H Q0 ∧ ∀ x H1, Q0 x H1 → Q x H1
theorem pe_mono {e : Expr} {te : TE} (he : PE X e te) : PE X e (tMono te) := ⟨fun pins s σ H Q I ⟨Q0, h, k⟩ =>
  thn (he.run pins s σ H _ I h) fun u s1 ⟨x, H1, I1, r1, q1⟩ => ⟨x, H1, I1, r1, k x H1 q1⟩⟩
theorem pe_revA {K : PySem.W.Frag} {e : Expr} {te : TE} {k : Nat} {p1 p2 p3 pos : Pos} (hK : X.K = K) (he : PE X e te) : PE X (.Subscript e (.Slice none none (some (.UnaryOp .USub (.Constant (.int 1) k p1) p2)) p3) pos) (tRevA K te) := by
  refine (pe_revT (K := K) hK (pe_mono he)).wk fun σ H Q q => ⟨_, q, fun x H1 ⟨M, d, f, hd, hf, q1⟩ => ?_⟩
  unfold revD at hf
  split at hf <;> cases hf
  cases hd with
  | tup a1 a2 =>
    refine ⟨_, _, rfl, a1, fun p np => ?_⟩
    exact q1 _ _ (same_up np) (.tup (tupOf upd_same) (a2.s (same_up np)).rev)
end
end Tl
set_option Elab.async false
set_option linter.all false
set_option autoImplicit false
set_option maxRecDepth 100000
set_option maxHeartbeats 2000000
/-! expressions of any values: what they give -/
namespace Tl
open PySem PySem.Spec PyProof.Rows L2
inductive Ex where
  | con (d : PyData) | var (i : Nat) | ixs (i : Nat) (k : Int) | tup (l : Ex) | lst (l : Ex) | nil | cons (a b : Ex)
  | at_ (t i : Ex) | sl (t lo hi : Ex) | no | rev (t : Ex) | add (a b : Ex) | sub (a b : Ex) | neg (a : Ex) | eqi (a b : Ex) | lstf (t : Ex) | strf (t : Ex) | up (t : Ex)
def upD : PyData → Option PyData
  | .str a => some (.str (Txt.upper a))
  | _ => none
def rseqs : Option Rho → Option (List PyData)
  | some (.seq d) => some d
  | some (.dat (.tuple d)) => some d
  | _ => none
def one (x : Option (List PyData)) : Option PyData := match x with
  | some [d] => some d
  | _ => none
def onei (x : Option (List PyData)) : Option Int := match x with
  | some [.int i] => some i
  | _ => none
def some1 (x : Option PyData) : Option (List PyData) := x.map fun d => [d]
def Ex.isNo : Ex → Bool
  | .no => true
  | _ => false
def prt (b : Bool) (x : Option (List PyData)) : Option (Option Int) := if b = true then some none else (onei x).map some
def Ex.ev (ρ : List Rho) : Ex → Option (List PyData)
  | .con d => some [d]
  | .var i => some1 (rdat ρ[i]?)
  | .ixs i k => some1 ((rseqs ρ[i]?).bind fun ds => atI ds k)
  | .tup l => (l.ev ρ).map fun ds => [.tuple ds]
  | .lst l => (l.ev ρ).map fun ds => [.list ds]
  | .nil => some []
  | .cons a b => (one (a.ev ρ)).bind fun x => (b.ev ρ).map fun y => x :: y
  | .at_ t i => some1 ((one (t.ev ρ)).bind fun x => (one (i.ev ρ)).bind fun y => atD x y)
  | .no => none
  | .sl t lo hi => some1 ((one (t.ev ρ)).bind fun x => (prt lo.isNo (lo.ev ρ)).bind fun l => (prt hi.isNo (hi.ev ρ)).bind fun u => slD l u x)
  | .rev t => some1 ((one (t.ev ρ)).bind revD)
  | .add a b => some1 ((one (a.ev ρ)).bind fun x => (one (b.ev ρ)).bind fun y => addD x y)
  | .sub a b => some1 ((one (a.ev ρ)).bind fun x => (one (b.ev ρ)).bind fun y => subD x y)
  | .eqi a b => some1 ((one (a.ev ρ)).bind fun x => (one (b.ev ρ)).bind fun y => eqID x y)
  | .neg a => some1 ((one (a.ev ρ)).bind negD)
  | .lstf a => some1 ((one (a.ev ρ)).bind lstD)
  | .strf a => some1 ((one (a.ev ρ)).bind strD)
  | .up a => some1 ((one (a.ev ρ)).bind upD)
/-- a bound on what comes, if all names have at most B -/
def cz : PyData → Nat
  | .int i => i.natAbs.log2 + 1
  | .str x => x.length
  | _ => 0
def Ex.z (B : Nat) : Ex → Nat
  | .con d => cz d
  | .var _ => B
  | .ixs _ _ => B
  | .tup l => l.z B + 1
  | .lst l => l.z B + 1
  | .nil => 0
  | .cons a b => a.z B + b.z B + 1
  | .at_ t i => t.z B + i.z B
  | .no => 0
  | .sl t lo hi => t.z B + lo.z B + hi.z B
  | .rev t => t.z B
  | .add a b => a.z B + b.z B + 1
  | .sub a b => a.z B + b.z B + 1
  | .eqi a b => a.z B + b.z B
  | .neg a => a.z B + 1
  | .lstf a => a.z B
  | .strf a => a.z B + 6
  | .up a => 3 * a.z B
def isCon : PyData → Bool
  | .none => true | .bool _ => true | .int _ => true | .str _ => true | .dict [] => true
  | _ => false
def Ex.ok (B : Nat) : Ex → Bool
  | .con d => isCon d
  | .tup l => l.ok B && decide (l.z B ≤ 4000000)
  | .lst l => l.ok B && decide (l.z B ≤ 4000000)
  | .cons a b => a.ok B && b.ok B
  | .at_ t i => t.ok B && i.ok B
  | .sl t lo hi => t.ok B && lo.ok B && hi.ok B && decide (t.z B ≤ 4000000)
  | .rev t => t.ok B
  | .add a b => a.ok B && b.ok B && decide (a.z B ≤ 4000000) && decide (b.z B ≤ 4000000)
  | .sub a b => a.ok B && b.ok B
  | .eqi a b => a.ok B && b.ok B
  | .neg a => a.ok B
  | .lstf a => a.ok B
  | .strf a => a.ok B && decide (a.z B ≤ 1900)
  | .up a => a.ok B && decide (a.z B ≤ 4000000)
  | _ => true
def rhoZ (B : Nat) : Rho → Prop
  | .no => True
  | .dat d => hz B d = true
  | .seq ds => ∀ d ∈ ds, hz B d = true
def EnvZ (B : Nat) (ρ : List Rho) : Prop := ∀ r ∈ ρ, rhoZ B r
theorem some1_eq {x : Option PyData} {ds : List PyData} (h : some1 x = some ds) : ∃ d, x = some d ∧ ds = [d] := by
  obtain ⟨d, h1, h2⟩ := Option.map_eq_some_iff.mp h
  exact ⟨d, h1, h2.symm⟩
theorem one_eq {x : Option (List PyData)} {d : PyData} (h : one x = some d) : x = some [d] := by
  unfold one at h
  split at h <;> cases h
  rfl
theorem cz_ok {d : PyData} (h : isCon d = true) : hz (cz d) d = true := by
  cases d with
  | int i => exact hz_int.mpr Nat.lt_log2_self
  | str x => exact hz_str.mpr (Nat.le_refl _)
  | none => rfl
  | bool b => rfl
  | dict k => cases k with
    | nil => rfl
    | cons a b => cases h
  | list k => cases h
  | tuple k => cases h
theorem natAbs_add {a b : Int} {m n : Nat} (h1 : a.natAbs < 2 ^ m) (h2 : b.natAbs < 2 ^ n) : (a + b).natAbs < 2 ^ (m + n + 1) := by
  have h3 : 2 ^ m ≤ 2 ^ (m + n) := Nat.pow_le_pow_right (by decide) (Nat.le_add_right _ _)
  have h4 : 2 ^ n ≤ 2 ^ (m + n) := Nat.pow_le_pow_right (by decide) (Nat.le_add_left _ _)
  have h5 : 2 ^ (m + n + 1) = 2 ^ (m + n) + 2 ^ (m + n) := by rw [Nat.pow_succ]; omega
  omega
theorem bI_lt (b : Bool) (m : Nat) : (bI b).natAbs < 2 ^ (m + 1) := by
  have : 0 < 2 ^ m := Nat.pow_pos (by decide)
  have h5 : 2 ^ (m + 1) = 2 ^ m + 2 ^ m := by rw [Nat.pow_succ]; omega
  cases b
  · show 0 < _
    omega
  · show 1 < _
    omega
theorem atI_mem {ds : List PyData} {k : Int} {d : PyData} (h : atI ds k = some d) : d ∈ ds := by
  unfold atI at h
  obtain ⟨j, _, h2⟩ := Option.bind_eq_some_iff.mp h
  exact List.mem_of_getElem? h2
theorem atD_hz {d e f : PyData} {k : Nat} (h : atD d e = some f) (z : hz k d = true) : hz k f = true := by
  unfold atD at h
  split at h <;> try cases h
  exact (hz_tup.mp z).2 _ (atI_mem h)
theorem slD_hz {d f : PyData} {lo hi : Option Int} {k : Nat} (h : slD lo hi d = some f) (z : hz k d = true) : hz k f = true := by
  unfold slD at h
  split at h <;> cases h
  · have ⟨z1, z2⟩ := hz_tup.mp z
    exact hz_tup.mpr ⟨Nat.le_trans (cutD_len _ _ _) z1, fun e m => z2 e (cutD_sub m)⟩
  · exact hz_str.mpr (Nat.le_trans (cutS_length _ _ _) (hz_str.mp z))
theorem revD_hz {d f : PyData} {k : Nat} (h : revD d = some f) (z : hz k d = true) : hz k f = true := by
  unfold revD at h
  split at h <;> cases h
  have ⟨z1, z2⟩ := hz_tup.mp z
  exact hz_tup.mpr ⟨by rw [List.length_reverse]; exact z1, fun e m => z2 e (List.mem_reverse.mp m)⟩
theorem lstD_hz {d f : PyData} {k : Nat} (h : lstD d = some f) (z : hz k d = true) : hz k f = true := by
  unfold lstD at h
  split at h <;> cases h
  exact hz_lst.mpr (hz_tup.mp z)
theorem addD_hz {d e f : PyData} {j k : Nat} (h : addD d e = some f) (z : hz j d = true) (y : hz k e = true) : hz (j + k + 1) f = true := by
  unfold addD at h
  split at h <;> cases h
  · have ⟨z1, z2⟩ := hz_tup.mp z
    have ⟨y1, y2⟩ := hz_tup.mp y
    refine hz_tup.mpr ⟨by rw [List.length_append]; omega, fun e m => ?_⟩
    rcases List.mem_append.mp m with m | m
    · exact hz_up (by omega) (z2 e m)
    · exact hz_up (by omega) (y2 e m)
  · exact hz_int.mpr (natAbs_add (hz_int.mp z) (hz_int.mp y))
  · have := natAbs_add (bI_lt (by assumption) j) (hz_int.mp y)
    refine hz_int.mpr ?_
    rename_i a b
    have y1 := hz_int.mp y
    have h3 : 2 ^ k ≤ 2 ^ (j + k) := Nat.pow_le_pow_right (by decide) (Nat.le_add_left _ _)
    have h5 : 2 ^ (j + k + 1) = 2 ^ (j + k) + 2 ^ (j + k) := by rw [Nat.pow_succ]; omega
    have h6 : (bI a).natAbs ≤ 1 := by cases a <;> decide
    omega
  · have z1 := hz_str.mp z
    have y1 := hz_str.mp y
    refine hz_str.mpr ?_
    rename_i a b
    show (a ++ b).cps.size ≤ _
    have : (a ++ b).cps.size = a.cps.size + b.cps.size := Array.size_append
    have z2 : a.cps.size ≤ j := z1
    have y2 : b.cps.size ≤ k := y1
    omega
theorem subD_hz {d e f : PyData} {j k : Nat} (h : subD d e = some f) (z : hz j d = true) (y : hz k e = true) : hz (j + k + 1) f = true := by
  unfold subD at h
  split at h <;> cases h
  · rename_i a b
    have := natAbs_add (a := a) (b := -b) (hz_int.mp z) (by rw [Int.natAbs_neg]; exact hz_int.mp y)
    exact hz_int.mpr this
  · rename_i a b
    refine hz_int.mpr ?_
    have y1 := hz_int.mp y
    have h3 : 2 ^ k ≤ 2 ^ (j + k) := Nat.pow_le_pow_right (by decide) (Nat.le_add_left _ _)
    have h5 : 2 ^ (j + k + 1) = 2 ^ (j + k) + 2 ^ (j + k) := by rw [Nat.pow_succ]; omega
    have h6 : (bI a).natAbs ≤ 1 := by cases a <;> decide
    omega
theorem negD_hz {d f : PyData} {k : Nat} (h : negD d = some f) (z : hz k d = true) : hz (k + 1) f = true := by
  unfold negD at h
  split at h <;> cases h
  · rename_i a
    refine hz_int.mpr ?_
    rw [Int.natAbs_neg]
    exact Nat.lt_of_lt_of_le (hz_int.mp z) (Nat.pow_le_pow_right (by decide) (Nat.le_succ _))
  · rename_i a
    refine hz_int.mpr ?_
    rw [Int.natAbs_neg]
    exact bI_lt a k
theorem eqID_hz {d e f : PyData} {k : Nat} (h : eqID d e = some f) : hz k f = true := by
  unfold eqID at h
  split at h <;> cases h <;> rfl
theorem strD_hz {d f : PyData} {k : Nat} (h : strD d = some f) (z : hz k d = true) : hz (k + 6) f = true := by
  unfold strD at h
  split at h <;> cases h
  · rename_i a
    have h1 := hz_int.mp z
    have h2 : 2 ^ k ≤ 10 ^ (k + 1) := Nat.le_trans (Nat.pow_le_pow_left (by decide) k) (Nat.pow_le_pow_right (by decide) (Nat.le_succ _))
    have h3 := int_text_length_le10 (k := k + 1) (Nat.succ_pos _) (Nat.lt_of_lt_of_le h1 h2)
    refine hz_str.mpr ?_
    rw [show (Str.ofString (toString a)).length = (toString a).length from PySem.ofString_length _]
    omega
  · rename_i b
    refine hz_str.mpr ?_
    cases b
    · exact Nat.le_trans (show (5 : Nat) ≤ 6 by decide) (Nat.le_add_left _ _)
    · exact Nat.le_trans (show (4 : Nat) ≤ 6 by decide) (Nat.le_add_left _ _)
theorem upD_hz {d f : PyData} {k : Nat} (h : upD d = some f) (z : hz k d = true) : hz (3 * k) f = true := by
  unfold upD at h
  split at h <;> cases h
  have h1 := hz_str.mp z
  have h2 := PyProof.Rows.len_upper (by assumption)
  exact hz_str.mpr (Nat.le_trans h2 (by omega))
theorem Ex.bnd {B : Nat} {ρ : List Rho} (hρ : EnvZ B ρ) : ∀ (L : Ex) (ds : List PyData), L.ok B = true → L.ev ρ = some ds → ds.length ≤ L.z B + 1 ∧ ∀ d ∈ ds, hz (L.z B) d = true := by
  have single : ∀ {L : Ex} {d : PyData}, hz (L.z B) d = true → [d].length ≤ L.z B + 1 ∧ ∀ e ∈ [d], hz (L.z B) e = true := fun {L d} h => ⟨Nat.le_add_left _ _, fun e m => by
    cases List.mem_singleton.mp m
    exact h⟩
  intro L
  induction L with
  | con d =>
    intro ds ok e
    cases e
    exact single (L := .con d) (cz_ok ok)
  | var i =>
    intro ds ok e
    obtain ⟨d, h1, rfl⟩ := some1_eq e
    refine single (L := .var i) ?_
    cases hr : ρ[i]? with
    | none => rw [hr] at h1; cases h1
    | some r =>
      rw [hr] at h1
      cases r <;> cases h1
      exact hρ _ (List.mem_of_getElem? hr)
  | ixs i k =>
    intro ds ok e
    obtain ⟨d, h1, rfl⟩ := some1_eq e
    refine single (L := .ixs i k) ?_
    obtain ⟨es, h2, h3⟩ := Option.bind_eq_some_iff.mp h1
    have m := atI_mem h3
    cases hr : ρ[i]? with
    | none => rw [hr] at h2; cases h2
    | some r =>
      rw [hr] at h2
      have hz := hρ _ (List.mem_of_getElem? hr)
      cases r with
      | no => cases h2
      | seq es' => cases h2; exact hz _ m
      | dat d' =>
        cases d' <;> cases h2
        exact (hz_tup.mp hz).2 _ m
  | tup l ih =>
    intro ds ok e
    obtain ⟨es, h1, h2⟩ := Option.map_eq_some_iff.mp e
    subst h2
    rw [Ex.ok, Bool.and_eq_true] at ok
    obtain ⟨g1, g2⟩ := ih es ok.1 h1
    exact single (L := .tup l) (hz_tup.mpr ⟨g1, fun d m => hz_up (Nat.le_succ _) (g2 d m)⟩)
  | lst l ih =>
    intro ds ok e
    obtain ⟨es, h1, h2⟩ := Option.map_eq_some_iff.mp e
    subst h2
    rw [Ex.ok, Bool.and_eq_true] at ok
    obtain ⟨g1, g2⟩ := ih es ok.1 h1
    exact single (L := .lst l) (hz_lst.mpr ⟨g1, fun d m => hz_up (Nat.le_succ _) (g2 d m)⟩)
  | nil =>
    intro ds ok e
    cases e
    exact ⟨Nat.zero_le _, fun d m => nomatch m⟩
  | cons a b iha ihb =>
    intro ds ok e
    rw [Ex.ok, Bool.and_eq_true] at ok
    obtain ⟨x, h1, h2⟩ := Option.bind_eq_some_iff.mp e
    obtain ⟨y, h3, h4⟩ := Option.map_eq_some_iff.mp h2
    subst h4
    obtain ⟨a1, a2⟩ := iha _ ok.1 (one_eq h1)
    obtain ⟨b1, b2⟩ := ihb _ ok.2 h3
    refine ⟨?_, fun d m => ?_⟩
    · rw [List.length_cons]
      show _ ≤ a.z B + b.z B + 1 + 1
      omega
    · rcases List.mem_cons.mp m with rfl | m
      · exact hz_up (show a.z B ≤ a.z B + b.z B + 1 by omega) (a2 _ List.mem_cons_self)
      · exact hz_up (show b.z B ≤ a.z B + b.z B + 1 by omega) (b2 _ m)
  | at_ t i iht ihi =>
    intro ds ok e
    rw [Ex.ok, Bool.and_eq_true] at ok
    obtain ⟨d, h1, rfl⟩ := some1_eq e
    obtain ⟨x, h2, h3⟩ := Option.bind_eq_some_iff.mp h1
    obtain ⟨y, h4, h5⟩ := Option.bind_eq_some_iff.mp h3
    exact single (L := .at_ t i) (hz_up (Nat.le_add_right _ _) (atD_hz h5 ((iht _ ok.1 (one_eq h2)).2 _ List.mem_cons_self)))
  | sl t lo hi iht _ _ =>
    intro ds ok e
    rw [Ex.ok, Bool.and_eq_true, Bool.and_eq_true, Bool.and_eq_true] at ok
    obtain ⟨d, h1, rfl⟩ := some1_eq e
    obtain ⟨x, h2, h3⟩ := Option.bind_eq_some_iff.mp h1
    obtain ⟨l, h4, h3⟩ := Option.bind_eq_some_iff.mp h3
    obtain ⟨u, h5, h3⟩ := Option.bind_eq_some_iff.mp h3
    exact single (L := .sl t lo hi) (hz_up (show t.z B ≤ t.z B + lo.z B + hi.z B by omega) (slD_hz h3 ((iht _ ok.1.1.1 (one_eq h2)).2 _ List.mem_cons_self)))
  | no => intro ds ok e; cases e
  | rev t ih =>
    intro ds ok e
    obtain ⟨d, h1, rfl⟩ := some1_eq e
    obtain ⟨x, h2, h3⟩ := Option.bind_eq_some_iff.mp h1
    exact single (L := .rev t) (revD_hz h3 ((ih _ ok (one_eq h2)).2 _ List.mem_cons_self))
  | add a b iha ihb =>
    intro ds ok e
    rw [Ex.ok, Bool.and_eq_true, Bool.and_eq_true, Bool.and_eq_true] at ok
    obtain ⟨d, h1, rfl⟩ := some1_eq e
    obtain ⟨x, h2, h3⟩ := Option.bind_eq_some_iff.mp h1
    obtain ⟨y, h4, h5⟩ := Option.bind_eq_some_iff.mp h3
    exact single (L := .add a b) (addD_hz h5 ((iha _ ok.1.1.1 (one_eq h2)).2 _ List.mem_cons_self) ((ihb _ ok.1.1.2 (one_eq h4)).2 _ List.mem_cons_self))
  | sub a b iha ihb =>
    intro ds ok e
    rw [Ex.ok, Bool.and_eq_true] at ok
    obtain ⟨d, h1, rfl⟩ := some1_eq e
    obtain ⟨x, h2, h3⟩ := Option.bind_eq_some_iff.mp h1
    obtain ⟨y, h4, h5⟩ := Option.bind_eq_some_iff.mp h3
    exact single (L := .sub a b) (subD_hz h5 ((iha _ ok.1 (one_eq h2)).2 _ List.mem_cons_self) ((ihb _ ok.2 (one_eq h4)).2 _ List.mem_cons_self))
  | eqi a b iha ihb =>
    intro ds ok e
    obtain ⟨d, h1, rfl⟩ := some1_eq e
    obtain ⟨x, h2, h3⟩ := Option.bind_eq_some_iff.mp h1
    obtain ⟨y, h4, h5⟩ := Option.bind_eq_some_iff.mp h3
    exact single (L := .eqi a b) (eqID_hz h5)
  | neg a ih =>
    intro ds ok e
    obtain ⟨d, h1, rfl⟩ := some1_eq e
    obtain ⟨x, h2, h3⟩ := Option.bind_eq_some_iff.mp h1
    exact single (L := .neg a) (negD_hz h3 ((ih _ ok (one_eq h2)).2 _ List.mem_cons_self))
  | lstf t ih =>
    intro ds ok e
    obtain ⟨d, h1, rfl⟩ := some1_eq e
    obtain ⟨x, h2, h3⟩ := Option.bind_eq_some_iff.mp h1
    exact single (L := .lstf t) (lstD_hz h3 ((ih _ ok (one_eq h2)).2 _ List.mem_cons_self))
  | strf t ih =>
    intro ds ok e
    rw [Ex.ok, Bool.and_eq_true] at ok
    obtain ⟨d, h1, rfl⟩ := some1_eq e
    obtain ⟨x, h2, h3⟩ := Option.bind_eq_some_iff.mp h1
    exact single (L := .strf t) (strD_hz h3 ((ih _ ok.1 (one_eq h2)).2 _ List.mem_cons_self))
  | up t ih =>
    intro ds ok e
    rw [Ex.ok, Bool.and_eq_true] at ok
    obtain ⟨d, h1, rfl⟩ := some1_eq e
    obtain ⟨x, h2, h3⟩ := Option.bind_eq_some_iff.mp h1
    exact single (L := .up t) (upD_hz h3 ((ih _ ok.1 (one_eq h2)).2 _ List.mem_cons_self))
/-! ### the rules -/
/-- a value / values, as an expression says -/
def tEx (K : PySem.W.Frag) (L : Ex) : TE := fun σ H Q => ∃ (M : Addr → Prop), Pre M H ∧ ∃ (B : Nat) (ρ : List Rho) (d : PyData), EnvA K M H σ ρ ∧ EnvZ B ρ ∧ L.ok B = true ∧ L.ev ρ = some [d] ∧ Gv K M H d Q
def tExs (K : PySem.W.Frag) (L : Ex) : TA := fun σ H Q => ∃ (M : Addr → Prop), Pre M H ∧ ∃ (B : Nat) (ρ : List Rho) (ds : List PyData), EnvA K M H σ ρ ∧ EnvZ B ρ ∧ L.ok B = true ∧ L.ev ρ = some ds ∧ ∀ vs H', L2.Same H H' → Avs K M H' vs ds → Q vs H'
section
variable {X : Cx} {K : PySem.W.Frag}
theorem Gv.now {M : Addr → Prop} {H : Hp} {d : PyData} {Q : VK} (q : Gv K M H d Q) {v : V} (h : Av K M H v d) : Q v H := q v H (L2.Same.refl H) h
theorem ex_int {i : Int} {k : Nat} {p : Pos} : PE X (.Constant (.int i) k p) (tEx K (.con (.int i))) :=
  pe_int.wk fun σ H Q ⟨_, _, B, ρ, d, _, _, _, e, q⟩ => by cases e; exact q.now (.int _)
theorem ex_str {x : Str} {k : Nat} {p : Pos} : PE X (.Constant (.str x) k p) (tEx K (.con (.str x))) :=
  pe_str.wk fun σ H Q ⟨_, _, B, ρ, d, _, _, _, e, q⟩ => by cases e; exact q.now (.str _)
theorem ex_bl {b : Bool} {k : Nat} {p : Pos} : PE X (.Constant (.bool b) k p) (tEx K (.con (.bool b))) :=
  pe_bl.wk fun σ H Q ⟨_, _, B, ρ, d, _, _, _, e, q⟩ => by cases e; exact q.now (.bl _)
theorem ex_non {k : Nat} {p : Pos} : PE X (.Constant .none k p) (tEx K (.con .none)) :=
  pe_non.wk fun σ H Q ⟨_, _, B, ρ, d, _, _, _, e, q⟩ => by cases e; exact q.now .non
theorem ex_dct {p : Pos} : PE X (.Dict [] [] p) (tEx K (.con (.dict []))) :=
  pe_dnewN.wk fun σ H Q ⟨M, pr, B, ρ, d, _, _, _, e, q⟩ p np ne => by
    cases e
    exact q _ _ (same_up np) (.dct (pr.new np ne) (.inl upd_same))
theorem ex_pow {i j : Int} {k1 k2 : Nat} {p1 p2 p : Pos} (hj : 0 ≤ j ∧ j ≤ 1000 ∧ i.natAbs < 2 ^ 64 := by decide) : PE X (.BinOp (.Constant (.int i) k1 p1) .Pow (.Constant (.int j) k2 p2) p) (tEx K (.con (.int (i ^ j.toNat)))) :=
  (pe_op op_pow pe_int pe_int).wk fun σ H Q ⟨_, _, B, ρ, d, _, _, _, e, q⟩ => by cases e; exact ⟨_, _, rfl, rfl, ⟨hj.1, by omega, hj.2.2⟩, q.now (.int _)⟩
theorem ex_mulA {k1 k2 : Nat} {p1 p2 p : Pos} : PE X (.BinOp (.Constant (.str "a") k1 p1) .Mult (.Constant (.int 11) k2 p2) p) (tEx K (.con (.str "aaaaaaaaaaa"))) :=
  (pe_op op_mulA pe_str pe_int).wk fun σ H Q ⟨_, _, B, ρ, d, _, _, _, e, q⟩ => by cases e; exact ⟨rfl, rfl, q.now (.str _)⟩
theorem rdat_eq {ρ : List Rho} {i : Nat} {d : PyData} (h : rdat ρ[i]? = some d) : ρ[i]? = some (.dat d) := by
  cases hr : ρ[i]? with
  | none => rw [hr] at h; cases h
  | some r =>
    rw [hr] at h
    cases r <;> cases h
    rfl
theorem ex_var {e : Expr} {i : Nat} (h : PE X e (tVar i)) : PE X e (tEx K (.var i)) :=
  h.wk fun σ H Q ⟨_, _, B, ρ, d, en, _, _, e, q⟩ => by
    obtain ⟨d', h1, h2⟩ := some1_eq e
    cases h2
    obtain ⟨v, h3, h4⟩ := en.var (rdat_eq h1)
    exact ⟨v, h3, q.now h4⟩
theorem ex_ixs {e1 e2 : Expr} {i : Nat} {k : Int} {p : Pos} (hK : X.K = K) (h : PE X e1 (tVar i)) (h2 : PE X e2 (fun σ H Q => Q (.int k) H)) (pl : PlainIx e2) : PE X (.Subscript e1 e2 p) (tEx K (.ixs i k)) := by
  subst hK
  refine (pe_ix (ix_list.or ix_tup) h h2 pl).wk fun σ H Q ⟨M, pr, B, ρ, d, en, _, _, e, q⟩ => ?_
  obtain ⟨d', h1, h2⟩ := some1_eq e
  cases h2
  obtain ⟨es, h2, h3⟩ := Option.bind_eq_some_iff.mp h1
  cases hr : ρ[i]? with
  | none => rw [hr] at h2; cases h2
  | some r =>
    rw [hr] at h2
    cases r with
    | no => cases h2
    | seq es' =>
      cases h2
      obtain ⟨b, xs, g1, g2, g3⟩ := en.seq hr
      obtain ⟨v, g4, g5⟩ := atI_avs g3 h3
      exact ⟨.ref b, g1, .inl ⟨b, xs, k, v, rfl, rfl, g2, g4, q.now g5⟩⟩
    | dat d' =>
      cases d' <;> cases h2
      obtain ⟨v, g1, g2⟩ := en.var hr
      cases g2 with
      | tup a1 a2 =>
        obtain ⟨z, g4, g5⟩ := atI_avs a2 h3
        exact ⟨_, g1, .inr ⟨_, _, k, z, rfl, rfl, a1, g4, q.now g5⟩⟩
theorem exs_nil : PA X [] (tExs K .nil) := pa_nil.wk fun σ H Q ⟨M, pr, B, ρ, ds, _, _, _, e, q⟩ => by cases e; exact q _ _ (L2.Same.refl H) .nil
theorem exs_cons {e : Expr} {es : List Expr} {A L : Ex} (ha : PE X e (tEx K A)) (hb : PA X es (tExs K L)) (st : starEach (e :: es) X.env = (false, eval e X.env) :: starEach es X.env := by rfl) : PA X (e :: es) (tExs K (.cons A L)) :=
  (pa_cons ha hb st).wk fun σ H Q ⟨M, pr, B, ρ, ds, en, zz, ok, e, q⟩ => by
    rw [Ex.ok, Bool.and_eq_true] at ok
    obtain ⟨x, h1, h2⟩ := Option.bind_eq_some_iff.mp e
    obtain ⟨y, h3, h4⟩ := Option.map_eq_some_iff.mp h2
    subst h4
    exact ⟨M, pr, B, ρ, x, en, zz, ok.1, one_eq h1, fun v H' s hv => ⟨M, pr.same s, B, ρ, y, en.same s, zz, ok.2, h3, fun vs H2 s2 hvs => q (v :: vs) H2 (s.trans s2) (.cons (hv.s s2) hvs)⟩⟩
theorem ex_tup {es : List Expr} {L : Ex} {k : Nat} {p : Pos} (h : PA X es (tExs K L)) : PE X (.Tuple es k p) (tEx K (.tup L)) := by
  refine (pe_tup h).wk fun σ H Q ⟨M, pr, B, ρ, d, en, zz, ok, e, q⟩ => ?_
  rw [Ex.ok, Bool.and_eq_true, decide_eq_true_eq] at ok
  obtain ⟨ds, h1, h2⟩ := Option.map_eq_some_iff.mp e
  cases h2
  have bd := (Ex.bnd zz L ds ok.1 h1).1
  refine ⟨M, pr, B, ρ, ds, en, zz, ok.1, h1, fun vs H' s hv => ⟨?_, fun p np => ?_⟩⟩
  · rw [hv.len, sizeLine_eq]
    omega
  · exact q _ _ (s.trans (same_up np)) (.tup (tupOf upd_same) (hv.s (same_up np)))
theorem ex_lst {es : List Expr} {L : Ex} {p : Pos} (h : PA X es (tExs K L)) : PE X (.List es p) (tEx K (.lst L)) := by
  refine (pe_lstN h).wk fun σ H Q ⟨M, pr, B, ρ, d, en, zz, ok, e, q⟩ => ?_
  rw [Ex.ok, Bool.and_eq_true, decide_eq_true_eq] at ok
  obtain ⟨ds, h1, h2⟩ := Option.map_eq_some_iff.mp e
  cases h2
  have bd := (Ex.bnd zz L ds ok.1 h1).1
  refine ⟨M, pr, B, ρ, ds, en, zz, ok.1, h1, fun vs H' s hv => ⟨?_, fun p np ne => ?_⟩⟩
  · rw [hv.len, sizeLine_eq]
    omega
  · exact q _ _ (s.trans (same_up np)) (.lst ((pr.same s).new np ne) (.inl upd_same) (hv.s (same_up np)))
theorem ex_add {a b : Expr} {A L : Ex} {p : Pos} (hK : X.K = K) (ha : PE X a (tEx K A)) (hb : PE X b (tEx K L)) : PE X (.BinOp a .Add b p) (tEx K (.add A L)) := by
  refine (pe_op (op_addA hK) ha hb).wk fun σ H Q ⟨M, pr, B, ρ, d, en, zz, ok, e, q⟩ => ?_
  rw [Ex.ok, Bool.and_eq_true, Bool.and_eq_true, Bool.and_eq_true, decide_eq_true_eq, decide_eq_true_eq] at ok
  obtain ⟨d', h1, h2⟩ := some1_eq e
  cases h2
  obtain ⟨x, h2, h3⟩ := Option.bind_eq_some_iff.mp h1
  obtain ⟨y, h4, h5⟩ := Option.bind_eq_some_iff.mp h3
  refine ⟨M, pr, B, ρ, x, en, zz, ok.1.1.1, one_eq h2, fun u H1 s1 hu => ⟨M, pr.same s1, B, ρ, y, en.same s1, zz, ok.1.1.2, one_eq h4, fun v H2 s2 hv => ?_⟩⟩
  exact ⟨M, x, y, d, hu.s s2, hv, hz_up ok.1.2 ((Ex.bnd zz A _ ok.1.1.1 (one_eq h2)).2 _ List.mem_cons_self), hz_up ok.2 ((Ex.bnd zz L _ ok.1.1.2 (one_eq h4)).2 _ List.mem_cons_self), h5, fun z H3 s3 hz => q z H3 ((s1.trans s2).trans s3) hz⟩
theorem ex_sub {a b : Expr} {A L : Ex} {p : Pos} (hK : X.K = K) (ha : PE X a (tEx K A)) (hb : PE X b (tEx K L)) : PE X (.BinOp a .Sub b p) (tEx K (.sub A L)) := by
  refine (pe_op (op_subA hK) ha hb).wk fun σ H Q ⟨M, pr, B, ρ, d, en, zz, ok, e, q⟩ => ?_
  rw [Ex.ok, Bool.and_eq_true] at ok
  obtain ⟨d', h1, h2⟩ := some1_eq e
  cases h2
  obtain ⟨x, h2, h3⟩ := Option.bind_eq_some_iff.mp h1
  obtain ⟨y, h4, h5⟩ := Option.bind_eq_some_iff.mp h3
  refine ⟨M, pr, B, ρ, x, en, zz, ok.1, one_eq h2, fun u H1 s1 hu => ⟨M, pr.same s1, B, ρ, y, en.same s1, zz, ok.2, one_eq h4, fun v H2 s2 hv => ?_⟩⟩
  exact ⟨M, x, y, d, hu.s s2, hv, h5, fun z H3 s3 hz => q z H3 ((s1.trans s2).trans s3) hz⟩
theorem ex_eqi {a b : Expr} {A L : Ex} {p : Pos} (hK : X.K = K) (ha : PE X a (tEx K A)) (hb : PE X b (tEx K L)) : PE X (.Compare a [.Eq] [b] p) (tEx K (.eqi A L)) := by
  refine (pe_cmpR (op_eqIA hK) ha hb (nomark _)).wk fun σ H Q ⟨M, pr, B, ρ, d, en, zz, ok, e, q⟩ => ?_
  rw [Ex.ok, Bool.and_eq_true] at ok
  obtain ⟨d', h1, h2⟩ := some1_eq e
  cases h2
  obtain ⟨x, h2, h3⟩ := Option.bind_eq_some_iff.mp h1
  obtain ⟨y, h4, h5⟩ := Option.bind_eq_some_iff.mp h3
  refine ⟨M, pr, B, ρ, x, en, zz, ok.1, one_eq h2, fun u H1 s1 hu => ⟨M, pr.same s1, B, ρ, y, en.same s1, zz, ok.2, one_eq h4, fun v H2 s2 hv => ?_⟩⟩
  exact ⟨M, x, y, d, hu.s s2, hv, h5, fun z H3 s3 hz => q z H3 ((s1.trans s2).trans s3) hz⟩
theorem ex_at {a b : Expr} {A L : Ex} {p : Pos} (hK : X.K = K) (ha : PE X a (tEx K A)) (hb : PE X b (tEx K L)) (pl : PlainIx b) : PE X (.Subscript a b p) (tEx K (.at_ A L)) := by
  refine (pe_ix (ix_av hK) ha hb pl).wk fun σ H Q ⟨M, pr, B, ρ, d, en, zz, ok, e, q⟩ => ?_
  rw [Ex.ok, Bool.and_eq_true] at ok
  obtain ⟨d', h1, h2⟩ := some1_eq e
  cases h2
  obtain ⟨x, h2, h3⟩ := Option.bind_eq_some_iff.mp h1
  obtain ⟨y, h4, h5⟩ := Option.bind_eq_some_iff.mp h3
  refine ⟨M, pr, B, ρ, x, en, zz, ok.1, one_eq h2, fun u H1 s1 hu => ⟨M, pr.same s1, B, ρ, y, en.same s1, zz, ok.2, one_eq h4, fun v H2 s2 hv => ?_⟩⟩
  exact ⟨M, x, y, d, hu.s s2, hv, h5, fun z H3 s3 hz => q z H3 ((s1.trans s2).trans s3) hz⟩
theorem ex_neg {a : Expr} {A : Ex} {p : Pos} (hK : X.K = K) (ha : PE X a (tEx K A)) : PE X (.UnaryOp .USub a p) (tEx K (.neg A)) := by
  refine (pe_un (un_negA hK) ha).wk fun σ H Q ⟨M, pr, B, ρ, d, en, zz, ok, e, q⟩ => ?_
  obtain ⟨d', h1, h2⟩ := some1_eq e
  cases h2
  obtain ⟨x, h2, h3⟩ := Option.bind_eq_some_iff.mp h1
  exact ⟨M, pr, B, ρ, x, en, zz, ok, one_eq h2, fun u H1 s1 hu => ⟨M, x, d, hu, h3, fun z H3 s3 hz => q z H3 (s1.trans s3) hz⟩⟩
theorem ex_rev {e : Expr} {A : Ex} {k : Nat} {p1 p2 p3 pos : Pos} (hK : X.K = K) (ha : PE X e (tEx K A)) : PE X (.Subscript e (.Slice none none (some (.UnaryOp .USub (.Constant (.int 1) k p1) p2)) p3) pos) (tEx K (.rev A)) := by
  refine (pe_revA hK ha).wk fun σ H Q ⟨M, pr, B, ρ, d, en, zz, ok, e, q⟩ => ?_
  obtain ⟨d', h1, h2⟩ := some1_eq e
  cases h2
  obtain ⟨x, h2, h3⟩ := Option.bind_eq_some_iff.mp h1
  exact ⟨M, pr, B, ρ, x, en, zz, ok, one_eq h2, fun u H1 s1 hu => ⟨M, x, d, hu, h3, fun z H3 s3 hz => q z H3 (s1.trans s3) hz⟩⟩
theorem ex_lstf {e : Expr} {A : Ex} {p pos : Pos} (hK : X.K = K) (hg : Gl X "list") (hm : X.mg "list" = none) (ha : PE X e (tEx K A)) (st : starEach [e] X.env = [(false, eval e X.env)] := by rfl) (hpl : (backTo pos (starEach [] X.env)).any (·.1) = false := by rfl) : PE X (.Call (.Name "list" p) [e] [] pos) (tEx K (.lstf A)) := by
  refine (pe_callTy (cr_lstA hK) hg hm (by decide +kernel) (pa_cons ha pa_nil st) (by decide) (by decide) st hpl).wk fun σ H Q ⟨M, pr, B, ρ, d, en, zz, ok, e, q⟩ => ?_
  obtain ⟨d', h1, h2⟩ := some1_eq e
  cases h2
  obtain ⟨x, h2, h3⟩ := Option.bind_eq_some_iff.mp h1
  exact ⟨M, pr, B, ρ, x, en, zz, ok, one_eq h2, fun u H1 s1 hu => ⟨M, u, x, d, rfl, hu, pr.same s1, h3, fun z H3 s3 hz => q z H3 (s1.trans s3) hz⟩⟩
theorem ex_strf {e : Expr} {A : Ex} {p pos : Pos} (hK : X.K = K) (hg : Gl X "str") (hm : X.mg "str" = none) (ha : PE X e (tEx K A)) (st : starEach [e] X.env = [(false, eval e X.env)] := by rfl) (hpl : (backTo pos (starEach [] X.env)).any (·.1) = false := by rfl) : PE X (.Call (.Name "str" p) [e] [] pos) (tEx K (.strf A)) := by
  refine (pe_callTy (cr_strA hK) hg hm (by decide +kernel) (pa_cons ha pa_nil st) (by decide) (by decide) st hpl).wk fun σ H Q ⟨M, pr, B, ρ, d, en, zz, ok, e, q⟩ => ?_
  rw [Ex.ok, Bool.and_eq_true, decide_eq_true_eq] at ok
  obtain ⟨d', h1, h2⟩ := some1_eq e
  cases h2
  obtain ⟨x, h2, h3⟩ := Option.bind_eq_some_iff.mp h1
  exact ⟨M, pr, B, ρ, x, en, zz, ok.1, one_eq h2, fun u H1 s1 hu => ⟨M, u, x, d, rfl, hu, hz_up ok.2 ((Ex.bnd zz A _ ok.1 (one_eq h2)).2 _ List.mem_cons_self), h3, fun z H3 s3 hz => q z H3 (s1.trans s3) hz⟩⟩
theorem ex_up {e : Expr} {A : Ex} {apos pos : Pos} (ha : PE X e (tEx K A)) (hbase : attributeBase e "upper" X.env (eval e X.env) = eval e X.env := by rfl) (hline : (apos.endLine == pos.line) = true := by rfl) : PE X (.Call (.Attribute e "upper" apos) [] [] pos) (tEx K (.up A)) := by
  refine (pe_upper ha hbase hline).wk fun σ H Q ⟨M, pr, B, ρ, d, en, zz, ok, e, q⟩ => ?_
  rw [Ex.ok, Bool.and_eq_true, decide_eq_true_eq] at ok
  obtain ⟨d', h1, h2⟩ := some1_eq e
  cases h2
  obtain ⟨x, h2, h3⟩ := Option.bind_eq_some_iff.mp h1
  have hx := (Ex.bnd zz A _ ok.1 (one_eq h2)).2 _ List.mem_cons_self
  refine ⟨M, pr, B, ρ, x, en, zz, ok.1, one_eq h2, fun u H1 s1 hu => ?_⟩
  unfold upD at h3
  split at h3 <;> cases h3
  cases hu
  refine ⟨⟨_, rfl⟩, _, rfl, rfl, ?_, q _ H1 s1 (.str _)⟩
  have := hz_str.mp hx
  omega
/-! slices -/
theorem av_int {M : Addr → Prop} {H : Hp} {v : V} {i : Int} (h : Av K M H v (.int i)) : v = .int i := by cases h; rfl
theorem onei_eq {x : Option (List PyData)} {i : Int} (h : onei x = some i) : x = some [.int i] := by
  unfold onei at h
  split at h <;> cases h
  rfl
theorem prt_int {L : Ex} {ρ : List Rho} {o : Option Int} (n : L.isNo = false) (h : prt L.isNo (L.ev ρ) = some o) : ∃ i, o = some i ∧ L.ev ρ = some [.int i] := by
  rw [n] at h
  unfold prt at h
  rw [if_neg (by decide)] at h
  obtain ⟨i, h1, h2⟩ := Option.map_eq_some_iff.mp h
  exact ⟨i, h2.symm, onei_eq h1⟩
theorem prt_no {x : Option (List PyData)} {o : Option Int} (h : prt (Ex.isNo .no) x = some o) : o = none := by
  cases h
  rfl
theorem ex_slT {e b : Expr} {A L : Ex} {p2 pos : Pos} (hK : X.K = K) (ha : PE X e (tEx K A)) (hb : PE X b (tEx K L)) (n : L.isNo = false := by rfl) : PE X (.Subscript e (.Slice none (some b) none p2) pos) (tEx K (.sl A .no L)) := by
  refine (pe_slice (sl_av hK) ha po_none (po_some hb)).wk fun σ H Q ⟨M, pr, B, ρ, d, en, zz, ok, e, q⟩ => ?_
  rw [Ex.ok, Bool.and_eq_true, Bool.and_eq_true, Bool.and_eq_true, decide_eq_true_eq] at ok
  obtain ⟨d', h1, h2⟩ := some1_eq e
  cases h2
  obtain ⟨x, h2, h3⟩ := Option.bind_eq_some_iff.mp h1
  obtain ⟨l, h4, h3⟩ := Option.bind_eq_some_iff.mp h3
  obtain ⟨u, h5, h3⟩ := Option.bind_eq_some_iff.mp h3
  cases prt_no h4
  obtain ⟨i, rfl, ei⟩ := prt_int n h5
  refine ⟨M, pr, B, ρ, x, en, zz, ok.1.1.1, one_eq h2, fun u H1 s1 hu => ?_⟩
  exact ⟨M, pr.same s1, B, ρ, .int i, en.same s1, zz, ok.1.2, ei, fun v H2 s2 hv => ⟨i, av_int hv, M, x, d, hu.s s2, hz_up ok.2 ((Ex.bnd zz A _ ok.1.1.1 (one_eq h2)).2 _ List.mem_cons_self), h3, fun z H3 s3 hz => q z H3 ((s1.trans s2).trans s3) hz⟩⟩
theorem ex_slF {e b : Expr} {A L : Ex} {p2 pos : Pos} (hK : X.K = K) (ha : PE X e (tEx K A)) (hb : PE X b (tEx K L)) (n : L.isNo = false := by rfl) : PE X (.Subscript e (.Slice (some b) none none p2) pos) (tEx K (.sl A L .no)) := by
  refine (pe_slice (sl_av hK) ha (po_some hb) po_none).wk fun σ H Q ⟨M, pr, B, ρ, d, en, zz, ok, e, q⟩ => ?_
  rw [Ex.ok, Bool.and_eq_true, Bool.and_eq_true, Bool.and_eq_true, decide_eq_true_eq] at ok
  obtain ⟨d', h1, h2⟩ := some1_eq e
  cases h2
  obtain ⟨x, h2, h3⟩ := Option.bind_eq_some_iff.mp h1
  obtain ⟨l, h4, h3⟩ := Option.bind_eq_some_iff.mp h3
  obtain ⟨u, h5, h3⟩ := Option.bind_eq_some_iff.mp h3
  cases prt_no h5
  obtain ⟨i, rfl, ei⟩ := prt_int n h4
  refine ⟨M, pr, B, ρ, x, en, zz, ok.1.1.1, one_eq h2, fun u H1 s1 hu => ?_⟩
  exact ⟨M, pr.same s1, B, ρ, .int i, en.same s1, zz, ok.1.1.2, ei, fun v H2 s2 hv => ⟨i, av_int hv, M, x, d, hu.s s2, hz_up ok.2 ((Ex.bnd zz A _ ok.1.1.1 (one_eq h2)).2 _ List.mem_cons_self), h3, fun z H3 s3 hz => q z H3 ((s1.trans s2).trans s3) hz⟩⟩
theorem ex_slB {e b c : Expr} {A L U : Ex} {p2 pos : Pos} (hK : X.K = K) (ha : PE X e (tEx K A)) (hb : PE X b (tEx K L)) (hc : PE X c (tEx K U)) (n : L.isNo = false := by rfl) (m : U.isNo = false := by rfl) : PE X (.Subscript e (.Slice (some b) (some c) none p2) pos) (tEx K (.sl A L U)) := by
  refine (pe_slice (sl_av hK) ha (po_some hb) (po_some hc)).wk fun σ H Q ⟨M, pr, B, ρ, d, en, zz, ok, e, q⟩ => ?_
  rw [Ex.ok, Bool.and_eq_true, Bool.and_eq_true, Bool.and_eq_true, decide_eq_true_eq] at ok
  obtain ⟨d', h1, h2⟩ := some1_eq e
  cases h2
  obtain ⟨x, h2, h3⟩ := Option.bind_eq_some_iff.mp h1
  obtain ⟨l, h4, h3⟩ := Option.bind_eq_some_iff.mp h3
  obtain ⟨u, h5, h3⟩ := Option.bind_eq_some_iff.mp h3
  obtain ⟨i, rfl, ei⟩ := prt_int n h4
  obtain ⟨j, rfl, ej⟩ := prt_int m h5
  refine ⟨M, pr, B, ρ, x, en, zz, ok.1.1.1, one_eq h2, fun u H1 s1 hu => ?_⟩
  refine ⟨M, pr.same s1, B, ρ, .int i, en.same s1, zz, ok.1.1.2, ei, fun v H2 s2 hv => ⟨i, av_int hv, ?_⟩⟩
  exact ⟨M, (pr.same s1).same s2, B, ρ, .int j, (en.same s1).same s2, zz, ok.1.2, ej, fun w H3 s3 hw => ⟨j, av_int hw, M, x, d, (hu.s s2).s s3, hz_up ok.2 ((Ex.bnd zz A _ ok.1.1.1 (one_eq h2)).2 _ List.mem_cons_self), h3, fun z H4 s4 hz => q z H4 (((s1.trans s2).trans s3).trans s4) hz⟩⟩
end
end Tl
set_option Elab.async false
set_option linter.all false
set_option autoImplicit false
set_option maxRecDepth 100000
set_option maxHeartbeats 2000000
/-! how great any values are -/
namespace Tl
open PySem PySem.Spec PyProof.Rows L2
def asc (x : Str) : Bool := x.cps.toList.all fun c => decide (c < 128)
def fit (k : Nat) : PyData → Bool
  | .int i => decide (i.natAbs ≤ 10 ^ 39 + k)
  | .str x => decide (x.length ≤ 20 * k) && asc x
  | .list ds => decide (ds.length ≤ k) && fitAll ds
  | .tuple ds => decide (ds.length ≤ k) && fitAll ds
  | .dict kvs => kvs.isEmpty
  | _ => true
where fitAll : List PyData → Bool
  | [] => true
  | d :: ds => fit k d && fitAll ds
theorem fitAll_iff {k : Nat} : ∀ {ds : List PyData}, fit.fitAll k ds = true ↔ ∀ d ∈ ds, fit k d = true
  | [] => by simp [fit.fitAll]
  | d :: ds => by
    rw [fit.fitAll, Bool.and_eq_true, fitAll_iff]
    simp
theorem fit_tup {k : Nat} {ds : List PyData} : fit k (.tuple ds) = true ↔ ds.length ≤ k ∧ ∀ d ∈ ds, fit k d = true := by
  rw [fit, Bool.and_eq_true, decide_eq_true_eq, fitAll_iff]
theorem fit_lst {k : Nat} {ds : List PyData} : fit k (.list ds) = true ↔ ds.length ≤ k ∧ ∀ d ∈ ds, fit k d = true := by
  rw [fit, Bool.and_eq_true, decide_eq_true_eq, fitAll_iff]
theorem fit_str {k : Nat} {x : Str} : fit k (.str x) = true ↔ x.length ≤ 20 * k ∧ asc x = true := by
  rw [fit, Bool.and_eq_true, decide_eq_true_eq]
theorem fit_int {k : Nat} {i : Int} : fit k (.int i) = true ↔ i.natAbs ≤ 10 ^ 39 + k := by
  rw [fit, decide_eq_true_eq]
theorem fit_up {j k : Nat} (h : j ≤ k) : ∀ {d : PyData}, fit j d = true → fit k d = true
  | .none, _ => rfl
  | .bool _, _ => rfl
  | .int i, z => fit_int.mpr (Nat.le_trans (fit_int.mp z) (by omega))
  | .str x, z => fit_str.mpr ⟨Nat.le_trans (fit_str.mp z).1 (by omega), (fit_str.mp z).2⟩
  | .list ds, z => by
    have ⟨z1, z2⟩ := fit_lst.mp z
    exact fit_lst.mpr ⟨Nat.le_trans z1 h, fun d m => fit_up h (z2 d m)⟩
  | .tuple ds, z => by
    have ⟨z1, z2⟩ := fit_tup.mp z
    exact fit_tup.mpr ⟨Nat.le_trans z1 h, fun d m => fit_up h (z2 d m)⟩
  | .dict kvs, z => z
theorem fit_hz {k : Nat} (h : k ≤ 45) : ∀ {d : PyData}, fit k d = true → hz 900 d = true
  | .none, _ => rfl
  | .bool _, _ => rfl
  | .int i, z => hz_int.mpr (Nat.lt_of_le_of_lt (fit_int.mp z) (Nat.lt_of_le_of_lt (Nat.add_le_add_left h _) (by decide +kernel)))
  | .str x, z => hz_str.mpr (Nat.le_trans (fit_str.mp z).1 (by omega))
  | .list ds, z => by
    have ⟨z1, z2⟩ := fit_lst.mp z
    exact hz_lst.mpr ⟨by omega, fun d m => fit_hz h (z2 d m)⟩
  | .tuple ds, z => by
    have ⟨z1, z2⟩ := fit_tup.mp z
    exact hz_tup.mpr ⟨by omega, fun d m => fit_hz h (z2 d m)⟩
  | .dict kvs, z => z
/-! ### its display -/
theorem asc_lt {x : Str} (h : asc x = true) {c : Nat} (m : c ∈ x.cps.toList) : c < 128 := of_decide_eq_true (List.all_eq_true.mp h c m)
theorem int_len {i : Int} {k : Nat} (hk : k ≤ 45) (h : i.natAbs ≤ 10 ^ 39 + k) : (toString i).length ≤ 42 :=
  Nat.le_trans (int_text_length_le10 (k := 40) (by decide) (Nat.lt_of_le_of_lt h (Nat.lt_of_le_of_lt (Nat.add_le_add_left hk _) (by decide +kernel)))) (by decide)
mutual
theorem fit_short {k : Nat} (hk : k ≤ 45) : ∀ d : PyData, fit k d = true → d.leavesShort 42 = true
  | .none, _ => rfl
  | .bool _, _ => rfl
  | .int i, z => by
    rw [PyData.leavesShort, decide_eq_true_eq]
    show (Str.ofString (toString i)).length ≤ 42
    rw [PySem.ofString_length]
    exact int_len hk (fit_int.mp z)
  | .str x, z => by
    have a := (fit_str.mp z).2
    simp only [PyData.leavesShort, List.all_eq_true, decide_eq_true_eq]
    intro c m
    exact Nat.lt_of_lt_of_le (asc_lt a m) (by decide +kernel)
  | .list ds, z => by
    rw [PyData.leavesShort]
    exact fit_shorts hk ds (fit_lst.mp z).2
  | .tuple ds, z => by
    rw [PyData.leavesShort]
    exact fit_shorts hk ds (fit_tup.mp z).2
  | .dict kvs, z => by
    cases kvs with
    | nil => simp only [PyData.leavesShort, PyData.leavesShortKv]
    | cons _ _ => cases z
theorem fit_shorts {k : Nat} (hk : k ≤ 45) : ∀ ds : List PyData, (∀ d ∈ ds, fit k d = true) → PyData.leavesShortAll 42 ds = true
  | [], _ => rfl
  | d :: ds, z => by
    rw [PyData.leavesShortAll, Bool.and_eq_true]
    exact ⟨fit_short hk d (z d List.mem_cons_self), fit_shorts hk ds fun e m => z e (List.mem_cons_of_mem _ m)⟩
end
mutual
theorem fit_showable {k : Nat} (hk : k ≤ 45) : ∀ d : PyData, fit k d = true → d.showable = true
  | .none, _ => rfl
  | .bool _, _ => rfl
  | .int i, z => by
    rw [PyData.showable, decide_eq_true_eq]
    exact Nat.lt_trans (log_lt (k := 200) (Nat.lt_of_le_of_lt (fit_int.mp z) (Nat.lt_of_le_of_lt (Nat.add_le_add_left hk _) (by decide +kernel))) (by decide)) (by decide)
  | .str x, z => rfl
  | .list ds, z => by
    rw [PyData.showable]
    exact fit_showables hk ds (fit_lst.mp z).2
  | .tuple ds, z => by
    rw [PyData.showable]
    exact fit_showables hk ds (fit_tup.mp z).2
  | .dict kvs, z => by
    cases kvs with
    | nil => simp only [PyData.showable, PyData.showableKv]
    | cons _ _ => cases z
theorem fit_showables {k : Nat} (hk : k ≤ 45) : ∀ ds : List PyData, (∀ d ∈ ds, fit k d = true) → PyData.showableAll ds = true
  | [], _ => rfl
  | d :: ds, z => by
    rw [PyData.showableAll, Bool.and_eq_true]
    exact ⟨fit_showable hk d (z d List.mem_cons_self), fit_showables hk ds fun e m => z e (List.mem_cons_of_mem _ m)⟩
end
theorem fit_shown {k : Nat} (hk : k ≤ 45) {d : PyData} (h : fit k d = true) (b : d.bulk ≤ 100000) : d.shown.length ≤ sizeLine := by
  have := PyData.shown_le_bulk 42 (by decide) d (fit_short hk d h)
  rw [sizeLine_eq]
  omega
/-! ### bent -/
structure Bent (k : Nat) (d e : PyData) : Prop where
  f : fit (k + 1) e = true
  b : e.bulk ≤ 2 * d.bulk + 60
  p : e.depth ≤ d.depth + 2
structure OddD (d : PyData) : Prop where
  f : fit 2 d = true
  b : d.bulk ≤ 59
  p : d.depth ≤ 2
theorem bulk_app : ∀ xs ys : List PyData, PyData.bulkAll (xs ++ ys) = PyData.bulkAll xs + PyData.bulkAll ys
  | [], ys => by simp [PyData.bulkAll]
  | x :: xs, ys => by
    rw [List.cons_append, PyData.bulkAll, PyData.bulkAll, bulk_app xs ys]
    omega
theorem bulk_cut (xs : List PyData) (n : Nat) : PyData.bulkAll (xs.take n) + PyData.bulkAll (xs.drop n) = PyData.bulkAll xs := by
  rw [← bulk_app, List.take_append_drop]
theorem bulk_rev : ∀ xs : List PyData, PyData.bulkAll xs.reverse = PyData.bulkAll xs
  | [] => rfl
  | x :: xs => by
    rw [List.reverse_cons, bulk_app, bulk_rev xs, PyData.bulkAll, PyData.bulkAll, PyData.bulkAll]
    omega
theorem depth_le {n : Nat} : ∀ {xs : List PyData}, PyData.depthAll xs ≤ n ↔ ∀ d ∈ xs, d.depth ≤ n
  | [] => by simp [PyData.depthAll]
  | x :: xs => by
    rw [PyData.depthAll, Nat.max_le, depth_le]
    simp
theorem bulk_one (d : PyData) : PyData.bulkAll [d] = d.bulk + 1 := by rw [PyData.bulkAll, PyData.bulkAll]
section
variable {k : Nat} {ds : List PyData}
theorem bent_list (h : fit k (.tuple ds) = true) : Bent k (.tuple ds) (.list ds) := by
  have ⟨z1, z2⟩ := fit_tup.mp h
  refine ⟨fit_lst.mpr ⟨by omega, fun d m => fit_up (Nat.le_succ _) (z2 d m)⟩, ?_, ?_⟩
  · simp only [PyData.bulk]; omega
  · simp only [PyData.depth]; omega
theorem bent_sub {es : List PyData} (h : fit k (.tuple ds) = true) (s : ∀ e ∈ es, e ∈ ds) (l : es.length ≤ ds.length + 1) (b : PyData.bulkAll es ≤ 2 * PyData.bulkAll ds) : Bent k (.tuple ds) (.tuple es) := by
  have ⟨z1, z2⟩ := fit_tup.mp h
  refine ⟨fit_tup.mpr ⟨by omega, fun d m => fit_up (Nat.le_succ _) (z2 d (s d m))⟩, ?_, ?_⟩
  · simp only [PyData.bulk]; omega
  · simp only [PyData.depth]
    have : PyData.depthAll es ≤ PyData.depthAll ds := depth_le.mpr fun d m => depth_le.mp (Nat.le_refl _) d (s d m)
    omega
theorem bent_del (n : Nat) (h : fit k (.tuple ds) = true) : Bent k (.tuple ds) (.tuple (ds.take n ++ ds.drop (n + 1))) := by
  refine bent_sub h (fun e m => ?_) ?_ ?_
  · rcases List.mem_append.mp m with m | m
    · exact List.mem_of_mem_take m
    · exact List.mem_of_mem_drop m
  · rw [List.length_append, List.length_take, List.length_drop]; omega
  · have h1 := bulk_cut ds n
    have h2 := bulk_cut ds (n + 1)
    rw [bulk_app]; omega
theorem bent_dup (n : Nat) (h : fit k (.tuple ds) = true) : Bent k (.tuple ds) (.tuple (ds.take n ++ (ds.drop n).take 1 ++ ds.drop n)) := by
  refine bent_sub h (fun e m => ?_) ?_ ?_
  · rcases List.mem_append.mp m with m | m
    · rcases List.mem_append.mp m with m | m
      · exact List.mem_of_mem_take m
      · exact List.mem_of_mem_drop (List.mem_of_mem_take m)
    · exact List.mem_of_mem_drop m
  · rw [List.length_append, List.length_append, List.length_take, List.length_take, List.length_drop]; omega
  · have h1 := bulk_cut ds n
    have h2 := bulk_cut (ds.drop n) 1
    rw [bulk_app, bulk_app]; omega
theorem bent_rev (h : fit k (.tuple ds) = true) : Bent k (.tuple ds) (.tuple ds.reverse) :=
  bent_sub h (fun e m => List.mem_reverse.mp m) (by rw [List.length_reverse]; omega) (by rw [bulk_rev]; omega)
theorem bent_take (n : Nat) (h : fit k (.tuple ds) = true) : Bent k (.tuple ds) (.tuple (ds.take n)) := by
  have h1 := bulk_cut ds n
  exact bent_sub h (fun e m => List.mem_of_mem_take m) (by rw [List.length_take]; omega) (by omega)
theorem bent_rot (n : Nat) (h : fit k (.tuple ds) = true) : Bent k (.tuple ds) (.tuple (ds.drop n ++ ds.take n)) := by
  have h1 := bulk_cut ds n
  refine bent_sub h (fun e m => ?_) (by rw [List.length_append, List.length_take, List.length_drop]; omega) (by rw [bulk_app]; omega)
  rcases List.mem_append.mp m with m | m
  · exact List.mem_of_mem_drop m
  · exact List.mem_of_mem_take m
theorem bent_odd {d o : PyData} (hk : 2 ≤ k) (h : OddD o) : Bent k d o := ⟨fit_up (by omega) h.f, by have := h.b; omega, by have := h.p; omega⟩
theorem bent_snoc {o : PyData} (hk : 2 ≤ k) (h : fit k (.tuple ds) = true) (ho : OddD o) : Bent k (.tuple ds) (.tuple (ds ++ [o])) := by
  have ⟨z1, z2⟩ := fit_tup.mp h
  refine ⟨fit_tup.mpr ⟨by rw [List.length_append, List.length_singleton]; omega, fun d m => ?_⟩, ?_, ?_⟩
  · rcases List.mem_append.mp m with m | m
    · exact fit_up (Nat.le_succ _) (z2 d m)
    · cases List.mem_singleton.mp m
      exact fit_up (by omega) ho.f
  · have := ho.b
    simp only [PyData.bulk, bulk_app, bulk_one]; omega
  · have h1 : PyData.depthAll (ds ++ [o]) ≤ PyData.depthAll ds + 2 := depth_le.mpr fun d m => by
      rcases List.mem_append.mp m with m | m
      · have := depth_le.mp (Nat.le_refl _) d m
        omega
      · cases List.mem_singleton.mp m
        have := ho.p
        omega
    simp only [PyData.depth]; omega
theorem bent_wrap {d : PyData} (hk : 2 ≤ k) (h : fit k d = true) : Bent k d (.tuple [d]) := by
  refine ⟨fit_tup.mpr ⟨by simp, fun e m => ?_⟩, ?_, ?_⟩
  · cases List.mem_singleton.mp m
    exact fit_up (Nat.le_succ _) h
  · simp only [PyData.bulk, bulk_one]; omega
  · simp only [PyData.depth, PyData.depthAll]; omega
theorem bent_in {n : Nat} {b e : PyData} (h : fit k (.tuple ds) = true) (hb : ds[n]? = some b) (he : Bent k b e) : Bent k (.tuple ds) (.tuple (ds.take n ++ [e] ++ ds.drop (n + 1))) := by
  have ⟨z1, z2⟩ := fit_tup.mp h
  have hn : n < ds.length := (List.getElem?_eq_some_iff.mp hb).1
  refine ⟨fit_tup.mpr ⟨by simp only [List.length_append, List.length_take, List.length_drop, List.length_singleton]; omega, fun d m => ?_⟩, ?_, ?_⟩
  · rcases List.mem_append.mp m with m | m
    · rcases List.mem_append.mp m with m | m
      · exact fit_up (Nat.le_succ _) (z2 d (List.mem_of_mem_take m))
      · cases List.mem_singleton.mp m
        exact he.f
    · exact fit_up (Nat.le_succ _) (z2 d (List.mem_of_mem_drop m))
  · have h1 := bulk_cut ds n
    have h2 : ds.drop n = b :: ds.drop (n + 1) := by
      rw [List.drop_eq_getElem_cons hn]
      congr 1
      exact Option.some.inj ((List.getElem?_eq_getElem hn).symm.trans hb)
    rw [h2, PyData.bulkAll] at h1
    have := he.b
    simp only [PyData.bulk, bulk_app, bulk_one]; omega
  · have mb : b ∈ ds := List.mem_of_getElem? hb
    have h1 : PyData.depthAll (ds.take n ++ [e] ++ ds.drop (n + 1)) ≤ PyData.depthAll ds + 2 := depth_le.mpr fun d m => by
      rcases List.mem_append.mp m with m | m
      · rcases List.mem_append.mp m with m | m
        · have := depth_le.mp (Nat.le_refl _) d (List.mem_of_mem_take m)
          omega
        · cases List.mem_singleton.mp m
          have := depth_le.mp (Nat.le_refl _) b mb
          have := he.p
          omega
      · have := depth_le.mp (Nat.le_refl _) d (List.mem_of_mem_drop m)
        omega
    simp only [PyData.depth]; omega
/-- small values -/
theorem odd_int {i : Int} (h : i.natAbs ≤ 10 ^ 39) : OddD (.int i) := ⟨fit_int.mpr (Nat.le_add_right_of_le h), by simp [PyData.bulk], by simp [PyData.depth]⟩
theorem odd_str {x : Str} (h : x.length ≤ 40) (a : asc x = true) : OddD (.str x) := ⟨fit_str.mpr ⟨by omega, a⟩, by
  have : x.cps.size ≤ 40 := h
  simp only [PyData.bulk]; omega, by simp [PyData.depth]⟩
theorem bent_leaf {d e : PyData} (f : fit (k + 1) e = true) (b : e.bulk ≤ 60) (p : e.depth ≤ 2) : Bent k d e := ⟨f, by omega, by omega⟩
theorem bI_abs (b : Bool) : (bI b).natAbs ≤ 1 := by cases b <;> decide
theorem bent_int {d e : PyData} {i : Int} (hn : numO d = some i) (h : fit k d = true) (hk : 2 ≤ k) (hk2 : k ≤ 44) (m : e ∈ [PyData.bool (i == 1), .int (i + 1), .int (i - 1), .int (-i), .int 0, .int 1, .tuple [d], .none]) : Bent k d e := by
  have hi : i.natAbs ≤ 10 ^ 39 + k := by
    cases d <;> cases hn
    · exact Nat.le_trans (bI_abs _) (Nat.le_trans (by omega) (Nat.le_add_left k _))
    · exact fit_int.mp h
  have dep : d.depth = 0 ∧ d.bulk = 0 := by cases d <;> cases hn <;> exact ⟨by simp [PyData.depth], by simp [PyData.bulk]⟩
  have int : ∀ j : Int, j.natAbs ≤ i.natAbs + 1 → Bent k d (.int j) := fun j hj => bent_leaf (fit_int.mpr (by omega)) (by simp [PyData.bulk]) (by simp [PyData.depth])
  simp only [List.mem_cons, List.not_mem_nil, or_false] at m
  rcases m with rfl | rfl | rfl | rfl | rfl | rfl | rfl | rfl
  · exact bent_leaf rfl (by simp [PyData.bulk]) (by simp [PyData.depth])
  · exact int _ (by omega)
  · exact int _ (by omega)
  · exact int _ (by omega)
  · exact int _ (by omega)
  · exact int _ (by omega)
  · exact bent_wrap hk h
  · exact bent_leaf rfl (by simp [PyData.bulk]) (by simp [PyData.depth])
theorem asc_app {x y : Str} (a : asc x = true) (b : asc y = true) : asc (x ++ y) = true := by
  unfold asc at *
  rw [show (x ++ y).cps.toList = x.cps.toList ++ y.cps.toList from Array.toList_append, List.all_append, a, b]
  rfl
theorem asc_int (i : Int) : asc (toString i : String) = true := by
  refine List.all_eq_true.mpr fun c m => decide_eq_true ?_
  refine Decidable.byContradiction fun h => ?_
  exact PyProof.Rows.int_text_free' c ⟨by omega, .inr (by omega)⟩ i m
theorem asc_cut {x : Str} (a : asc x = true) (lo hi : Option Int) : asc (cutS x lo hi) = true := by
  refine List.all_eq_true.mpr fun c m => ?_
  refine List.all_eq_true.mp a c ?_
  have m' : c ∈ (x.cps.toList.drop (HT.sIx x.length 0 lo)).take (HT.sIx x.length x.length hi - HT.sIx x.length 0 lo) := m
  exact List.mem_of_mem_drop (List.mem_of_mem_take m')
theorem up_len {x : Str} (a : asc x = true) : (Txt.upper x).length = x.length ∧ asc (Txt.upper x) = true := by
  rw [PyProof.Rows.upper_ascii (x := x) fun c m => asc_lt a m]
  refine ⟨Array.size_map, List.all_eq_true.mpr fun c m => ?_⟩
  have m' : c ∈ (x.cps.map PyProof.Rows.up1).toList := m
  rw [Array.toList_map] at m'
  obtain ⟨b, h1, h2⟩ := List.mem_map.mp m'
  have hb := asc_lt a h1
  refine decide_eq_true ?_
  rw [← h2]
  unfold PyProof.Rows.up1
  split <;> omega
theorem bent_istr {d e : PyData} (h : fit k d = true) (hs : strD d = some e) (hk : 2 ≤ k) (hk2 : k ≤ 44) : Bent k d e := by
  cases d <;> cases hs
  · rename_i b
    cases b
    · exact bent_leaf (fit_str.mpr ⟨Nat.le_trans (show (5 : Nat) ≤ 40 by decide) (by omega), by decide +kernel⟩) (by simp only [PyData.bulk]; exact (show (5 : Nat) ≤ 60 by decide)) (by simp [PyData.depth])
    · exact bent_leaf (fit_str.mpr ⟨Nat.le_trans (show (4 : Nat) ≤ 40 by decide) (by omega), by decide +kernel⟩) (by simp only [PyData.bulk]; exact (show (4 : Nat) ≤ 60 by decide)) (by simp [PyData.depth])
  · rename_i i
    have l := int_len (by omega) (fit_int.mp h)
    have l2 : (Str.ofString (toString i)).length ≤ 42 := by rw [PySem.ofString_length]; exact l
    have l3 : (Str.ofString (toString i)).cps.size ≤ 42 := l2
    exact bent_leaf (fit_str.mpr ⟨Nat.le_trans l2 (by omega), asc_int i⟩) (by simp only [PyData.bulk]; exact Nat.le_trans l3 (by decide)) (by simp [PyData.depth])
theorem bent_str {x : Str} {e : PyData} (h : fit k (.str x) = true) (hk : 2 ≤ k) (m : e ∈ [PyData.str (x ++ "x"), .str (Txt.upper x), .str (cutS x none (some (-1))), .str (x ++ " "), .str (x ++ "\n"), .str "some", .str "and", .str "aaaaaaaaaaa", .str "all"]) : Bent k (.str x) e := by
  have ⟨z1, z2⟩ := fit_str.mp h
  have cat : ∀ y : Str, y.length = 1 → asc y = true → Bent k (.str x) (.str (x ++ y)) := fun y l a => by
    have l2 : (x ++ y).cps.size = x.cps.size + y.cps.size := Array.size_append
    have l3 : y.cps.size = 1 := l
    have l4 : x.cps.size ≤ 20 * k := z1
    exact ⟨fit_str.mpr ⟨by show (x ++ y).cps.size ≤ _; omega, asc_app z2 a⟩, by simp only [PyData.bulk]; omega, by simp [PyData.depth]⟩
  have con : ∀ y : Str, y.length ≤ 11 → asc y = true → Bent k (.str x) (.str y) := fun y l a => bent_odd hk (odd_str (by omega) a)
  simp only [List.mem_cons, List.not_mem_nil, or_false] at m
  rcases m with rfl | rfl | rfl | rfl | rfl | rfl | rfl | rfl | rfl
  · exact cat _ (by decide +kernel) (by decide +kernel)
  · have ⟨u1, u2⟩ := up_len z2
    have u3 : (Txt.upper x).cps.size = x.cps.size := u1
    exact ⟨fit_str.mpr ⟨by rw [u1]; omega, u2⟩, by simp only [PyData.bulk]; omega, by simp [PyData.depth]⟩
  · have u1 : (cutS x none (some (-1))).cps.size ≤ x.cps.size := cutS_length x _ _
    exact ⟨fit_str.mpr ⟨Nat.le_trans (cutS_length x _ _) (by omega), asc_cut z2 _ _⟩, by simp only [PyData.bulk]; omega, by simp [PyData.depth]⟩
  · exact cat _ (by decide +kernel) (by decide +kernel)
  · exact cat _ (by decide +kernel) (by decide +kernel)
  · exact con _ (by decide +kernel) (by decide +kernel)
  · exact con _ (by decide +kernel) (by decide +kernel)
  · exact con _ (by decide +kernel) (by decide +kernel)
  · exact con _ (by decide +kernel) (by decide +kernel)
/-! slices in numbers -/
theorem cutD_to {xs : List PyData} (k : Nat) : cutD xs none (some (k : Int)) = xs.take k := by
  unfold cutD
  rw [HT.sIx_none, HT.sIx_nat, List.drop_zero, Nat.sub_zero]
  by_cases h : k ≤ xs.length
  · rw [Nat.min_eq_left h]
  · rw [Nat.min_eq_right (by omega), List.take_of_length_le (Nat.le_refl _), List.take_of_length_le (by omega)]
theorem cutD_from {xs : List PyData} (k : Nat) : cutD xs (some (k : Int)) none = xs.drop k := by
  unfold cutD
  rw [HT.sIx_none, HT.sIx_nat]
  by_cases h : k ≤ xs.length
  · rw [Nat.min_eq_left h]
    exact List.take_of_length_le (by rw [List.length_drop]; exact Nat.le_refl _)
  · rw [Nat.min_eq_right (by omega), List.drop_of_length_le (Nat.le_refl _), List.drop_of_length_le (by omega), List.take_nil]
theorem cutD_one {xs : List PyData} (k : Nat) : cutD xs (some (k : Int)) (some ((k : Int) + 1)) = (xs.drop k).take 1 := by
  have e : ((k : Int) + 1) = ((k + 1 : Nat) : Int) := by omega
  unfold cutD
  rw [e, HT.sIx_nat, HT.sIx_nat]
  by_cases h : k + 1 ≤ xs.length
  · rw [Nat.min_eq_left h, Nat.min_eq_left (by omega), show k + 1 - k = 1 by omega]
  · rw [Nat.min_eq_right (by omega), show xs.length - min k xs.length = 0 by omega, List.take_zero]
    by_cases h2 : k = xs.length
    · subst h2
      rw [List.drop_of_length_le (Nat.le_refl _), List.take_nil]
    · rw [List.drop_of_length_le (by omega), List.take_nil]
theorem cutD_from1 {xs : List PyData} (k : Nat) : cutD xs (some ((k : Int) + 1)) none = xs.drop (k + 1) := by
  rw [show ((k : Int) + 1) = ((k + 1 : Nat) : Int) by omega, cutD_from]
end
end Tl
set_option Elab.async false
set_option linter.all false
set_option autoImplicit false
set_option maxRecDepth 100000
set_option maxHeartbeats 2000000
/-! how great written values are -/
namespace Tl
open PySem PySem.Spec PyProof.Rows L2
def Ex.lit : Ex → Bool
  | .con d => isCon d
  | .var _ => true
  | .ixs _ _ => true
  | .tup l => l.lit
  | .lst l => l.lit
  | .nil => true
  | .cons a b => a.lit && b.lit
  | .neg (.con (.int _)) => true
  | _ => false
def sumS : List (Nat × Nat) → Nat
  | [] => 0
  | s :: r => s.1 + 1 + sumS r
def maxS : List (Nat × Nat) → Nat
  | [] => 0
  | s :: r => max s.2 (maxS r)
def Ex.sz : Ex → List (Nat × Nat)
  | .con d => [(d.bulk, d.depth)]
  | .var _ => [(12, 0)]
  | .ixs _ _ => [(12, 0)]
  | .tup l => [(sumS l.sz, maxS l.sz + 1)]
  | .lst l => [(sumS l.sz, maxS l.sz + 1)]
  | .nil => []
  | .cons a b => a.sz ++ b.sz
  | .neg _ => [(0, 0)]
  | _ => []
def Ex.fitB (k : Nat) : Ex → Bool
  | .con d => fit k d
  | .tup l => decide (l.sz.length ≤ k) && l.fitB k
  | .lst l => decide (l.sz.length ≤ k) && l.fitB k
  | .cons a b => a.fitB k && b.fitB k
  | .neg (.con (.int i)) => fit k (.int (-i))
  | _ => true
def Small (k : Nat) (d : PyData) (s : Nat × Nat) : Prop := fit k d = true ∧ d.bulk ≤ s.1 ∧ d.depth ≤ s.2
def rhoF (k : Nat) : Rho → Prop
  | .no => True
  | .dat d => Small k d (12, 0)
  | .seq ds => ∀ d ∈ ds, Small k d (12, 0)
inductive Smalls (k : Nat) : List PyData → List (Nat × Nat) → Prop
  | nil : Smalls k [] []
  | cons {d : PyData} {s : Nat × Nat} {ds : List PyData} {ss : List (Nat × Nat)} : Small k d s → Smalls k ds ss → Smalls k (d :: ds) (s :: ss)
theorem Smalls.app {k : Nat} : ∀ {ds es : List PyData} {ss ts : List (Nat × Nat)}, Smalls k ds ss → Smalls k es ts → Smalls k (ds ++ es) (ss ++ ts)
  | _, _, _, _, .nil, h => h
  | _, _, _, _, .cons a b, h => .cons a (b.app h)
theorem Smalls.sum {k : Nat} : ∀ {ds : List PyData} {ss : List (Nat × Nat)}, Smalls k ds ss → PyData.bulkAll ds ≤ sumS ss ∧ PyData.depthAll ds ≤ maxS ss ∧ ds.length = ss.length ∧ ∀ d ∈ ds, fit k d = true
  | _, _, .nil => ⟨by simp [PyData.bulkAll], by simp [PyData.depthAll], rfl, fun d m => nomatch m⟩
  | _, _, .cons a b => by
    obtain ⟨h1, h2, h3, h4⟩ := b.sum
    obtain ⟨a1, a2, a3⟩ := a
    refine ⟨?_, ?_, by rw [List.length_cons, List.length_cons, h3], fun d m => ?_⟩
    · rw [PyData.bulkAll, sumS]
      omega
    · rw [PyData.depthAll, maxS]
      omega
    · rcases List.mem_cons.mp m with rfl | m
      · exact a1
      · exact h4 d m
theorem Smalls.get {k : Nat} {ds : List PyData} {ss : List (Nat × Nat)} (h : Smalls k ds ss) : ∀ d ∈ ds, ∃ s ∈ ss, Small k d s := by
  induction h with
  | nil => exact fun d m => nomatch m
  | cons a b ih =>
    intro d m
    rcases List.mem_cons.mp m with rfl | m
    · exact ⟨_, List.mem_cons_self, a⟩
    · obtain ⟨s, h1, h2⟩ := ih d m
      exact ⟨s, List.mem_cons_of_mem _ h1, h2⟩
theorem smalls_one {k : Nat} {d : PyData} {s : Nat × Nat} (h : Small k d s) : Smalls k [d] [s] := .cons h .nil
theorem Ex.szs {k : Nat} {ρ : List Rho} (hρ : ∀ r ∈ ρ, rhoF k r) : ∀ (L : Ex) (ds : List PyData), L.lit = true → L.fitB k = true → L.ev ρ = some ds → Smalls k ds L.sz := by
  intro L
  induction L with
  | con d =>
    intro ds l f e
    cases e
    exact smalls_one ⟨f, Nat.le_refl _, Nat.le_refl _⟩
  | var i =>
    intro ds l f e
    obtain ⟨d, h1, rfl⟩ := some1_eq e
    cases hr : ρ[i]? with
    | none => rw [hr] at h1; cases h1
    | some r =>
      rw [hr] at h1
      cases r <;> cases h1
      exact smalls_one (hρ _ (List.mem_of_getElem? hr))
  | ixs i j =>
    intro ds l f e
    obtain ⟨d, h1, rfl⟩ := some1_eq e
    obtain ⟨es, h2, h3⟩ := Option.bind_eq_some_iff.mp h1
    have m := atI_mem h3
    cases hr : ρ[i]? with
    | none => rw [hr] at h2; cases h2
    | some r =>
      rw [hr] at h2
      have hz := hρ _ (List.mem_of_getElem? hr)
      cases r with
      | no => cases h2
      | seq es' => cases h2; exact smalls_one (hz _ m)
      | dat d' =>
        cases d' <;> cases h2
        have := hz.2.2
        simp [PyData.depth] at this
  | tup l ih =>
    intro ds li f e
    obtain ⟨es, h1, h2⟩ := Option.map_eq_some_iff.mp e
    subst h2
    rw [Ex.fitB, Bool.and_eq_true, decide_eq_true_eq] at f
    obtain ⟨g1, g2, g3, g4⟩ := (ih es li f.2 h1).sum
    exact smalls_one ⟨fit_tup.mpr ⟨by omega, g4⟩, by simp only [PyData.bulk]; exact g1, by simp only [PyData.depth]; omega⟩
  | lst l ih =>
    intro ds li f e
    obtain ⟨es, h1, h2⟩ := Option.map_eq_some_iff.mp e
    subst h2
    rw [Ex.fitB, Bool.and_eq_true, decide_eq_true_eq] at f
    obtain ⟨g1, g2, g3, g4⟩ := (ih es li f.2 h1).sum
    exact smalls_one ⟨fit_lst.mpr ⟨by omega, g4⟩, by simp only [PyData.bulk]; exact g1, by simp only [PyData.depth]; omega⟩
  | nil =>
    intro ds l f e
    cases e
    exact .nil
  | cons a b iha ihb =>
    intro ds l f e
    rw [Ex.lit, Bool.and_eq_true] at l
    rw [Ex.fitB, Bool.and_eq_true] at f
    obtain ⟨x, h1, h2⟩ := Option.bind_eq_some_iff.mp e
    obtain ⟨y, h3, h4⟩ := Option.map_eq_some_iff.mp h2
    subst h4
    exact (iha _ l.1 f.1 (one_eq h1)).app (ihb _ l.2 f.2 h3)
  | neg a ih =>
    intro ds l f e
    cases a with
    | con d =>
      cases d with
      | int i =>
        cases e
        exact smalls_one ⟨f, by simp [PyData.bulk], by simp [PyData.depth]⟩
      | _ => cases l
    | _ => cases l
  | _ => intro ds l; cases l
/-- menus -/
theorem Ex.menu {k b p : Nat} {ρ : List Rho} (hρ : ∀ r ∈ ρ, rhoF k r) {L : Ex} {ds : List PyData} (l : L.lit = true) (f : L.fitB k = true) (e : L.ev ρ = some ds) (bd : L.sz.all (fun s => decide (s.1 ≤ b) && decide (s.2 ≤ p)) = true) : ∀ d ∈ ds, fit k d = true ∧ d.bulk ≤ b ∧ d.depth ≤ p := fun d m => by
  obtain ⟨s, h1, h2, h3, h4⟩ := (Ex.szs hρ L ds l f e).get d m
  have := List.all_eq_true.mp bd s h1
  rw [Bool.and_eq_true, decide_eq_true_eq, decide_eq_true_eq] at this
  exact ⟨h2, by omega, by omega⟩
end Tl
set_option Elab.async false
set_option linter.all false
set_option autoImplicit false
set_option maxRecDepth 100000
set_option maxHeartbeats 2000000
/-! a list of any values that is being made; pts with a test of tuples -/
namespace Tl
open PySem PySem.Spec PyProof.Rows L2
def With (M : Addr → Prop) (p : Addr) : Addr → Prop := fun a => M a ∨ a = p
section
variable {K : PySem.W.Frag} {M : Addr → Prop} {H H' : Hp} {p : Addr}
theorem Av.wi {v : V} {d : PyData} (h : Av K M H v d) (np : H p = none) : Av K (With M p) H v d := Av.re (fun a o n e z => z.elim n fun y => by
  subst y
  rw [np] at e
  cases e) d v h
theorem Avs.wi {vs : List V} {ds : List PyData} (h : Avs K M H vs ds) (np : H p = none) : Avs K (With M p) H vs ds := Avs.re (fun a o n e z => z.elim n fun y => by
  subst y
  rw [np] at e
  cases e) ds vs h
theorem Av.wo {v : V} {d : PyData} (h : Av K (With M p) H v d) : Av K M H v d := Av.re (fun a o n e z => n (.inl z)) d v h
theorem Avs.wo {vs : List V} {ds : List PyData} (h : Avs K (With M p) H vs ds) : Avs K M H vs ds := Avs.re (fun a o n e z => n (.inl z)) ds vs h
theorem pre_wi {o : HO} (pr : Pre M H) (e : H p = some o) : Pre (With M p) H := ⟨.inl pr.1, fun a m n => m.elim (fun z => pr.2 a z n) fun z => by
  subst z
  rw [e] at n
  cases n⟩
theorem mut_lst {xs : List V} (e : H p = some (.lst xs)) : Mut (H p) := by rw [e]; trivial
/-- the list p is written anew -/
theorem keep_p {xs ys : List V} (e : H p = some (.lst xs)) : Keep (With M p) H (upd H p (.lst ys)) := keep_up (mut_lst e) (.inr rfl)
theorem sq_ne {H2 : Hp} {a : Addr} {xs : List V} (h : SqL K H a xs) (np : H p = none) (s : ∀ o, a ≠ p → H a = some o → H2 a = some o) : SqL K H2 a xs := seq_off (fun o z => s o (fun e => by
  subst e
  rw [np] at z
  cases z) z) h
theorem Gv.st {d : PyData} {Q : VK} (q : ∀ v G, L2.Same H G → Av K M G v d → Q v G) : Gv K M H d Q := q
theorem fit_big {k : Nat} {d : PyData} (h : fit k d = true) (hk : k ≤ 45 := by omega) : hz 4000000 d = true := hz_up (by decide) (fit_hz hk h)
end
end Tl
set_option Elab.async false
set_option linter.all false
set_option autoImplicit false
set_option maxRecDepth 100000
set_option maxHeartbeats 2000000
/-! a list of any values grows -/
namespace Tl
open PySem PySem.Spec PyProof.Rows L2
theorem pe_mone {X : Cx} {k : Int} {n : Nat} {p q : Pos} : PE X (.UnaryOp .USub (.Constant (.int k) n p) q) (fun σ H Q => Q (.int (-k)) H) := (pe_un un_neg pe_int).wk fun σ H Q q => ⟨_, rfl, q⟩
/-- the list at p holds any values; it alone is written -/
structure Bag (K : PySem.W.Frag) (M : Addr → Prop) (H0 H : Hp) (p : Addr) (xs : List V) (ds : List PyData) : Prop where
  np : H0 p = none
  g : H p = some (.lst xs)
  av : Avs K (With M p) H xs ds
  pr : Pre M H
  same : L2.Same H0 H
section
variable {K : PySem.W.Frag} {M : Addr → Prop} {H0 H H' : Hp} {p : Addr} {xs : List V} {ds : List PyData}
theorem Bag.pw (b : Bag K M H0 H p xs ds) : Pre (With M p) H := pre_wi b.pr b.g
theorem Bag.len (b : Bag K M H0 H p xs ds) : xs.length = ds.length := b.av.len
/-- begun -/
theorem bag_new {vs : List V} {es : List PyData} {G : Hp} (s : L2.Same H0 G) (h : Avs K M G vs es) (pr : Pre M G) (np : G p = none) : Bag K M H0 (upd G p (.lst vs)) p vs es :=
  ⟨s.free np, upd_same, (h.wi np).s (same_up np), pr.same (same_up np), s.trans (same_up np)⟩
/-- other things laid -/
theorem Bag.st (b : Bag K M H0 H p xs ds) (s : L2.Same H H') : Bag K M H0 H' p xs ds := ⟨b.np, s _ _ b.g, b.av.s s, b.pr.same s, b.same.trans s⟩
/-- grown -/
theorem Bag.add {vs : List V} {es : List PyData} (b : Bag K M H0 H p xs ds) (h : Avs K (With M p) H vs es) : Bag K M H0 (upd H p (.lst (xs ++ vs))) p (xs ++ vs) (ds ++ es) := by
  refine ⟨b.np, upd_same, (b.av.app h).k (keep_p b.g), ⟨b.pr.1, fun a m n => ?_⟩, fun a o e => ?_⟩
  · by_cases z : a = p
    · subst z
      rw [upd_same] at n
      cases n
    · rw [upd_ne z] at n
      exact b.pr.2 a m n
  · have z : a ≠ p := fun z => by
      subst z
      rw [b.np] at e
      cases e
    rw [upd_ne z]
    exact b.same _ _ e
/-- its values, as others see them -/
theorem Bag.out (b : Bag K M H0 H p xs ds) : Avs K M H xs ds := b.av.wo
theorem Bag.avw (b : Bag K M H0 H p xs ds) {v : V} {d : PyData} (h : Av K M H0 v d) : Av K (With M p) H v d := (h.wi b.np).s b.same
/-- p.extend([..]), written values -/
theorem Bag.ext {L : Ex} {σ : L2.St} {Q : VK} {ρ : List Rho} {B : Nat} {es : List PyData} (b : Bag K M H0 H p xs ds) (en : EnvA K (With M p) H σ ρ) (zz : EnvZ B ρ) (ok : L.ok B = true) (ev : L.ev ρ = some es) (small : ds.length + es.length ≤ 1000)
    (q : ∀ zs H', Bag K M H0 H' p zs (ds ++ es) → Q .non H') : tCons (tLst (tExs K L)) tNil σ H (fun vs H2 => rExtend (.ref p) vs H2 Q) := by
  refine ⟨With M p, b.pw, B, ρ, es, en, zz, ok, ev, fun vs X s h => ⟨Nat.le_trans (show vs.length ≤ 1000 by rw [h.len]; omega) (by decide), fun p2 np2 => ?_⟩⟩
  have b1 := (b.st s).st (same_up (o := .lst vs) np2)
  refine ⟨p, p2, xs, vs, rfl, rfl, b1.g, upd_same, Nat.le_trans (show _ ≤ 1000 by rw [b.len, h.len]; exact small) (by decide), q _ _ (b1.add (h.s (same_up np2)))⟩
end
/-- what all values of a menu are -/
def AllS (k b p : Nat) (ds : List PyData) : Prop := ∀ d ∈ ds, fit k d = true ∧ d.bulk ≤ b ∧ d.depth ≤ p
theorem AllS.app {k b p : Nat} {ds es : List PyData} (h : AllS k b p ds) (g : AllS k b p es) : AllS k b p (ds ++ es) := fun d m => (List.mem_append.mp m).elim (h d) (g d)
theorem exs_menu {K : PySem.W.Frag} {L : Ex} {σ : L2.St} {H : Hp} {Q : List V → Hp → Prop} (M : Addr → Prop) (k b p : Nat) {ρ : List Rho} {ds : List PyData} (pr : Pre M H) (en : EnvA K M H σ ρ) (rf : ∀ r ∈ ρ, rhoF k r) (hk : k ≤ 45) (ok : L.ok 900 = true) (ev : L.ev ρ = some ds)
    (li : L.lit = true) (fb : L.fitB k = true) (bd : L.sz.all (fun s => decide (s.1 ≤ b) && decide (s.2 ≤ p)) = true) (q : ∀ vs H', L2.Same H H' → Avs K M H' vs ds → AllS k b p ds → Q vs H') : tExs K L σ H Q := by
  refine ⟨M, pr, 900, ρ, ds, en, fun r m => ?_, ok, ev, fun vs H' s h => q vs H' s h (Ex.menu rf li fb ev bd)⟩
  have := rf r m
  cases r with
  | no => trivial
  | dat d => exact fit_hz hk this.1
  | seq ds => exact fun d m => fit_hz hk (this d m).1
theorem Bag.extS {K : PySem.W.Frag} {M : Addr → Prop} {H0 H : Hp} {p : Addr} {xs : List V} {ds : List PyData} {L : Ex} {σ : L2.St} {Q : VK} (k b q' : Nat) {ρ : List Rho} {es : List PyData} (bg : Bag K M H0 H p xs ds) (en : EnvA K (With M p) H σ ρ) (rf : ∀ r ∈ ρ, rhoF k r) (hk : k ≤ 45) (ok : L.ok 900 = true) (ev : L.ev ρ = some es)
    (li : L.lit = true) (fb : L.fitB k = true) (bd : L.sz.all (fun s => decide (s.1 ≤ b) && decide (s.2 ≤ q')) = true) (small : ds.length + es.length ≤ 1000)
    (q : ∀ zs H', Bag K M H0 H' p zs (ds ++ es) → AllS k b q' es → Q .non H') : tCons (tLst (tExs K L)) tNil σ H (fun vs H2 => rExtend (.ref p) vs H2 Q) := by
  refine bg.ext en (B := 900) (fun r m => ?_) ok ev small fun zs H' b' => q zs H' b' (Ex.menu rf li fb ev bd)
  have := rf r m
  cases r with
  | no => trivial
  | dat d => exact fit_hz hk this.1
  | seq ds => exact fun d m => fit_hz hk (this d m).1
end Tl
namespace Tl
open PySem PySem.Spec PyProof.Rows L2
theorem tEx_go {K : PySem.W.Frag} {L : Ex} {σ : L2.St} {H : Hp} {Q : VK} (M : Addr → Prop) {ρ : List Rho} {d : PyData} (pr : Pre M H) (en : EnvA K M H σ ρ) (zz : EnvZ 900 ρ) (ok : L.ok 900 = true) (ev : L.ev ρ = some [d]) (q : ∀ v H', L2.Same H H' → Av K M H' v d → Q v H') : tEx K L σ H Q :=
  ⟨M, pr, 900, ρ, d, en, zz, ok, ev, q⟩
section
variable {K : PySem.W.Frag} {M : Addr → Prop} {H0 H H' : Hp} {p : Addr} {xs : List V} {ds : List PyData}
theorem keep_o1 (g : H p = some (.lst xs)) (o : ∀ a u, a ≠ p → H a = some u → H' a = some u) : Keep (With M p) H H' := ⟨fun a u e k => o a u (fun z => by
  subst z
  rw [g] at e
  cases e
  rcases k with ⟨_, k⟩ | ⟨_, _, k⟩ <;> cases k) e, fun a u n e => o a u (fun z => n (.inr z)) e⟩
/-- p.append(v) -/
theorem Bag.appE {L : Ex} {σ : L2.St} {Q : VK} {ρ : List Rho} {d : PyData} (b : Bag K M H0 H p xs ds) (en : EnvA K (With M p) H σ ρ) (zz : EnvZ 900 ρ) (ok : L.ok 900 = true) (ev : L.ev ρ = some [d]) (small : ds.length ≤ 999)
    (q : ∀ zs H', Bag K M H0 H' p zs (ds ++ [d]) → (∀ a u, a ≠ p → H a = some u → H' a = some u) → Q .non H') : tCons (tEx K L) tNil σ H (fun vs H2 => rAppend (.ref p) vs H2 Q) := by
  refine tEx_go (With M p) b.pw en zz ok ev fun v X s h => ?_
  have b1 := b.st s
  refine ⟨p, xs, v, rfl, rfl, b1.g, Nat.lt_of_le_of_lt (show _ ≤ 999 by rw [b.len]; exact small) (by decide), q _ _ (b1.add (.cons h .nil)) fun a u n e => ?_⟩
  rw [upd_ne n]
  exact s _ _ e
end
end Tl
namespace Tl
open PySem PySem.Spec PyProof.Rows L2
def dropA (p : Addr) (H : Hp) : Hp := fun a => if a = p then none else H a
theorem dropA_eq {p : Addr} {H : Hp} : dropA p H p = none := if_pos rfl
theorem dropA_ne {p a : Addr} {H : Hp} (h : a ≠ p) : dropA p H a = H a := if_neg h
theorem dropA_same {p : Addr} {H : Hp} : L2.Same (dropA p H) H := fun a u e => by
  by_cases z : a = p
  · subst z
    rw [dropA_eq] at e
    cases e
  · rw [dropA_ne z] at e
    exact e
section
variable {K : PySem.W.Frag} {M : Addr → Prop} {H0 H H' : Hp} {p : Addr} {xs : List V} {ds : List PyData}
/-- other things may have been written: a new beginning -/
theorem Bag.re (b : Bag K M H0 H p xs ds) (k : Keep (With M p) H H') (g : H' p = some (.lst xs)) (pr : Pre M H') : Bag K M (dropA p H') H' p xs ds ∧ Keep M H0 (dropA p H') := by
  have ne : ∀ {a : Addr} {u : HO}, H0 a = some u → a ≠ p := fun e z => by
    subst z
    rw [b.np] at e
    cases e
  refine ⟨⟨dropA_eq, g, b.av.k k, pr, dropA_same⟩, fun a u e t => ?_, fun a u n e => ?_⟩
  · rw [dropA_ne (ne e)]
    exact k.1 a u (b.same _ _ e) t
  · rw [dropA_ne (ne e)]
    exact k.2 a u (fun z => z.elim n (ne e)) (b.same _ _ e)
end
end Tl
namespace Tl
open PySem PySem.Spec PyProof.Rows L2
/-- a loop over the places and the items of a list -/
theorem for_enumLs {K : PySem.W.Frag} {a : Addr} {xs : List V} {g : TG} {tb : TS} {D : Ends} {σ : L2.St} {H : Hp} (Pv : Nat → L2.St → Hp → Prop) (h0 : Pv 0 σ H) (hl : ∀ i σ H, i ≤ xs.length → Pv i σ H → SqL K H a xs)
    (hs : ∀ i x σ H T, xs[i]? = some x → Pv i σ H → H T = none → g (.ref T) σ (upd H T (.tup [.int (i : Nat), x])) fun σ2 H2 => tb { D with nx := Pv (i + 1), ct := Pv (i + 1), bk := D.nx } σ2 H2) (hd : ∀ σ H, Pv xs.length σ H → D.nx σ H) :
    ∃ W : Nat → Nat → L2.St → Hp → Prop, (∃ m, W 0 m σ H) ∧ ∀ i m σ H, W i m σ H →
      ((Ite K a).stop i H ∧ D.nx σ H) ∨ ((Ite K a).go i H ∧ ∃ N : L2.St → Hp → Prop, (∀ σ' H', N σ' H' → ∃ m', m' < m ∧ W (i + 1) m' σ' H') ∧ ∀ x H', (Ite K a).yld i H x H' → g x σ H' fun σ2 H2 => tb { D with nx := N, ct := N, bk := D.nx } σ2 H2) := by
  refine ⟨fun i m σ H => m + i = xs.length ∧ Pv i σ H, ⟨xs.length, rfl, h0⟩, fun i m σ H ⟨e, p⟩ => ?_⟩
  cases m with
  | zero =>
    obtain rfl : i = xs.length := by omega
    exact .inl ⟨⟨xs, hl _ _ _ (Nat.le_refl _) p, Nat.le_refl _⟩, hd σ H p⟩
  | succ m =>
    have li : i < xs.length := by omega
    refine .inr ⟨⟨xs, xs[i], hl _ _ _ (by omega) p, List.getElem?_eq_getElem li⟩, Pv (i + 1), fun σ' H' p' => ⟨m, Nat.lt_succ_self m, by omega, p'⟩, fun v H' y => ?_⟩
    obtain ⟨T, x, rfl, nT, rfl, hx⟩ := y
    exact hs i x σ H T (hx xs (hl _ _ _ (by omega) p)) p nT
end Tl
set_option Elab.async false
set_option linter.all false
set_option maxRecDepth 100000
set_option maxHeartbeats 2000000
/-! list(d.items()) and dict(pairs), keys tuples -/
namespace Tl
open PySem PySem.Calls PySem.Spec PyProof.Rows L2
section
variable {prog : Program} {w : World} {A : Around} {E : Value → Shared → Prop} {s : Shared} {r d : Addr} {es : Array DictEntry} {ep : Nat}
theorem itT_init {R : Result → Shared → Prop} (hh : A.handled = none) (view1 : s.heap.IsItemsView r d) (raw1 : DT.Raw s.heap d es ep) (S : Addr) (nr1 : S ≠ r) (nd1 : d ≠ S) (hList : s.heap.get? S = some { cls := .type "list", data := .seq #[] })
    (done : ∀ h' tk got c rows, (∀ b o, b ≠ S → s.heap.get? b = some o → h'.get? b = some o) → h'.get? S = some { cls := .type "list", dict := none, data := .seq got c, slots := #[] } → rows.length = es.size → DT.Made es S h' rows →
      got.toList = rows.map Value.ref → R (.ok (.ret .none)) { s with heap := h', toks := tk }) (few : es.size ≤ sizeLine) :
    wpAny (model prog w) A.in1 (Builtin.«list.__init__» ⟨[.ref S, .ref r], []⟩)
      (fun fin s' => match fin with | .done f => R (.ok f) s' | .again c' => c'.quiet = true ∧ codeAny (model prog w) A c' R s') (fun e s' => R (.error e) s') s := by
  show wpAny _ _ (do let old ← Builtin.List.listItems (.ref S); Builtin.List.listUpdate (.ref S) (fun _ => #[]); letGo old.toList.reverse; Builtin.List.listExtendWith (.ref S) (.ref r) .none) _ _ s
  refine wpAny_bind ?_
  unfold Builtin.List.listItems
  refine wpAny_bind (wpAny_seqItems hList rfl (wpAny_pure ?_))
  show wpAny _ _ (updateSeq S (fun _ => #[]) >>= fun _ => letGo (#[] : Array Value).toList.reverse >>= fun _ => Builtin.List.listExtendWith (.ref S) (.ref r) .none) _ _ s
  refine wpAny_bind (wpAny_updateSeq hList rfl ?_)
  have hS₂ := Heap.get?_update_self (Obj.mapSeq (fun _ => (#[] : Array Value))) hList rfl
  have rest : ∀ b o, b ≠ S → s.heap.get? b = some o → (s.heap.update S (Obj.mapSeq (fun _ => (#[] : Array Value)))).get? b = some o :=
    fun b o hb e => (Heap.get?_update_other _ _ (Ne.symm hb)).trans e
  refine wpAny_bind (wpAny_letGo ?_)
  refine DT.extI (es := es) (ep := ep) hh (let ⟨o, ho, x⟩ := view1; ⟨o, rest r o nr1.symm ho, x⟩) (raw1.at' fun o e => rest d o nd1 e) S nr1 nd1 .none _ hS₂ (fun h' tk got c rows keep hL' hl made1 hgot => ?_) few
  exact done h' tk got c rows (fun b o hb e => keep b o hb (rest b o hb e)) hL' hl (made1.low (Nat.le_of_lt (Heap.lt_size hS₂))) hgot
theorem itT_call {Q : Value → Shared → Prop} (hh : A.handled = none) (view1 : s.heap.IsItemsView r d) (raw1 : DT.Raw s.heap d es ep) (few : es.size ≤ sizeLine)
    (end1 : ∀ h' tk got c rows, (∀ b o, s.heap.get? b = some o → h'.get? b = some o) → h'.get? s.heap.objs.size = some { cls := .type "list", dict := none, data := .seq got c, slots := #[] } → rows.length = es.size → DT.Made es s.heap.objs.size h' rows →
      got.toList = rows.map Value.ref → Q (.ref s.heap.objs.size) { s with heap := h', toks := tk }) :
    wpAny (model prog w) A (call (.type "list") [.ref r]) Q E s := by
  refine callType_codes (Q₁ := fun obj s₁ => obj = .ref s.heap.objs.size ∧ s₁ = { s with heap := s.heap.push { cls := .type "list", data := .seq #[] } }) PySem.F.called_list (PySem.F.typeCall_list_1 _) PySem.F.entry_list_init
    (code_list_new _ ⟨rfl, rfl⟩) fun obj s₁ st1 => ?_
  obtain ⟨rfl, rfl⟩ := st1
  have hList : (s.heap.push { cls := .type "list", data := .seq #[] }).get? s.heap.objs.size = some { cls := .type "list", data := .seq #[] } := Heap.get?_push_size _ rfl
  have at_r : r < s.heap.objs.size := let ⟨_, ho, _⟩ := view1; Heap.lt_size ho
  have at_d : d < s.heap.objs.size := raw1.lt
  refine ⟨⟨_, hList, rfl⟩, PySem.F.args_list_init_2 _ _, itT_init (es := es) (ep := ep) (A := A.in1) hh (let ⟨o, ho, x⟩ := view1; ⟨o, Heap.get?_push_of_some _ ho, x⟩) (raw1.push _) _ (Nat.ne_of_gt at_r) (Nat.ne_of_lt at_d) hList (fun h' tk got c rows keep hL' hl made1 hgot => ?_) few⟩
  exact ⟨rfl, end1 h' tk got c rows (fun b o e => keep b o (Nat.ne_of_lt (Heap.lt_size e)) (Heap.get?_push_of_some _ e)) hL' hl made1 hgot⟩
end
theorem paired_by {α β : Type} {F : α → β → Prop} : ∀ {xs : List α} {ys : List β}, xs.length = ys.length → (∀ (i : Nat) (x : α) (y : β), xs[i]? = some x → ys[i]? = some y → F x y) → Paired F xs ys
  | [], [], _, _ => .nil
  | [], _ :: _, h, _ => nomatch h
  | _ :: _, [], h, _ => nomatch h
  | x :: xs, y :: ys, h, f => .cons (f 0 x y rfl rfl) (paired_by (Nat.succ.inj h) fun i a b h1 h2 => f (i + 1) a b h1 h2)
/-- rows tracked at their addresses -/
def putR : Hp → List Addr → List (List V) → Hp
  | H, a :: rows, r :: rs => putR (upd H a (.tup r)) rows rs
  | H, _, _ => H
theorem putR_off {b : Addr} : ∀ (rows : List Addr) (rs : List (List V)) (H : Hp), b ∉ rows → putR H rows rs b = H b
  | [], _, _, _ => rfl
  | _ :: _, [], _, _ => rfl
  | a :: rows, r :: rs, H, h => by
    show putR (upd H a (.tup r)) rows rs b = H b
    rw [putR_off rows rs _ (fun z => h (List.mem_cons_of_mem _ z)), upd_ne (fun z => h (by rw [z]; exact List.mem_cons_self))]
theorem putR_at : ∀ (rows : List Addr) (rs : List (List V)) (H : Hp), rows.length = rs.length → rows.Nodup → Paired (fun (t : Addr) (r : List V) => putR H rows rs t = some (.tup r)) rows rs
  | [], [], _, _, _ => .nil
  | [], _ :: _, _, h, _ => by cases h
  | _ :: _, [], _, h, _ => by cases h
  | a :: rows, r :: rs, H, h, few => by
    have hn' := List.nodup_cons.mp few
    have ih := putR_at rows rs (upd H a (.tup r)) (Nat.succ.inj h) hn'.2
    refine .cons ?_ ih
    show putR (upd H a (.tup r)) rows rs a = some (.tup r)
    rw [putR_off rows rs _ hn'.1, upd_same]
section
variable {X : Cx}
theorem rows_laid {pins : List (Addr × Obj)} {σ : L2.St} {H : Hp} {s : Shared} {h' : Heap} {tk : Nat} {rs : List (List V)} {got : Array Value} {c : Nat} {rows : List Addr} (I : Inv X pins σ H s) (few2 : rs.length ≤ sizeLine)
    (keep : ∀ b o, s.heap.get? b = some o → h'.get? b = some o) (hList : h'.get? s.heap.objs.size = some { cls := .type "list", dict := none, data := .seq got c, slots := #[] }) (hl : rows.length = rs.length) (up1 : rows.Pairwise (· < ·)) (over1 : ∀ a ∈ rows, s.heap.objs.size < a)
    (pairs1 : ∀ (j : Nat) (a : Addr) (r : List V), rows[j]? = some a → rs[j]? = some r → ∃ u1 u2 : Value, Vals r [u1, u2] ∧ h'.get? a = some { cls := .type "tuple", data := .seq #[u1, u2] }) (hgot : got.toList = rows.map Value.ref) :
    ∃ H' : Hp, (∀ b o, H b = some o → H' b = some o) ∧ H s.heap.objs.size = none ∧ (∀ t ∈ rows, H t = none) ∧ s.heap.objs.size ∉ rows ∧ H' s.heap.objs.size = some (.lst (rows.map V.ref)) ∧ Paired (fun (t : Addr) (q : List V) => H' t = some (.tup q)) rows rs ∧ Inv X pins σ H' { s with heap := h', toks := tk } := by
  have notIn1 : s.heap.objs.size ∉ rows := fun z => Nat.lt_irrefl _ (over1 _ z)
  have apart : rows.Nodup := List.Pairwise.imp (fun {a b} (h : a < b) => Nat.ne_of_lt h) up1
  have fresh1 : ∀ t ∈ rows, H t = none := fun t ht => I.hok.fresh (Nat.le_of_lt (over1 t ht))
  have fresh2 : H s.heap.objs.size = none := I.hok.fresh (Nat.le_refl _)
  have each := putR_at rows rs (upd H s.heap.objs.size (.lst (rows.map V.ref))) hl apart
  have aside : ∀ b, b ∉ rows → b ≠ s.heap.objs.size → putR (upd H s.heap.objs.size (.lst (rows.map V.ref))) rows rs b = H b := fun b h1 h2 => by rw [putR_off rows rs _ h1, upd_ne h2]
  have under : ∀ b o, s.heap.get? b = some o → b ∉ rows ∧ b ≠ s.heap.objs.size := fun b o e => ⟨fun z => absurd (Heap.lt_size e) (Nat.not_lt.mpr (Nat.le_of_lt (over1 b z))), Nat.ne_of_lt (Heap.lt_size e)⟩
  have stays : ∀ b u, H b = some u → (putR (upd H s.heap.objs.size (.lst (rows.map V.ref))) rows rs) b = some u := fun b u e => by
    rw [aside b (fun z => by rw [fresh1 b z] at e; cases e) (fun z => by rw [z, fresh2] at e; cases e)]
    exact e
  have eS : putR (upd H s.heap.objs.size (.lst (rows.map V.ref))) rows rs s.heap.objs.size = some (.lst (rows.map V.ref)) := by rw [putR_off rows rs _ notIn1, upd_same]
  refine ⟨putR (upd H s.heap.objs.size (.lst (rows.map V.ref))) rows rs, stays, fresh2, fresh1, notIn1, eS, each, ?_⟩
  refine I.call' (ch := []) rfl ⟨fun b o q _ _ _ => keep b o q, fun b o q _ _ _ => ⟨o.slots, keep b o q⟩, fun b o q n _ => ?_, fun b o q _ => ⟨o, keep b o q⟩, fun b xs q => stays b _ q, fun b o u q => stays b _ q, fun b ps q => ⟨#[], by rw [stays b _ q]; simp⟩⟩ (fun b u q => ?_) I.bare fun b z => by simp at z
  · obtain ⟨z1, z2⟩ := under b o q
    rw [aside b z1 z2]
    exact n
  · by_cases hb : b ∈ rows
    · obtain ⟨j, pk, e1, e2, e3⟩ := LiI.paired_ix each hb
      rw [e3] at q
      cases q
      obtain ⟨u1, u2, rv, ob⟩ := pairs1 j b pk e1 e2
      exact ⟨by rw [Paired.length rv]; show 2 ≤ sizeLine; decide, [u1, u2], rv, ⟨_, ob, rfl, _, rfl⟩⟩
    · by_cases hb2 : b = s.heap.objs.size
      · rw [hb2] at q ⊢
        rw [eS] at q
        cases q
        refine ⟨by rw [List.length_map]; omega, got.toList, c, by rw [hgot]; exact LiI.vals_refs rows, ?_⟩
        rw [Array.toArray_toList]
        exact hList
      · rw [aside b hb hb2] at q
        exact (I.hok b u q).stay (fun d v _ y => keep d v y) (fun d y => stays d _ y) fun d xs y => stays d _ y
def IsIt (H : Hp) (t : Addr) (q : List Key × V) : Prop := ∃ kb, H t = some (.tup [.ref kb, q.2]) ∧ H kb = some (.tup (q.1.map kV))
def rListItT : List V → Hp → VK → Prop := fun xs H Q => ∃ (r d : Addr) (kvs : List (List Key × V)), xs = [.ref r] ∧ H r = some (L2.DX.itemsO r d) ∧ H d = some (.dT kvs) ∧
  ∀ (H' : Hp) (p : Addr) (ts : List Addr), L2.Same H H' → H p = none → H' p = some (.lst (ts.map V.ref)) → Paired (IsIt H') ts kvs → Q (.ref p) H'
theorem cr_listItT (hc : X.calm = true) : CallR X (.type "list") rListItT := by
  intro pins s σ H xs us Q I rr h
  obtain ⟨r, d, kvs, rfl, hp, ha, q⟩ := h
  obtain rfl := Vals.ref1 rr
  have view : s.heap.IsItemsView r d := (show ObjOk X.prog X.w H s.heap r (L2.DX.itemsO r d) from I.hok r _ hp).1
  obtain ⟨z, hd, xs', rel, o, es, ep, ho, hx, hdat, hes, his, hn⟩ := dt_of I.hok ha
  have l1 : kvs.length = xs'.length := Paired.length rel
  have l2 : es.size = xs'.length := size_of_entries hes
  refine itT_call (es := es) (ep := ep) (I.ok.hd hc) view ⟨o, ho, hx, hdat⟩ (by omega) fun h' tk acc c as hk hS hl hG hacc => ?_
  have lx : as.length = xs'.length := by omega
  have lr : (List.zipWith (fun (kv : List Key × V) (x : List Key × Addr × Value) => [V.ref x.2.1, kv.2]) kvs xs').length = xs'.length := by rw [List.length_zipWith]; omega
  have row_at : ∀ (j : Nat) (row : List V), (List.zipWith (fun (kv : List Key × V) (x : List Key × Addr × Value) => [V.ref x.2.1, kv.2]) kvs xs')[j]? = some row → ∃ kv x, kvs[j]? = some kv ∧ xs'[j]? = some x ∧ row = [V.ref x.2.1, kv.2] ∧ kv.1 = x.1 ∧ H x.2.1 = some (.tup (kv.1.map kV)) ∧ RelV kv.2 x.2.2 := fun j row hr => by
    rw [List.getElem?_zipWith] at hr
    cases hk1 : kvs[j]? with
    | none => rw [hk1] at hr; cases hr
    | some kv =>
      cases hx1 : xs'[j]? with
      | none => rw [hk1, hx1] at hr; cases hr
      | some x =>
        rw [hk1, hx1] at hr
        obtain ⟨y, hy, z1, z2, z3⟩ := LiI.paired_get rel hk1
        rw [hx1] at hy
        cases hy
        exact ⟨kv, x, rfl, rfl, (Option.some.inj hr).symm, z1, z2, z3⟩
  obtain ⟨H', kp, nS, nw, nin, eS, atP, I'⟩ := rows_laid (tk := tk) I (by rw [lr]; omega) hk hS (by rw [lr]; exact lx) hG.rise hG.above (fun j a row hj hr => by
    obtain ⟨kv, x, _, hx1, rfl, _, _, rv⟩ := row_at j row hr
    obtain ⟨e, he, hg⟩ := hG.pairs j a hj
    have qe := entry_at hes j
    rw [he, hx1] at qe
    have e2 : e = entryOfKey (tupleKind (mixKind X.prog X.w)) x := Option.some.inj qe
    refine ⟨.ref x.2.1, x.2.2, .cons rfl (.cons rv .nil), ?_⟩
    rw [hg, e2]
    all_goals rfl) hacc
  refine ⟨.ref s.heap.objs.size, H', I', rfl, q H' _ as kp nS eS ?_⟩
  refine paired_by (by omega) fun j a kv ha2 hk2 => ?_
  obtain ⟨row, hr, h1⟩ := LiI.paired_get atP ha2
  obtain ⟨kv', x, h2, _, rfl, _, h3, _⟩ := row_at j row hr
  rw [hk2] at h2
  cases h2
  exact ⟨x.2.1, h1, kp _ _ h3⟩
theorem storedAllH_new {κ : Type} [DecidableEq κ] : ∀ (ps xs : List (κ × Addr × Value)), (∀ p ∈ ps, p.1 ∉ xs.map (·.1)) → (ps.map (·.1)).Nodup → storedAllH xs ps = xs ++ ps
  | [], xs, _, _ => (List.append_nil xs).symm
  | p :: ps, xs, h, n => by
    have hn := List.nodup_cons.mp n
    show storedAllH (storedH xs p.1 p.2.1 p.2.2) ps = _
    have h0 : atKey xs p.1 = none := by
      unfold atKey
      have : xs.find? (fun x => decide (x.1 = p.1)) = none := by
        rw [List.find?_eq_none]
        intro x hx e
        exact h p List.mem_cons_self (List.mem_map.mpr ⟨x, hx, by simpa using e⟩)
      rw [this]
      rfl
    rw [storedH_new h0, storedAllH_new ps _ (fun q hq => ?_) hn.2, List.append_assoc]
    · rfl
    · rw [List.map_append, List.mem_append]
      rintro (z | z)
      · exact h q (List.mem_cons_of_mem _ hq) z
      · rw [List.map_cons, List.map_nil, List.mem_singleton] at z
        exact hn.1 (List.mem_map.mpr ⟨q, hq, z⟩)
theorem its_built {pins : List (Addr × Obj)} {σ : L2.St} {H : Hp} {s : Shared} (I : Inv X pins σ H s) {ts : List Addr} {kvs : List (List Key × V)} (h : Paired (IsIt H) ts kvs) :
    ∃ ps : List (List Key × Addr × Value), KT H kvs ps ∧ Paired (fun t (p : List Key × Addr × Value) => s.heap.IsTuple t #[.ref p.2.1, p.2.2]) ts ps := by
  induction h with
  | nil => exact ⟨[], .nil, .nil⟩
  | @cons t q ts kvs r _ ih =>
    obtain ⟨ps, h1, h2⟩ := ih
    obtain ⟨kb, h3, h4⟩ := r
    obtain ⟨_, its, rv, o, ho, hc, n, hd⟩ := (show ObjOk X.prog X.w H s.heap t (.tup [.ref kb, q.2]) from I.hok t _ h3)
    cases rv with
    | cons r1 r2 =>
      cases r2 with
      | @cons _ u _ _ r3 r4 =>
        cases r4
        cases r1
        exact ⟨(q.1, kb, u) :: ps, .cons ⟨rfl, h4, r3⟩ h1, .cons ⟨o, ho, hc, n, hd⟩ h2⟩
theorem kt_keys {H : Hp} {kvs : List (List Key × V)} {ps : List (List Key × Addr × Value)} (h : KT H kvs ps) : kvs.map (·.1) = ps.map (·.1) := by
  induction h with
  | nil => rfl
  | cons r _ ih => rw [List.map_cons, List.map_cons, ih, r.1]
def rDictPT : List V → Hp → VK → Prop := fun xs H Q => ∃ (a : Addr) (ts : List Addr) (kvs : List (List Key × V)), xs = [.ref a] ∧ H a = some (.lst (ts.map V.ref)) ∧ Paired (IsIt H) ts kvs ∧ (kvs.map (·.1)).Nodup ∧
  ∀ p, H p = none → Q (.ref p) (upd H p (.dT kvs))
theorem cr_dictPT (hc : X.calm = true) (hu : X.A.units + 64 < cLine) : CallR X (.type "dict") rDictPT := by
  intro pins s σ H xs us Q I rr h
  obtain ⟨a, ts, kvs, rfl, ha, hp, nd, q⟩ := h
  obtain rfl := Vals.ref1 rr
  obtain ⟨its, n, rv, hl, hz⟩ := I.lst ha
  have ei := L2.refs_at rv
  subst ei
  rw [List.length_map] at hz
  obtain ⟨ps, hK, hT⟩ := its_built I hp
  have l1 : ts.length = ps.length := Paired.length hT
  have l2 : kvs.length = ps.length := Paired.length hK
  have ek : kvs.map (·.1) = ps.map (·.1) := kt_keys hK
  have PA := PairArg.list (prog := X.prog) (w := X.w) a (ts.map Value.ref).toArray (fun j => ts.getD j 0) (ps.map fun p => (Value.ref p.2.1, p.2.2))
  have keys : ∀ h' : Heap, (∀ b o, s.heap.get? b = some o → h'.get? b = some o) → ∀ x ∈ ps, (tupleKind (mixKind X.prog X.w)).is h' x.1 x.2.1 := fun h' hk x hx => by
    obtain ⟨j, hj⟩ := List.mem_iff_getElem?.mp hx
    have hj2 : j < kvs.length := by rw [l2]; exact (List.getElem?_eq_some_iff.mp hj).1
    obtain ⟨y, hy, z1, z2, z3⟩ := LiI.paired_get hK (List.getElem?_eq_getElem hj2)
    rw [hj] at hy
    cases hy
    obtain ⟨o, items, n, ho, hc, hd, hi⟩ := (show IsTupleKey (mixKind X.prog X.w) s.heap x.1 x.2.1 from key_of I.hok (by rw [← z1]; exact z2))
    exact ⟨o, items, n, hk _ _ ho, hc, hd, hi⟩
  have hst : storedAllH [] ps = ps := by
    have := storedAllH_new ps [] (fun p _ => by simp) (by rw [← ek]; exact nd)
    rw [List.nil_append] at this
    exact this
  refine call_dict_pairsH (knd := tupleKind (mixKind X.prog X.w)) (ps := ps) PA (I.ok.hd hc) ?_ ⟨⟨_, n, hl, rfl, rfl, rfl⟩, ?_, fun j k v hj => ?_⟩ ⟨by rw [List.length_map], fun j k v hj => ?_⟩ (fun h' hk x hx => keys h' (fun b o e => hk b o (Nat.ne_of_lt (Heap.lt_size e)) (by simp) e) x hx) (by rw [List.length_map]; omega) fun h' tk hd' hk => ?_
  · show X.A.units + 1 + 1 < cLine
    omega
  · rw [List.size_toArray, List.length_map, List.length_map, l1]
  · rw [List.getElem?_map] at hj
    obtain ⟨p, hp1, hp2⟩ := Option.map_eq_some_iff.mp hj
    have hjt : j < ts.length := by rw [l1]; exact (List.getElem?_eq_some_iff.mp hp1).1
    obtain ⟨y, hy, z⟩ := LiI.paired_get hT (List.getElem?_eq_getElem hjt)
    rw [hp1] at hy
    cases hy
    cases hp2
    have eg : ts.getD j 0 = ts[j] := by rw [List.getD_eq_getElem?_getD, List.getElem?_eq_getElem hjt]; rfl
    refine ⟨?_, .inl (show s.heap.IsTuple (ts.getD j 0) _ from by rw [eg]; exact z)⟩
    show (ts.map Value.ref).toArray[j]? = some (Value.ref (ts.getD j 0))
    rw [eg]
    simp [hjt]
  · rw [show PairRel (ps.map fun p => (Value.ref p.2.1, p.2.2)) j k v = ((ps.map fun p => (Value.ref p.2.1, p.2.2))[j]? = some (k, v)) from rfl, List.getElem?_map] at hj
    obtain ⟨p, hp1, hp2⟩ := Option.map_eq_some_iff.mp hj
    cases hp2
    exact ⟨p.1, p.2.1, hp1, rfl⟩
  · rw [hst] at hd'
    obtain ⟨o, es, ep, h1, h2, h3, h4, _, h5⟩ := hd'
    have hm : (s.heap.objs.size == sysModules) = false := beq_eq_false_iff_ne.mpr (Nat.ne_of_gt I.big)
    have hf : H s.heap.objs.size = none := I.hok.fresh (Nat.le_refl _)
    refine ⟨.ref s.heap.objs.size, upd H s.heap.objs.size (.dT kvs), I.laid (t' := tk) (fun b o e => hk b o (by simp) e) (Nat.le_refl _) (show ObjOk X.prog X.w _ _ _ (.dT kvs) from ⟨by omega, hm, ps, KT.keeps hK fun b ys e => ?_, o, es, ep, h1, h2, h3, h4, h5⟩), rfl, q _ hf⟩
    rw [upd_ne (ne_of_none e hf)]
    exact e
end
end Tl
set_option Elab.async false
set_option linter.all false
set_option autoImplicit false
set_option maxRecDepth 100000
set_option maxHeartbeats 2000000
/-! data that may be set in order, though their places are of unlike kinds: what comes after the first difference is never looked at -/
namespace PySem.SeqAt
open AutoSeq1 (wpAny_loadPart')
open MeetsSeq MeetsSeq2 MeetsSeq3 SeqRoads2
/-- the built-in less-than of two tuples; below: asked only where all places before are equal -/
theorem tl_lt (p q : Addr) (us vs : Array Value) (m1 m2 : Nat) (d1 d2 : Option Addr) (k1 k2 : Array (Option Value)) (e r : Nat → Bool) :
    Meets (Builtin.«tuple.__lt__» ⟨[.ref p, .ref q], []⟩)
      (fun A R s => s.heap.get? p = some { cls := .type "tuple", dict := d1, data := .seq us m1, slots := k1 } ∧ s.heap.get? q = some { cls := .type "tuple", dict := d2, data := .seq vs m2, slots := k2 } ∧
        (∀ j (a : j < us.size) (b : j < vs.size), EqAt A.in1 s us[j] vs[j] (e j)) ∧ (∀ j (a : j < us.size) (b : j < vs.size), (∀ i, i < j → e i = true) → e j = false → RcLt A.in1 s us[j] vs[j] (r j)) ∧
        R (.ok (.ret (.bool (firstLt e r (decide (us.size < vs.size)) (List.range (min us.size vs.size)))))) s) :=
  .of_wp fun prog w A R s h => by
    obtain ⟨hp, g, dr, tk, os⟩ := s
    obtain ⟨gp, gq, eqs, lts, fin⟩ := h
    have sub := AutoSeq1.sub_tuple_tuple
    have zl : (us.toList.zip vs.toList).length = min us.size vs.size := by simp
    wp_walk using wpAny_loadPart' gp, wpAny_loadPart' gq, wpAny_forIn_list _ (fun left b s' => b.1 = none ∧ s' = ⟨hp, g, dr, tk, os⟩ ∧ ∃ i, left = (us.toList.zip vs.toList).drop i ∧ (∀ k, k < i → e k = true) ∧
      R (.ok (.ret (.bool (firstLt e r (decide (us.size < vs.size)) ((List.range (min us.size vs.size)).drop i))))) ⟨hp, g, dr, tk, os⟩) _
    case turn =>
      rintro ⟨y, x⟩ left b s' ⟨eb, rfl, i, ez, before, go⟩
      have il : i < (us.toList.zip vs.toList).length := by
        refine Nat.lt_of_not_le fun z => ?_
        rw [List.drop_of_length_le z] at ez
        cases ez
      have im : i < min us.size vs.size := zl ▸ il
      have i1 : i < us.size := by omega
      have i2 : i < vs.size := by omega
      rw [List.drop_eq_getElem_cons il] at ez
      injection ez with eyx el
      have ey : y = us[i] := by simpa using congrArg Prod.fst eyx
      have ex : x = vs[i] := by simpa using congrArg Prod.snd eyx
      subst ey ex
      have er : (List.range (min us.size vs.size)).drop i = i :: (List.range (min us.size vs.size)).drop (i + 1) := by simp [List.drop_eq_getElem_cons, im]
      rw [er] at go
      refine wpAny_bind (eqs i i1 i2 prog w _ _ ?_)
      cases ei : e i with
      | true =>
        rw [firstLt_yes ei] at go
        wp_walk
        refine ⟨rfl, rfl, i + 1, el, fun k hk => ?_, go⟩
        rcases Nat.lt_or_ge k i with z | z
        · exact before k z
        · rw [show k = i by omega]
          exact ei
      | false =>
        rw [firstLt_no ei] at go
        generalize hrc : PySem.richCompare = rc
        wp_walk
        subst hrc
        refine lts i i1 i2 before ei prog w _ _ ?_
        wp_walk
        exact ⟨_, rfl, go⟩
    case fin =>
      rintro ⟨b1, b2⟩ s' ⟨eb, rfl, i, ez, _, go⟩
      simp only at eb
      subst eb
      have ge : min us.size vs.size ≤ i := by
        refine Nat.le_of_not_lt fun z => ?_
        rw [List.drop_eq_getElem_cons (zl.symm ▸ z)] at ez
        cases ez
      rw [List.drop_of_length_le (by simpa using ge)] at go
      wp_walk
      exact ⟨_, rfl, by simpa [Builtin.Tuple.tupleCompareSizes, firstLt] using go⟩
    case h =>
      exact ⟨rfl, rfl, 0, rfl, fun k z => absurd z (Nat.not_lt_zero _), by simpa using fin⟩
theorem rc_tups {A : Around} {s : Shared} {p q : Addr} {us vs : Array Value} {e r : Nat → Bool} (hp : s.heap.IsTuple p us) (hq : s.heap.IsTuple q vs) (room : A.units < cLine)
    (eqs : ∀ j (a : j < us.size) (b : j < vs.size), EqAt A.in1 s us[j] vs[j] (e j)) (lts : ∀ j (a : j < us.size) (b : j < vs.size), (∀ i, i < j → e i = true) → e j = false → RcLt A.in1 s us[j] vs[j] (r j)) :
    RcLt A s (.ref p) (.ref q) (firstLt e r (decide (us.size < vs.size)) (List.range (min us.size vs.size))) := fun prog w E Q h => by
  obtain ⟨⟨c1, o1, t1, l1⟩, g1, e1, m1, f1⟩ := id hp
  obtain ⟨⟨c2, o2, t2, l2⟩, g2, e2, m2, f2⟩ := id hq
  simp only at e1 f1 e2 f2
  subst e1 f1 e2 f2
  refine richCompare_meets_room (op := .Lt) ⟨_, g1, rfl⟩ ⟨_, g2, rfl⟩ F.slot_tuple_lt F.entry_tuple_lt (F.args_tuple_lt_2 _ _) (tl_lt p q us vs m1 m2 o1 o2 l1 l2 e r) ⟨g1, g2, eqs, lts, ?_⟩ room
  exact ⟨(fun x => nomatch x), h⟩
end PySem.SeqAt
set_option Elab.async false
set_option linter.all false
set_option autoImplicit false
set_option maxRecDepth 100000
set_option maxHeartbeats 2000000
/-! data that may be set in order: their signs, their less-than, sorted -/
namespace Tl
open PySem PySem.W PySem.SeqAt PyProof.Rows
abbrev LX : List (Int ⊕ List Nat) → List (Int ⊕ List Nat) → Bool := PyProof.Rows.lexLt itemOrd
mutual
/-- x < y raises nothing -/
def cmpb : PyData → PyData → Bool
  | .int _, .int _ => true
  | .str _, .str _ => true
  | .tuple xs, .tuple ys => cmpAll xs ys
  | _, _ => false
def cmpAll : List PyData → List PyData → Bool
  | x :: xs, y :: ys => cmpb x y && (!PyData.eqv x y || cmpAll xs ys)
  | [], _ => true
  | _ :: _, [] => true
end
theorem cmpAll_cons {x y : PyData} {xs ys : List PyData} (h : cmpAll (x :: xs) (y :: ys) = true) : cmpb x y = true ∧ (PyData.eqv x y = true → cmpAll xs ys = true) := by
  rw [cmpAll, Bool.and_eq_true] at h
  refine ⟨h.1, fun e => ?_⟩
  have h2 := h.2
  rw [e] at h2
  exact h2
mutual
theorem ctoks : ∀ (x y : PyData), cmpb x y = true → (PyData.eqv x y = true → keyToks x = keyToks y) ∧ (PyData.eqv x y = false → ∀ l m, LX (keyToks x ++ l) (keyToks y ++ m) = dataLt x y)
  | .int a, .int b, _ => ⟨fun e => by
      have : a = b := by simpa [PyData.eqv] using e
      rw [this], fun e l m => by
      have ne : a ≠ b := by simpa [PyData.eqv] using e
      simp only [dataLt, keyToks, List.cons_append, List.nil_append]
      exact lex_atom (fun z => ne (Sum.inl.inj z)) l m⟩
  | .str a, .str b, _ => ⟨fun e => by
      have : a = b := by simpa [PyData.eqv] using e
      rw [this], fun e l m => by
      have ne : a ≠ b := by simpa [PyData.eqv] using e
      simp only [dataLt, keyToks, List.cons_append, List.nil_append]
      exact lex_atom (fun z => ne (str_of_cps (Sum.inr.inj z))) l m⟩
  | .tuple xs, .tuple ys, h => by
      have h' : cmpAll xs ys = true := by rw [cmpb] at h; exact h
      have := ctoksAll xs ys h'
      have e0 : PyData.eqv (.tuple xs) (.tuple ys) = PyData.eqvAll xs ys := by rw [PyData.eqv]
      rw [e0]
      simp only [dataLt, keyToks]
      exact this
  | .none, y, h => by cases y <;> cases h
  | .bool _, y, h => by cases y <;> cases h
  | .list _, y, h => by cases y <;> cases h
  | .dict _, y, h => by cases y <;> cases h
  | .int _, .none, h => by cases h
  | .int _, .bool _, h => by cases h
  | .int _, .str _, h => by cases h
  | .int _, .list _, h => by cases h
  | .int _, .tuple _, h => by cases h
  | .int _, .dict _, h => by cases h
  | .str _, .none, h => by cases h
  | .str _, .bool _, h => by cases h
  | .str _, .int _, h => by cases h
  | .str _, .list _, h => by cases h
  | .str _, .tuple _, h => by cases h
  | .str _, .dict _, h => by cases h
  | .tuple _, .none, h => by cases h
  | .tuple _, .bool _, h => by cases h
  | .tuple _, .int _, h => by cases h
  | .tuple _, .list _, h => by cases h
  | .tuple _, .str _, h => by cases h
  | .tuple _, .dict _, h => by cases h
theorem ctoksAll : ∀ (xs ys : List PyData), cmpAll xs ys = true → (PyData.eqvAll xs ys = true → keyToksAll xs = keyToksAll ys) ∧ (PyData.eqvAll xs ys = false → ∀ l m, LX (keyToksAll xs ++ l) (keyToksAll ys ++ m) = LX (keyToksAll xs) (keyToksAll ys))
  | [], [], _ => ⟨fun _ => rfl, fun e => by rw [PyData.eqvAll] at e; cases e⟩
  | [], y :: ys, _ => ⟨fun e => by rw [PyData.eqvAll] at e; cases e; done, fun _ l m => by
      rw [toks_all_cons]
      simp only [keyToksAll, List.cons_append, List.nil_append]
      exact (lex_atom (by simp) _ _).trans (lex_atom (by simp) _ _).symm⟩
  | x :: xs, [], _ => ⟨fun e => by rw [PyData.eqvAll] at e; cases e; done, fun _ l m => by
      rw [toks_all_cons]
      simp only [keyToksAll, List.cons_append, List.nil_append]
      exact (lex_atom (by simp) _ _).trans (lex_atom (by simp) _ _).symm⟩
  | x :: xs, y :: ys, h => by
      obtain ⟨h1, h2⟩ := cmpAll_cons h
      have ⟨a1, a2⟩ := ctoks x y h1
      rw [eqv_all_cons, toks_all_cons, toks_all_cons]
      cases e : PyData.eqv x y with
      | true =>
        have ⟨b1, b2⟩ := ctoksAll xs ys (h2 e)
        rw [Bool.true_and]
        refine ⟨fun z => by rw [a1 e, b1 z], fun z l m => ?_⟩
        rw [a1 e]
        simp only [List.cons_append, List.append_assoc]
        show PyProof.Rows.lexLt itemOrd _ _ = PyProof.Rows.lexLt itemOrd _ _
        rw [lex_self (O := itemOrd), lex_self (O := itemOrd), lex_pre, lex_pre]
        exact b2 z l m
      | false =>
        rw [Bool.false_and]
        refine ⟨fun z => (Bool.noConfusion z), fun _ l m => ?_⟩
        simp only [List.cons_append, List.append_assoc]
        show PyProof.Rows.lexLt itemOrd _ _ = PyProof.Rows.lexLt itemOrd _ _
        rw [lex_self (O := itemOrd), lex_self (O := itemOrd)]
        exact (a2 e _ _).trans (a2 e _ _).symm
end
theorem clt_yes {x y : PyData} {xs ys : List PyData} (h : cmpb x y = true) (e : PyData.eqv x y = true) : LX (keyToksAll (x :: xs)) (keyToksAll (y :: ys)) = LX (keyToksAll xs) (keyToksAll ys) := by
  rw [toks_all_cons, toks_all_cons, (ctoks x y h).1 e]
  show PyProof.Rows.lexLt itemOrd _ _ = PyProof.Rows.lexLt itemOrd _ _
  rw [lex_self (O := itemOrd), lex_pre]
theorem clt_no {x y : PyData} {xs ys : List PyData} (h : cmpb x y = true) (e : PyData.eqv x y = false) : LX (keyToksAll (x :: xs)) (keyToksAll (y :: ys)) = dataLt x y := by
  rw [toks_all_cons, toks_all_cons]
  show PyProof.Rows.lexLt itemOrd _ _ = _
  rw [lex_self (O := itemOrd)]
  exact (ctoks x y h).2 e _ _
/-- the first place that differs -/
theorem cfirst : ∀ (xs ys : List PyData), cmpAll xs ys = true →
    firstLt (fun j => PyData.eqv (xs.getD j .none) (ys.getD j .none)) (fun j => dataLt (xs.getD j .none) (ys.getD j .none)) (decide (xs.length < ys.length)) (List.range (min xs.length ys.length)) = LX (keyToksAll xs) (keyToksAll ys)
  | [], [], _ => by decide +kernel
  | [], y :: ys, _ => by
    rw [toks_all_cons]
    simp only [keyToksAll]
    show firstLt _ _ _ (List.range (min 0 _)) = PyProof.Rows.lexLt itemOrd _ _
    rw [Nat.zero_min, lex_atom (by simp)]
    simp only [List.range_zero, firstLt, List.length_nil, List.length_cons]
    rw [decide_eq_true (Nat.succ_pos _)]
    decide +kernel
  | x :: xs, [], _ => by
    rw [toks_all_cons]
    simp only [keyToksAll]
    show firstLt _ _ _ (List.range (min _ 0)) = PyProof.Rows.lexLt itemOrd _ _
    rw [Nat.min_zero, lex_atom (by simp)]
    simp only [List.range_zero, firstLt, List.length_nil, List.length_cons]
    rw [decide_eq_false (Nat.not_lt_zero _)]
    decide +kernel
  | x :: xs, y :: ys, h => by
    obtain ⟨h1, h2⟩ := cmpAll_cons h
    have em : min (x :: xs).length (y :: ys).length = min xs.length ys.length + 1 := by
      simp only [List.length_cons]
      omega
    rw [em, List.range_succ_eq_map]
    cases e : PyData.eqv x y with
    | true =>
      rw [clt_yes h1 e, firstLt_yes (by exact e), firstLt_map, ← cfirst xs ys (h2 e)]
      congr 1
      simp only [List.length_cons, Nat.add_lt_add_iff_right]
    | false =>
      rw [clt_no h1 e, firstLt_no (by exact e)]
      rfl
end Tl
set_option Elab.async false
set_option linter.all false
set_option autoImplicit false
set_option maxRecDepth 100000
set_option maxHeartbeats 2000000
/-! sorted, of data that may be set in order -/
namespace Tl
open PySem PySem.W PySem.SeqAt PyProof.Rows
theorem plain_cons {x : PyData} {xs : List PyData} (h : PyData.plainAll (x :: xs) = true) : x.plain = true ∧ PyData.plainAll xs = true := by
  rw [PyData.plainAll, Bool.and_eq_true] at h
  exact h
mutual
theorem rc_cmp : ∀ (da db : PyData) (A : Around) (s : Shared) (a b : Value) (as bs : List Addr), Reads s.heap a da as → Reads s.heap b db bs → cmpb da db = true → da.plain = true → db.plain = true → A.units + min da.depth db.depth < cLine → RcLt A s a b (dataLt da db)
  | .int x, db, A, s, a, b, as, bs, ra, rb, h, pa, pb, hu => by
    cases db with
    | int y => exact rcLt_alike (.int x) (.int y) A s a b as bs ra rb rfl (fun z => by cases z) hu
    | _ => cases h
  | .str x, db, A, s, a, b, as, bs, ra, rb, h, pa, pb, hu => by
    cases db with
    | str y => exact rcLt_alike (.str x) (.str y) A s a b as bs ra rb rfl (fun z => by cases z) hu
    | _ => cases h
  | .tuple xs, db, A, s, a, b, as, bs, ra, rb, h, pa, pb, hu => by
    cases db with
    | tuple ys =>
      have hc : cmpAll xs ys = true := by rw [cmpb] at h; exact h
      have px : PyData.plainAll xs = true := by rw [PyData.plain] at pa; exact pa
      have py : PyData.plainAll ys = true := by rw [PyData.plain] at pb; exact pb
      have room1 := room_here hu
      rw [PyData.depth, PyData.depth] at hu
      have room2 := room_in hu
      cases ra with
      | @tuple p o us m _ _ g1 g2 g3 g4 =>
        cases rb with
        | @tuple q o2 vs m2 _ _ k1 k2 k3 k4 =>
          have n1 : us.size = xs.length := by rw [← Array.length_toList]; exact SeqAt.ReadsAll.length _ _ _ g4
          have n2 : vs.size = ys.length := by rw [← Array.length_toList]; exact SeqAt.ReadsAll.length _ _ _ k4
          have e : dataLt (.tuple xs) (.tuple ys) = firstLt (pairEq xs ys) (fun j => dataLt (xs.getD j .none) (ys.getD j .none)) (decide (us.size < vs.size)) (List.range (min us.size vs.size)) := by
            rw [dataLt_tuple, n1, n2]
            exact (cfirst xs ys hc).symm
          rw [e]
          refine rc_tups ⟨o, g1, g2, m, g3⟩ ⟨o2, k1, k2, m2, k3⟩ room1 (fun j j1 j2 => ?_) fun j j1 j2 bef nej => ?_
          · have := eqAt_plainAll xs ys A.in1 s us.toList vs.toList _ _ g4 k4 px py room2 j (by rw [Array.length_toList]; exact j1) (by rw [Array.length_toList]; exact j2)
            simpa only [Array.getElem_toList] using this
          · have := rc_cmpAll xs ys A.in1 s us.toList vs.toList _ _ g4 k4 hc px py room2 j (by rw [Array.length_toList]; exact j1) (by rw [Array.length_toList]; exact j2) bef nej
            simpa only [Array.getElem_toList] using this
    | _ => cases h
  | .none, db, _, _, _, _, _, _, _, _, h, _, _, _ => by cases db <;> cases h
  | .bool _, db, _, _, _, _, _, _, _, _, h, _, _, _ => by cases db <;> cases h
  | .list _, db, _, _, _, _, _, _, _, _, h, _, _, _ => by cases db <;> cases h
  | .dict _, db, _, _, _, _, _, _, _, _, h, _, _, _ => by cases db <;> cases h
theorem rc_cmpAll : ∀ (xs ys : List PyData) (A : Around) (s : Shared) (us vs : List Value) (as bs : List Addr), ReadsAll s.heap us xs as → ReadsAll s.heap vs ys bs → cmpAll xs ys = true → PyData.plainAll xs = true → PyData.plainAll ys = true →
    A.units + min (PyData.depthAll xs) (PyData.depthAll ys) < cLine → ∀ j (j1 : j < us.length) (j2 : j < vs.length), (∀ i, i < j → pairEq xs ys i = true) → pairEq xs ys j = false → RcLt A s us[j] vs[j] (dataLt (xs.getD j .none) (ys.getD j .none))
  | [], _, _, _, _, _, _, _, ra, _, _, _, _, _, j, j1, _, _, _ => by cases ra; exact absurd j1 (Nat.not_lt_zero _)
  | _ :: _, [], _, _, _, _, _, _, _, rb, _, _, _, _, j, _, j2, _, _ => by cases rb; exact absurd j2 (Nat.not_lt_zero _)
  | x :: xs, y :: ys, A, s, _, _, _, _, ra, rb, h, px, py, hu, j, j1, j2, bef, nej => by
    obtain ⟨h1, h2⟩ := cmpAll_cons h
    obtain ⟨px1, px2⟩ := plain_cons px
    obtain ⟨py1, py2⟩ := plain_cons py
    rw [PyData.depthAll, PyData.depthAll] at hu
    cases ra with
    | cons r rs =>
      cases rb with
      | cons r' rs' =>
        cases j with
        | zero => exact rc_cmp x y A s _ _ _ _ r r' h1 px1 py1 (room_head hu)
        | succ j => exact rc_cmpAll xs ys A s _ _ _ _ rs rs' (h2 (bef 0 (Nat.succ_pos _))) px2 py2 (room_tail hu) j (Nat.lt_of_succ_lt_succ j1) (Nat.lt_of_succ_lt_succ j2) (fun i hi => bef (i + 1) (Nat.succ_lt_succ hi)) nej
end
section
variable {prog : Program} {w : World} {A : Around} {E : Value → Shared → Prop} {s : Shared}
theorem one_cmp {f : Bool} {da db : PyData} {a b : Value} {as bs : List Addr} {Q : Bool → Shared → Prop} (hf : f = true → ∀ xs, da ≠ .tuple xs) (ra : Reads s.heap a da as) (rb : Reads s.heap b db bs) (h : cmpb da db = true) (pa : da.plain = true) (pb : db.plain = true)
    (hu : A.units + min da.depth db.depth < cLine) (q : Q (dataLt da db) s) : wpAny (model prog w) A (oneLt' f a b) Q E s := by
  cases f with
  | false =>
    rw [oneLt'_eq, if_neg Bool.false_ne_true]
    exact wpAny_bind (rc_cmp da db A s a b as bs ra rb h pa pb hu prog w E _ (wpAny_truthy_bool q))
  | true =>
    cases da with
    | int x => cases db with
      | int y => exact oneLt_alike hf ra rb rfl (fun z => by cases z) hu q
      | _ => cases h
    | str x => cases db with
      | str y => exact oneLt_alike hf ra rb rfl (fun z => by cases z) hu q
      | _ => cases h
    | tuple xs => exact absurd rfl (hf rfl xs)
    | _ => cases db <;> cases h
theorem kat_cmp {b fin : Bool} {Q : Bool → Shared → Prop} : ∀ (xs ys : List PyData) (i : Nat) (us vs : List Value) (as bs : List Addr), ReadsAll s.heap us xs as → ReadsAll s.heap vs ys bs → cmpAll xs ys = true → PyData.plainAll xs = true → PyData.plainAll ys = true →
    A.units + min (PyData.depthAll xs) (PyData.depthAll ys) < cLine → (b = true → i = 0 → ∀ x r t, xs = x :: r → x ≠ .tuple t) → fin = decide (xs.length < ys.length) → Q (LX (keyToksAll xs) (keyToksAll ys)) s → KatLex prog w A b fin Q (us.zip vs) i s
  | [], [], i, _, _, _, _, ra, rb, _, _, _, _, _, hf, q => by
    cases ra
    cases rb
    refine kat_nil ?_
    rw [hf]
    exact q
  | [], y :: ys, i, _, _, _, _, ra, rb, _, _, _, _, _, hf, q => by
    cases ra
    refine kat_nil ?_
    rw [hf, show decide (([] : List PyData).length < (y :: ys).length) = LX (keyToksAll []) (keyToksAll (y :: ys)) from ?_]
    · exact q
    · rw [← cfirst [] (y :: ys) rfl]
      rfl
  | x :: xs, [], i, _, _, _, _, ra, rb, _, _, _, _, _, hf, q => by
    cases rb
    rw [List.zip_nil_right]
    refine kat_nil ?_
    rw [hf, show decide ((x :: xs).length < ([] : List PyData).length) = LX (keyToksAll (x :: xs)) (keyToksAll []) from ?_]
    · exact q
    · rw [← cfirst (x :: xs) [] rfl]
      rfl
  | x :: xs, y :: ys, i, _, _, _, _, ra, rb, h, px, py, hu, hb, hf, q => by
    obtain ⟨h1, h2⟩ := cmpAll_cons h
    obtain ⟨px1, px2⟩ := plain_cons px
    obtain ⟨py1, py2⟩ := plain_cons py
    rw [PyData.depthAll, PyData.depthAll] at hu
    cases ra with
    | cons r rs =>
      cases rb with
      | cons r' rs' =>
        rw [List.zip_cons_cons]
        refine kat_cons (eqAt_plain x y A s _ _ _ _ r r' px1 py1 (room_head hu) prog w _ _ ?_)
        cases e : PyData.eqv x y with
        | true =>
          rw [clt_yes h1 e] at q
          refine kat_yes (kat_cmp xs ys (i + 1) _ _ _ _ rs rs' (h2 e) px2 py2 (room_tail hu) (fun _ z => absurd z (Nat.succ_ne_zero i)) ?_ q)
          rw [hf, List.length_cons, List.length_cons]
          exact decide_eq_decide.mpr (by omega)
        | false =>
          rw [clt_no h1 e] at q
          refine kat_no (one_cmp (fun z t => ?_) r r' h1 px1 py1 (room_head hu) q)
          rw [Bool.and_eq_true] at z
          exact hb z.1 (by simpa using z.2) x xs t rfl
end
end Tl
set_option Elab.async false
set_option linter.all false
set_option autoImplicit false
set_option maxRecDepth 100000
set_option maxHeartbeats 2000000
/-! sorted(list of comparable tuples) -/
namespace Tl
open PySem PySem.W PySem.SeqAt PyProof.Rows L2
/-- any two of them may be compared; all are tuples whose first items are of one type -/
structure Cmps (T : Value) (ds : List PyData) : Prop where
  two : ∀ d ∈ ds, ∀ e ∈ ds, cmpb d e = true
  plain : ∀ d ∈ ds, d.plain = true
  first : ∀ d ∈ ds, ∃ x r, d = .tuple (x :: r) ∧ dataType x = T
theorem key_some {h : Heap} {ds : List PyData} (hp : ∀ d ∈ ds, d.plain = true) {v : Value} {d : PyData} {as : List Addr} (hd : d ∈ ds) (r : Reads h v d as) : (dataKind h ds).keyOf v = some (keyToks d) := by
  have q : ∃ d, d ∈ ds ∧ ∃ as, Reads h v d as := ⟨d, hd, as, r⟩
  have e : (dataKind h ds).keyOf v = some (keyToks q.choose) := by
    unfold dataKind
    dsimp only
    rw [dif_pos q]
  obtain ⟨q1, bs, q2⟩ := q.choose_spec
  rw [e, plain_unique _ _ _ _ _ (hp _ q1) q2 r]
section
variable {prog : Program} {w : World} {A : Around} {E : Value → Shared → Prop} {s : Shared}
theorem sorts_cmp {T : Value} {us : List Value} {ds : List PyData} (e : EachIs (fun v d => ∃ as, Reads s.heap v d as) us ds) (c : Cmps T ds) (tt : (T == T) = true) (hu : ∀ d ∈ ds, A.units + d.depth < cLine) : SortsAt prog w A s (dataKind s.heap ds) us := by
  refine ⟨fun v hv => ?_, tuples' (T != Value.type "tuple"), ?_, fun l2 E Q q => ?_⟩
  · obtain ⟨d, hd, as, r⟩ := e.left v hv
    exact ⟨_, key_some c.plain hd r⟩
  · intro E x y a b Q ha hb q
    obtain ⟨d, as, hd, ra, rfl⟩ := dataKind_inv ha
    obtain ⟨d', bs, hd', rb, rfl⟩ := dataKind_inv hb
    have h := c.two d hd d' hd'
    have p1 := c.plain d hd
    have p2 := c.plain d' hd'
    have u1 := hu d hd
    obtain ⟨x1, r1, rfl, t1⟩ := c.first d hd
    obtain ⟨x2, r2, rfl, t2⟩ := c.first d' hd'
    rw [cmpb] at h
    rw [PyData.plain] at p1 p2
    have q : Q (LX (keyToksAll (x1 :: r1)) (keyToksAll (x2 :: r2))) s := by
      have q : Q (LX (keyToks (.tuple (x1 :: r1))) (keyToks (.tuple (x2 :: r2)))) s := q
      rw [keyToks, keyToks] at q
      exact q
    rw [PyData.depth] at u1
    cases ra with
    | @tuple p o us m _ _ g1 g2 g3 g4 =>
      cases rb with
      | @tuple p' o' vs m' _ _ k1 k2 k3 k4 =>
        have n1 : us.size = (x1 :: r1).length := by rw [← Array.length_toList]; exact SeqAt.ReadsAll.length _ _ _ g4
        have n2 : vs.size = (x2 :: r2).length := by rw [← Array.length_toList]; exact SeqAt.ReadsAll.length _ _ _ k4
        refine kat_lt g1 g3 k1 k3 (kat_cmp (x1 :: r1) (x2 :: r2) 0 _ _ _ _ g4 k4 h p1 p2 ?_ (fun z _ x r t ex => ?_) (by rw [n1, n2]) q)
        · have := Nat.min_le_left (PyData.depthAll (x1 :: r1)) (PyData.depthAll (x2 :: r2))
          omega
        · obtain ⟨rfl, rfl⟩ := List.cons.inj ex
          rw [← t1] at z
          exact dataType_tuple z t
  · obtain ⟨fs, t1, t2, t3⟩ := each_katTups e fun d hd => by
      obtain ⟨x, r, e1, _⟩ := c.first d hd
      exact ⟨x, r, e1⟩
    refine kat_kind (T := T) t1 (by omega) (fun f hf => ?_) tt q
    obtain ⟨x, r, as, m1, m2⟩ := t3 f hf
    obtain ⟨x', r', e1, e2⟩ := c.first _ m1
    cases e1
    rw [← e2]
    exact looks_reads m2
end
/-- the data in order -/
def srtD (ds : List PyData) : List PyData := ds.mergeSort (dataLe false id)
theorem zip_each {K : PySem.W.Frag} {H : Hp} : ∀ {xs : List V} {us : List Value} {ds : List PyData}, Vals xs us → Dts K H xs ds → EachIs (fun u (b : V × PyData) => L2.RelV b.1 u ∧ Dt K H b.1 b.2) us (xs.zip ds) ∧ (xs.zip ds).map Prod.snd = ds
  | _, _, _, .nil, .nil => ⟨.nil, rfl⟩
  | _, _, _, .cons r rs, .cons d dd => by
    obtain ⟨h1, h2⟩ := zip_each rs dd
    exact ⟨.cons ⟨r, d⟩ h1, by rw [List.zip_cons_cons, List.map_cons, h2]⟩
theorem each_out {K : PySem.W.Frag} {H : Hp} : ∀ {us : List Value} {bs : List (V × PyData)}, EachIs (fun u (b : V × PyData) => L2.RelV b.1 u ∧ Dt K H b.1 b.2) us bs → Vals (bs.map Prod.fst) us ∧ Dts K H (bs.map Prod.fst) (bs.map Prod.snd)
  | _, _, .nil => ⟨.nil, .nil⟩
  | _, _, .cons ⟨r, d⟩ t => by
    obtain ⟨h1, h2⟩ := each_out t
    exact ⟨.cons r h1, .cons d h2⟩
theorem dts_len {K : PySem.W.Frag} {H : Hp} : ∀ {xs : List V} {ds : List PyData}, Dts K H xs ds → xs.length = ds.length
  | _, _, .nil => rfl
  | _, _, .cons _ t => congrArg (· + 1) (dts_len t)
section
variable {X : Cx}
def rSortD (K : PySem.W.Frag) : List V → Hp → VK → Prop := fun vs H Q => ∃ (a : Addr) (xs : List V) (ds : List PyData) (T : Value), vs = [V.ref a] ∧ SqL K H a xs ∧ Dts K H xs ds ∧ Cmps T ds ∧ (T == T) = true ∧ (∀ d ∈ ds, d.depth ≤ 60) ∧
  ∀ (ys : List V) (p : Addr), Dts K H ys (srtD ds) → H p = none → Q (.ref p) (upd H p (.lst ys))
theorem cr_sortD (hu : X.A.units + 64 < cLine) : CallR X (.builtin "sorted") (rSortD X.K) := by
  intro pins s σ H vs us Q I r ⟨a, xs, ds, T, e, hs, hd, c, tt, dep, q⟩
  subst e
  rw [Vals.ref1 r]
  obtain ⟨its, rv, hl, lz⟩ := I.list hs
  obtain ⟨ee, em⟩ := zip_each rv hd
  have er : EachIs (fun v (b : V × PyData) => ∃ as, Reads s.heap v b.2 as) its (xs.zip ds) := ee.mono fun _ _ z => Dp.reads I _ _ _ z.2.p z.1
  have er2 : EachIs (fun v d => ∃ as, Reads (sortingHeap (copyHeap s.heap its) (s.heap.objs.size + 1) its) v d as) its ds := by
    have := each_map (R := fun v d => ∃ as, Reads (sortingHeap (copyHeap s.heap its) (s.heap.objs.size + 1) its) v d as) Prod.snd (er.mono fun _ _ ⟨as, z⟩ => ⟨as, PyProof.Rows.Reads.keeps (fun _ _ => sorting_copy_old) z⟩)
    rw [em] at this
    exact this
  have le : its.length ≤ sizeLine := by
    have := rv.length
    omega
  have S := sorts_cmp (prog := X.prog) (w := X.w) (A := X.A.in1.in1) (s := { s with heap := sortingHeap (copyHeap s.heap its) (s.heap.objs.size + 1) its }) er2 c tt fun d hd => by
    have := dep d hd
    show X.A.units + 1 + 1 + d.depth < cLine
    omega
  refine sorted_vals hl.isList S le ?_
  have out := sortVals_each (κ := dataKind (sortingHeap (copyHeap s.heap its) (s.heap.objs.size + 1) its) ds) (rev := false) (fun b : V × PyData => keyToks b.2) ee (by
    have := each_mem er2
    have h2 : EachIs (fun v d => (dataKind (sortingHeap (copyHeap s.heap its) (s.heap.objs.size + 1) its) ds).keyOf v = some (keyToks d)) its ds := this.mono fun _ _ ⟨⟨_, r⟩, m⟩ => key_some c.plain m r
    rw [← em] at h2
    have h3 := each_of_map Prod.snd h2
    rw [em] at h3
    exact h3)
  obtain ⟨v1, d1⟩ := each_out out
  have es : ((xs.zip ds).mergeSort (sortLe (dataKind (sortingHeap (copyHeap s.heap its) (s.heap.objs.size + 1) its) ds).toKeyOrd false fun b : V × PyData => keyToks b.2)).map Prod.snd = srtD ds := by
    refine (sort_maps Prod.snd (s := dataLe false id) fun a _ b _ => rfl).trans ?_
    rw [em]
    rfl
  rw [es] at d1
  generalize hys : ((xs.zip ds).mergeSort (sortLe (dataKind (sortingHeap (copyHeap s.heap its) (s.heap.objs.size + 1) its) ds).toKeyOrd false fun b : V × PyData => keyToks b.2)).map Prod.fst = ys at v1 d1
  generalize sortVals (dataKind (sortingHeap (copyHeap s.heap its) (s.heap.objs.size + 1) its) ds) false its its = outs at v1
  obtain ⟨ep, he⟩ := PyProof.Rows.sortedAll_at s.heap its outs.toArray
  have ly : ys.length ≤ sizeLine := by
    rw [dts_len d1]
    unfold srtD
    rw [List.length_mergeSort, ← dts_len hd]
    exact lz
  exact ⟨.ref _, upd H (s.heap.objs.size + 1) (.lst ys), I.laid (t' := s.toks) (fun _ _ => PyProof.Rows.sortedAll_old) (Nat.le_succ _) ⟨ly, outs, ep, v1, he⟩, rfl, q ys _ d1 (I.hok.fresh (Nat.le_succ _))⟩
end
end Tl
set_option Elab.async false
set_option linter.all false
set_option autoImplicit false
set_option maxRecDepth 100000
set_option maxHeartbeats 2000000
/-! sorted(d.items()), of a dict whose entries may be compared as data -/
namespace Tl
open PySem PySem.W PySem.SeqAt PyProof.Rows L2
section
variable {X : Cx}
/-- d.items(), the view -/
def rItemsK : V → List V → Hp → VK → Prop := fun x xs H Q => ∃ (d : Addr) (kvs : List (Key × V)), x = .ref d ∧ xs = [] ∧ H d = some (.dK kvs) ∧ ∀ p, H p = none → Q (.ref p) (upd H p (L2.DX.itemsO p d))
theorem mt_itemsK : MtR X "dict.items" rItemsK := by
  intro pins s σ H x xs v us Q I rx rxs h
  obtain ⟨d, kvs, rfl, rfl, hd, q⟩ := h
  cases rx
  cases rxs
  obtain ⟨hz, hs0, vs, kv, hdo⟩ := I.hok d _ hd
  refine call_meetsIn PySem.F.slot_dict_items hdo.typeIs PySem.F.entry_dict_items (PySem.F.args_dict_items_1 _) (meets_dict_items (mixKind X.prog X.w) d hs0) ⟨⟨vs, hdo⟩, ?_⟩
  have hf : H s.heap.objs.size = none := I.hok.fresh (Nat.le_refl _)
  exact ⟨.ref s.heap.objs.size, upd H s.heap.objs.size (L2.DX.itemsO s.heap.objs.size d), I.laid (t' := s.toks) (fun b u e => Heap.get?_push_of_some _ e) (Nat.le_refl _) (L2.DX.itemsO_ok (Heap.get?_push_size _ rfl)), rfl, q _ hf⟩
/-- an entry's data -/
def EntD (K : PySem.W.Frag) (H : Hp) (e : Key × V) (d : PyData) : Prop := ∃ da dv, d = .tuple [da, dv] ∧ Dt K H (kV e.1) da ∧ Dt K H e.2 dv
def rSortItD (K : PySem.W.Frag) : List V → Hp → VK → Prop := fun vs H Q => ∃ (p d : Addr) (kvs : List (Key × V)) (ds : List PyData) (T : Value), vs = [.ref p] ∧ H p = some (L2.DX.itemsO p d) ∧ H d = some (.dK kvs) ∧ Paired (EntD K H) kvs ds ∧ Cmps T ds ∧ (T == T) = true ∧ (∀ d ∈ ds, d.depth ≤ 60) ∧
  ∀ (H' : Hp) (l : Addr) (ys : List V), L2.Same H H' → H l = none → H' l = some (.lst ys) → Dts K H' ys (srtD ds) → Q (.ref l) H'
theorem dts_ents {K : PySem.W.Frag} {H H2 : Hp} (st : Stay H H2) : ∀ {as : List Addr} {kvs : List (Key × V)} {ds : List PyData}, Paired (fun (a : Addr) (e : Key × V) => H2 a = some (.tup [kV e.1, e.2])) as kvs → Paired (EntD K H) kvs ds → Dts K H2 (as.map V.ref) ds
  | _, _, _, .nil, .nil => .nil
  | _, _, _, .cons r t, .cons ⟨da, dv, e, h1, h2⟩ t2 => by
    subst e
    exact .cons (.tup (tupOf r) (.cons (Dt.stay st _ _ h1) (.cons (Dt.stay st _ _ h2) .nil))) (dts_ents st t t2)
theorem paired_ixs {α β : Type} {F : α → β → Prop} : ∀ {xs : List α} {ys : List β}, xs.length = ys.length → (∀ (i : Nat) (x : α) (y : β), xs[i]? = some x → ys[i]? = some y → F x y) → Paired F xs ys
  | [], [], _, _ => .nil
  | [], _ :: _, h, _ => nomatch h
  | _ :: _, [], h, _ => nomatch h
  | x :: xs, y :: ys, h, f => .cons (f 0 x y rfl rfl) (paired_ixs (Nat.succ.inj h) fun i a b h1 h2 => f (i + 1) a b h1 h2)
theorem cr_sortItD (hc : X.calm = true) (hu : X.A.units + 64 < cLine) : CallR X (.builtin "sorted") (rSortItD X.K) := by
  intro pins s σ H xs us Q I r h
  obtain ⟨p, d, kvs, ds, T, rfl, hp, hd, hds, c, tt, dep, q⟩ := h
  rw [Vals.ref1 r]
  have view : s.heap.IsItemsView p d := (show ObjOk X.prog X.w H s.heap p (L2.DX.itemsO p d) from I.hok p _ hp).1
  obtain ⟨hz, hs0, vs, kv, hdo⟩ := I.hok d _ hd
  obtain ⟨ep, hat⟩ := hdo.dictAt
  have lk : kvs.length = vs.length := Paired.length kv
  refine Calls.call_function_entry kind_sorted plain_sorted entry_sorted (args_sorted1 _) ?_
  unfold Builtin.«sorted»
  refine wpAny_bind (m := checkCount "sorted" 1 1 _) (wpAny_pure ?_)
  refine wpAny_bind (PySem.W.kdx_collect (A := X.A.in1) (knd := mixKind X.prog X.w) (kvs := vs) (ep := ep) (I.ok.hd hc) view hat (by omega) fun h' tk as hk hl hG => ?_)
  have nd : as.Nodup := List.Pairwise.imp (fun {a b} (h : a < b) => Nat.ne_of_lt h) hG.rise
  -- the pairs are tracked
  have I1 : Inv X pins σ H { s with heap := h', toks := tk } := I.kept (t' := tk) hk
  obtain ⟨H2, I2, g, qt⟩ := L2.DX.takeT (P := fun b ws => ∃ (j : Nat) (e : Key × V), as[j]? = some b ∧ kvs[j]? = some e ∧ ws = [kV e.1, e.2]) I as H I1 nd fun b hb => by
    obtain ⟨j, hj⟩ := List.mem_iff_getElem?.mp hb
    obtain ⟨key, k, x, f1, f2, f3⟩ := hG.pairs j b hj
    have hbl : s.heap.objs.size ≤ b := Nat.le_of_lt (hG.above b hb)
    have hj2 : j < kvs.length := by
      have := (List.getElem?_eq_some_iff.mp f1).1
      omega
    have hkj : kvs[j]? = some kvs[j] := List.getElem?_eq_getElem hj2
    obtain ⟨qv, g1, g2, g3⟩ := LiI.paired_get kv hkj
    rw [f1] at g1
    cases g1
    have rk : RelV (kV kvs[j].1) key := by
      rw [g2]
      exact relV_key (show keyIs k key = true from f2)
    exact ⟨hbl, I.hok.fresh hbl, [kV kvs[j].1, kvs[j].2], ⟨j, kvs[j], hj, hkj, rfl⟩, fun H3 => ⟨(by show 2 ≤ sizeLine; decide), [key, x], .cons rk (.cons g3 .nil), ⟨_, f3, rfl, _, rfl⟩⟩⟩
  have pa : Paired (fun (a : Addr) (e : Key × V) => H2 a = some (.tup [kV e.1, e.2])) as kvs := paired_ixs (by omega) fun i a e h1 h2 => by
    obtain ⟨ws, ⟨j, e', j1, j2, rfl⟩, hH⟩ := qt a (List.mem_of_getElem? h1)
    have eij : i = j := (List.getElem?_inj (List.getElem?_eq_some_iff.mp h1).1 nd).mp (h1.trans j1.symm)
    subst eij
    rw [h2] at j2
    cases j2
    exact hH
  have sH : L2.Same H H2 := g
  have hd2 : Dts X.K H2 (as.map V.ref) ds := dts_ents (Tl.Same.stay sH) pa hds
  -- the sort
  have lz : (as.map Value.ref).length ≤ sizeLine := by rw [List.length_map, hl]; omega
  refine wpAny_bind (wpAny_newList ?_ lz)
  have hob : (h'.push { cls := .type "list", data := .seq (as.map Value.ref).toArray }).get? h'.objs.size = some (seqObj "list" (as.map Value.ref).toArray 0) := Heap.get?_push_size _ rfl
  have kp : ∀ b o, h'.get? b = some o → (h'.push { cls := .type "list", data := .seq (as.map Value.ref).toArray }).get? b = some o := fun b o e => Heap.get?_push_of_some _ e
  generalize h'.push { cls := .type "list", data := .seq (as.map Value.ref).toArray } = h2 at hob kp ⊢
  have ne0 : ∀ b o, h'.get? b = some o → b ≠ h'.objs.size := fun b o e => Nat.ne_of_lt (Heap.lt_size e)
  obtain ⟨ee, em⟩ := zip_each (LiI.vals_refs as) hd2
  have er : EachIs (fun v (b : V × PyData) => ∃ as, Reads h' v b.2 as) (as.map Value.ref) ((as.map V.ref).zip ds) := ee.mono fun _ _ z => Dp.reads I2 _ _ _ z.2.p z.1
  have kM : ∀ b o, h'.get? b = some o → (sortingHeap h2 h'.objs.size (as.map Value.ref)).get? b = some o := fun b o e => sortingHeap_old (ne0 b o e) (kp b o e)
  have er2 : EachIs (fun v d => ∃ bs, Reads (sortingHeap h2 h'.objs.size (as.map Value.ref)) v d bs) (as.map Value.ref) ds := by
    have := each_map (R := fun v d => ∃ bs, Reads (sortingHeap h2 h'.objs.size (as.map Value.ref)) v d bs) Prod.snd (er.mono fun _ _ ⟨bs, z⟩ => ⟨bs, PyProof.Rows.Reads.keeps (fun b o => kM b o) z⟩)
    rw [em] at this
    exact this
  have S := sorts_cmp (prog := X.prog) (w := X.w) (A := X.A.in1.in1) (s := { s with heap := sortingHeap h2 h'.objs.size (as.map Value.ref), toks := tk }) er2 c tt fun d hd => by
    have := dep d hd
    show X.A.units + 1 + 1 + d.depth < cLine
    omega
  refine wpAny_bind (wpAny_holding (wpAny_call_entry slot_list_sort ⟨_, hob, rfl⟩ entry_list_sort
    (list_sort_vals (s := { s with heap := h2, toks := tk }) hob S lz ⟨_, rfl, ?_⟩) (args_list_sort _)))
  have out := sortVals_each (κ := dataKind (sortingHeap h2 h'.objs.size (as.map Value.ref)) ds) (rev := false) (fun b : V × PyData => keyToks b.2) ee (by
    have := each_mem er2
    have h2 : EachIs (fun v d => (dataKind (sortingHeap h2 h'.objs.size (as.map Value.ref)) ds).keyOf v = some (keyToks d)) (as.map Value.ref) ds := this.mono fun _ _ ⟨⟨_, r⟩, m⟩ => key_some c.plain m r
    rw [← em] at h2
    have h3 := each_of_map Prod.snd h2
    rw [em] at h3
    exact h3)
  obtain ⟨v1, d1⟩ := each_out out
  have es : (((as.map V.ref).zip ds).mergeSort (sortLe (dataKind (sortingHeap h2 h'.objs.size (as.map Value.ref)) ds).toKeyOrd false fun b : V × PyData => keyToks b.2)).map Prod.snd = srtD ds := by
    refine (sort_maps Prod.snd (s := dataLe false id) fun a _ b _ => rfl).trans ?_
    rw [em]
    rfl
  rw [es] at d1
  generalize hys : (((as.map V.ref).zip ds).mergeSort (sortLe (dataKind (sortingHeap h2 h'.objs.size (as.map Value.ref)) ds).toKeyOrd false fun b : V × PyData => keyToks b.2)).map Prod.fst = ys at v1 d1
  generalize sortVals (dataKind (sortingHeap h2 h'.objs.size (as.map Value.ref)) ds) false (as.map Value.ref) (as.map Value.ref) = outs at v1
  obtain ⟨eF, heF⟩ := PyProof.Rows.sortedHeap_at (vs := as.map Value.ref) (out := outs.toArray) hob
  have ly : ys.length ≤ sizeLine := by
    rw [dts_len d1]
    unfold srtD
    rw [List.length_mergeSort, ← dts_len hd2, List.length_map, hl]
    omega
  have nl : H2 h'.objs.size = none := I2.hok.fresh (Nat.le_refl _)
  refine wpAny_pure ⟨_, rfl, .ref h'.objs.size, upd H2 h'.objs.size (.lst ys), I2.laid (h' := sortedHeap h2 h'.objs.size (as.map Value.ref) outs.toArray) (t' := tk) (fun b o e => (PyProof.Rows.sortedHeap_old (ne0 b o e) (Heap.lt_size (kp b o e))).trans (kp b o e)) (Nat.le_refl _) ⟨ly, outs, eF, v1, heF⟩, rfl, ?_⟩
  have s2 := same_add sH (o := .lst ys) nl
  refine q _ _ ys s2 (sH.free nl) upd_same ?_
  exact Dts.stay (stay_new nl) _ _ d1
end
end Tl
set_option Elab.async false
set_option linter.all false
set_option autoImplicit false
set_option maxRecDepth 100000
set_option maxHeartbeats 2000000
/-! rows (text, rest) in order: where the texts are unlike, they alone tell -/
namespace Tl
open PySem PySem.W PySem.SeqAt PyProof.Rows L2
section
variable {β : Type} (f : β → Str) (g : β → PyData)
def rowD (b : β) : PyData := .tuple [.str (f b), g b]
theorem cmps_rows {l : List β} (hc : ∀ a ∈ l, ∀ b ∈ l, cmpb (g a) (g b) = true) (hp : ∀ a ∈ l, (PyData.str (f a)).plain = true ∧ (g a).plain = true) : Cmps (Value.type "str") (l.map (rowD f g)) := by
  refine ⟨fun d hd e he => ?_, fun d hd => ?_, fun d hd => ?_⟩
  · obtain ⟨a, ha, rfl⟩ := List.mem_map.mp hd
    obtain ⟨b, hb, rfl⟩ := List.mem_map.mp he
    unfold rowD
    have h1 : cmpb (.str (f a)) (.str (f b)) = true := by rw [cmpb]
    rw [cmpb, cmpAll, cmpAll, cmpAll, h1, hc a ha b hb]
    simp
  · obtain ⟨a, ha, rfl⟩ := List.mem_map.mp hd
    unfold rowD
    rw [PyData.plain, PyData.plainAll, PyData.plainAll, PyData.plainAll, (hp a ha).1, (hp a ha).2]
    rfl
  · obtain ⟨a, ha, rfl⟩ := List.mem_map.mp hd
    exact ⟨.str (f a), [g a], rfl, rfl⟩
theorem row_lt {a b : β} (ne : f a ≠ f b) : dataLt (rowD f g a) (rowD f g b) = decide ((f a).cps.toList < (f b).cps.toList) := by
  unfold rowD
  have e : PyData.eqv (.str (f a)) (.str (f b)) = false := by
    rw [PyData.eqv]
    simpa using ne
  have h1 : cmpb (.str (f a)) (.str (f b)) = true := by rw [cmpb]
  have := clt_no (xs := [g a]) (ys := [g b]) h1 e
  rw [dataLt_str] at this
  rw [← this]
  unfold dataLt
  rw [keyToks, keyToks]
theorem srt_rows {l : List β} (nd : (l.map f).Nodup) : ∃ l' : List β, srtD (l.map (rowD f g)) = l'.map (rowD f g) ∧ l'.Perm l ∧ (l'.map f).Pairwise fun x y => x.cps.toList < y.cps.toList := by
  have T := sortLe_total (listOrd itemOrd) false fun b : β => keyToks (rowD f g b)
  refine ⟨l.mergeSort (sortLe (listOrd itemOrd) false fun b : β => keyToks (rowD f g b)), ?_, List.mergeSort_perm _ _, ?_⟩
  · exact (sort_maps (rowD f g) (s := dataLe false id) fun a _ b _ => rfl).symm
  · have pw := List.pairwise_mergeSort (le := sortLe (listOrd itemOrd) false fun b : β => keyToks (rowD f g b)) (fun a b c h1 h2 => T.trans a b c h1 h2) (fun a b => by rw [Bool.or_eq_true]; exact T.total a b) l
    have nd' : ((l.mergeSort (sortLe (listOrd itemOrd) false fun b : β => keyToks (rowD f g b))).map f).Nodup := ((List.mergeSort_perm l _).map f).nodup_iff.mpr nd
    unfold List.Nodup at nd'
    rw [List.pairwise_map] at nd' ⊢
    refine (pw.and nd').imp fun {a b} ⟨h, ne⟩ => ?_
    have h : (!dataLt (rowD f g b) (rowD f g a)) = true := h
    rw [row_lt f g (Ne.symm ne), Bool.not_eq_true', decide_eq_false_iff_not] at h
    rcases List.le_iff_lt_or_eq.mp (List.not_lt.mp h) with z | z
    · exact z
    · exact absurd (str_of_cps z) ne
end
end Tl
set_option Elab.async false
set_option linter.all false
set_option maxRecDepth 100000
set_option maxHeartbeats 2000000
/-! the text by its places -/
namespace K24
open PySem PySem.Spec PyProof.Rows L2 Tl
def topS (i : Nat) : Stmt := PySem.Challenge.pw_tellalike_k24_whole_simulations_one_afte.main.body.getD i (.Pass ⟨0, 0, 0, 0⟩)
abbrev sBits : Stmt := topS 1
theorem scBits : FnScope ["number", "found", "least"] ["number"] (defScope sBits) := ⟨rfl, rfl, rfl, by decide +kernel, rfl, by decide +kernel, by decide +kernel⟩
abbrev sIsWithin : Stmt := topS 2
theorem scIsWithin : FnScope ["few", "many"] ["few", "many"] (defScope sIsWithin) := ⟨rfl, rfl, rfl, by decide +kernel, rfl, by decide +kernel, by decide +kernel⟩
abbrev sIsInteger : Stmt := topS 11
theorem scIsInteger : FnScope ["thing"] ["thing"] (defScope sIsInteger) := ⟨rfl, rfl, rfl, by decide +kernel, rfl, by decide +kernel, by decide +kernel⟩
abbrev sIsPair : Stmt := topS 12
theorem scIsPair : FnScope ["thing"] ["thing"] (defScope sIsPair) := ⟨rfl, rfl, rfl, by decide +kernel, rfl, by decide +kernel, by decide +kernel⟩
abbrev sIsAscending : Stmt := topS 13
theorem scIsAscending : FnScope ["items", "k"] ["items"] (defScope sIsAscending) := ⟨rfl, rfl, rfl, by decide +kernel, rfl, by decide +kernel, by decide +kernel⟩
abbrev sIsWord : Stmt := topS 17
theorem scIsWord : FnScope ["thing", "sign"] ["thing"] (defScope sIsWord) := ⟨rfl, rfl, rfl, by decide +kernel, rfl, by decide +kernel, by decide +kernel⟩
abbrev sIsConcept : Stmt := topS 18
theorem scIsConcept : FnScope ["thing", "todo", "needed"] ["thing"] (defScope sIsConcept) := ⟨rfl, rfl, rfl, by decide +kernel, rfl, by decide +kernel, by decide +kernel⟩
abbrev sIsVocabulary : Stmt := topS 19
theorem scIsVocabulary : FnScope ["thing"] ["thing"] (defScope sIsVocabulary) := ⟨rfl, rfl, rfl, by decide +kernel, rfl, by decide +kernel, by decide +kernel⟩
abbrev sIsIn : Stmt := topS 20
theorem scIsIn : FnScope ["concept", "vocabulary", "names", "roles", "name", "role"] ["concept", "vocabulary"] (defScope sIsIn) := ⟨rfl, rfl, rfl, by decide +kernel, rfl, by decide +kernel, by decide +kernel⟩
abbrev sCheckConcept : Stmt := topS 21
theorem scCheckConcept : FnScope ["thing"] ["thing"] (defScope sCheckConcept) := ⟨rfl, rfl, rfl, by decide +kernel, rfl, by decide +kernel, by decide +kernel⟩
abbrev sCheckVocabulary : Stmt := topS 22
theorem scCheckVocabulary : FnScope ["thing"] ["thing"] (defScope sCheckVocabulary) := ⟨rfl, rfl, rfl, by decide +kernel, rfl, by decide +kernel, by decide +kernel⟩
abbrev sBottomUp : Stmt := topS 23
theorem scBottomUp : FnScope ["concept", "todo", "found", "item"] ["concept"] (defScope sBottomUp) := ⟨rfl, rfl, rfl, by decide +kernel, rfl, by decide +kernel, by decide +kernel⟩
abbrev sInner : Stmt := topS 24
theorem scInner : FnScope ["thing"] ["thing"] (defScope sInner) := ⟨rfl, rfl, rfl, by decide +kernel, rfl, by decide +kernel, by decide +kernel⟩
abbrev sIsLetter : Stmt := topS 25
theorem scIsLetter : FnScope ["sign"] ["sign"] (defScope sIsLetter) := ⟨rfl, rfl, rfl, by decide +kernel, rfl, by decide +kernel, by decide +kernel⟩
abbrev sAreWords : Stmt := topS 26
theorem scAreWords : FnScope ["thing", "word"] ["thing"] (defScope sAreWords) := ⟨rfl, rfl, rfl, by decide +kernel, rfl, by decide +kernel, by decide +kernel⟩
abbrev sWordsOf : Stmt := topS 27
theorem scWordsOf : FnScope ["items", "names", "item", "roles"] ["items"] (defScope sWordsOf) := ⟨rfl, rfl, rfl, by decide +kernel, rfl, by decide +kernel, by decide +kernel⟩
abbrev sIsLean : Stmt := topS 29
theorem scIsLean : FnScope ["model", "marked", "missed", "todo", "concept", "_", "inner", "outside", "first", "second"] ["model", "marked", "missed"] (defScope sIsLean) := ⟨rfl, rfl, rfl, by decide +kernel, rfl, by decide +kernel, by decide +kernel⟩
abbrev sMadeLean : Stmt := topS 30
theorem scMadeLean : FnScope ["model", "marked", "missed", "concept", "_", "inner", "below", "first", "second"] ["model", "marked", "missed"] (defScope sMadeLean) := ⟨rfl, rfl, rfl, by decide +kernel, rfl, by decide +kernel, by decide +kernel⟩
abbrev sMark : Stmt := topS 34
theorem scMark : FnScope ["model", "concept", "found", "item", "second", "first", "inner"] ["model", "concept"] (defScope sMark) := ⟨rfl, rfl, rfl, by decide +kernel, rfl, by decide +kernel, by decide +kernel⟩
abbrev sMatched : Stmt := topS 35
theorem scMatched : FnScope ["fits", "ties", "second", "free", "found", "x", "paired", "role", "tied"] ["fits", "ties", "second", "free"] (defScope sMatched) := ⟨rfl, rfl, rfl, by decide +kernel, rfl, by decide +kernel, by decide +kernel⟩
abbrev sRoundsOf : Stmt := topS 36
theorem scRoundsOf : FnScope ["fits", "ties", "second", "free", "left", "after"] ["fits", "ties", "second", "free"] (defScope sRoundsOf) := ⟨rfl, rfl, rfl, by decide +kernel, rfl, by decide +kernel, by decide +kernel⟩
abbrev sIsWorld : Stmt := topS 41
theorem scIsWorld : FnScope ["thing", "many", "names", "roles"] ["thing"] (defScope sIsWorld) := ⟨rfl, rfl, rfl, by decide +kernel, rfl, by decide +kernel, by decide +kernel⟩
abbrev sThingsIn : Stmt := topS 42
theorem scThingsIn : FnScope ["world", "concept"] ["world", "concept"] (defScope sThingsIn) := ⟨rfl, rfl, rfl, by decide +kernel, rfl, by decide +kernel, by decide +kernel⟩
abbrev sCheckWorld : Stmt := topS 43
theorem scCheckWorld : FnScope ["thing"] ["thing"] (defScope sCheckWorld) := ⟨rfl, rfl, rfl, by decide +kernel, rfl, by decide +kernel, by decide +kernel⟩
abbrev sIsListing : Stmt := topS 44
theorem scIsListing : FnScope ["thing", "is_item", "many", "row"] ["thing", "is_item", "many"] (defScope sIsListing) := ⟨rfl, rfl, rfl, by decide +kernel, rfl, by decide +kernel, by decide +kernel⟩
abbrev sAreItems : Stmt := topS 45
theorem scAreItems : FnScope ["thing", "is_item", "many", "item"] ["thing", "is_item", "many"] (defScope sAreItems) := ⟨rfl, rfl, rfl, by decide +kernel, rfl, by decide +kernel, by decide +kernel⟩
abbrev sIsThing : Stmt := topS 46
theorem scIsThing : FnScope ["item", "many"] ["item", "many"] (defScope sIsThing) := ⟨rfl, rfl, rfl, by decide +kernel, rfl, by decide +kernel, by decide +kernel⟩
abbrev sIsTie : Stmt := topS 47
theorem scIsTie : FnScope ["item", "many"] ["item", "many"] (defScope sIsTie) := ⟨rfl, rfl, rfl, by decide +kernel, rfl, by decide +kernel, by decide +kernel⟩
abbrev sMembers : Stmt := topS 48
theorem scMembers : FnScope ["world", "concept", "many", "names", "roles", "things_of", "ties_of", "found", "item", "second"] ["world", "concept"] (defScope sMembers) := ⟨rfl, rfl, rfl, by decide +kernel, rfl, by decide +kernel, by decide +kernel⟩
abbrev sInBoth : Stmt := topS 49
theorem scInBoth : FnScope ["first", "second", "among", "x"] ["first", "second"] (defScope sInBoth) := ⟨rfl, rfl, rfl, by decide +kernel, rfl, by decide +kernel, by decide +kernel⟩
abbrev sTiedInto : Stmt := topS 50
theorem scTiedInto : FnScope ["ties", "things", "among", "x", "y"] ["ties", "things"] (defScope sTiedInto) := ⟨rfl, rfl, rfl, by decide +kernel, rfl, by decide +kernel, by decide +kernel⟩
abbrev sGreatest : Stmt := topS 53
theorem scGreatest : FnScope ["world", "second", "vocabulary"] ["world", "second", "vocabulary"] (defScope sGreatest) := ⟨rfl, rfl, rfl, by decide +kernel, rfl, by decide +kernel, by decide +kernel⟩
abbrev sJudgeSimulated : Stmt := topS 54
theorem scJudgeSimulated : FnScope ["world", "x", "second", "y", "vocabulary", "look", "number"] ["world", "x", "second", "y", "vocabulary"] (defScope sJudgeSimulated) := ⟨rfl, rfl, rfl, by decide +kernel, rfl, by decide +kernel, by decide +kernel⟩
abbrev sSimulatedHolds : Stmt := topS 55
theorem scSimulatedHolds : FnScope ["world", "x", "second", "y", "vocabulary", "thing", "look", "marked"] ["world", "x", "second", "y", "vocabulary", "thing"] (defScope sSimulatedHolds) := ⟨rfl, rfl, rfl, by decide +kernel, rfl, by decide +kernel, by decide +kernel⟩
abbrev sCheck : Stmt := topS 56
theorem scCheck : FnScope ["world", "x", "second", "y", "vocabulary"] ["world", "x", "second", "y", "vocabulary"] (defScope sCheck) := ⟨rfl, rfl, rfl, by decide +kernel, rfl, by decide +kernel, by decide +kernel⟩
abbrev sCheckThing : Stmt := topS 57
theorem scCheckThing : FnScope ["world", "thing"] ["world", "thing"] (defScope sCheckThing) := ⟨rfl, rfl, rfl, by decide +kernel, rfl, by decide +kernel, by decide +kernel⟩
abbrev sIsBelow : Stmt := topS 58
theorem scIsBelow : FnScope ["thing", "many"] ["thing", "many"] (defScope sIsBelow) := ⟨rfl, rfl, rfl, by decide +kernel, rfl, by decide +kernel, by decide +kernel⟩
abbrev sArePairs : Stmt := topS 59
theorem scArePairs : FnScope ["thing", "many", "second_many", "pair"] ["thing", "many", "second_many"] (defScope sArePairs) := ⟨rfl, rfl, rfl, by decide +kernel, rfl, by decide +kernel, by decide +kernel⟩
abbrev sIsSimulation : Stmt := topS 60
theorem scIsSimulation : FnScope ["look", "pairs", "paired", "x", "y", "mine", "fitting"] ["look", "pairs"] (defScope sIsSimulation) := ⟨rfl, rfl, rfl, by decide +kernel, rfl, by decide +kernel, by decide +kernel⟩
abbrev sLawDeck : Stmt := topS 62
theorem scLawDeck : FnScope ["script", "mixed", "cell"] ["script"] (defScope sLawDeck) := ⟨rfl, rfl, rfl, by decide +kernel, rfl, by decide +kernel, by decide +kernel⟩
abbrev sLawDraw : Stmt := topS 63
theorem scLawDraw : FnScope ["deck", "below", "number", "cell"] ["deck", "below"] (defScope sLawDraw) := ⟨rfl, rfl, rfl, by decide +kernel, rfl, by decide +kernel, by decide +kernel⟩
abbrev sLawPick : Stmt := topS 64
theorem scLawPick : FnScope ["deck", "some"] ["deck", "some"] (defScope sLawPick) := ⟨rfl, rfl, rfl, by decide +kernel, rfl, by decide +kernel, by decide +kernel⟩
abbrev sLawShuffled : Stmt := topS 65
theorem scLawShuffled : FnScope ["deck", "some", "left", "found"] ["deck", "some"] (defScope sLawShuffled) := ⟨rfl, rfl, rfl, by decide +kernel, rfl, by decide +kernel, by decide +kernel⟩
abbrev sLawWorld : Stmt := topS 66
theorem scLawWorld : FnScope ["deck", "most", "many", "often", "names", "roles", "name", "things", "x", "role", "pairs", "y"] ["deck", "most"] (defScope sLawWorld) := ⟨rfl, rfl, rfl, by decide +kernel, rfl, by decide +kernel, by decide +kernel⟩
abbrev sLawVocabulary : Stmt := topS 67
theorem scLawVocabulary : FnScope ["deck", "names"] ["deck"] (defScope sLawVocabulary) := ⟨rfl, rfl, rfl, by decide +kernel, rfl, by decide +kernel, by decide +kernel⟩
abbrev sLawNamesOf : Stmt := topS 68
theorem scLawNamesOf : FnScope ["world", "x", "name", "things"] ["world", "x"] (defScope sLawNamesOf) := ⟨rfl, rfl, rfl, by decide +kernel, rfl, by decide +kernel, by decide +kernel⟩
abbrev sLawTied : Stmt := topS 69
theorem scLawTied : FnScope ["world", "role", "x", "pair"] ["world", "role", "x"] (defScope sLawTied) := ⟨rfl, rfl, rfl, by decide +kernel, rfl, by decide +kernel, by decide +kernel⟩
abbrev sLawPruned : Stmt := topS 70
theorem scLawPruned : FnScope ["world", "second", "vocabulary", "pairs", "names", "roles", "left", "is_new", "x", "y", "name", "kept", "bad", "role", "near", "far", "it"] ["world", "second", "vocabulary", "pairs"] (defScope sLawPruned) := ⟨rfl, rfl, rfl, by decide +kernel, rfl, by decide +kernel, by decide +kernel⟩
abbrev sLawGreatest : Stmt := topS 71
theorem scLawGreatest : FnScope ["world", "second", "vocabulary", "pairs", "x", "y"] ["world", "second", "vocabulary"] (defScope sLawGreatest) := ⟨rfl, rfl, rfl, by decide +kernel, rfl, by decide +kernel, by decide +kernel⟩
abbrev sLawFewerTies : Stmt := topS 72
theorem scLawFewerTies : FnScope ["deck", "world", "roles", "role", "pairs", "kept", "pair"] ["deck", "world"] (defScope sLawFewerTies) := ⟨rfl, rfl, rfl, by decide +kernel, rfl, by decide +kernel, by decide +kernel⟩
abbrev sLawMoreNames : Stmt := topS 73
theorem scLawMoreNames : FnScope ["deck", "world", "names", "name", "things", "x"] ["deck", "world"] (defScope sLawMoreNames) := ⟨rfl, rfl, rfl, by decide +kernel, rfl, by decide +kernel, by decide +kernel⟩
abbrev sLaw : Stmt := topS 74
theorem scLaw : FnScope ["script", "deck", "turn", "one", "two", "three", "words", "near", "far", "both", "due", "x", "y", "it", "z", "less", "word", "some", "told", "pair", "every", "other", "more"] ["script"] (defScope sLaw) := ⟨rfl, rfl, rfl, by decide +kernel, rfl, by decide +kernel, by decide +kernel⟩
abbrev sTiesInit : Stmt := inClass (topS 32) 0
theorem scTiesInit : FnScope ["self", "many", "roles", "role", "pairs", "tied", "x", "y"] ["self", "many", "roles"] (defScope sTiesInit) := ⟨rfl, rfl, rfl, by decide +kernel, rfl, by decide +kernel, by decide +kernel⟩
abbrev sTiesBefore : Stmt := inClass (topS 32) 2
theorem scTiesBefore : FnScope ["self", "role", "things", "found", "x", "tied"] ["self", "role", "things"] (defScope sTiesBefore) := ⟨rfl, rfl, rfl, by decide +kernel, rfl, by decide +kernel, by decide +kernel⟩
abbrev sModelInit : Stmt := inClass (topS 33) 0
theorem scModelInit : FnScope ["self", "world", "many", "names", "roles", "x", "name", "things"] ["self", "world"] (defScope sModelInit) := ⟨rfl, rfl, rfl, by decide +kernel, rfl, by decide +kernel, by decide +kernel⟩
abbrev sModelHaving : Stmt := inClass (topS 33) 1
theorem scModelHaving : FnScope ["self", "name"] ["self", "name"] (defScope sModelHaving) := ⟨rfl, rfl, rfl, by decide +kernel, rfl, by decide +kernel, by decide +kernel⟩
abbrev sLookInit : Stmt := inClass (topS 38) 0
theorem scLookInit : FnScope ["self", "world", "second", "vocabulary", "names", "roles", "_", "name", "things", "x", "role", "pairs", "tied", "mine"] ["self", "world", "second", "vocabulary"] (defScope sLookInit) := ⟨rfl, rfl, rfl, by decide +kernel, rfl, by decide +kernel, by decide +kernel⟩
abbrev sLookPairs : Stmt := inClass (topS 38) 1
theorem scLookPairs : FnScope ["self", "x", "matching", "y"] ["self"] (defScope sLookPairs) := ⟨rfl, rfl, rfl, by decide +kernel, rfl, by decide +kernel, by decide +kernel⟩
abbrev sLookRoundOf : Stmt := inClass (topS 38) 2
theorem scLookRoundOf : FnScope ["self", "x", "y", "number", "left"] ["self", "x", "y"] (defScope sLookRoundOf) := ⟨rfl, rfl, rfl, by decide +kernel, rfl, by decide +kernel, by decide +kernel⟩
abbrev sLookWithNames : Stmt := inClass (topS 38) 4
theorem scLookWithNames : FnScope ["self", "names", "found", "name"] ["self", "names"] (defScope sLookWithNames) := ⟨rfl, rfl, rfl, by decide +kernel, rfl, by decide +kernel, by decide +kernel⟩
/-- what the top has left of the classes -/
structure TxC (K : PySem.W.Frag) (mg : Str → Option Value) (cT cM cL : Addr) : Prop where
  kModel : KAt K mg "Model" "Model.__init__" cM sModelInit
  kLook : KAt K mg "Look" "Look.__init__" cL sLookInit
  mModel_before : MAt K cM "before" "Ties.before" sTiesBefore
  mModel_having : MAt K cM "having" "Model.having" sModelHaving
  mLook_pairs : MAt K cL "pairs" "Look.pairs" sLookPairs
  mLook_round_of : MAt K cL "round_of" "Look.round_of" sLookRoundOf
  mLook__with_names : MAt K cL "_with_names" "Look._with_names" sLookWithNames
  rTies___init__ : RAt K mg "Ties" "__init__" "Ties.__init__" cT sTiesInit
  nModel__after : NoAttr K cM "_after"
  nModel_everything : NoAttr K cM "everything"
  nModel__having : NoAttr K cM "_having"
  nLook_second : NoAttr K cL "second"
  nLook__names : NoAttr K cL "_names"
  nLook_ties : NoAttr K cL "ties"
  nLook_fits : NoAttr K cL "fits"
  nLook_rounds : NoAttr K cL "rounds"
/-- what the top has left -/
structure Txt (K : PySem.W.Frag) (mg : Str → Option Value) : Prop where
  all : mg "all" = none
  bool : mg "bool" = none
  dict : mg "dict" = none
  enumerate : mg "enumerate" = none
  int : mg "int" = none
  isinstance : mg "isinstance" = none
  len : mg "len" = none
  list : mg "list" = none
  max : mg "max" = none
  range : mg "range" = none
  repr : mg "repr" = none
  set : mg "set" = none
  sorted : mg "sorted" = none
  str : mg "str" = none
  sum : mg "sum" = none
  tuple : mg "tuple" = none
  zip : mg "zip" = none
  bits : DefAt K mg "bits" sBits
  isWithin : DefAt K mg "is_within" sIsWithin
  isInteger : DefAt K mg "is_integer" sIsInteger
  isPair : DefAt K mg "is_pair" sIsPair
  isAscending : DefAt K mg "is_ascending" sIsAscending
  isWord : DefAt K mg "is_word" sIsWord
  isConcept : DefAt K mg "is_concept" sIsConcept
  isVocabulary : DefAt K mg "is_vocabulary" sIsVocabulary
  isIn : DefAt K mg "is_in" sIsIn
  checkConcept : DefAt K mg "check_concept" sCheckConcept
  checkVocabulary : DefAt K mg "check_vocabulary" sCheckVocabulary
  bottomUp : DefAt K mg "bottom_up" sBottomUp
  inner : DefAt K mg "_inner" sInner
  isLetter : DefAt K mg "_is_letter" sIsLetter
  areWords : DefAt K mg "_are_words" sAreWords
  wordsOf : DefAt K mg "_words_of" sWordsOf
  isLean : DefAt K mg "is_lean" sIsLean
  madeLean : DefAt K mg "made_lean" sMadeLean
  mark : DefAt K mg "mark" sMark
  matched : DefAt K mg "matched" sMatched
  roundsOf : DefAt K mg "rounds_of" sRoundsOf
  isWorld : DefAt K mg "is_world" sIsWorld
  thingsIn : DefAt K mg "things_in" sThingsIn
  checkWorld : DefAt K mg "check_world" sCheckWorld
  isListing : DefAt K mg "_is_listing" sIsListing
  areItems : DefAt K mg "_are_items" sAreItems
  isThing : DefAt K mg "_is_thing" sIsThing
  isTie : DefAt K mg "_is_tie" sIsTie
  members : DefAt K mg "_members" sMembers
  inBoth : DefAt K mg "_in_both" sInBoth
  tiedInto : DefAt K mg "_tied_into" sTiedInto
  greatest : DefAt K mg "greatest" sGreatest
  judgeSimulated : DefAt K mg "judge_simulated" sJudgeSimulated
  simulatedHolds : DefAt K mg "simulated_holds" sSimulatedHolds
  check : DefAt K mg "_check" sCheck
  checkThing : DefAt K mg "_check_thing" sCheckThing
  isBelow : DefAt K mg "_is_below" sIsBelow
  arePairs : DefAt K mg "_are_pairs" sArePairs
  isSimulation : DefAt K mg "_is_simulation" sIsSimulation
  lawDeck : DefAt K mg "_law_deck" sLawDeck
  lawDraw : DefAt K mg "_law_draw" sLawDraw
  lawPick : DefAt K mg "_law_pick" sLawPick
  lawShuffled : DefAt K mg "_law_shuffled" sLawShuffled
  lawWorld : DefAt K mg "_law_world" sLawWorld
  lawVocabulary : DefAt K mg "_law_vocabulary" sLawVocabulary
  lawNamesOf : DefAt K mg "_law_names_of" sLawNamesOf
  lawTied : DefAt K mg "_law_tied" sLawTied
  lawPruned : DefAt K mg "_law_pruned" sLawPruned
  lawGreatest : DefAt K mg "_law_greatest" sLawGreatest
  lawFewerTies : DefAt K mg "_law_fewer_ties" sLawFewerTies
  lawMoreNames : DefAt K mg "_law_more_names" sLawMoreNames
  law : DefAt K mg "law" sLaw
  longest_word : ∃ t, mg "LONGEST_WORD" = some (.int 10 t)
  no_words : ∃ a, mg "NO_WORDS" = some (.ref a) ∧ ∀ H, SqT K H a [.str "all", .str "none", .str "some", .str "and", .str "each", .str "is"]
  most_things : ∃ t, mg "MOST_THINGS" = some (.int 2000 t)
  most_rounds : ∃ t, mg "MOST_ROUNDS" = some (.int 3 t)
  cls : ∃ cT cM cL, TxC K mg cT cM cL
end K24
set_option Elab.async false
set_option linter.all false
set_option maxRecDepth 100000
set_option maxHeartbeats 2000000
/-! the law's own deck -/
namespace K24
open PySem PySem.Spec PyProof.Rows L2 Tl
open C8 (Cal pe_c)
/-! ### the deck -/
def dk (l : Addr) (m t : Int) : List (Key × V) := [(.inr "cells", .ref l), (.inr "mixed", .int m), (.inr "turn", .int t)]
/-- a deck stands at d, its cells at l -/
def Deck (H : Hp) (d l : Addr) : Prop := ∃ (ns : List Int) (m t : Int), H d = some (.dK (dk l m t)) ∧ H l = some (.lst (ns.map V.int)) ∧ ns.length ≤ 63 ∧ 0 ≤ m ∧ m < 2305843009213693951
/-- all but the deck is as it was -/
def Off (d l : Addr) (H H' : Hp) : Prop := ∀ a o, a ≠ d → a ≠ l → H a = some o → H' a = some o
theorem Off.refl (d l : Addr) (H : Hp) : Off d l H H := fun _ _ _ _ h => h
theorem Off.trans {d l : Addr} {H H1 H2 : Hp} (a : Off d l H H1) (b : Off d l H1 H2) : Off d l H H2 := fun x o h1 h2 h => b x o h1 h2 (a x o h1 h2 h)
theorem _root_.L2.Same.off {d l : Addr} {H H' : Hp} (e : L2.Same H H') : Off d l H H' := fun a o _ _ h => e a o h
theorem Off.stay {d l : Addr} {H H' : Hp} (e : Off d l H H') (D : Deck H d l) : Stay H H' := fun a o h k => by
  obtain ⟨ns, m, t, h1, h2, _⟩ := D
  refine e a o (fun z => ?_) (fun z => ?_) h
  · subst z
    rw [h1] at h
    cases h
    rcases k with ⟨_, k⟩ | ⟨_, _, k⟩ <;> cases k
  · subst z
    rw [h2] at h
    cases h
    rcases k with ⟨_, k⟩ | ⟨_, _, k⟩ <;> cases k
theorem off_new {d l : Addr} {H : Hp} {p : Addr} {o : HO} (h : H p = none) : Off d l H (upd H p o) := fun a u _ _ e => by
  rw [upd_ne (ne_of_none e h)]
  exact e
theorem Deck.new {d l : Addr} {H : Hp} {p : Addr} {o : HO} (D : Deck H d l) (h : H p = none) : Deck (upd H p o) d l := by
  obtain ⟨ns, m, t, h1, h2, h3⟩ := D
  exact ⟨ns, m, t, (upd_ne (ne_of_none h1 h)).trans h1, (upd_ne (ne_of_none h2 h)).trans h2, h3⟩
theorem Deck.same {d l : Addr} {H H' : Hp} (D : Deck H d l) (e : L2.Same H H') : Deck H' d l := by
  obtain ⟨ns, m, t, h1, h2, h3⟩ := D
  exact ⟨ns, m, t, e _ _ h1, e _ _ h2, h3⟩
theorem Deck.ne {d l : Addr} {H : Hp} (D : Deck H d l) : d ≠ l := by
  obtain ⟨ns, m, t, h1, h2, h3⟩ := D
  exact ne_of h1 h2 (by intro z; cases z)
def spDeck (K : PySem.W.Frag) : Sp := fun vs H Q _ => ∃ (a : Addr) (ns : List Int), vs = [.ref a] ∧ SqL K H a (ns.map V.int) ∧ ns.length ≤ 63 ∧
  ∀ (d l : Addr) (H' : Hp), H d = none → H l = none → L2.Same H H' → Deck H' d l → Q (.ref d) H'
def spDraw : Sp := fun vs H Q _ => ∃ (d l : Addr) (b : Int), vs = [.ref d, .int b] ∧ Deck H d l ∧ 0 < b ∧ b ≤ 100000 ∧
  ∀ (i : Int) (H' : Hp), 0 ≤ i → i < b → Off d l H H' → Deck H' d l → Q (.int i) H'
section
variable {P : Program} {w : World} {K : PySem.W.Frag} {mg : Str → Option Value} {base : Heap}
theorem cLawDeck (T : Txt K mg) : Cal P w K mg base 1 "_law_deck" (spDeck K) [] := by
  refine cal_of T.lawDeck scLawDeck (fun _ _ _ _ _ _ us hl => match us, hl with | [_], _ => rfl) (fun vs H Q E h => ?_) (fun f cdv A outer s H vs Q E hr h => ?_)
  · obtain ⟨a, ns, rfl, _⟩ := h
    rfl
  obtain ⟨a, ns, rfl, hS, h63, q⟩ := h
  refine ⟨_, (pss_cons (ps_set (i := 1) scLawDeck.nd rfl (.inl rfl) pe_int)
 (pss_cons (ps_for PassesOwn.never rfl (pi_list (pe_slice sl_list (pv 0) po_none (po_some pe_int))) (pg_name (i := 2) scLawDeck.nd rfl (.inl rfl))
 (pss_one (ps_set (i := 1) scLawDeck.nd rfl (.inl rfl) (pe_op op_mod (pe_callTy call_int1 (by rfl) T.int (by decide +kernel) (pa_cons (pe_op op_add (pe_op op_add (pe_op op_mul (pv 1) pe_int) (pe_op op_mod (pe_callTy call_int1 (by rfl) T.int (by decide +kernel) (pa_cons (pv 2) pa_nil)) pe_int)) pe_int) pa_nil)) pe_int))))
 (pss_one (ps_ret (pe_disp (pps_cons pe_str (pe_revL (pe_lc (own := [("cell", 2)]) (by rfl) scLawDeck.nd (pi_list (pe_slice sl_list (pv 0) po_none (po_some pe_int))) (blkOk_by (own := [("cell", 2)]) (N := ["script", "mixed", "cell"]) (sc := defScope sLawDeck) (by decide +kernel)) (fun _ _ _ _ _ => (pg_name (i := 2) scLawDeck.nd rfl (.inl rfl))) (fun _ _ _ _ _ => pts_nil) (fun _ _ _ _ _ => (pe_callTy call_int1 (by rfl) T.int (by decide +kernel) (pa_cons (pv 2) pa_nil))))) (pps_cons pe_str (pv 1) (pps_cons pe_str pe_int pps_nil))) (by rfl) (by rfl) (fun z => by cases z) (by decide)))))), ?_⟩
  -- for cell in script[:63]
  refine ⟨.ref a, rfl, 63, rfl, a, _, rfl, hS, fun c nc => ?_⟩
  have cut : cutV (ns.map V.int) none (some 63) = ns.map V.int := by
    unfold cutV
    rw [HT.sIx_none, show HT.sIx (ns.map V.int).length (ns.map V.int).length (some 63) = min 63 (ns.map V.int).length from HT.sIx_nat _ _ 63, List.length_map]
    exact List.take_of_length_le (by rw [List.length_drop, List.length_map]; omega)
  rw [cut]
  refine ⟨c, rfl, ⟨_, .inl (.inl upd_same)⟩, for_list (K := K) (a := c) (xs := ns.map V.int) (fun i σ G => ∃ (m : Int) (y : Option V), σ = [some (.ref a), some (.int m), y] ∧ 0 ≤ m ∧ m < 2305843009213693951 ∧ L2.Same H G ∧ SqL K G c (ns.map V.int))
    ⟨14407744, none, rfl, by decide, by decide, fun b o e => ?_, .inl (.inl upd_same)⟩ (fun i σ G _ z => ?_) (fun i x σ G hx z => ?_) (fun σ G z => ?_)⟩
  · rw [upd_ne (ne_of_none e nc)]
    exact e
  · obtain ⟨_, _, _, _, _, _, z⟩ := z
    exact z
  · obtain ⟨m, y, rfl, m0, m1, sm, z⟩ := z
    obtain ⟨u, rfl⟩ : ∃ u, x = V.int u := by
      rw [List.getElem?_map] at hx
      obtain ⟨u, _, e⟩ := Option.map_eq_some_iff.mp hx
      exact ⟨u, e.symm⟩
    refine ⟨.int m, rfl, m, 48271, rfl, rfl, .inr ⟨by omega, by omega⟩, .int u, rfl, .inl ⟨u, rfl, u, 2305843009213693921, rfl, rfl, (by show (0 : Int) < 2305843009213693921; decide), _, _, rfl, rfl, _, _, rfl, rfl, .inl ⟨_, rfl, _, _, rfl, rfl, (by show (0 : Int) < 2305843009213693951; decide), ?_⟩⟩⟩
    exact ⟨_, _, rfl, Int.emod_nonneg _ (by decide), Int.emod_lt_of_pos _ (by decide), sm, z⟩
  · obtain ⟨m, y, rfl, m0, m1, sm, z⟩ := z
    refine fun p np => ?_
    have s1 : L2.Same G (upd G p (.dK [])) := fun b o e => by
      rw [upd_ne (ne_of_none e np)]
      exact e
    refine ⟨.ref a, rfl, 63, rfl, a, _, rfl, s1.seq (sm.seq hS), fun c2 nc2 => ?_⟩
    rw [cut]
    refine ⟨c2, rfl, ⟨_, .inl (.inl upd_same)⟩, fun D nD => ?_⟩
    have s2 : L2.Same (upd G p (.dK [])) (upd (upd G p (.dK [])) c2 (.lst (ns.map V.int))) := fun b o e => by
      rw [upd_ne (ne_of_none e nc2)]
      exact e
    have npD : p ≠ D := ne_of_none (s2 _ _ upd_same) nD
    have nc2D : c2 ≠ D := ne_of_none upd_same nD
    refine lc_list (K := K) (a := c2) (xs := ns.map V.int) (fun i G2 => L2.Same (upd (upd G p (.dK [])) c2 (.lst (ns.map V.int))) G2 ∧ G2 D = some (.lst ((ns.take i).map V.int)))
      ⟨fun b o e => ?_, ?_⟩ (fun i G2 _ z => z.1.seq (.inl (.inl upd_same))) (fun i x G2 hx z => ?_) (fun G2 z => ?_)
    · rw [upd_ne (ne_of_none e nD)]
      exact e
    · rw [upd_same]
      rfl
    · obtain ⟨z1, z2⟩ := z
      obtain ⟨u, hu, rfl⟩ : ∃ u, ns[i]? = some u ∧ x = V.int u := by
        rw [List.getElem?_map] at hx
        obtain ⟨u, h, e⟩ := Option.map_eq_some_iff.mp hx
        exact ⟨u, h, e.symm⟩
      refine ⟨rfl, .int u, rfl, .inl ⟨u, rfl, _, z2, ?_, fun b o e => ?_, ?_⟩⟩
      · rw [List.length_map, List.length_take]
        exact Nat.lt_of_le_of_lt (Nat.le_trans (Nat.min_le_right _ _) h63) (by decide)
      · rw [upd_ne (ne_of_none e nD)]
        exact z1 _ _ e
      · rw [upd_same, List.take_add_one, hu, List.map_append]
        rfl
    · obtain ⟨z1, z2⟩ := z
      rw [List.length_map, List.take_of_length_le (Nat.le_refl _)] at z2
      refine ⟨D, _, rfl, .inl (.inl z2), fun l nl => ?_⟩
      have npl : p ≠ l := ne_of_none (z1 _ _ (s2 _ _ upd_same)) nl
      refine ⟨.int m, rfl, ?_, [(.inr "cells", .ref l), (.inr "mixed", .int m), (.inr "turn", .int 0)], rfl, (by show 3 ≤ 15; decide), ?_⟩
      · rw [upd_ne npl]
        exact z1 _ _ (s2 _ _ upd_same)
      have np0 : H p = none := sm.free np
      have nl0 : H l = none := sm.free (s1.free (s2.free (z1.free nl)))
      refine q p l _ np0 nl0 (fun b o e => ?_) ⟨ns.reverse, m, 0, upd_same, ?_, by rw [List.length_reverse]; exact h63, m0, m1⟩
      · rw [upd_ne (ne_of_none e np0), upd_ne (ne_of_none e nl0)]
        exact z1 _ _ (s2 _ _ (s1 _ _ (sm _ _ e)))
      · rw [upd_ne npl.symm, upd_same, List.map_reverse]
end
/-! ### the deck's entries -/
theorem lm_ : ¬ (("cells" : Str) = "mixed") := by decide +kernel
theorem lt_ : ¬ (("cells" : Str) = "turn") := by decide +kernel
theorem mt_ : ¬ (("mixed" : Str) = "turn") := by decide +kernel
theorem tm_ : ¬ (("turn" : Str) = "mixed") := by decide +kernel
theorem inr_ne {x y : Str} (h : ¬ x = y) : ¬ ((Sum.inr x : Key) = Sum.inr y) := fun e => h (Sum.inr.inj e)
theorem dk_left {l : Addr} {m t : Int} : valV (dk l m t) (.inr "cells") = some (.ref l) := valV_pos rfl
theorem dk_mixed {l : Addr} {m t : Int} : valV (dk l m t) (.inr "mixed") = some (.int m) := by
  simp [valV, dk, List.find?_cons, lm_]
theorem dk_turn {l : Addr} {m t : Int} : valV (dk l m t) (.inr "turn") = some (.int t) := by
  simp [valV, dk, List.find?_cons, lt_, mt_]
theorem put_turn {l : Addr} {m t u : Int} : putK (dk l m t) (.inr "turn") (.int u) = dk l m u := by
  simp [putK, dk, lt_, mt_]
theorem put_mixed {l : Addr} {m t u : Int} : putK (dk l m t) (.inr "mixed") (.int u) = dk l u t := by
  simp [putK, dk, lm_, tm_]
section
variable {H : Hp} {d l : Addr} {m t : Int}
theorem get_left (h : H d = some (.dK (dk l m t))) : DGet H d (.str "cells") (some (.ref l)) := dk_left (l := l) (m := m) (t := t) ▸ DGet.k (k := .inr "cells") h
theorem get_mixed (h : H d = some (.dK (dk l m t))) : DGet H d (.str "mixed") (some (.int m)) := dk_mixed (l := l) (m := m) (t := t) ▸ DGet.k (k := .inr "mixed") h
theorem get_turn (h : H d = some (.dK (dk l m t))) : DGet H d (.str "turn") (some (.int t)) := dk_turn (l := l) (m := m) (t := t) ▸ DGet.k (k := .inr "turn") h
theorem set_turn {u : Int} (h : H d = some (.dK (dk l m t))) : DPut H d (.str "turn") (.int u) (upd H d (.dK (dk l m u))) := put_turn (l := l) (m := m) (t := t) (u := u) ▸ DPut.k (k := .inr "turn") h (by show 3 < sizeLine; decide)
theorem set_mixed {u : Int} (h : H d = some (.dK (dk l m t))) : DPut H d (.str "mixed") (.int u) (upd H d (.dK (dk l u t))) := put_mixed (l := l) (m := m) (t := t) (u := u) ▸ DPut.k (k := .inr "mixed") h (by show 3 < sizeLine; decide)
end
end K24
set_option Elab.async false
set_option linter.all false
set_option maxRecDepth 100000
set_option maxHeartbeats 2000000
namespace K24
open PySem PySem.Spec PyProof.Rows L2 Tl
open C8 (Cal pe_c)
theorem canLay_ints : ∀ ns : List Int, PyData.canLayAll0 (ns.map PyData.int) = true
  | [] => by simp [PyData.canLayAll0]
  | n :: ns => by simp [PyData.canLayAll0, PyData.canLay0, canLay_ints ns]
theorem depth_ints : ∀ ns : List Int, PyData.depthAll (ns.map PyData.int) = 0
  | [] => by simp [PyData.depthAll]
  | n :: ns => by simp [PyData.depthAll, PyData.depth, depth_ints ns]
theorem shaped_ints (ns : List Int) : SeqAt.shaped (.list (ns.map PyData.int)) = true := by
  simp [SeqAt.shaped, PyData.canLay0, PyData.depth, canLay_ints, depth_ints]
theorem shaped_nil : SeqAt.shaped (.list []) = true := by
  simp [SeqAt.shaped, PyData.canLay0, PyData.depth, PyData.canLayAll0, PyData.depthAll]
theorem ne_nil (ns : List Int) : (!PyData.eqv (.list (ns.map PyData.int)) (.list [])) = !ns.isEmpty := by
  cases ns <;> simp [PyData.eqv, PyData.eqvAll]
section
variable {P : Program} {w : World} {K : PySem.W.Frag} {mg : Str → Option Value} {base : Heap}
theorem off_mutd {d l : Addr} {H H' : Hp} {o : HO} (e : Off d l H H') : Off d l H (upd H' d o) := fun a u h1 h2 h => by
  rw [upd_ne h1]
  exact e a u h1 h2 h
theorem off_mutl {d l : Addr} {H H' : Hp} {o : HO} (e : Off d l H H') : Off d l H (upd H' l o) := fun a u h1 h2 h => by
  rw [upd_ne h2]
  exact e a u h1 h2 h
theorem off_add {d l : Addr} {H H' : Hp} {p : Addr} {o : HO} (e : Off d l H H') (h : H' p = none) : Off d l H (upd H' p o) := e.trans (off_new h)
theorem cLawDraw (T : Txt K mg) : Cal P w K mg base 1 "_law_draw" spDraw [] := by
  refine cal_of T.lawDraw scLawDraw (fun _ _ _ _ _ _ us hl => match us, hl with | [_, _], _ => rfl) (fun vs H Q E h => ?_) (fun f cdv A outer s H vs Q E hr h => ?_)
  · obtain ⟨d, l, b, rfl, _⟩ := h
    rfl
  obtain ⟨d, l, b, rfl, D, b0, b1, q⟩ := h
  have hu := hu_of hr
  have hu64 := hr.units
  refine ⟨_, (pss_cons (ps_dput hu (pv 0) pe_str (pe_op op_add (pe_dget hu (pv 0) pe_str (fun _ _ => rfl)) pe_int) rfl)
 (pss_cons (ps_set (i := 2) scLawDraw.nd rfl (.inl rfl) (pe_op op_add (pe_dget hu (pv 0) pe_str (fun _ _ => rfl)) (pe_op op_mul pe_int (pe_dget hu (pv 0) pe_str (fun _ _ => rfl)))))
 (C8.pss_cut (ps_if (pt_cmpR (op_neD hu64) (pe_dget hu (pv 0) pe_str (fun _ _ => rfl)) (pe_lst pa_nil) (nomark _))
 (pss_cons (ps_set (i := 3) scLawDraw.nd rfl (.inl rfl) (pe_bm0 PySem.F.plainAttrs_list PySem.F.slot_list_pop PySem.F.type_list_pop mt_pop (pe_dget hu (pv 0) pe_str (fun _ _ => rfl))))
 (pss_cons (ps_if (pt_cmpR op_ge (pv 3) (pe_op op_pow pe_int pe_int) (nomark _))
 (pss_cons (ps_expr (pe_bm PySem.F.plainAttrs_list PySem.F.slot_list_append PySem.F.type_list_append mt_append (pe_dget hu (pv 0) pe_str (fun _ _ => rfl)) (pa_cons (pe_op op_fdiv (pv 3) (pe_callB (call_max2 rfl) (by rfl) T.max (by decide +kernel) (pa_cons pe_int (pa_cons (pv 1) pa_nil)))) pa_nil)))
 (pss_one (ps_ret (pe_op op_mod (pe_callTy call_int1 (by rfl) T.int (by decide +kernel) (pa_cons (pv 3) pa_nil)) (pv 1)))))
 pss_nil)
 (pss_one (ps_set (i := 2) scLawDraw.nd rfl (.inl rfl) (pe_op op_add (pv 2) (pe_op op_mod (pe_callTy call_int1 (by rfl) T.int (by decide +kernel) (pa_cons (pv 3) pa_nil)) pe_int))))))
 pss_nil)
 (pss_cons (ps_set (i := 2) scLawDraw.nd rfl (.inl rfl) (pe_op op_mod (pe_callTy call_int1 (by rfl) T.int (by decide +kernel) (pa_cons (pe_op op_add (pe_op op_mul (pv 2) pe_int) pe_int) pa_nil)) pe_int))
 (pss_cons (ps_set (i := 2) scLawDraw.nd rfl (.inl rfl) (pe_op op_mod (pe_callTy call_int1 (by rfl) T.int (by decide +kernel) (pa_cons (pe_op op_add (pe_op op_add (pe_op op_mul (pv 2) (pv 2)) (pe_op op_mul pe_int (pe_dget hu (pv 0) pe_str (fun _ _ => rfl)))) pe_int) pa_nil)) pe_int))
 (pss_one (ps_ret (pe_op op_mod (pe_callTy call_int1 (by rfl) T.int (by decide +kernel) (pa_cons (pe_op op_fdiv (pv 2) pe_int) pa_nil)) (pv 1))))))))), ?_⟩
  obtain ⟨ns, m, t, h1, h2, h63, m0, m1⟩ := D
  have ndl : d ≠ l := ne_of h1 h2 (by intro z; cases z)
  -- deck['turn'] = deck['turn'] + 1
  refine ⟨.ref d, rfl, d, _, rfl, get_turn h1, t, 1, rfl, rfl, .ref d, rfl, d, _, rfl, set_turn h1, ?_⟩
  generalize hG : upd H d (.dK (dk l m (t + 1))) = G
  have g1 : G d = some (.dK (dk l m (t + 1))) := by rw [← hG, upd_same]
  have g2 : G l = some (.lst (ns.map V.int)) := by rw [← hG, upd_ne ndl.symm, h2]
  have gO : Off d l H G := by rw [← hG]; exact off_mutd (Off.refl d l H)
  -- number = ..
  refine ⟨.ref d, rfl, d, _, rfl, get_mixed g1, .ref d, rfl, d, _, rfl, get_turn g1, 1099511627791, t + 1, rfl, rfl, .inl ⟨by omega, by omega⟩, m, _, rfl, rfl, ?_⟩
  refine ⟨fun σ G => ∃ (fig : Int) (y : Option V), σ = [some (.ref d), some (.int b), some (.int fig), y] ∧ Off d l H G ∧ Deck G d l, ?_, ?_⟩
  · -- deck['cells'] != []
    refine ⟨.ref d, rfl, d, _, rfl, get_left g1, Nat.zero_le _, fun p np => ?_⟩
    have pd : d ≠ p := ne_of_none g1 np
    have pl : l ≠ p := ne_of_none g2 np
    have k1 : (upd G p (.lst [])) d = some (.dK (dk l m (t + 1))) := (upd_ne pd).trans g1
    have k2 : (upd G p (.lst [])) l = some (.lst (ns.map V.int)) := (upd_ne pl).trans g2
    have kO : Off d l H (upd G p (.lst [])) := off_add gO np
    refine ⟨.list (ns.map PyData.int), .list [], .lst (.inl (.inl k2)) (dp_ints ns), .lst (.inl (.inl upd_same)) .nil, shaped_ints ns, shaped_nil, _, rfl, ?_⟩
    rw [ne_nil]
    generalize upd G p (.lst []) = G2 at k1 k2 kO
    rcases List.eq_nil_or_concat ns with e | ⟨ms, z, e⟩
    · subst e
      refine iteF ?_
      exact ⟨_, none, rfl, kO, [], m, t + 1, k1, k2, Nat.zero_le _, m0, m1⟩
    · rw [List.concat_eq_append] at e
      subst e
      rw [show (!(ms ++ [z]).isEmpty) = true by simp]
      refine iteT ?_
      have hlast : ((ms ++ [z]).map V.int)[((ms ++ [z]).map V.int).length - 1]? = some (.int z) := by simp
      have hdrop : ((ms ++ [z]).map V.int).dropLast = ms.map V.int := by simp
      have hlen : ms.length < 63 := by
        rw [List.length_append, List.length_singleton] at h63
        omega
      refine ⟨.ref d, rfl, d, _, rfl, get_left k1, .inl ⟨rfl, _, .inl (.inl k2)⟩, l, _, _, rfl, rfl, k2, hlast, ?_⟩
      rw [hdrop]
      have j1 : (upd G2 l (.lst (ms.map V.int))) d = some (.dK (dk l m (t + 1))) := (upd_ne ndl).trans k1
      have j2 : (upd G2 l (.lst (ms.map V.int))) l = some (.lst (ms.map V.int)) := upd_same
      have jO : Off d l H (upd G2 l (.lst (ms.map V.int))) := off_mutl kO
      generalize upd G2 l (.lst (ms.map V.int)) = G3 at j1 j2 jO
      refine ⟨.int z, rfl, 10, 18, rfl, rfl, ⟨by omega, by omega, by decide⟩, z, _, rfl, rfl, _, rfl, ite2 (fun _ => ?_) (fun _ => ?_)⟩
      · have hc : 0 < (if b > 2 then b else (2 : Int)) ∧ (if b > 2 then b else (2 : Int)) < 1073741824 := by
          split <;> omega
        refine ⟨.ref d, rfl, d, _, rfl, get_left j1, .inl ⟨rfl, _, .inl (.inl j2)⟩, .int z, rfl, .int b, rfl, 2, b, rfl, z, _, rfl, rfl, hc, l, _, _, rfl, rfl, j2, ?_, ?_⟩
        · rw [List.length_map]
          exact Nat.lt_of_lt_of_le hlen (by decide)
        refine ⟨.int z, rfl, .inl ⟨z, rfl, .int b, rfl, z, b, rfl, rfl, b0, ?_⟩⟩
        refine q _ _ (Int.emod_nonneg _ (by omega)) (Int.emod_lt_of_pos _ b0) (off_mutl jO) ⟨ms ++ [z / (if b > 2 then b else 2)], m, t + 1, (upd_ne ndl).trans j1, ?_, ?_, m0, m1⟩
        · rw [upd_same, List.map_append]
          rfl
        · rw [List.length_append, List.length_singleton]
          omega
      · refine ⟨_, rfl, .int z, rfl, .inl ⟨z, rfl, z, 2305843009213693921, rfl, rfl, (by show (0 : Int) < 2305843009213693921; decide), _, _, rfl, rfl, ?_⟩⟩
        exact ⟨_, _, rfl, jO, ms, m, t + 1, j1, j2, Nat.le_of_lt hlen, m0, m1⟩
  · -- the rest
    rintro σ' G' ⟨fig, y, rfl, gO', D'⟩
    have D'' := D'
    obtain ⟨ns', m', t', g1', _⟩ := D''
    refine ⟨.int fig, rfl, fig, 6364136223846793005, rfl, rfl, .inr ⟨by omega, by omega⟩, _, _, rfl, rfl, .inl ⟨_, rfl, _, _, rfl, rfl, (by show (0 : Int) < 2305843009213693951; decide), ?_⟩⟩
    have f0 := Int.emod_nonneg (fig * 6364136223846793005 + 1442695040888963407) (show (2305843009213693951 : Int) ≠ 0 by decide)
    have f1 := Int.emod_lt_of_pos (fig * 6364136223846793005 + 1442695040888963407) (show (0 : Int) < 2305843009213693951 by decide)
    refine ⟨_, rfl, _, rfl, (fig * 6364136223846793005 + 1442695040888963407) % 2305843009213693951, (fig * 6364136223846793005 + 1442695040888963407) % 2305843009213693951, rfl, rfl, .inl ⟨by omega, by omega⟩, .ref d, rfl, d, _, rfl, get_turn g1', 2862933555777941757, t', rfl, rfl, .inl ⟨by omega, by omega⟩, _, _, rfl, rfl, _, _, rfl, rfl, .inl ⟨_, rfl, _, _, rfl, rfl, (by show (0 : Int) < 2305843009213693951; decide), ?_⟩⟩
    refine ⟨_, rfl, _, 4096, rfl, rfl, ⟨by omega, by omega⟩, .inl ⟨_, rfl, .int b, rfl, _, b, rfl, rfl, b0, ?_⟩⟩
    exact q _ _ (Int.emod_nonneg _ (by omega)) (Int.emod_lt_of_pos _ b0) gO' D'
end
end K24
set_option Elab.async false
set_option linter.all false
set_option maxRecDepth 100000
set_option maxHeartbeats 2000000
namespace K24
open PySem PySem.Spec PyProof.Rows L2 Tl
open C8 (Cal pe_c)
/-! ### words -/
def alpha : List Nat := ("abcdefghijklmnopqrstuvwxyz" : Str).cps.toList
def lett (c : Nat) : Bool := decide (97 ≤ c) && decide (c ≤ 122)
theorem alpha_eq : alpha = List.range' 97 26 := by decide +kernel
theorem mem_alpha (c : Nat) : decide (c ∈ alpha) = lett c := by
  rw [alpha_eq]
  unfold lett
  rw [Bool.eq_iff_iff]
  simp only [decide_eq_true_eq, Bool.and_eq_true, List.mem_range']
  constructor
  · rintro ⟨i, h, rfl⟩
    omega
  · rintro ⟨h1, h2⟩
    exact ⟨c - 97, by omega, by omega⟩
def six : List Str := ["all", "none", "some", "and", "each", "is"]
def isW (w : Str) : Bool := decide (0 < w.length) && (decide (w.length < 11) && (!(six.any fun y => decide (y = w)) && w.cps.toList.all lett))
theorem eqV_str (x y : Str) : eqV (.str x) (.str y) = decide (x = y) := by
  show (x == y) = decide (x = y)
  rfl
theorem inV_six (w : Str) : inV (.str w) (six.map V.str) = six.any fun y => decide (y = w) := by
  unfold inV
  rw [List.any_map]
  rfl
theorem flat_strs (ws : List Str) : (ws.map V.str).all flatV = true := by
  rw [List.all_map]
  exact List.all_eq_true.mpr fun _ _ => rfl
theorem canLay_strs : ∀ ys : List Str, (∀ y ∈ ys, PyData.strOk y = true) → PyData.canLayAll0 (ys.map PyData.str) = true
  | [], _ => by simp [PyData.canLayAll0]
  | y :: ys, h => by simp [PyData.canLayAll0, PyData.canLay0, h y List.mem_cons_self, canLay_strs ys fun z hz => h z (List.mem_cons_of_mem _ hz)]
theorem depth_strs : ∀ ys : List Str, PyData.depthAll (ys.map PyData.str) = 0
  | [] => by simp [PyData.depthAll]
  | y :: ys => by simp [PyData.depthAll, PyData.depth, depth_strs ys]
theorem shaped_strs (ys : List Str) (h : ∀ y ∈ ys, PyData.strOk y = true) : SeqAt.shaped (.list (ys.map PyData.str)) = true := by
  simp [SeqAt.shaped, PyData.canLay0, PyData.depth, canLay_strs ys h, depth_strs]
theorem lett_ok {x : Str} (h : x.cps.toList.all lett = true) : PyData.strOk x = true := by
  unfold PyData.strOk
  rw [Array.all_eq_true']
  intro c hc
  have := List.all_eq_true.mp h c (Array.mem_toList_iff.mpr hc)
  unfold lett at this
  simp only [Bool.and_eq_true, decide_eq_true_eq] at this
  exact decide_eq_true (by omega)
end K24
set_option Elab.async false
set_option linter.all false
set_option autoImplicit false
set_option maxRecDepth 100000
set_option maxHeartbeats 2000000
namespace K24
open PySem PySem.Spec PyProof.Rows L2 Tl
open C8 (Cal pe_c)
theorem Off.seq {K : PySem.W.Frag} {d l : Addr} {H H' : Hp} {a : Addr} {xs : List V} (e : Off d l H H') (h1 : a ≠ d) (h2 : a ≠ l) (h : SqL K H a xs) : SqL K H' a xs := seq_off (fun o z => e a o h1 h2 z) h
section
variable {P : Program} {w : World} {K : PySem.W.Frag} {mg : Str → Option Value} {base : Heap}
/-! ### _law_pick -/
/-- a list or a tuple -/
def Sq2 (K : PySem.W.Frag) (H : Hp) (b : Addr) (xs : List V) : Prop := SqL K H b xs ∨ SqT K H b xs
theorem Off.sq2 {K : PySem.W.Frag} {d l : Addr} {H H' : Hp} {a : Addr} {xs : List V} (e : Off d l H H') (h1 : a ≠ d) (h2 : a ≠ l) (h : Sq2 K H a xs) : Sq2 K H' a xs := by
  rcases h with h | h
  · exact .inl (e.seq h1 h2 h)
  · refine .inr (h.imp (fun z => ?_) id)
    rcases z with z | ⟨o, z⟩
    · exact .inl (e a _ h1 h2 z)
    · exact .inr ⟨o, e a _ h1 h2 z⟩
def rIxB (K : PySem.W.Frag) : R2 := fun x y H Q => rIxL K x y H Q ∨ rIxT K x y H Q
theorem ix_both {X : Cx} : IxR X (rIxB X.K) := IxR.or ix_list ix_tup
def spPick (K : PySem.W.Frag) : Sp := fun vs H Q _ => ∃ (d l b : Addr) (xs : List V), vs = [.ref d, .ref b] ∧ Deck H d l ∧ Sq2 K H b xs ∧ b ≠ d ∧ b ≠ l ∧ xs ≠ [] ∧ xs.length ≤ 100000 ∧
  ∀ (x : V) (H' : Hp), x ∈ xs → Off d l H H' → Deck H' d l → Q x H'
theorem cLawPick (T : Txt K mg) : Cal P w K mg base 2 "_law_pick" (spPick K) [] := by
  refine cal_of T.lawPick scLawPick (fun _ _ _ _ _ _ us hl => match us, hl with | [_, _], _ => rfl) (fun vs H Q E h => ?_) (fun f cdv A outer s H vs Q E hr h => ?_)
  · obtain ⟨d, l, b, xs, rfl, _⟩ := h
    rfl
  obtain ⟨d, l, b, xs, rfl, D, sq, nd, nl, ne, len, q⟩ := h
  refine ⟨_, (pss_one (ps_ret (pe_ix ix_both (pv 1) (pe_c (cLawDraw T) hr (by decide) rfl (pa_cons (pv 0) (pa_cons (pe_callB call_len_seq (by rfl) T.len (by decide +kernel) (pa_cons (pv 1) pa_nil)) pa_nil))) (fun _ _ => rfl)))), ?_⟩
  have pos : 0 < xs.length := List.length_pos_iff.mpr ne
  refine ⟨.ref b, rfl, .ref d, rfl, .ref b, rfl, b, xs, rfl, sq, d, l, _, rfl, D, by omega, by omega, fun i H' i0 i1 off D' => ?_⟩
  obtain ⟨x, hx⟩ : ∃ x, xs[i.toNat]? = some x := ⟨xs[i.toNat]'(by omega), List.getElem?_eq_getElem (by omega)⟩
  have fin := q x H' (List.mem_of_getElem? hx) off D'
  rcases off.sq2 nd nl sq with sq' | sq'
  · exact .inl ⟨b, xs, i, x, rfl, rfl, sq', at_of (j := i.toNat) (by omega) hx, fin⟩
  · exact .inr ⟨b, xs, i, x, rfl, rfl, sq', at_of (j := i.toNat) (by omega) hx, fin⟩
/-- letters alone, one to ten of them -/
def Lt (x : Str) : Prop := 0 < x.length ∧ x.length < 11 ∧ x.cps.toList.all lett = true
theorem isW_lt {x : Str} (h : isW x = true) : Lt x := by
  unfold isW at h
  simp only [Bool.and_eq_true, decide_eq_true_eq] at h
  exact ⟨h.1, h.2.1, h.2.2.2⟩
theorem signs_at {j : Nat} (h : j < 26) : alpha[j]? = some (97 + j) := by
  rw [alpha_eq, List.getElem?_range' h] <;> simp
theorem joined : ∀ cs : List Nat, (Txt.join ("" : Str) (cs.map fun c => (⟨#[c]⟩ : Str))).cps.toList = cs := by
  intro cs
  rw [TL.join_eq]
  induction cs with
  | nil => rfl
  | cons c cs ih =>
    cases cs with
    | nil => rfl
    | cons e cs =>
      show ((⟨#[c]⟩ : Str) ++ ("" : Str) ++ Str.join ("" : Str) ((e :: cs).map fun c => (⟨#[c]⟩ : Str))).cps.toList = _
      have h : ∀ a b : Str, (a ++ b).cps.toList = a.cps.toList ++ b.cps.toList := fun a b => Array.toList_append
      rw [h, h, ih]
      rfl
theorem str_ext {x y : Str} (h : x.cps.toList = y.cps.toList) : x = y := by
  obtain ⟨⟨a⟩⟩ := x
  obtain ⟨⟨b⟩⟩ := y
  have h : a = b := h
  rw [h]
theorem at_gen {α : Type} {xs : List α} {z : Int} {j : Nat} {v : α} (e : z = (j : Int)) (h : xs[j]? = some v) : atI xs z = some v := by
  rw [e]
  exact atI_nat h
theorem app_list (a b : Str) : (a ++ b).cps.toList = a.cps.toList ++ b.cps.toList := Array.toList_append
theorem len_list (a : Str) : a.length = a.cps.toList.length := (Array.length_toList).symm
theorem made {a b c : Nat} (h1 : lett a = true) (h2 : lett b = true) (h3 : lett c = true) : isW ⟨#[a, b, c, 113]⟩ = true := by
  have h6 : (six.any fun y => decide (y = (⟨#[a, b, c, 113]⟩ : Str))) = false := by
    rw [List.any_eq_false]
    intro y hy e
    have e := of_decide_eq_true e
    subst e
    have last : ∀ y ∈ six, y.cps.toList.getLast? ≠ some 113 := by decide +kernel
    exact last _ hy rfl
  unfold isW
  rw [h6]
  have e : ([a, b, c, 113].all lett) = true := by
    simp only [List.all_cons, List.all_nil, h1, h2, h3, Bool.true_and, Bool.and_true]
    decide
  show (decide (0 < 4) && (decide (4 < 11) && (!false && [a, b, c, 113].all lett))) = true
  rw [e]
  rfl
theorem menu_lt : ∀ x ∈ (["alls", "somes", "an", "ands", "eachx", "i", "iss", "so", "nones", "al"] : List Str), Lt x := by
  have : ∀ x ∈ (["alls", "somes", "an", "ands", "eachx", "i", "iss", "so", "nones", "al"] : List Str), (decide (0 < x.length) && (decide (x.length < 11) && x.cps.toList.all lett)) = true := by decide +kernel
  intro x hx
  have := this x hx
  simp only [Bool.and_eq_true, decide_eq_true_eq] at this
  exact ⟨this.1, this.2.1, this.2.2⟩
theorem inV_ws (x : Str) (ws : List Str) : inV (.str x) (ws.map V.str) = decide (x ∈ ws) := by
  unfold inV
  rw [List.any_map, Bool.eq_iff_iff, List.any_eq_true, decide_eq_true_eq]
  constructor
  · rintro ⟨y, hy, e⟩
    have e : y = x := of_decide_eq_true e
    exact e ▸ hy
  · intro h
    exact ⟨x, h, decide_eq_true rfl⟩
/-- the k-th name that is tried -/
def nm (c k : Nat) : Str := ⟨#[c, 97 + k / 26, 97 + k % 26, 113]⟩
theorem nm_inj {c j k : Nat} (h : nm c j = nm c k) : j = k := by
  unfold nm at h
  simp only [Str.mk.injEq] at h
  have h := congrArg Array.toList h
  simp only [List.cons.injEq, true_and, and_true] at h
  omega
theorem pigeon : ∀ (n : Nat) (f : Nat → Str) (ws : List Str), (∀ j k, j < n → k < n → f j = f k → j = k) → (∀ j, j < n → f j ∈ ws) → n ≤ ws.length
  | 0, _, _, _, _ => Nat.zero_le _
  | n + 1, f, ws, inj, mem => by
    have h := pigeon n f (ws.erase (f n)) (fun j k a b e => inj j k (by omega) (by omega) e) fun j hj => by
      refine (List.mem_erase_of_ne fun e => ?_).mpr (mem j (by omega))
      have := inj j n (by omega) (by omega) e
      omega
    have hm := mem n (by omega)
    rw [List.length_erase_of_mem hm] at h
    have := List.length_pos_of_mem hm
    omega
end
end K24
set_option Elab.async false
set_option linter.all false
set_option autoImplicit false
set_option maxRecDepth 100000
set_option maxHeartbeats 2000000
namespace K24
open PySem PySem.Spec PyProof.Rows L2 Tl
open C8 (Cal pe_c)
theorem Deck.off {d l p : Addr} {H : Hp} (D : Deck H d l) (np : H p = none) : p ≠ d ∧ p ≠ l := by
  obtain ⟨_, _, _, h1, h2, _⟩ := D
  exact ⟨fun z => (by rw [z, h1] at np; cases np), fun z => (by rw [z, h2] at np; cases np)⟩
theorem Off.free {d l p : Addr} {H H' : Hp} (e : Off d l H H') (h1 : p ≠ d) (h2 : p ≠ l) (h : H' p = none) : H p = none := by
  cases q : H p with
  | none => rfl
  | some o => rw [e p o h1 h2 q] at h; cases h
theorem Off.mut {d l p : Addr} {H H' : Hp} {o : HO} (e : Off d l H H') (h : H p = none) : Off d l H (upd H' p o) := fun a u h1 h2 z => by
  rw [upd_ne (ne_of_none z h)]
  exact e a u h1 h2 z
theorem Deck.mut {d l p : Addr} {H : Hp} {o : HO} (D : Deck H d l) (h1 : p ≠ d) (h2 : p ≠ l) : Deck (upd H p o) d l := by
  obtain ⟨ns, m, t, k1, k2, k3⟩ := D
  exact ⟨ns, m, t, (upd_ne h1.symm).trans k1, (upd_ne h2.symm).trans k2, k3⟩
/-! ### concepts -/
def COk : C → Prop
  | .all => True
  | .non => True
  | .word x => isW x = true
  | .some r c => isW r = true ∧ COk c
  | .and a b => COk a ∧ COk b
def dep : C → Nat
  | .some _ c => dep c + 1
  | .and a b => Nat.max (dep a) (dep b) + 1
  | _ => 1
def nodes : C → Nat
  | .some _ c => nodes c + 1
  | .and a b => nodes a + nodes b + 1
  | _ => 1
theorem cal_false {P : Program} {w : World} {K : PySem.W.Frag} {mg : Str → Option Value} {base : Heap} {x : Str} {st : Stmt} {ps : List Str} (D : DefAt K mg x st) (hb : BindH x st ps) : Cal P w K mg base 0 x (fun _ _ _ _ => False) [] := by
  obtain ⟨f, fd, F, hm⟩ := D.ex
  exact ⟨f, fd, ps, [], ⟨fun _ _ _ _ z => z.elim, fun _ _ _ _ _ _ _ _ _ _ _ _ _ z => z.elim⟩, hm, F.kp, F.binds hb, .nil⟩
theorem erase_map {α β : Type} (f : α → β) : ∀ (l : List α) (k : Nat), (l.map f).eraseIdx k = (l.eraseIdx k).map f
  | [], _ => rfl
  | _ :: _, 0 => rfl
  | x :: l, k + 1 => by
    show f x :: (l.map f).eraseIdx k = f x :: (l.eraseIdx k).map f
    rw [erase_map f l k]
/-! ### shuffled words, vocabularies -/
/-- a tuple of words, apart from the deck -/
def Tw (K : PySem.W.Frag) (H : Hp) (d l b : Addr) (ws : List Str) : Prop := SqT K H b (ws.map V.str) ∧ b ≠ d ∧ b ≠ l ∧ ws.length ≤ 10 ∧ ∀ x ∈ ws, isW x = true
theorem Tw.st {K : PySem.W.Frag} {H H' : Hp} {d l b : Addr} {ws : List Str} (h : Tw K H d l b ws) (e : Stay H H') : Tw K H' d l b ws := ⟨e.tup h.1, h.2⟩
def spShuf (K : PySem.W.Frag) : Sp := fun vs H Q _ => ∃ (d l b : Addr) (ws : List Str), vs = [.ref d, .ref b] ∧ Deck H d l ∧ Tw K H d l b ws ∧ ws.Nodup ∧
  ∀ (p : Addr) (ys : List Str) (H' : Hp), H p = none → ys.Nodup → ys.length ≤ 10 → (∀ x ∈ ys, isW x = true) → p ≠ d → p ≠ l → Off d l H H' → Deck H' d l → H' p = some (.lst (ys.map V.str)) → Q (.ref p) H'
theorem isw_ok {x : Str} (h : isW x = true) : PyData.strOk x = true := by
  unfold isW at h
  simp only [Bool.and_eq_true, decide_eq_true_eq] at h
  exact lett_ok h.2.2.2
theorem ne_nil_strs (ys : List Str) : (!PyData.eqv (.list (ys.map PyData.str)) (.list [])) = !ys.isEmpty := by
  cases ys <;> simp [PyData.eqv, PyData.eqvAll]
theorem nd_step {xs ys : List Str} {k : Nat} (h : (xs ++ ys).Nodup) (hk : k < xs.length) : (xs.eraseIdx k ++ (ys ++ [xs[k]])).Nodup := by
  have p : (xs.eraseIdx k ++ (ys ++ [xs[k]])).Perm (xs ++ ys) := by
    have p1 : (xs[k] :: xs.eraseIdx k).Perm xs := by
      rw [List.eraseIdx_eq_take_drop_succ]
      have e : xs = xs.take k ++ (xs[k] :: xs.drop (k + 1)) := by rw [List.getElem_cons_drop, List.take_append_drop]
      exact (List.perm_middle (l₁ := xs.take k) (l₂ := xs.drop (k + 1)) (a := xs[k])).symm.trans (List.Perm.of_eq e.symm)
    have p2 : (xs.eraseIdx k ++ (ys ++ [xs[k]])).Perm (xs[k] :: (xs.eraseIdx k ++ ys)) := by
      rw [← List.append_assoc]
      exact List.perm_append_comm
    exact p2.trans (p1.append_right ys)
  exact p.nodup_iff.mpr h
section
variable {P : Program} {w : World} {K : PySem.W.Frag} {mg : Str → Option Value} {base : Heap}
theorem cLawShuffled (T : Txt K mg) : Cal P w K mg base 2 "_law_shuffled" (spShuf K) [] := by
  refine cal_of T.lawShuffled scLawShuffled (fun _ _ _ _ _ _ us hl => match us, hl with | [_, _], _ => rfl) (fun vs H Q E h => ?_) (fun f cdv A outer s H vs Q E hr h => ?_)
  · obtain ⟨d, l, b, ws, rfl, _⟩ := h
    rfl
  obtain ⟨d, l, b, ws, rfl, D, W, nd, q⟩ := h
  have hu64 := hr.units
  refine ⟨_, (pss_cons (ps_par (i := 2) (j := 3) rfl scLawShuffled.nd rfl rfl (by decide) rfl rfl (pa_cons (pe_callTy call_list_of (by rfl) T.list (by decide +kernel) (pa_cons (pv 1) pa_nil)) (pa_cons (pe_lst pa_nil) pa_nil)) rfl)
 (pss_cons (ps_while PassesOwn.never (pt_cmpR (op_neD hu64) (pv 2) (pe_lst pa_nil) (nomark _))
 (pss_one (ps_expr (pe_bm PySem.F.plainAttrs_list PySem.F.slot_list_append PySem.F.type_list_append mt_append (pv 3) (pa_cons (pe_bm PySem.F.plainAttrs_list PySem.F.slot_list_pop PySem.F.type_list_pop mt_popAt (pv 2) (pa_cons (pe_c (cLawDraw T) hr (by decide) rfl (pa_cons (pv 0) (pa_cons (pe_callB call_len_seq (by rfl) T.len (by decide +kernel) (pa_cons (pv 2) pa_nil)) pa_nil))) pa_nil)) pa_nil)))))
 (pss_one (ps_ret (pv 3))))), ?_⟩
  refine ⟨.ref b, rfl, b, _, rfl, .inr W.1, fun p np => ⟨Nat.zero_le _, fun f nf => ⟨_, _, rfl, ?_⟩⟩⟩
  have s1 := same_up (o := .lst (ws.map V.str)) np
  have s2 := same_add s1 (o := .lst []) nf
  have pf : p ≠ f := ne_of_none upd_same nf
  have nf0 := s1.free nf
  obtain ⟨pd, pl⟩ := D.off np
  obtain ⟨fd, fl⟩ := D.off nf0
  refine ⟨fun m σ X => ∃ (xs ys : List Str), σ = [some (.ref d), some (.ref b), some (.ref p), some (.ref f)] ∧ Off d l H X ∧ Deck X d l ∧ X p = some (.lst (xs.map V.str)) ∧ X f = some (.lst (ys.map V.str)) ∧ (xs ++ ys).Nodup ∧ (∀ x ∈ xs, isW x = true) ∧ (∀ y ∈ ys, isW y = true) ∧ xs.length = m ∧ m + ys.length ≤ 10,
    ⟨ws.length, ws, [], rfl, s2.off, D.same s2, (upd_ne pf).trans upd_same, upd_same, by rw [List.append_nil]; exact nd, W.2.2.2.2, fun x hx => (nomatch hx), rfl, by have := W.2.2.2.1; simpa using this⟩, ?_⟩
  rintro m σ X ⟨xs, ys, rfl, o1, D1, gp, gf, nxy, wx, wy, rfl, le⟩
  refine ⟨.ref p, rfl, Nat.zero_le _, fun z nz => ?_⟩
  have zp : p ≠ z := ne_of_none gp nz
  have zf : f ≠ z := ne_of_none gf nz
  have gp1 : upd X z (.lst []) p = some (.lst (xs.map V.str)) := (upd_ne zp).trans gp
  have gf1 : upd X z (.lst []) f = some (.lst (ys.map V.str)) := (upd_ne zf).trans gf
  have o2 := o1.trans (off_new (d := d) (l := l) (o := .lst []) nz)
  have D2 := D1.new nz (o := .lst [])
  refine ⟨.list (xs.map PyData.str), .list [], .lst (lst_of gp1) (dp_strs xs), .lst (lst_of upd_same) .nil, shaped_strs xs fun y hy => isw_ok (wx y hy), shaped_nil, _, rfl, ?_⟩
  rw [ne_nil_strs]
  generalize upd X z (.lst []) = X2 at gp1 gf1 o2 D2 ⊢
  cases xs with
  | nil => exact iteF ⟨_, rfl, q f ys X2 nf0 (by simpa using nxy) (by simpa using le) wy fd fl o2 D2 gf1⟩
  | cons x0 xr =>
    refine iteT ⟨fun σ' X' => ∃ m', m' < (x0 :: xr).length ∧ ∃ (xs ys : List Str), σ' = [some (.ref d), some (.ref b), some (.ref p), some (.ref f)] ∧ Off d l H X' ∧ Deck X' d l ∧ X' p = some (.lst (xs.map V.str)) ∧ X' f = some (.lst (ys.map V.str)) ∧ (xs ++ ys).Nodup ∧ (∀ x ∈ xs, isW x = true) ∧ (∀ y ∈ ys, isW y = true) ∧ xs.length = m' ∧ m' + ys.length ≤ 10, fun _ _ z => z, ?_⟩
    generalize hxs : x0 :: xr = xs at gp1 wx le nxy
    have pos : 0 < xs.length := by rw [← hxs]; exact Nat.succ_pos _
    refine ⟨.ref f, rfl, .inl ⟨rfl, _, lst_of gf1⟩, .ref p, rfl, .inl ⟨rfl, _, lst_of gp1⟩, .ref d, rfl, .ref p, rfl, p, _, rfl, .inl (lst_of gp1), d, l, _, rfl, D2, by rw [List.length_map]; omega, by rw [List.length_map]; omega, fun i X3 i0 i1 o3 D3 => ?_⟩
    rw [List.length_map] at i1
    have gp3 := o3 p _ pd pl gp1
    have gf3 := o3 f _ fd fl gf1
    obtain ⟨k, rfl⟩ : ∃ k : Nat, i = (k : Int) := ⟨i.toNat, by omega⟩
    have hk : k < xs.length := by omega
    refine ⟨p, _, _, k, .str xs[k], rfl, rfl, gp3, by omega, by omega, ?_, by rw [List.getElem?_map, List.getElem?_eq_getElem hk]; rfl, ?_⟩
    · unfold seqIndex?
      rw [List.length_map]
      have h1 : ¬ ((k : Int) < 0) := by omega
      have h2 : ((k : Int) < (xs.length : Int)) := by omega
      simp [h1, h2, hk]
    · have gf4 : upd X3 p (.lst ((xs.map V.str).eraseIdx k)) f = some (.lst (ys.map V.str)) := (upd_ne pf.symm).trans gf3
      refine ⟨f, _, _, rfl, rfl, gf4, by rw [List.length_map]; exact Nat.lt_of_lt_of_le (show ys.length < 100 by omega) (by decide), ?_⟩
      refine ⟨(xs.eraseIdx k).length, by rw [List.length_eraseIdx_of_lt hk]; omega, xs.eraseIdx k, ys ++ [xs[k]], rfl, ((o2.trans o3).mut np).mut nf0, (D3.mut pd pl).mut fd fl, ?_, ?_, nd_step nxy hk, fun y hy => wx y (List.mem_of_mem_eraseIdx hy), fun y hy => ?_, rfl, by rw [List.length_eraseIdx_of_lt hk, List.length_append, List.length_singleton]; omega⟩
      · rw [upd_ne pf, upd_same, erase_map]
      · rw [upd_same, List.map_append]
        rfl
      · rcases List.mem_append.mp hy with hy | hy
        · exact wy y hy
        · rw [List.mem_singleton.mp hy]
          exact wx _ (List.getElem_mem hk)
theorem cut_strs (ys : List Str) (hi : Option Int) : ∃ zs : List Str, cutV (ys.map V.str) none hi = zs.map V.str ∧ zs.length ≤ ys.length ∧ (ys.Nodup → zs.Nodup) ∧ ∀ z ∈ zs, z ∈ ys := by
  unfold cutV
  refine ⟨(ys.drop (HT.sIx (ys.map V.str).length 0 none)).take (HT.sIx (ys.map V.str).length (ys.map V.str).length hi - HT.sIx (ys.map V.str).length 0 none), ?_, ?_, fun n => ((List.take_sublist _ _).trans (List.drop_sublist _ _)).nodup n, fun z hz => List.mem_of_mem_drop (List.mem_of_mem_take hz)⟩
  · rw [List.map_take, List.map_drop]
  · rw [List.length_take, List.length_drop]
    omega
/-- a vocabulary, apart from the deck -/
def Voc (K : PySem.W.Frag) (H : Hp) (d l : Addr) (v : V) (ns rs : List Str) : Prop := (sortedS ns = true ∧ ns.Nodup) ∧ (sortedS rs = true ∧ rs.Nodup) ∧ ∃ a n r, v = .ref a ∧ SqT K H a [.ref n, .ref r] ∧ Tw K H d l n ns ∧ Tw K H d l r rs
theorem Voc.st {K : PySem.W.Frag} {H H' : Hp} {d l : Addr} {v : V} {ns rs : List Str} (h : Voc K H d l v ns rs) (e : Stay H H') : Voc K H' d l v ns rs := by
  obtain ⟨o1, o2, a, n, r, h1, h2, h3, h4⟩ := h
  exact ⟨o1, o2, a, n, r, h1, e.tup h2, h3.st e, h4.st e⟩
def spVoc (K : PySem.W.Frag) : Sp := fun vs H Q _ => ∃ (d l : Addr), vs = [.ref d] ∧ Deck H d l ∧
  ∀ (v : V) (ns rs : List Str) (H' : Hp), Voc K H' d l v ns rs → Off d l H H' → Deck H' d l → Q v H'
/-- sorted(shuffled(deck, ws)[:pick(deck, is)]), for one of its two uses -/
theorem words_ok {ws : List Str} (h : (ws.all fun x => isW x) = true) : ∀ x ∈ ws, isW x = true := fun x m => List.all_eq_true.mp h x m
theorem cLawVocabulary (T : Txt K mg) : Cal P w K mg base 3 "_law_vocabulary" (spVoc K) [] := by
  refine cal_of T.lawVocabulary scLawVocabulary (fun _ _ _ _ _ _ us hl => match us, hl with | [_], _ => rfl) (fun vs H Q E h => ?_) (fun f cdv A outer s H vs Q E hr h => ?_)
  · obtain ⟨d, l, rfl, _⟩ := h
    rfl
  obtain ⟨d, l, rfl, D, q⟩ := h
  refine ⟨_, (pss_cons (ps_set (i := 1) scLawVocabulary.nd rfl (.inl rfl) (pe_callB cr_sortedS (by rfl) T.sorted (by decide +kernel) (pa_cons (pe_slice sl_list (pe_c (cLawShuffled T) hr (by decide) rfl (pa_cons (pv 0) (pa_cons (pe_tup (pa_cons pe_str (pa_cons pe_str (pa_cons pe_str (pa_cons pe_str pa_nil))))) pa_nil))) po_none (po_some (pe_c (cLawPick T) hr (by decide) rfl (pa_cons (pv 0) (pa_cons (pe_tup (pa_cons pe_int (pa_cons pe_int (pa_cons pe_int (pa_cons pe_int (pa_cons pe_int pa_nil)))))) pa_nil))))) pa_nil)))
 (pss_one (ps_ret (pe_tup (pa_cons (pe_callTy call_tuple_of (by rfl) T.tuple (by decide +kernel) (pa_cons (pv 1) pa_nil)) (pa_cons (pe_callTy call_tuple_of (by rfl) T.tuple (by decide +kernel) (pa_cons (pe_callB cr_sortedS (by rfl) T.sorted (by decide +kernel) (pa_cons (pe_slice sl_list (pe_c (cLawShuffled T) hr (by decide) rfl (pa_cons (pv 0) (pa_cons (pe_tup (pa_cons pe_str (pa_cons pe_str (pa_cons pe_str pa_nil)))) pa_nil))) po_none (po_some (pe_c (cLawPick T) hr (by decide) rfl (pa_cons (pv 0) (pa_cons (pe_tup (pa_cons pe_int (pa_cons pe_int (pa_cons pe_int (pa_cons pe_int (pa_cons pe_int pa_nil)))))) pa_nil))))) pa_nil)) pa_nil)) pa_nil)))))), ?_⟩
  -- the names
  refine ⟨.ref d, rfl, by show 4 ≤ sizeLine; decide, fun t nt => ?_⟩
  have D1 := D.new nt (o := .tup [.str "a", .str "b", .str "cc", .str "zz"])
  obtain ⟨td, tl⟩ := D.off nt
  refine ⟨d, l, t, ["a", "b", "cc", "zz"], rfl, D1, ⟨tupOf upd_same, td, tl, by decide, words_ok (by decide +kernel)⟩, by decide +kernel, fun p ys H2 np nd1 ly wy pd pl o2 D2 g2 => ?_⟩
  refine ⟨.ref d, rfl, by show 5 ≤ sizeLine; decide, fun t2 nt2 => ?_⟩
  obtain ⟨t2d, t2l⟩ := D2.off nt2
  refine ⟨d, l, t2, _, rfl, D2.new nt2, .inr (tupOf upd_same), t2d, t2l, by simp, by simp, fun x H3 hx o3 D3 => ?_⟩
  obtain ⟨i, rfl⟩ : ∃ i : Int, x = .int i := by
    simp only [List.mem_cons, List.not_mem_nil, or_false] at hx
    rcases hx with rfl | rfl | rfl | rfl | rfl <;> exact ⟨_, rfl⟩
  have g3 : H3 p = some (.lst (ys.map V.str)) := o3 p _ pd pl ((upd_ne (ne_of_none g2 nt2)).trans g2)
  have oA : Off d l H H3 := ((off_new nt).trans o2).trans ((off_new nt2).trans o3)
  refine ⟨i, rfl, p, _, rfl, lst_of g3, fun c nc => ?_⟩
  obtain ⟨zs, ez, lz, nz, mz⟩ := cut_strs ys (some i)
  rw [ez]
  have D4 := D3.new nc (o := .lst (zs.map V.str))
  have o4 := oA.trans (off_new (d := d) (l := l) (o := .lst (zs.map V.str)) nc)
  refine ⟨c, zs, rfl, lst_of upd_same, by omega, fun us p2 perm srt np2 => ?_⟩
  have lu : us.length ≤ 10 := by rw [perm.length_eq]; omega
  have wu : ∀ x ∈ us, isW x = true := fun x m => wy x (mz x (perm.mem_iff.mp m))
  have D5 := D4.new np2 (o := .lst (us.map V.str))
  have o5 := o4.trans (off_new (d := d) (l := l) (o := .lst (us.map V.str)) np2)
  generalize hX : upd (upd H3 c (.lst (zs.map V.str))) p2 (.lst (us.map V.str)) = X at D5 o5 ⊢
  have gX : X p2 = some (.lst (us.map V.str)) := by rw [← hX]; exact upd_same
  -- the two tuples
  refine ⟨.ref p2, rfl, p2, _, rfl, .inl ⟨lst_of gX, fun n nn => ?_⟩⟩
  have D6 := D5.new nn (o := .tup (us.map V.str))
  have o6 := o5.trans (off_new (d := d) (l := l) (o := .tup (us.map V.str)) nn)
  obtain ⟨nd, nl⟩ := D5.off nn
  generalize hY : upd X n (.tup (us.map V.str)) = Y at D6 o6 ⊢
  have hn : Tw K Y d l n us := ⟨by rw [← hY]; exact tupOf upd_same, nd, nl, lu, wu⟩
  refine ⟨.ref d, rfl, by show 3 ≤ sizeLine; decide, fun t3 nt3 => ?_⟩
  obtain ⟨t3d, t3l⟩ := D6.off nt3
  refine ⟨d, l, t3, ["r", "s", "tt"], rfl, D6.new nt3, ⟨tupOf upd_same, t3d, t3l, by decide, words_ok (by decide +kernel)⟩, by decide +kernel, fun p3 ys3 H7 np3 nd3 ly3 wy3 p3d p3l o7 D7 g7 => ?_⟩
  refine ⟨.ref d, rfl, by show 5 ≤ sizeLine; decide, fun t4 nt4 => ?_⟩
  obtain ⟨t4d, t4l⟩ := D7.off nt4
  refine ⟨d, l, t4, _, rfl, D7.new nt4, .inr (tupOf upd_same), t4d, t4l, by simp, by simp, fun x H8 hx o8 D8 => ?_⟩
  obtain ⟨j, rfl⟩ : ∃ i : Int, x = .int i := by
    simp only [List.mem_cons, List.not_mem_nil, or_false] at hx
    rcases hx with rfl | rfl | rfl | rfl | rfl <;> exact ⟨_, rfl⟩
  have g8 : H8 p3 = some (.lst (ys3.map V.str)) := o8 p3 _ p3d p3l ((upd_ne (ne_of_none g7 nt4)).trans g7)
  have oB : Off d l Y H8 := ((off_new nt3).trans o7).trans ((off_new nt4).trans o8)
  refine ⟨j, rfl, p3, _, rfl, lst_of g8, fun c2 nc2 => ?_⟩
  obtain ⟨zs3, ez3, lz3, nz3, mz3⟩ := cut_strs ys3 (some j)
  rw [ez3]
  refine ⟨c2, zs3, rfl, lst_of upd_same, by omega, fun vs p4 perm4 srt4 np4 => ?_⟩
  have lv : vs.length ≤ 10 := by rw [perm4.length_eq]; omega
  have wv : ∀ x ∈ vs, isW x = true := fun x m => wy3 x (mz3 x (perm4.mem_iff.mp m))
  have D9 := (D8.new nc2 (o := .lst (zs3.map V.str))).new np4 (o := .lst (vs.map V.str))
  have oC := (oB.trans (off_new (d := d) (l := l) (o := .lst (zs3.map V.str)) nc2)).trans (off_new (d := d) (l := l) (o := .lst (vs.map V.str)) np4)
  generalize hZ : upd (upd H8 c2 (.lst (zs3.map V.str))) p4 (.lst (vs.map V.str)) = Z at D9 oC ⊢
  have gZ : Z p4 = some (.lst (vs.map V.str)) := by rw [← hZ]; exact upd_same
  refine ⟨p4, _, rfl, .inl ⟨lst_of gZ, fun r nr => ⟨by show 2 ≤ sizeLine; decide, fun a na => ?_⟩⟩⟩
  obtain ⟨rd, rl⟩ := D9.off nr
  have sZ : L2.Same Z (upd (upd Z r (.tup (vs.map V.str))) a (.tup [.ref n, .ref r])) := same_add (same_up nr) na
  refine q _ us vs _ ⟨⟨srt, perm.nodup_iff.mpr (nz nd1)⟩, ⟨srt4, perm4.nodup_iff.mpr (nz3 nd3)⟩, a, n, r, rfl, tupOf upd_same, hn.st ((oC.stay D6).trans (Tl.Same.stay sZ)), ⟨tupOf ?_, rd, rl, lv, wv⟩⟩ ((o6.trans oC).trans sZ.off) (D9.same sZ)
  exact (upd_ne (ne_of_none upd_same na)).trans upd_same
end
end K24
set_option Elab.async false
set_option linter.all false
set_option autoImplicit false
set_option maxRecDepth 100000
set_option maxHeartbeats 2000000
namespace K24
open PySem PySem.Spec PyProof.Rows L2 Tl
open C8 (Cal pe_c)
/-! ### worlds -/
structure Wd where
  many : Int
  names : List (Str × List Int)
  roles : List (Str × List (Int × Int))
def PrE (K : PySem.W.Frag) (H : Hp) (q : Addr) (e : Int × Int) : Prop := SqT K H q [.int e.1, .int e.2]
def Prs (K : PySem.W.Frag) (H : Hp) (t : Addr) (es : List (Int × Int)) : Prop := ∃ qs : List Addr, SqT K H t (qs.map V.ref) ∧ Paired (PrE K H) qs es
def NmE (K : PySem.W.Frag) (H : Hp) (p : Addr) (e : Str × List Int) : Prop := ∃ t, SqT K H p [.str e.1, .ref t] ∧ SqT K H t (e.2.map V.int)
def RlE (K : PySem.W.Frag) (H : Hp) (p : Addr) (e : Str × List (Int × Int)) : Prop := ∃ t, SqT K H p [.str e.1, .ref t] ∧ Prs K H t e.2
def Frz (H : Hp) (a : Addr) (ps : List Addr) : Prop := ∃ o : Obj, H a = some (.frz o (.tup (ps.map V.ref))) ∧ o.dict = none
def Names (K : PySem.W.Frag) (H : Hp) (a : Addr) (nm : List (Str × List Int)) : Prop := ∃ ps, Frz H a ps ∧ Paired (NmE K H) ps nm
def Roles (K : PySem.W.Frag) (H : Hp) (a : Addr) (rl : List (Str × List (Int × Int))) : Prop := ∃ ps, Frz H a ps ∧ Paired (RlE K H) ps rl
def IsWd (K : PySem.W.Frag) (H : Hp) (v : V) (W : Wd) : Prop := ∃ a n r, v = .ref a ∧ SqT K H a [.int W.many, .ref n, .ref r] ∧ Names K H n W.names ∧ Roles K H r W.roles
section
variable {K : PySem.W.Frag} {H H' : Hp}
theorem pre_st {q : Addr} {e : Int × Int} (s : Stay H H') (h : PrE K H q e) : PrE K H' q e := s.tup h
theorem prs_st {t : Addr} {es : List (Int × Int)} (s : Stay H H') (h : Prs K H t es) : Prs K H' t es := by
  obtain ⟨qs, h1, h2⟩ := h
  exact ⟨qs, s.tup h1, Paired.mapP h2 fun _ _ z => pre_st s z⟩
theorem nme_st {p : Addr} {e : Str × List Int} (s : Stay H H') (h : NmE K H p e) : NmE K H' p e := by
  obtain ⟨t, h1, h2⟩ := h
  exact ⟨t, s.tup h1, s.tup h2⟩
theorem rle_st {p : Addr} {e : Str × List (Int × Int)} (s : Stay H H') (h : RlE K H p e) : RlE K H' p e := by
  obtain ⟨t, h1, h2⟩ := h
  exact ⟨t, s.tup h1, prs_st s h2⟩
theorem frz_st {a : Addr} {ps : List Addr} (s : Stay H H') (h : Frz H a ps) : Frz H' a ps := by
  obtain ⟨o, h1, h2⟩ := h
  exact ⟨o, s.frz h1, h2⟩
theorem names_st {a : Addr} {nm : List (Str × List Int)} (s : Stay H H') (h : Names K H a nm) : Names K H' a nm := by
  obtain ⟨ps, h1, h2⟩ := h
  exact ⟨ps, frz_st s h1, Paired.mapP h2 fun _ _ z => nme_st s z⟩
theorem roles_st {a : Addr} {rl : List (Str × List (Int × Int))} (s : Stay H H') (h : Roles K H a rl) : Roles K H' a rl := by
  obtain ⟨ps, h1, h2⟩ := h
  exact ⟨ps, frz_st s h1, Paired.mapP h2 fun _ _ z => rle_st s z⟩
theorem iswd_st {v : V} {W : Wd} (s : Stay H H') (h : IsWd K H v W) : IsWd K H' v W := by
  obtain ⟨a, n, r, h1, h2, h3, h4⟩ := h
  exact ⟨a, n, r, h1, s.tup h2, names_st s h3, roles_st s h4⟩
end
theorem snoc {α β : Type} {F : α → β → Prop} : ∀ {xs : List α} {ys : List β} {x : α} {y : β}, Paired F xs ys → F x y → Paired F (xs ++ [x]) (ys ++ [y])
  | _, _, _, _, .nil, h => .cons h .nil
  | _, _, _, _, .cons r t, h => .cons r (snoc t h)
theorem joinP {α β : Type} {F : α → β → Prop} : ∀ {xs xs' : List α} {ys ys' : List β}, Paired F xs ys → Paired F xs' ys' → Paired F (xs ++ xs') (ys ++ ys')
  | _, _, _, _, .nil, h => h
  | _, _, _, _, .cons r t, h => .cons r (joinP t h)
theorem getP {α β : Type} {F : α → β → Prop} : ∀ {xs : List α} {ys : List β} {i : Nat} {x : α}, Paired F xs ys → xs[i]? = some x → ∃ y, ys[i]? = some y ∧ F x y
  | _ :: _, _ :: _, 0, _, .cons r _, h => ⟨_, rfl, by cases h; exact r⟩
  | _ :: _, _ :: _, i + 1, _, .cons _ t, h => getP (i := i) t h
def Lex (e f : Int × Int) : Prop := e.1 < f.1 ∨ (e.1 = f.1 ∧ e.2 < f.2)
def sl (x y : Str) : Prop := x.cps.toList < y.cps.toList
def GoodN (many : Int) (xs : List Int) : Prop := xs ≠ [] ∧ xs.Pairwise (· < ·) ∧ ∀ x ∈ xs, 0 ≤ x ∧ x < many
def GoodR (many : Int) (es : List (Int × Int)) : Prop := es ≠ [] ∧ es.Pairwise Lex ∧ ∀ e ∈ es, (0 ≤ e.1 ∧ e.1 < many) ∧ 0 ≤ e.2 ∧ e.2 < many
structure WOk (W : Wd) : Prop where
  many : 1 ≤ W.many ∧ W.many ≤ 6
  names : (W.names.map (·.1)).Pairwise sl ∧ (∀ e ∈ W.names, isW e.1 = true ∧ GoodN W.many e.2) ∧ W.names.length ≤ 50
  roles : (W.roles.map (·.1)).Pairwise sl ∧ (∀ e ∈ W.roles, isW e.1 = true ∧ GoodR W.many e.2) ∧ W.roles.length ≤ 50
theorem sl_of {x y : Str} (h : ¬ sl y x) (n : x ≠ y) : sl x y := by
  unfold sl at *
  have h1 : x.cps.toList ≤ y.cps.toList := List.not_lt.mp h
  rcases List.le_iff_lt_or_eq.mp h1 with h2 | h2
  · exact h2
  · exact absurd (str_ext h2) n
theorem sl_trans {x y z : Str} (a : sl x y) (b : sl y z) : sl x z := List.lt_trans a b
theorem rising_sl : ∀ (p : Str) (ws : List Str), risingS p ws = true → (p :: ws).Nodup → (p :: ws).Pairwise sl
  | p, [], _, _ => List.pairwise_singleton _ _
  | p, x :: r, h, n => by
    simp only [risingS, Bool.and_eq_true, Bool.not_eq_true', ltCps_eq, decide_eq_false_iff_not] at h
    have hpx : sl p x := sl_of h.1 fun e => by
      rw [e] at n
      exact (List.nodup_cons.mp n).1 List.mem_cons_self
    have ih := rising_sl x r h.2 (List.nodup_cons.mp n).2
    rw [List.pairwise_cons]
    refine ⟨fun y hy => ?_, ih⟩
    rcases List.mem_cons.mp hy with rfl | hy
    · exact hpx
    · exact sl_trans hpx ((List.pairwise_cons.mp ih).1 y hy)
theorem sorted_sl {ws : List Str} (h : sortedS ws = true) (n : ws.Nodup) : ws.Pairwise sl := by
  cases ws with
  | nil => exact List.Pairwise.nil
  | cons x r => exact rising_sl x r h n
/-! ### data of a world's parts -/
section
variable {K : PySem.W.Frag} {H : Hp}
theorem dts_ints : ∀ ns : List Int, Dts K H (ns.map V.int) (ns.map PyData.int)
  | [] => .nil
  | n :: ns => .cons (.int n) (dts_ints ns)
def prD (e : Int × Int) : PyData := .tuple [.int e.1, .int e.2]
theorem dts_prs {qs : List Addr} {es : List (Int × Int)} (h : Paired (PrE K H) qs es) : Dts K H (qs.map V.ref) (es.map prD) := by
  induction h with
  | nil => exact .nil
  | cons r _ ih => exact .cons (.tup r (.cons (.int _) (.cons (.int _) .nil))) ih
theorem canLay_prs : ∀ es : List (Int × Int), PyData.canLayAll0 (es.map prD) = true
  | [] => by simp [PyData.canLayAll0]
  | e :: es => by simp [PyData.canLayAll0, PyData.canLay0, prD, canLay_prs es]
theorem depth_prs : ∀ es : List (Int × Int), PyData.depthAll (es.map prD) ≤ 1
  | [] => by simp [PyData.depthAll]
  | e :: es => by
    have := depth_prs es
    simp [PyData.depthAll, PyData.depth, prD]
    omega
theorem shaped_prs (es : List (Int × Int)) : SeqAt.shaped (.list (es.map prD)) = true := by
  have := depth_prs es
  simp [SeqAt.shaped, PyData.canLay0, PyData.depth, canLay_prs]
  omega
theorem shaped_tints (ns : List Int) : SeqAt.shaped (.tuple (ns.map PyData.int)) = true := by
  simp [SeqAt.shaped, PyData.canLay0, PyData.depth, canLay_ints, depth_ints]
theorem shaped_tnil : SeqAt.shaped (.tuple []) = true := shaped_tints []
end
end K24
set_option Elab.async false
set_option linter.all false
set_option autoImplicit false
set_option maxRecDepth 100000
set_option maxHeartbeats 4000000
namespace K24
open PySem PySem.Spec PyProof.Rows L2 Tl
open C8 (Cal pe_c)
theorem asc_snoc {xs : List Int} {i : Int} (h : xs.Pairwise (· < ·)) (b : ∀ x ∈ xs, x < i) : (xs ++ [i]).Pairwise (· < ·) := by
  rw [List.pairwise_append]
  refine ⟨h, List.pairwise_singleton _ _, fun a ha c hc => ?_⟩
  rw [List.mem_singleton.mp hc]
  exact b a ha
theorem tint_ne (xs : List Int) : (!PyData.eqv (.tuple (xs.map PyData.int)) (.tuple [])) = !xs.isEmpty := by
  cases xs <;> simp [PyData.eqv, PyData.eqvAll]
theorem lpr_ne (es : List (Int × Int)) : (!PyData.eqv (.list (es.map prD)) (.list [])) = !es.isEmpty := by
  cases es <;> simp [PyData.eqv, PyData.eqvAll]
theorem lex_join {es : List (Int × Int)} {xs : List Int} {j : Int} (h : es.Pairwise Lex) (b : ∀ e ∈ es, e.1 < j) (a : xs.Pairwise (· < ·)) : (es ++ xs.map fun y => (j, y)).Pairwise Lex := by
  rw [List.pairwise_append]
  refine ⟨h, ?_, fun e he f hf => ?_⟩
  · rw [List.pairwise_map]
    exact a.imp fun z => .inr ⟨rfl, z⟩
  · obtain ⟨y, _, rfl⟩ := List.mem_map.mp hf
    exact .inl (b e he)
section
variable {P : Program} {w : World} {K : PySem.W.Frag} {mg : Str → Option Value} {base : Heap}
def spWorld (K : PySem.W.Frag) : Sp := fun vs H Q _ => ∃ (d l : Addr) (m : Int), vs = [.ref d, .int m] ∧ Deck H d l ∧ 1 ≤ m ∧ m ≤ 6 ∧
  ∀ (v : V) (W : Wd) (H' : Hp), IsWd K H' v W → WOk W → W.names.length ≤ 40 → Off d l H H' → Deck H' d l → Q v H'
abbrev wsN : List Str := ["a", "b", "cc"]
abbrev wsR : List Str := ["r", "s"]
theorem wsN_sl : wsN.Pairwise sl := by
  unfold sl
  decide +kernel
theorem wsR_sl : wsR.Pairwise sl := by
  unfold sl
  decide +kernel
theorem Off.tup {d l a : Addr} {H H' : Hp} {xs : List V} (e : Off d l H H') (D : Deck H d l) (h : SqT K H a xs) : SqT K H' a xs := (e.stay D).tup h
theorem cLawWorld (T : Txt K mg) : Cal P w K mg base 3 "_law_world" (spWorld K) [] := by
  refine cal_of T.lawWorld scLawWorld (fun _ _ _ _ _ _ us hl => match us, hl with | [_, _], _ => rfl) (fun vs H Q E h => ?_) (fun f cdv A outer s H vs Q E hr h => ?_)
  · obtain ⟨d, l, m, rfl, _⟩ := h
    rfl
  obtain ⟨d, l, m, rfl, D, m1, m6, q⟩ := h
  have hu64 := hr.units
  refine ⟨_, (pss_cons (ps_asg (pe_tup (pa_cons (pe_op op_add pe_int (pe_c (cLawDraw T) hr (by decide) rfl (pa_cons (pv 0) (pa_cons (pv 1) pa_nil)))) (pa_cons (pe_c (cLawPick T) hr (by decide) rfl (pa_cons (pv 0) (pa_cons (pe_tup (pa_cons pe_int (pa_cons pe_int (pa_cons pe_int (pa_cons pe_int pa_nil))))) pa_nil))) (pa_cons (pe_lst pa_nil) (pa_cons (pe_lst pa_nil) pa_nil))))) (pg_tup rfl (pgs_cons (pg_name (i := 2) scLawWorld.nd rfl (.inl rfl)) (pgs_cons (pg_name (i := 3) scLawWorld.nd rfl (.inr rfl)) (pgs_cons (pg_name (i := 4) scLawWorld.nd rfl (.inl rfl)) (pgs_cons (pg_name (i := 5) scLawWorld.nd rfl (.inl rfl)) pgs_nil))))))
 (C8.pss_cut (ps_for PassesOwn.never rfl (pi_tup (pe_tup (pa_cons pe_str (pa_cons pe_str (pa_cons pe_str pa_nil))))) (pg_name (i := 6) scLawWorld.nd rfl (.inl rfl))
 (pss_cons (ps_set (i := 7) scLawWorld.nd rfl (.inl rfl) (pe_callTy call_tuple_of (by rfl) T.tuple (by decide +kernel) (pa_cons (pe_lc (own := [("x", 8)]) (by rfl) scLawWorld.nd (pi_range1 rfl T.range (pa_cons (pv 2) pa_nil)) (blkOk_by (own := [("x", 8)]) (N := ["deck", "most", "many", "often", "names", "roles", "name", "things", "x", "role", "pairs", "y"]) (sc := defScope sLawWorld) (by decide +kernel)) (fun _ _ _ _ _ => (pg_name (i := 8) scLawWorld.nd rfl (.inl rfl))) (fun _ _ _ _ _ => pts_one (pt_cmpR op_eq (pe_c (cLawDraw T) hr (by decide) rfl (pa_cons (pv 0) (pa_cons pe_int pa_nil))) pe_int (nomark _))) (fun _ _ _ _ _ => (pv 8))) pa_nil)))
 (pss_one (ps_if (pt_cmpR (op_neD hu64) (pv 7) (pe_tup pa_nil) (nomark _))
 (pss_one (ps_expr (pe_bm PySem.F.plainAttrs_list PySem.F.slot_list_append PySem.F.type_list_append mt_append (pv 4) (pa_cons (pe_tup (pa_cons (pv 6) (pa_cons (pv 7) pa_nil))) pa_nil))))
 pss_nil))))
 (pss_cons (ps_for PassesOwn.never rfl (pi_tup (pe_tup (pa_cons pe_str (pa_cons pe_str pa_nil)))) (pg_name (i := 9) scLawWorld.nd rfl (.inl rfl))
 (pss_cons (ps_set (i := 10) scLawWorld.nd rfl (.inl rfl) (pe_lst pa_nil))
 (C8.pss_cut (ps_for PassesOwn.never rfl (pi_range1 rfl T.range (pa_cons (pv 2) pa_nil)) (pg_name (i := 8) scLawWorld.nd rfl (.inr rfl))
 (pss_one (ps_expr (pe_bm PySem.F.plainAttrs_list PySem.F.slot_list_extend PySem.F.type_list_extend mt_extend (pv 10) (pa_cons (pe_lc (own := [("y", 11)]) (by rfl) scLawWorld.nd (pi_range1 rfl T.range (pa_cons (pv 2) pa_nil)) (blkOk_by (own := [("y", 11)]) (N := ["deck", "most", "many", "often", "names", "roles", "name", "things", "x", "role", "pairs", "y"]) (sc := defScope sLawWorld) (by decide +kernel)) (fun _ _ _ _ _ => (pg_name (i := 11) scLawWorld.nd rfl (.inl rfl))) (fun _ _ _ _ _ => pts_one (pt_cmpR op_eq (pe_c (cLawDraw T) hr (by decide) rfl (pa_cons (pv 0) (pa_cons (pv 3) pa_nil))) pe_int (nomark _))) (fun _ _ _ _ _ => (pe_tup (pa_cons (pv 8) (pa_cons (pv 11) pa_nil))))) pa_nil)))))
 (pss_one (ps_if (PW.pt (pw_and (pt_cmpR (op_neD hu64) (pv 10) (pe_lst pa_nil) (nomark _)) (pw_and1 (pt_cmpR op_gt (pe_c (cLawDraw T) hr (by decide) rfl (pa_cons (pv 0) (pa_cons pe_int pa_nil))) pe_int (nomark _)))))
 (pss_one (ps_expr (pe_bm PySem.F.plainAttrs_list PySem.F.slot_list_append PySem.F.type_list_append mt_append (pv 5) (pa_cons (pe_tup (pa_cons (pv 9) (pa_cons (pe_callTy call_tuple_of (by rfl) T.tuple (by decide +kernel) (pa_cons (pv 10) pa_nil)) pa_nil))) pa_nil))))
 pss_nil)))))
 (pss_one (ps_ret (pe_tup (pa_cons (pv 2) (pa_cons (pe_callTy cr_tupF (by rfl) T.tuple (by decide +kernel) (pa_cons (pv 4) pa_nil)) (pa_cons (pe_callTy cr_tupF (by rfl) T.tuple (by decide +kernel) (pa_cons (pv 5) pa_nil)) pa_nil))))))))), ?_⟩
  -- many, often, names, roles
  refine ⟨.ref d, rfl, .int m, rfl, d, l, m, rfl, D, by omega, by omega, fun k G1 k0 k1 o1 D1 => ⟨1, k, rfl, rfl, ?_⟩⟩
  generalize hmany : (1 + k : Int) = many
  have many1 : 1 ≤ many := by omega
  have many6 : many ≤ 6 := by omega
  refine ⟨.ref d, rfl, by show 4 ≤ sizeLine; decide, fun t1 nt1 => ?_⟩
  obtain ⟨t1d, t1l⟩ := D1.off nt1
  refine ⟨d, l, t1, _, rfl, D1.new nt1, .inr (tupOf upd_same), t1d, t1l, by simp, by simp, fun x G2 hx o2 D2 => ?_⟩
  obtain ⟨often, rfl, of0, of4⟩ : ∃ i : Int, x = .int i ∧ 0 < i ∧ i ≤ 4 := by
    simp only [List.mem_cons, List.not_mem_nil, or_false] at hx
    rcases hx with rfl | rfl | rfl | rfl <;> exact ⟨_, rfl, by decide, by decide⟩
  refine ⟨Nat.zero_le _, fun n nn => ⟨Nat.zero_le _, fun r nr => ⟨by show 4 ≤ sizeLine; decide, fun tt ntt => ⟨tt, _, rfl, tupOf upd_same, rfl, .int (1 + k), [.int often, .ref n, .ref r], rfl, .int often, [.ref n, .ref r], rfl, .ref n, [.ref r], rfl, .ref r, [], rfl, rfl, ?_⟩⟩⟩⟩
  have oA : Off d l H G2 := (o1.trans (off_new nt1)).trans o2
  have s1 := same_up (o := .lst []) nn
  have s2 := same_add s1 (o := .lst []) nr
  have s3 := same_add s2 (o := .tup [.int (1 + k), .int often, .ref n, .ref r]) ntt
  have r2 : G2 r = none := s1.free nr
  obtain ⟨nd, nl⟩ := D2.off nn
  obtain ⟨rd, rl⟩ := D2.off r2
  have n0 : H n = none := oA.free nd nl nn
  have r0 : H r = none := oA.free rd rl r2
  have nr_ne : n ≠ r := ne_of_none (o := .lst []) upd_same nr
  have gn0 : upd (upd (upd G2 n (.lst [])) r (.lst [])) tt (.tup [.int (1 + k), .int often, .ref n, .ref r]) n = some (.lst []) := (same_up ntt) _ _ ((upd_ne nr_ne).trans upd_same)
  have gr0 : upd (upd (upd G2 n (.lst [])) r (.lst [])) tt (.tup [.int (1 + k), .int often, .ref n, .ref r]) r = some (.lst []) := (same_up ntt) _ _ upd_same
  have oB := oA.trans s3.off
  have DB := D2.same s3
  generalize upd (upd (upd G2 n (.lst [])) r (.lst [])) tt (.tup [.int (1 + k), .int often, .ref n, .ref r]) = G3 at gn0 gr0 oB DB ⊢
  clear s1 s2 s3 oA o1 o2 D1 D2 nt1 ntt nn nr r2
  -- for name in ('a', 'b', 'cc')
  refine ⟨fun σ G => ∃ (nps : List Addr) (nm : List (Str × List Int)) (t6 t7 t8 t9 t10 t11 : Option V), σ = [some (.ref d), some (.int m), some (.int many), some (.int often), some (.ref n), some (.ref r), t6, t7, t8, t9, t10, t11] ∧
      Off d l H G ∧ Deck G d l ∧ G n = some (.lst (nps.map V.ref)) ∧ G r = some (.lst []) ∧ Paired (NmE K G) nps nm ∧ (nm.map (·.1)).Sublist wsN ∧ (∀ e ∈ nm, GoodN many e.2), ?_, ?_⟩
  · refine ⟨by show 3 ≤ sizeLine; decide, fun tn ntn => ⟨tn, rfl, ⟨_, tupOf upd_same⟩, ?_⟩⟩
    have sT := same_up (o := .tup [.str "a", .str "b", .str "cc"]) ntn
    refine for_tup (K := K) (a := tn) (xs := wsN.map V.str) (fun i σ G => ∃ (nps : List Addr) (nm : List (Str × List Int)) (t6 t7 t8 t9 t10 t11 : Option V), σ = [some (.ref d), some (.int m), some (.int many), some (.int often), some (.ref n), some (.ref r), t6, t7, t8, t9, t10, t11] ∧
        Off d l H G ∧ Deck G d l ∧ G n = some (.lst (nps.map V.ref)) ∧ G r = some (.lst []) ∧ SqT K G tn (wsN.map V.str) ∧ Paired (NmE K G) nps nm ∧ (nm.map (·.1)).Sublist (wsN.take i) ∧ (∀ e ∈ nm, GoodN many e.2))
      ⟨[], [], none, none, none, none, none, none, congrArg (fun z => [some (V.ref d), some (.int m), some (.int z), some (.int often), some (.ref n), some (.ref r), none, none, none, none, none, none]) hmany, oB.trans sT.off, DB.same sT, sT _ _ gn0, sT _ _ gr0, tupOf upd_same, .nil, .slnil, fun e he => nomatch he⟩
      (fun i σ G _ z => ?_) (fun i x σ G hx z => ?_) (fun σ G z => ?_)
    · obtain ⟨_, _, _, _, _, _, _, _, _, _, _, _, _, z, _⟩ := z
      exact z
    · obtain ⟨nps, nm, t6, t7, t8, t9, t10, t11, rfl, o3, D3, gn, gr, gt, hnm, snm, gdn⟩ := z
      obtain ⟨word, hw, rfl⟩ : ∃ u, wsN[i]? = some u ∧ x = V.str u := by
        rw [List.getElem?_map] at hx
        obtain ⟨u, h, e⟩ := Option.map_eq_some_iff.mp hx
        exact ⟨u, h, e.symm⟩
      have hi : i < wsN.length := (List.getElem?_eq_some_iff.mp hw).1
      have hi : i < 3 := hi
      have hT : wsN.take (i + 1) = wsN.take i ++ [word] := by rw [List.take_add_one, hw]; rfl
      refine ⟨.int many, rfl, many, rfl, by omega, by omega, fun D' nD => ?_⟩
      obtain ⟨D'd, D'l⟩ := D3.off nD
      have nDG : H D' = none := o3.free D'd D'l nD
      have nDn : n ≠ D' := ne_of_none gn nD
      have nDr : r ≠ D' := ne_of_none gr nD
      refine lc_range (lo := 0) (n := many.toNat) (fun i X => ∃ xs : List Int, X D' = some (.lst (xs.map V.int)) ∧ Off d l G X ∧ Deck X d l ∧ xs.Pairwise (· < ·) ∧ (∀ x ∈ xs, 0 ≤ x ∧ x < (i : Int)) ∧ xs.length ≤ i)
        ⟨[], upd_same, off_new nD, D3.new nD, .nil, (fun x hx => nomatch hx), Nat.zero_le _⟩ (fun i X hi z => ?_) (fun X z => ?_)
      · obtain ⟨xs, gX, oX, DX, asc, bnd, len⟩ := z
        refine ⟨rfl, .ref d, rfl, d, l, 2, rfl, DX, by omega, by omega, fun j X2 j0 j1 o5 D5 => ⟨rfl, _, rfl, ite2 (fun _ => ?_) (fun _ => ?_)⟩⟩
        · refine ⟨_, rfl, _, o5 _ _ D'd D'l gX, ?_, xs ++ [0 + (i : Int)], ?_, (oX.trans o5).mut nD, D5.mut D'd D'l, asc_snoc asc fun x hx => ?_, fun x hx => ?_, ?_⟩
          · rw [List.length_map]
            exact Nat.lt_of_le_of_lt len (Nat.lt_of_lt_of_le (show i < 100 by omega) (by decide))
          · rw [upd_same, List.map_append] <;> rfl
          · have := bnd x hx
            omega
          · rcases List.mem_append.mp hx with hx | hx
            · have := bnd x hx
              omega
            · rw [List.mem_singleton.mp hx]
              omega
          · rw [List.length_append]
            show xs.length + 1 ≤ i + 1
            omega
        · exact ⟨xs, o5 _ _ D'd D'l gX, oX.trans o5, D5, asc, fun x hx => by have := bnd x hx; omega, by omega⟩
      obtain ⟨xs, gX, oX, DX, asc, bnd, lenx⟩ := z
      refine ⟨D', _, rfl, .inl ⟨lst_of gX, fun tp ntp => ?_⟩⟩
      have oY : Off d l G (upd X tp (.tup (xs.map V.int))) := oX.trans (off_new ntp)
      have DY := DX.new (o := .tup (xs.map V.int)) ntp
      have gtp : (upd X tp (.tup (xs.map V.int))) tp = some (.tup (xs.map V.int)) := upd_same
      generalize upd X tp (.tup (xs.map V.int)) = Y at oY DY gtp ⊢
      have bnd' : ∀ x ∈ xs, 0 ≤ x ∧ x < many := fun x hx => by have := bnd x hx; omega
      clear gX oX DX ntp bnd
      have gnY := oY _ _ nd nl gn
      have grY := oY _ _ rd rl gr
      have gtY := oY.tup (K := K) D3 gt
      have hnmY := Paired.mapP hnm fun _ _ z => nme_st (oY.stay D3) z
      have lnn : nps.length ≤ 3 := by
        have h1 := snm.length_le
        rw [List.length_map, List.length_take] at h1
        have := Paired.length hnm
        have : wsN.length = 3 := rfl
        omega
      -- if things != ()
      refine ⟨.ref tp, rfl, Nat.zero_le _, fun u nu => ⟨.tuple (xs.map PyData.int), .tuple [], .tup (tupOf ((upd_ne (ne_of_none gtp nu)).trans gtp)) (dp_ints xs), .tup (tupOf upd_same) .nil, shaped_tints xs, shaped_tnil, _, rfl, ?_⟩⟩
      rw [tint_ne]
      have s1 := same_up (o := .tup []) nu
      cases hxs : xs with
      | nil =>
        refine iteF ⟨nps, nm, _, _, _, _, _, _, rfl, (o3.trans oY).trans s1.off, DY.same s1, s1 _ _ gnY, s1 _ _ grY, (Tl.Same.stay s1).tup gtY, Paired.mapP hnmY fun _ _ z => nme_st (Tl.Same.stay s1) z, ?_, gdn⟩
        rw [hT]
        exact snm.trans (List.sublist_append_left _ _)
      | cons x0 xr =>
        rw [← hxs, show (!xs.isEmpty) = true by rw [hxs]; rfl]
        refine iteT ⟨.ref n, rfl, .inl ⟨rfl, _, lst_of (s1 _ _ gnY)⟩, .str word, rfl, .ref tp, rfl, by show 2 ≤ sizeLine; decide, fun u2 nu2 => ?_⟩
        have s2 := same_add s1 (o := .tup [.str word, .ref tp]) nu2
        have gn2 := s2 _ _ gnY
        refine ⟨n, _, _, rfl, rfl, gn2, by rw [List.length_map]; exact Nat.lt_of_le_of_lt lnn (by decide), ?_⟩
        have stm : Stay (upd (upd Y u (.tup [])) u2 (.tup [.str word, .ref tp])) (upd (upd (upd Y u (.tup [])) u2 (.tup [.str word, .ref tp])) n (.lst (nps.map V.ref ++ [.ref u2]))) := stay_mut (by rw [gn2]; trivial)
        have st := (Tl.Same.stay s2).trans stm
        refine ⟨nps ++ [u2], nm ++ [(word, xs)], _, _, _, _, _, _, rfl, ((o3.trans oY).trans s2.off).mut n0, (DY.same s2).mut nd nl, by rw [upd_same, List.map_append] <;> rfl, (upd_ne nr_ne.symm).trans (s2 _ _ grY), st.tup gtY, ?_, ?_, fun e he => ?_⟩
        · exact snoc (Paired.mapP hnmY fun _ _ z => nme_st st z) ⟨tp, tupOf (stm _ _ upd_same (.inl ⟨_, rfl⟩)), tupOf (st _ _ gtp (.inl ⟨_, rfl⟩))⟩
        · rw [hT, List.map_append]
          exact snm.append (List.Sublist.refl _)
        · rcases List.mem_append.mp he with he | he
          · exact gdn e he
          · rw [List.mem_singleton.mp he]
            exact ⟨by rw [hxs]; exact List.cons_ne_nil _ _, asc, bnd'⟩
    · obtain ⟨nps, nm, t6, t7, t8, t9, t10, t11, rfl, o3, D3, gn, gr, gt, hnm, snm, gdn⟩ := z
      exact ⟨nps, nm, t6, t7, t8, t9, t10, t11, rfl, o3, D3, gn, gr, hnm, snm, gdn⟩
  -- for role in ('r', 's')
  rintro σ' G4 ⟨nps, nm, t6, t7, t8, t9, t10, t11, rfl, o4, D4, gn4, gr4, hnm, snm, gdn⟩
  clear gn0 gr0 oB DB
  refine ⟨by show 2 ≤ sizeLine; decide, fun tn ntn => ⟨tn, rfl, ⟨_, tupOf upd_same⟩, ?_⟩⟩
  have sT := same_up (o := .tup [.str "r", .str "s"]) ntn
  refine for_tup (K := K) (a := tn) (xs := wsR.map V.str) (fun i σ G => ∃ (rps : List Addr) (rs : List (Str × List (Int × Int))) (t6 t7 t8 t9 t10 t11 : Option V), σ = [some (.ref d), some (.int m), some (.int many), some (.int often), some (.ref n), some (.ref r), t6, t7, t8, t9, t10, t11] ∧
      Off d l H G ∧ Deck G d l ∧ G n = some (.lst (nps.map V.ref)) ∧ G r = some (.lst (rps.map V.ref)) ∧ SqT K G tn (wsR.map V.str) ∧ Paired (NmE K G) nps nm ∧ Paired (RlE K G) rps rs ∧ (rs.map (·.1)).Sublist (wsR.take i) ∧ (∀ e ∈ rs, GoodR many e.2))
    ⟨[], [], _, _, _, _, _, _, rfl, o4.trans sT.off, D4.same sT, sT _ _ gn4, sT _ _ gr4, tupOf upd_same, Paired.mapP hnm fun _ _ z => nme_st (Tl.Same.stay sT) z, .nil, .slnil, fun e he => nomatch he⟩
    (fun i σ G _ z => ?_) (fun i x σ G hx z => ?_) (fun σ G z => ?_)
  · obtain ⟨_, _, _, _, _, _, _, _, _, _, _, _, _, z, _⟩ := z
    exact z
  · obtain ⟨rps, rs, t6, t7, t8, t9, t10, t11, rfl, o3, D3, gn, gr, gt, hnm, hrs, srs, gdr⟩ := z
    obtain ⟨word, hw, rfl⟩ : ∃ u, wsR[i]? = some u ∧ x = V.str u := by
      rw [List.getElem?_map] at hx
      obtain ⟨u, h, e⟩ := Option.map_eq_some_iff.mp hx
      exact ⟨u, h, e.symm⟩
    have hi : i < wsR.length := (List.getElem?_eq_some_iff.mp hw).1
    have hi : i < 2 := hi
    have hT : wsR.take (i + 1) = wsR.take i ++ [word] := by rw [List.take_add_one, hw]; rfl
    -- pairs = []
    refine ⟨Nat.zero_le _, fun e ne => ?_⟩
    obtain ⟨ed, el⟩ := D3.off ne
    have eH : H e = none := o3.free ed el ne
    have ne_ : n ≠ e := ne_of_none gn ne
    have re_ : r ≠ e := ne_of_none gr ne
    refine ⟨fun σ Z => ∃ (es : List (Int × Int)) (qs : List Addr) (t8 t11 : Option V), σ = [some (.ref d), some (.int m), some (.int many), some (.int often), some (.ref n), some (.ref r), t6, t7, t8, some (.str word), some (.ref e), t11] ∧
        Z e = some (.lst (qs.map V.ref)) ∧ Paired (PrE K Z) qs es ∧ Off d l G Z ∧ Deck Z d l ∧ es.Pairwise Lex ∧ (∀ p ∈ es, (0 ≤ p.1 ∧ p.1 < many) ∧ 0 ≤ p.2 ∧ p.2 < many) ∧ qs.length ≤ 60, ?_, ?_⟩
    · refine ⟨.int many, rfl, many, rfl, by omega, by omega, for_range (lo := 0) (n := many.toNat) (fun j σ Z => ∃ (es : List (Int × Int)) (qs : List Addr) (t8 t11 : Option V), σ = [some (.ref d), some (.int m), some (.int many), some (.int often), some (.ref n), some (.ref r), t6, t7, t8, some (.str word), some (.ref e), t11] ∧
          Z e = some (.lst (qs.map V.ref)) ∧ Paired (PrE K Z) qs es ∧ Off d l G Z ∧ Deck Z d l ∧ es.Pairwise Lex ∧ (∀ p ∈ es, (0 ≤ p.1 ∧ p.1 < (j : Int)) ∧ 0 ≤ p.2 ∧ p.2 < many) ∧ qs.length ≤ j * 10)
        ⟨[], [], t8, t11, rfl, upd_same, .nil, off_new ne, D3.new ne, .nil, (fun p hp => nomatch hp), Nat.zero_le _⟩ (fun j σ Z hj z => ?_) (fun σ Z z => ?_)⟩
      · obtain ⟨es, qs, t8, t11, rfl, ge, hes, oZ, DZ, lex, bes, lq⟩ := z
        refine ⟨.ref e, rfl, .inl ⟨rfl, _, lst_of ge⟩, .int many, rfl, many, rfl, by omega, by omega, fun D2 nD2 => ?_⟩
        obtain ⟨D2d, D2l⟩ := DZ.off nD2
        refine lc_range (lo := 0) (n := many.toNat) (fun k X => ∃ (zs : List Int) (ps : List Addr), X D2 = some (.lst (ps.map V.ref)) ∧ Paired (PrE K X) ps (zs.map fun y => ((0 : Int) + (j : Int), y)) ∧ zs.Pairwise (· < ·) ∧ (∀ y ∈ zs, 0 ≤ y ∧ y < (k : Int)) ∧ ps.length ≤ k ∧ Off d l Z X ∧ Deck X d l)
          ⟨[], [], upd_same, .nil, .nil, (fun x hx => nomatch hx), Nat.zero_le _, off_new nD2, DZ.new nD2⟩ (fun k X hk z => ?_) (fun X z => ?_)
        · obtain ⟨zs, ps, gX, hps, asc2, bnd2, len2, oX, DX⟩ := z
          refine ⟨rfl, .ref d, rfl, .int often, rfl, d, l, often, rfl, DX, by omega, by omega, fun c X2 c0 c1 o5 D5 => ⟨rfl, _, rfl, ite2 (fun _ => ?_) (fun _ => ?_)⟩⟩
          · refine ⟨_, rfl, _, rfl, by show 2 ≤ sizeLine; decide, fun u nu => ?_⟩
            have g2' : X2 D2 = some (.lst (ps.map V.ref)) := o5 _ _ D2d D2l gX
            have uD2 : D2 ≠ u := ne_of_none g2' nu
            have g3' : (upd X2 u (.tup [.int (0 + (j : Int)), .int (0 + (k : Int))])) D2 = some (.lst (ps.map V.ref)) := (upd_ne uD2).trans g2'
            have stm : Stay (upd X2 u (.tup [.int (0 + (j : Int)), .int (0 + (k : Int))])) (upd (upd X2 u (.tup [.int (0 + (j : Int)), .int (0 + (k : Int))])) D2 (.lst (ps.map V.ref ++ [.ref u]))) := stay_mut (by rw [g3']; trivial)
            refine ⟨_, g3', ?_, zs ++ [0 + (k : Int)], ps ++ [u], ?_, ?_, asc_snoc asc2 fun x hx => ?_, fun x hx => ?_, ?_, ?_, ?_⟩
            · rw [List.length_map]
              exact Nat.lt_of_le_of_lt len2 (Nat.lt_of_lt_of_le (show k < 100 by omega) (by decide))
            · rw [upd_same, List.map_append] <;> rfl
            · rw [List.map_append]
              refine snoc (Paired.mapP hps fun _ _ z => pre_st stm (pre_st (stay_new nu) (pre_st (o5.stay DX) z))) (pre_st stm ?_)
              exact tupOf upd_same
            · have := bnd2 x hx
              omega
            · rcases List.mem_append.mp hx with hx | hx
              · have := bnd2 x hx
                omega
              · rw [List.mem_singleton.mp hx]
                omega
            · rw [List.length_append]
              show ps.length + 1 ≤ k + 1
              omega
            · exact ((oX.trans o5).trans (off_new nu)).mut nD2
            · exact (D5.new nu).mut D2d D2l
          · exact ⟨zs, ps, o5 _ _ D2d D2l gX, Paired.mapP hps fun _ _ z => pre_st (o5.stay DX) z, asc2, fun y hy => by have := bnd2 y hy; omega, by omega, oX.trans o5, D5⟩
        obtain ⟨zs, ps, gX, hps, asc2, bnd2, len2, oX, DX⟩ := z
        have ge' : X e = some (.lst (qs.map V.ref)) := oX _ _ ed el ge
        have stm : Stay X (upd X e (.lst (qs.map V.ref ++ ps.map V.ref))) := stay_mut (by rw [ge']; trivial)
        refine ⟨e, D2, _, _, rfl, rfl, ge', gX, ?_, es ++ zs.map (fun y => ((0 : Int) + (j : Int), y)), qs ++ ps, _, _, rfl, ?_, ?_, (oZ.trans oX).mut ne, DX.mut ed el, lex_join lex (fun p hp => by have := bes p hp; omega) asc2, fun p hp => ?_, ?_⟩
        · rw [List.length_map, List.length_map]
          exact Nat.le_trans (show qs.length + ps.length ≤ 1000 by omega) (by decide)
        · rw [upd_same, List.map_append]
        · exact joinP (Paired.mapP hes fun _ _ z => pre_st stm (pre_st (oX.stay DZ) z)) (Paired.mapP hps fun _ _ z => pre_st stm z)
        · rcases List.mem_append.mp hp with hp | hp
          · have := bes p hp
            omega
          · obtain ⟨y, hy, rfl⟩ := List.mem_map.mp hp
            have := bnd2 y hy
            show ((0 : Int) ≤ 0 + (j : Int) ∧ 0 + (j : Int) < _) ∧ 0 ≤ y ∧ y < many
            omega
        · rw [List.length_append]
          omega
      · obtain ⟨es, qs, t8, t11, rfl, ge, hes, oZ, DZ, lex, bes, lq⟩ := z
        exact ⟨es, qs, t8, t11, rfl, ge, hes, oZ, DZ, lex, fun p hp => by have := bes p hp; omega, by omega⟩
    rintro σ' Z ⟨es, qs, t8, t11, rfl, ge, hes, oZ, DZ, lex, bes, lq⟩
    have gnZ := oZ _ _ nd nl gn
    have grZ := oZ _ _ rd rl gr
    have gtZ := oZ.tup (K := K) D3 gt
    have stZ := oZ.stay D3
    have hnmZ := Paired.mapP hnm fun _ _ z => nme_st stZ z
    have hrsZ := Paired.mapP hrs fun _ _ z => rle_st stZ z
    have oHZ := o3.trans oZ
    have lrr : rps.length ≤ 2 := by
      have h1 := srs.length_le
      rw [List.length_map, List.length_take] at h1
      have := Paired.length hrs
      have : wsR.length = 2 := rfl
      omega
    -- if pairs != [] and ..
    refine ⟨.ref e, rfl, Nat.zero_le _, fun u nu => ⟨.list (es.map prD), .list [], .lst (lst_of ((upd_ne (ne_of_none ge nu)).trans ge)) ?_, .lst (lst_of upd_same) .nil, shaped_prs es, shaped_nil, _, rfl, ?_⟩⟩
    · exact Dts.dp _ _ (dts_prs (Paired.mapP hes fun _ _ z => pre_st (stay_new nu) z))
    rw [lpr_ne]
    have s1 := same_up (o := .lst []) nu
    have skip : ∀ X : Hp, Off d l (upd Z u (.lst [])) X → Deck X d l → ∃ (rps : List Addr) (rs : List (Str × List (Int × Int))) (t6' t7' t8' t9' t10' t11' : Option V), [some (V.ref d), some (.int m), some (.int many), some (.int often), some (.ref n), some (.ref r), t6, t7, t8, some (.str word), some (.ref e), t11] = [some (V.ref d), some (.int m), some (.int many), some (.int often), some (.ref n), some (.ref r), t6', t7', t8', t9', t10', t11'] ∧
        Off d l H X ∧ Deck X d l ∧ X n = some (.lst (nps.map V.ref)) ∧ X r = some (.lst (rps.map V.ref)) ∧ SqT K X tn (wsR.map V.str) ∧ Paired (NmE K X) nps nm ∧ Paired (RlE K X) rps rs ∧ (rs.map (·.1)).Sublist (wsR.take (i + 1)) ∧ (∀ e ∈ rs, GoodR many e.2) := fun X oX DX => by
      have st := (Tl.Same.stay s1).trans (oX.stay (DZ.same s1))
      refine ⟨rps, rs, _, _, _, _, _, _, rfl, (oHZ.trans s1.off).trans oX, DX, oX _ _ nd nl (s1 _ _ gnZ), oX _ _ rd rl (s1 _ _ grZ), st.tup gtZ, Paired.mapP hnmZ fun _ _ z => nme_st st z, Paired.mapP hrsZ fun _ _ z => rle_st st z, ?_, gdr⟩
      rw [hT]
      exact srs.trans (List.sublist_append_left _ _)
    cases hee : es with
    | nil => exact iteF (iteF (skip _ (Off.refl d l _) (DZ.same s1)))
    | cons x0 xr =>
      rw [← hee, show (!es.isEmpty) = true by rw [hee]; rfl]
      refine iteT ⟨.ref d, rfl, d, l, 4, rfl, DZ.same s1, by omega, by omega, fun c X c0 c1 oX DX => ⟨c, 0, rfl, rfl, _, rfl, ite2 (fun _ => ?_) (fun _ => ?_)⟩⟩
      · have st1 := (Tl.Same.stay s1).trans (oX.stay (DZ.same s1))
        have gnX := oX _ _ nd nl (s1 _ _ gnZ)
        have grX := oX _ _ rd rl (s1 _ _ grZ)
        have geX := oX _ _ ed el (s1 _ _ ge)
        have oHX := (oHZ.trans s1.off).trans oX
        refine ⟨.ref r, rfl, .inl ⟨rfl, _, lst_of grX⟩, .str word, rfl, .ref e, rfl, e, _, rfl, .inl ⟨lst_of geX, fun tq ntq => ⟨by show 2 ≤ sizeLine; decide, fun u2 nu2 => ?_⟩⟩⟩
        have s2 := same_up (o := .tup (qs.map V.ref)) ntq
        have s3 := same_add s2 (o := .tup [.str word, .ref tq]) nu2
        have gr2 := s3 _ _ grX
        refine ⟨r, _, _, rfl, rfl, gr2, by rw [List.length_map]; exact Nat.lt_of_le_of_lt lrr (by decide), ?_⟩
        have stm : Stay (upd (upd X tq (.tup (qs.map V.ref))) u2 (.tup [.str word, .ref tq])) (upd (upd (upd X tq (.tup (qs.map V.ref))) u2 (.tup [.str word, .ref tq])) r (.lst (rps.map V.ref ++ [.ref u2]))) := stay_mut (by rw [gr2]; trivial)
        have st := (Tl.Same.stay s3).trans stm
        refine ⟨rps ++ [u2], rs ++ [(word, es)], _, _, _, _, _, _, rfl, (oHX.trans s3.off).mut r0, (DX.same s3).mut rd rl, (upd_ne nr_ne).trans (s3 _ _ gnX), by rw [upd_same, List.map_append] <;> rfl, (st1.trans st).tup gtZ, Paired.mapP hnmZ fun _ _ z => nme_st (st1.trans st) z, ?_, ?_, fun e he => ?_⟩
        · refine snoc (Paired.mapP hrsZ fun _ _ z => rle_st (st1.trans st) z) ⟨tq, tupOf (stm _ _ upd_same (.inl ⟨_, rfl⟩)), qs, tupOf (stm _ _ ((same_up nu2) _ _ upd_same) (.inl ⟨_, rfl⟩)), Paired.mapP hes fun _ _ z => pre_st (st1.trans st) z⟩
        · rw [hT, List.map_append]
          exact srs.append (List.Sublist.refl _)
        · rcases List.mem_append.mp he with he | he
          · exact gdr e he
          · rw [List.mem_singleton.mp he]
            exact ⟨by rw [hee]; exact List.cons_ne_nil _ _, lex, bes⟩
      · exact skip X oX DX
  · obtain ⟨rps, rs, t6, t7, t8, t9, t10, t11, rfl, o3, D3, gn, gr, gt, hnm, hrs, srs, gdr⟩ := z
    refine ⟨.int many, rfl, .ref n, rfl, n, _, rfl, lst_of gn, fun a oa na noa => ?_⟩
    have s1 := same_up (o := .frz oa (.tup (nps.map V.ref))) na
    refine ⟨.ref r, rfl, r, _, rfl, lst_of (s1 _ _ gr), fun c oc nc noc => ?_⟩
    have s2 := same_up (o := .frz oc (.tup (rps.map V.ref))) nc
    refine ⟨by show 3 ≤ sizeLine; decide, fun t nt => ?_⟩
    have s3 := same_up (o := .tup [.int many, .ref a, .ref c]) nt
    have st := Tl.Same.stay ((s1.trans s2).trans s3)
    have srs : (rs.map (·.1)).Sublist wsR := srs
    have wordsN : ∀ x ∈ wsN, isW x = true := words_ok (by decide +kernel)
    have wordsR : ∀ x ∈ wsR, isW x = true := words_ok (by decide +kernel)
    have lenN := snm.length_le
    have lenR := srs.length_le
    rw [List.length_map] at lenN lenR
    have e3 : wsN.length = 3 := rfl
    have e2 : wsR.length = 2 := rfl
    refine q _ ⟨many, nm, rs⟩ _ ⟨t, a, c, rfl, tupOf upd_same, ⟨nps, ⟨oa, (s2.trans s3) _ _ upd_same, noa⟩, Paired.mapP hnm fun _ _ z => nme_st st z⟩, ⟨rps, ⟨oc, s3 _ _ upd_same, noc⟩, Paired.mapP hrs fun _ _ z => rle_st st z⟩⟩ ⟨⟨many1, many6⟩, ⟨wsN_sl.sublist snm, fun e he => ⟨wordsN _ (snm.subset (List.mem_map_of_mem he)), gdn e he⟩, by show nm.length ≤ 50; omega⟩, ⟨wsR_sl.sublist srs, fun e he => ⟨wordsR _ (srs.subset (List.mem_map_of_mem he)), gdr e he⟩, by show rs.length ≤ 50; omega⟩⟩ (by show nm.length ≤ 40; omega)
      (((o3.trans s1.off).trans s2.off).trans s3.off) (((D3.same s1).same s2).same s3)
end
end K24
set_option Elab.async false
set_option linter.all false
set_option autoImplicit false
set_option maxRecDepth 100000
set_option maxHeartbeats 2000000
namespace K24
open PySem PySem.Spec PyProof.Rows L2 Tl
open C8 (Cal pe_c)
/-! ### what is in a concept -/
def rgI (n : Int) : List Int := (List.range n.toNat).map fun (i : Nat) => (i : Int)
theorem rgV_eq (n : Int) : rgV 0 n = (rgI n).map V.int := by
  unfold rgV rgI
  rw [List.map_map, show n - 0 = n by omega]
  refine List.map_congr_left fun i _ => ?_
  show V.int (0 + (i : Int)) = V.int (i : Int)
  rw [Int.zero_add]
theorem mem_rgI {n x : Int} : x ∈ rgI n ↔ 0 ≤ x ∧ x < n := by
  unfold rgI
  rw [List.mem_map]
  constructor
  · rintro ⟨i, hi, rfl⟩
    have := List.mem_range.mp hi
    omega
  · rintro ⟨h1, h2⟩
    exact ⟨x.toNat, List.mem_range.mpr (by omega), by omega⟩
theorem asc_rgI (n : Int) : (rgI n).Pairwise (· < ·) := by
  unfold rgI
  rw [List.pairwise_map]
  exact List.pairwise_lt_range.imp fun h => by omega
theorem asc_len : ∀ (xs : List Int) (lo n : Int), xs.Pairwise (· < ·) → (∀ x ∈ xs, lo ≤ x ∧ x < n) → xs.length ≤ (n - lo).toNat
  | [], _, _, _, _ => Nat.zero_le _
  | x :: r, lo, n, h, b => by
    have h' := List.pairwise_cons.mp h
    have ih := asc_len r (x + 1) n h'.2 fun y hy => by
      have := h'.1 y hy
      have := b y (List.mem_cons_of_mem _ hy)
      omega
    have := b x List.mem_cons_self
    rw [List.length_cons]
    omega
theorem asc_eq : ∀ (xs ys : List Int), xs.Pairwise (· < ·) → ys.Pairwise (· < ·) → (∀ x, x ∈ xs ↔ x ∈ ys) → xs = ys
  | [], [], _, _, _ => rfl
  | [], y :: s, _, _, h => absurd ((h y).mpr List.mem_cons_self) (List.not_mem_nil)
  | x :: r, [], _, _, h => absurd ((h x).mp List.mem_cons_self) (List.not_mem_nil)
  | x :: r, y :: s, h1, h2, h => by
    have a1 := List.pairwise_cons.mp h1
    have a2 := List.pairwise_cons.mp h2
    have exy : x = y := by
      rcases List.mem_cons.mp ((h x).mp List.mem_cons_self) with e | e
      · exact e
      · rcases List.mem_cons.mp ((h y).mpr List.mem_cons_self) with e2 | e2
        · exact e2.symm
        · have := a2.1 x e
          have := a1.1 y e2
          omega
    subst exy
    rw [asc_eq r s a1.2 a2.2 fun z => ?_]
    constructor
    · intro hz
      rcases List.mem_cons.mp ((h z).mp (List.mem_cons_of_mem _ hz)) with e | e
      · subst e
        have := a1.1 z hz
        omega
      · exact e
    · intro hz
      rcases List.mem_cons.mp ((h z).mpr (List.mem_cons_of_mem _ hz)) with e | e
      · subst e
        have := a2.1 z hz
        omega
      · exact e
def look {α : Type} (nm : List (Str × α)) (x : Str) : Option α := (nm.find? fun e => decide (e.1 = x)).map (·.2)
def lookN (W : Wd) (x : Str) : List Int := (look W.names x).getD []
def lookR (W : Wd) (x : Str) : List (Int × Int) := (look W.roles x).getD []
def den (W : Wd) : C → List Int
  | .all => rgI W.many
  | .non => []
  | .word x => lookN W x
  | .and a b => (den W a).filter fun x => decide (x ∈ den W b)
  | .some r c => (rgI W.many).filter fun x => (lookR W r).any fun e => decide (e.1 = x) && decide (e.2 ∈ den W c)
theorem look_mem {α : Type} {nm : List (Str × α)} {x : Str} {y : α} (h : look nm x = some y) : (x, y) ∈ nm := by
  unfold look at h
  obtain ⟨e, he, rfl⟩ := Option.map_eq_some_iff.mp h
  have h1 := List.mem_of_find?_eq_some he
  have h2 := List.find?_some he
  have h2 : e.1 = x := of_decide_eq_true h2
  rw [← h2]
  exact h1
theorem lookN_good {W : Wd} (ok : WOk W) (x : Str) : (lookN W x).Pairwise (· < ·) ∧ ∀ y ∈ lookN W x, 0 ≤ y ∧ y < W.many := by
  unfold lookN
  cases h : look W.names x with
  | none => exact ⟨List.Pairwise.nil, fun y hy => nomatch hy⟩
  | some zs =>
    have := (ok.names.2.1 _ (look_mem h)).2
    exact ⟨this.2.1, this.2.2⟩
theorem lookR_good {W : Wd} (ok : WOk W) (x : Str) : (lookR W x).Pairwise Lex ∧ ∀ e ∈ lookR W x, (0 ≤ e.1 ∧ e.1 < W.many) ∧ 0 ≤ e.2 ∧ e.2 < W.many := by
  unfold lookR
  cases h : look W.roles x with
  | none => exact ⟨List.Pairwise.nil, fun y hy => nomatch hy⟩
  | some zs =>
    have := (ok.roles.2.1 _ (look_mem h)).2
    exact ⟨this.2.1, this.2.2⟩
theorem den_good {W : Wd} (ok : WOk W) : ∀ c : C, (den W c).Pairwise (· < ·) ∧ ∀ y ∈ den W c, 0 ≤ y ∧ y < W.many
  | .all => ⟨asc_rgI _, fun y hy => mem_rgI.mp hy⟩
  | .non => ⟨List.Pairwise.nil, fun y hy => nomatch hy⟩
  | .word x => lookN_good ok x
  | .and a b => ⟨(den_good ok a).1.sublist (List.filter_sublist), fun y hy => (den_good ok a).2 y (List.mem_filter.mp hy).1⟩
  | .some r c => ⟨(asc_rgI _).sublist (List.filter_sublist), fun y hy => mem_rgI.mp (List.mem_filter.mp hy).1⟩
theorem den_len {W : Wd} (ok : WOk W) (c : C) : (den W c).length ≤ 10 := by
  have h := den_good ok c
  have := asc_len _ 0 W.many h.1 h.2
  have := ok.many
  omega
/-- the pairs of a role: at most thirty-six -/
theorem lex_len_aux : ∀ (es : List (Int × Int)) (n : Int), 0 ≤ n → es.Pairwise Lex → (∀ e ∈ es, (0 ≤ e.1 ∧ e.1 < n) ∧ 0 ≤ e.2 ∧ e.2 < n) → (es.map fun e => e.1 * n + e.2).Pairwise (· < ·) := by
  intro es n hn h b
  rw [List.pairwise_map]
  refine List.Pairwise.imp_of_mem (fun {e f} he hf r => ?_) h
  have h1 := b e he
  have h2 := b f hf
  rcases r with r | ⟨r1, r2⟩
  · have : (e.1 + 1) * n ≤ f.1 * n := Int.mul_le_mul_of_nonneg_right (by omega) hn
    rw [Int.add_mul, Int.one_mul] at this
    omega
  · rw [r1]
    omega
theorem lex_len {es : List (Int × Int)} {n : Int} (h0 : 0 ≤ n) (h10 : n ≤ 6) (h : es.Pairwise Lex) (b : ∀ e ∈ es, (0 ≤ e.1 ∧ e.1 < n) ∧ 0 ≤ e.2 ∧ e.2 < n) : es.length ≤ 36 := by
  have := asc_len (es.map fun e => e.1 * n + e.2) 0 36 (lex_len_aux es n h0 h b) fun x hx => by
    obtain ⟨e, he, rfl⟩ := List.mem_map.mp hx
    have h1 := b e he
    have h2 : 0 ≤ e.1 * n := Int.mul_nonneg h1.1.1 h0
    have h3 : e.1 * n ≤ 5 * n := Int.mul_le_mul_of_nonneg_right (by omega) h0
    omega
  rw [List.length_map] at this
  omega
/-! ### the dict of a world's names -/
theorem merge_new : ∀ (more kvs : List (Key × V)), (∀ p ∈ more, valV kvs p.1 = none) → (more.map (·.1)).Nodup → mergeK kvs more = kvs ++ more
  | [], kvs, _, _ => (List.append_nil kvs).symm
  | p :: r, kvs, h, n => by
    have hn := List.nodup_cons.mp n
    show mergeK (putK kvs p.1 p.2) r = _
    rw [putK_new p.2 (h p List.mem_cons_self), merge_new r _ (fun q hq => ?_) hn.2, List.append_assoc]
    · rfl
    · rw [valV_snoc _ _ _ _ (h p List.mem_cons_self), if_neg (fun e => hn.1 (List.mem_map.mpr ⟨q, hq, e⟩))]
      exact h q (List.mem_cons_of_mem _ hq)
/-- an entry of the dict beside its entry in the world -/
def Ent {α : Type} (R : Addr → α → Prop) (kv : Key × V) (e : Str × α) : Prop := kv.1 = .inr e.1 ∧ ∃ t, kv.2 = .ref t ∧ R t e.2
theorem ent_keys {α : Type} {R : Addr → α → Prop} {kvs : List (Key × V)} {nm : List (Str × α)} (h : Paired (Ent R) kvs nm) : kvs.map (·.1) = (nm.map (·.1)).map Sum.inr := by
  induction h with
  | nil => rfl
  | cons r _ ih => rw [List.map_cons, List.map_cons, List.map_cons, ih, r.1]
theorem ent_nodup {α : Type} {R : Addr → α → Prop} {kvs : List (Key × V)} {nm : List (Str × α)} (h : Paired (Ent R) kvs nm) (asc : (nm.map (·.1)).Pairwise sl) : (kvs.map (·.1)).Nodup := by
  rw [ent_keys h]
  refine List.Pairwise.map _ (fun a b hab e => ?_) asc
  have e : a = b := Sum.inr.inj e
  rw [e] at hab
  exact List.lt_irrefl _ hab
theorem ent_look {α : Type} {R : Addr → α → Prop} {kvs : List (Key × V)} {nm : List (Str × α)} (h : Paired (Ent R) kvs nm) (x : Str) :
    (valV kvs (.inr x) = none ∧ look nm x = none) ∨ ∃ t y, valV kvs (.inr x) = some (.ref t) ∧ look nm x = some y ∧ R t y := by
  induction h with
  | nil => exact .inl ⟨rfl, rfl⟩
  | @cons kv e kvs nm r _ ih =>
    obtain ⟨h1, t, h2, h3⟩ := r
    by_cases hx : e.1 = x
    · refine .inr ⟨t, e.2, ?_, ?_, h3⟩
      · rw [valV_pos (by rw [h1, hx]), h2]
      · unfold look
        rw [List.find?_cons_of_pos (by simpa using hx)]
        rfl
    · have n1 : ¬ kv.1 = Sum.inr x := fun z => hx (Sum.inr.inj (h1.symm.trans z))
      rw [valV_neg n1]
      have : look (e :: nm) x = look nm x := by
        unfold look
        rw [List.find?_cons_of_neg (by simpa using hx)]
      rw [this]
      exact ih
theorem ent_of_names {K : PySem.W.Frag} {H : Hp} {ps : List Addr} {nm : List (Str × List Int)} (h : Paired (NmE K H) ps nm) :
    ∃ kvs : List (Key × V), Paired (fun p kv => SqT K H p [kV kv.1, kv.2]) ps kvs ∧ Paired (Ent fun t xs => SqT K H t (xs.map V.int)) kvs nm := by
  induction h with
  | nil => exact ⟨[], .nil, .nil⟩
  | @cons p e _ _ r _ ih =>
    obtain ⟨kvs, h1, h2⟩ := ih
    obtain ⟨t, h3, h4⟩ := r
    exact ⟨(.inr e.1, .ref t) :: kvs, .cons h3 h1, .cons ⟨rfl, t, rfl, h4⟩ h2⟩
theorem ent_of_roles {K : PySem.W.Frag} {H : Hp} {ps : List Addr} {nm : List (Str × List (Int × Int))} (h : Paired (RlE K H) ps nm) :
    ∃ kvs : List (Key × V), Paired (fun p kv => SqT K H p [kV kv.1, kv.2]) ps kvs ∧ Paired (Ent fun t xs => Prs K H t xs) kvs nm := by
  induction h with
  | nil => exact ⟨[], .nil, .nil⟩
  | @cons p e _ _ r _ ih =>
    obtain ⟨kvs, h1, h2⟩ := ih
    obtain ⟨t, h3, h4⟩ := r
    exact ⟨(.inr e.1, .ref t) :: kvs, .cons h3 h1, .cons ⟨rfl, t, rfl, h4⟩ h2⟩
theorem merged_ent {α : Type} {R : Addr → α → Prop} {kvs : List (Key × V)} {nm : List (Str × α)} (h : Paired (Ent R) kvs nm) (asc : (nm.map (·.1)).Pairwise sl) : mergeK [] kvs = kvs :=
  merge_new kvs [] (fun _ _ => rfl) (ent_nodup h asc)
theorem rd_of_frz {K : PySem.W.Frag} {H : Hp} {a : Addr} {ps : List Addr} (h : Frz H a ps) : SqT K H a (ps.map V.ref) := by
  obtain ⟨o, h, _⟩ := h
  exact .inl (.inr ⟨o, h⟩)
end K24
set_option Elab.async false
set_option linter.all false
set_option autoImplicit false
set_option maxRecDepth 100000
set_option maxHeartbeats 4000000
namespace K24
open PySem PySem.Spec PyProof.Rows L2 Tl
open C8 (Cal pe_c)
theorem sne {a b : Str} (h : ¬ a = b) : decide (V.str a = V.str b) = false := decide_eq_false fun e => h (V.str.inj e)
theorem seq {a : Str} : decide (V.str a = V.str a) = true := decide_eq_true rfl
theorem t_an : ¬ ("all" : Str) = "none" := by decide +kernel
theorem t_na : ¬ ("none" : Str) = "all" := by decide +kernel
theorem t_wn : ¬ ("word" : Str) = "none" := by decide +kernel
theorem t_wa : ¬ ("word" : Str) = "all" := by decide +kernel
theorem t_dn : ¬ ("and" : Str) = "none" := by decide +kernel
theorem t_da : ¬ ("and" : Str) = "all" := by decide +kernel
theorem t_dw : ¬ ("and" : Str) = "word" := by decide +kernel
theorem t_sn : ¬ ("some" : Str) = "none" := by decide +kernel
theorem t_sa : ¬ ("some" : Str) = "all" := by decide +kernel
theorem t_sw : ¬ ("some" : Str) = "word" := by decide +kernel
theorem t_sd : ¬ ("some" : Str) = "and" := by decide +kernel
theorem inV_int (x : Int) (ws : List Int) : inV (.int x) (ws.map V.int) = decide (x ∈ ws) := by
  unfold inV
  rw [List.any_map, Bool.eq_iff_iff, List.any_eq_true, decide_eq_true_eq]
  constructor
  · rintro ⟨y, hy, e⟩
    have e : (y == x) = true := e
    rw [← eq_of_beq e]
    exact hy
  · intro h
    exact ⟨x, h, beq_self_eq_true x⟩
theorem flat_ints (ws : List Int) : (ws.map V.int).all flatV = true := by
  rw [List.all_map]
  exact List.all_eq_true.mpr fun _ _ => rfl
theorem dep_pos : ∀ c : C, 1 ≤ dep c
  | .all => Nat.le_refl 1
  | .non => Nat.le_refl 1
  | .word _ => Nat.le_refl 1
  | .some _ c => Nat.le_add_left 1 _
  | .and _ _ => Nat.le_add_left 1 _
end K24
set_option Elab.async false
set_option linter.all false
set_option autoImplicit false
set_option maxRecDepth 100000
set_option maxHeartbeats 4000000
namespace K24
open PySem PySem.Spec PyProof.Rows L2 Tl
open C8 (Cal pe_c)
/-! ### the program: kinds of values -/
theorem ty_tup {K : PySem.W.Frag} {H : Hp} {a : Addr} {xs : List V} (h : SqT K H a xs) : TyX K H (.ref a) (.type "tuple") := by
  rcases h with (h | ⟨o, h⟩) | ⟨o, its, n, h1, h2, _⟩
  · exact .base (.tup h)
  · exact .fTuple h
  · exact .kTuple h1 h2
inductive LtV (K : PySem.W.Frag) (H : Hp) : V → V → Prop
  | int {i j : Int} (h : i < j) : LtV K H (.int i) (.int j)
  | str {x y : Str} (h : sl x y) : LtV K H (.str x) (.str y)
  | prs {a b : Addr} {e f : Int × Int} (h1 : PrE K H a e) (h2 : PrE K H b f) (h : Lex e f) : LtV K H (.ref a) (.ref b)
def rLt3 (K : PySem.W.Frag) : R2 := fun x y H Q => rI0 (fun i j => .bl (decide (i < j))) x y H Q ∨
  ((fun x y H Q => ∃ i j, x = V.str i ∧ y = V.str j ∧ Q (.bl (decide (i.cps.toList < j.cps.toList))) H) x y H Q ∨ rLtT K x y H Q)
theorem op_lt3 {X : Cx} {K : PySem.W.Frag} (h : X.K = K) (hu : X.A.units < cLine) : OpR X (compareOp .Lt) (rLt3 K) := by
  subst h
  exact OpR.or op_lt (OpR.or op_lt_str (op_ltT hu))
def rIx2 (K : PySem.W.Frag) : R2 := fun x y H Q => rIxL K x y H Q ∨ rIxT K x y H Q
theorem ix_seqK {X : Cx} {K : PySem.W.Frag} (h : X.K = K) : IxR X (rIx2 K) := by
  subst h
  exact IxR.or ix_list ix_tup
theorem ix_tupK {X : Cx} {K : PySem.W.Frag} (h : X.K = K) : IxR X (rIxT K) := by
  subst h
  exact ix_tup
theorem ltv_st {K : PySem.W.Frag} {H H' : Hp} {x y : V} (s : Stay H H') (h : LtV K H x y) : LtV K H' x y := by
  cases h with
  | int h => exact .int h
  | str h => exact .str h
  | prs h1 h2 h => exact .prs (pre_st s h1) (pre_st s h2) h
theorem ltv_r {K : PySem.W.Frag} {H : Hp} {x y : V} {Q : VK} (h : LtV K H x y) (q : Q (.bl true) H) : rLt3 K x y H Q := by
  cases h with
  | @int i j h => exact .inl ⟨_, _, rfl, rfl, by
      show Q (V.bl (decide (i < j))) H
      rw [decide_eq_true h]
      exact q⟩
  | @str x y h => exact .inr (.inl ⟨_, _, rfl, rfl, by
      have e : decide (x.cps.toList < y.cps.toList) = true := decide_eq_true h
      rw [e]
      exact q⟩)
  | @prs a b e f h1 h2 h =>
    refine .inr (.inr ⟨a, b, [e.1, e.2], [f.1, f.2], rfl, rfl, h1, h2, ?_⟩)
    have : HT.lexLt [e.1, e.2] [f.1, f.2] = true := by
      rw [HT.lexLt_cons, HT.lexLt_cons]
      rcases h with h | ⟨h, h'⟩
      · rw [if_neg (by omega)]
        exact decide_eq_true h
      · rw [if_pos h, if_neg (by omega)]
        exact decide_eq_true h'
    rw [this]
    exact q
theorem all_rep : ∀ n : Nat, (List.replicate n true).all id = true
  | 0 => rfl
  | n + 1 => by rw [List.replicate_succ, List.all_cons, all_rep n]; rfl
section
variable {P : Program} {w : World} {K : PySem.W.Frag} {mg : Str → Option Value} {base : Heap}
def spIsInt : Sp := fun vs H Q _ => ∃ i : Int, vs = [.int i] ∧ Q (.bl true) H
theorem cIsInteger (T : Txt K mg) : Cal P w K mg base 1 "is_integer" spIsInt [] := by
  refine cal_of T.isInteger scIsInteger (fun _ _ _ _ _ _ us hl => match us, hl with | [_], _ => rfl) (fun vs H Q E h => ?_) (fun f cdv A outer s H vs Q E hr h => ?_)
  · obtain ⟨x, rfl, _⟩ := h
    rfl
  obtain ⟨i, rfl, q⟩ := h
  refine ⟨_, (pss_one (ps_ret (pe_and (pe_callB call_isi (by rfl) T.isinstance (by decide +kernel) (pa_cons (pv 0) (pa_cons (pe_bltn (v := V.ty "int") (u := Value.type "int") (by rfl) T.int (by decide +kernel) rfl) pa_nil))) (pe_one (pe_notT (pe_callB call_isi (by rfl) T.isinstance (by decide +kernel) (pa_cons (pv 0) (pa_cons (pe_bltn (v := V.ty "bool") (u := Value.type "bool") (by rfl) T.bool (by decide +kernel) rfl) pa_nil)))))))), ?_⟩
  exact ⟨.int i, rfl, .int i, .ty "int", .type "int", .type "int", true, rfl, .ty _, .base (.int i), kit_ty (by decide +kernel), true, rfl, .int i, rfl, .int i, .ty "bool", .type "int", .type "bool", false, rfl, .ty _, .base (.int i), kit_ty (by decide +kernel), false, rfl, q⟩
def spIsPair (K : PySem.W.Frag) : Sp := fun vs H Q _ => ∃ (a : Addr) (x y : V), vs = [.ref a] ∧ SqT K H a [x, y] ∧ Q (.bl true) H
theorem cIsPair (T : Txt K mg) : Cal P w K mg base 1 "is_pair" (spIsPair K) [] := by
  refine cal_of T.isPair scIsPair (fun _ _ _ _ _ _ us hl => match us, hl with | [_], _ => rfl) (fun vs H Q E h => ?_) (fun f cdv A outer s H vs Q E hr h => ?_)
  · obtain ⟨a, x, y, rfl, _⟩ := h
    rfl
  obtain ⟨a, x, y, rfl, ha, q⟩ := h
  refine ⟨_, (pss_one (ps_ret (pe_and (pe_callB call_isi (by rfl) T.isinstance (by decide +kernel) (pa_cons (pv 0) (pa_cons (pe_bltn (v := V.ty "tuple") (u := Value.type "tuple") (by rfl) T.tuple (by decide +kernel) rfl) pa_nil))) (pe_one (pe_cmpR op_eq (pe_callB call_len_seq (by rfl) T.len (by decide +kernel) (pa_cons (pv 0) pa_nil)) pe_int (nomark _)))))), ?_⟩
  exact ⟨.ref a, rfl, .ref a, .ty "tuple", .type "tuple", .type "tuple", true, rfl, .ty _, ty_tup ha, kit_ty (by decide +kernel), true, rfl, .ref a, rfl, a, _, rfl, .inr ha, rfl, q⟩
def spAsc (K : PySem.W.Frag) : Sp := fun vs H Q _ => ∃ (a : Addr) (xs : List V), vs = [.ref a] ∧ (SqL K H a xs ∨ SqT K H a xs) ∧ xs.length ≤ 1000 ∧
  (∀ i x y, xs[i]? = some x → xs[i + 1]? = some y → LtV K H x y) ∧ ∀ H', L2.Same H H' → Q (.bl true) H'
theorem cIsAscending (T : Txt K mg) : Cal P w K mg base 1 "is_ascending" (spAsc K) [] := by
  refine cal_of T.isAscending scIsAscending (fun _ _ _ _ _ _ us hl => match us, hl with | [_], _ => rfl) (fun vs H Q E h => ?_) (fun f cdv A outer s H vs Q E hr h => ?_)
  · obtain ⟨a, xs, rfl, _⟩ := h
    rfl
  obtain ⟨a, xs, rfl, ha, len, asc, q⟩ := h
  have hu := hr.units
  refine ⟨_, (pss_one (ps_ret (pe_callB (cr_all rfl) (by rfl) T.all (by decide +kernel) (pa_cons (pe_lc (own := [("k", 1)]) (by rfl) scIsAscending.nd (pi_range1 rfl T.range (pa_cons (pe_op op_sub (pe_callB call_len_seq (by rfl) T.len (by decide +kernel) (pa_cons (pv 0) pa_nil)) pe_int) pa_nil)) (blkOk_by (own := [("k", 1)]) (N := ["items", "k"]) (sc := defScope sIsAscending) (by decide +kernel)) (fun _ _ _ _ _ => (pg_name (i := 1) scIsAscending.nd rfl (.inl rfl))) (fun _ _ _ _ _ => pts_nil) (fun _ _ _ _ _ => (pe_cmpR (op_lt3 (K := K) rfl (Nat.lt_of_le_of_lt (Nat.le_add_right _ 64) hu)) (pe_ix (ix_seqK (K := K) rfl) (pv 0) (pv 1) (fun _ _ => rfl)) (pe_ix (ix_seqK (K := K) rfl) (pv 0) (pe_op op_add (pv 1) pe_int) (fun _ _ => rfl)) (nomark _)))) pa_nil)))), ?_⟩
  refine ⟨.ref a, rfl, a, xs, rfl, ha, _, 1, rfl, rfl, _, rfl, by omega, by omega, fun D nD => ?_⟩
  have hn : ((xs.length : Int) - 1).toNat = xs.length - 1 := by omega
  rw [hn]
  have seq : ∀ X, L2.Same H X → SqL K X a xs ∨ SqT K X a xs := fun X e => ha.imp (fun h => e.seq h) fun h => (Tl.Same.stay e).tup h
  refine lc_range (lo := 0) (n := xs.length - 1) (fun i X => L2.Same H X ∧ X D = some (.lst ((List.replicate i true).map V.bl))) ⟨same_up nD, upd_same⟩ (fun i X hi z => ?_) (fun X z => ?_)
  · obtain ⟨sX, gX⟩ := z
    obtain ⟨x, hx⟩ : ∃ x, xs[i]? = some x := ⟨_, List.getElem?_eq_getElem (by omega)⟩
    obtain ⟨y, hy⟩ : ∃ y, xs[i + 1]? = some y := ⟨_, List.getElem?_eq_getElem (by omega)⟩
    have ix : ∀ (j : Nat) (v : V), xs[j]? = some v → ∀ Q : VK, Q v X → rIx2 K (.ref a) (.int (j : Int)) X Q := fun j v hj Q h => by
      rcases seq X sX with z | z
      · exact .inl ⟨a, xs, _, v, rfl, rfl, z, atI_nat hj, h⟩
      · exact .inr ⟨a, xs, _, v, rfl, rfl, z, atI_nat hj, h⟩
    refine ⟨rfl, .ref a, rfl, .int _, rfl, ?_⟩
    rw [show (0 : Int) + (i : Int) = ((i : Nat) : Int) by omega]
    refine ix i x hx _ ⟨.ref a, rfl, .int _, rfl, _, 1, rfl, rfl, ?_⟩
    show rIx2 K (V.ref a) (V.int (((i : Nat) : Int) + 1)) X _
    rw [show ((i : Nat) : Int) + 1 = ((i + 1 : Nat) : Int) by omega]
    refine ix (i + 1) y hy _ (ltv_r (ltv_st (Tl.Same.stay sX) (asc i x y hx hy)) ⟨_, gX, ?_, same_mut sX nD, ?_⟩)
    · rw [List.length_map, List.length_replicate]
      exact Nat.lt_of_lt_of_le (show i < 1000 by omega) (by decide)
    · rw [upd_same, List.replicate_succ', List.map_append]
      rfl
  · obtain ⟨sX, gX⟩ := z
    refine ⟨D, _, rfl, lst_of gX, ?_⟩
    rw [all_rep]
    exact q X sX
def spIsLetter : Sp := fun vs H Q _ => ∃ c : Nat, vs = [.str ⟨#[c]⟩] ∧ lett c = true ∧ Q (.bl true) H
theorem cIsLetter (T : Txt K mg) : Cal P w K mg base 1 "_is_letter" spIsLetter [] := by
  refine cal_of T.isLetter scIsLetter (fun _ _ _ _ _ _ us hl => match us, hl with | [_], _ => rfl) (fun vs H Q E h => ?_) (fun f cdv A outer s H vs Q E hr h => ?_)
  · obtain ⟨x, rfl, _⟩ := h
    rfl
  obtain ⟨c, rfl, hc, q⟩ := h
  refine ⟨_, (pss_one (ps_ret (pe_chain op_le_str op_le_str pe_str (pv 0) pe_str))), ?_⟩
  unfold lett at hc
  rw [Bool.and_eq_true, decide_eq_true_eq, decide_eq_true_eq] at hc
  have e1 : decide ([c] < ("a" : Str).cps.toList) = false := decide_eq_false (by
    show ¬ [c] < [97]
    rw [List.cons_lt_cons_iff]
    rintro (h | ⟨_, h⟩)
    · omega
    · exact List.lt_irrefl _ h)
  have e2 : decide (("z" : Str).cps.toList < [c]) = false := decide_eq_false (by
    show ¬ [122] < [c]
    rw [List.cons_lt_cons_iff]
    rintro (h | ⟨_, h⟩)
    · omega
    · exact List.lt_irrefl _ h)
  refine ⟨.str _, rfl, ("a" : Str), ⟨#[c]⟩, rfl, rfl, true, ?_, ?_⟩
  · show V.bl (!decide ([c] < ("a" : Str).cps.toList)) = _
    rw [e1]
    rfl
  refine iteT ⟨⟨#[c]⟩, ("z" : Str), rfl, rfl, ?_⟩
  show Q (V.bl (!decide (("z" : Str).cps.toList < [c]))) H
  rw [e2]
  exact q
def spWordT : Sp := fun vs H Q _ => ∃ x : Str, vs = [.str x] ∧ isW x = true ∧ ∀ H', L2.Same H H' → Q (.bl true) H'
theorem cIsWord (T : Txt K mg) : Cal P w K mg base 2 "is_word" spWordT [] := by
  refine cal_of T.isWord scIsWord (fun _ _ _ _ _ _ us hl => match us, hl with | [_], _ => rfl) (fun vs H Q E h => ?_) (fun f cdv A outer s H vs Q E hr h => ?_)
  · obtain ⟨x, rfl, _⟩ := h
    rfl
  obtain ⟨x, rfl, hw, q⟩ := h
  obtain ⟨tl, hlw⟩ := T.longest_word
  obtain ⟨na, hnw, hna⟩ := T.no_words
  refine ⟨_, (pss_cons (ps_if (PW.pt (pw_or (pt_not (pt_val (pe_callB call_isi (by rfl) T.isinstance (by decide +kernel) (pa_cons (pv 0) (pa_cons (pe_bltn (v := V.ty "str") (u := Value.type "str") (by rfl) T.str (by decide +kernel) rfl) pa_nil))))) (pw_or1 (pt_not (pt_chain op_le op_le pe_int (pe_callB call_len_str (by rfl) T.len (by decide +kernel) (pa_cons (pv 0) pa_nil)) (pe_glob (v := V.int 10) rfl hlw ⟨_, rfl⟩))))))
 (pss_one (ps_ret pe_bl))
 pss_nil)
 (pss_one (ps_ret (pe_and (pe_cmpR op_notIn_seq (pv 0) (pe_glob (v := V.ref na) rfl hnw rfl) rfl) (pe_one (pe_callB (cr_all rfl) (by rfl) T.all (by decide +kernel) (pa_cons (pe_lc (own := [("sign", 1)]) (by rfl) scIsWord.nd (pi_str (pv 0)) (blkOk_by (own := [("sign", 1)]) (N := ["thing", "sign"]) (sc := defScope sIsWord) (by decide +kernel)) (fun _ _ _ _ _ => (pg_name (i := 1) scIsWord.nd rfl (.inl rfl))) (fun _ _ _ _ _ => pts_nil) (fun _ _ _ _ _ => (pe_c (cIsLetter T) hr (by decide) rfl (pa_cons (pv 1) pa_nil)))) pa_nil))))))), ?_⟩
  have hw' := hw
  unfold isW at hw'
  simp only [Bool.and_eq_true, decide_eq_true_eq, Bool.not_eq_true'] at hw'
  obtain ⟨h0, h1, h2, h3⟩ := hw'
  have sz : x.length ≤ sizeLine := Nat.le_of_lt (small1000 (by omega))
  refine ⟨.str x, rfl, .str x, .ty "str", .type "str", .type "str", true, rfl, .ty _, .base (.str x), kit_ty (by decide +kernel), true, rfl, iteF ?_⟩
  refine ⟨.str x, rfl, x, rfl, sz, 1, _, rfl, rfl, _, rfl, ?_⟩
  rw [show decide ((1 : Int) ≤ (x.length : Int)) = true from decide_eq_true (by omega)]
  refine iteT ⟨_, 10, rfl, rfl, _, rfl, ?_⟩
  rw [show decide ((x.length : Int) ≤ (10 : Int)) = true from decide_eq_true (by omega)]
  refine iteF ⟨.str x, rfl, na, six.map V.str, rfl, .inr (hna _), rfl, flat_strs six, _, rfl, ?_⟩
  rw [inV_six, h2]
  refine iteT ⟨.str x, rfl, x, rfl, fun D nD => ?_⟩
  refine lc_it (n := x.cps.size) (fun i G2 => L2.Same H G2 ∧ G2 D = some (.lst ((List.replicate i true).map V.bl)))
    ⟨same_up nD, upd_same⟩ (fun i G2 hi _ => hi) (fun G2 _ => Nat.le_refl _) (fun i v G2 G3 hi z y => ?_) (fun G2 z => ?_)
  · obtain ⟨e, c, hc, rfl⟩ := y
    subst e
    obtain ⟨sX, gX⟩ := z
    have hc' : c ∈ x.cps.toList := by
      refine List.mem_of_getElem? (i := i) ?_
      rw [Array.getElem?_toList]
      exact hc
    refine ⟨rfl, .str ⟨#[c]⟩, rfl, c, rfl, List.all_eq_true.mp h3 c hc', _, gX, ?_, same_mut sX nD, ?_⟩
    · rw [List.length_map, List.length_replicate]
      exact Nat.lt_of_lt_of_le (show i < 1000 by have : x.cps.size < 11 := h1; omega) (by decide)
    · rw [upd_same, List.replicate_succ', List.map_append]
      rfl
  · obtain ⟨sX, gX⟩ := z
    refine ⟨D, _, rfl, lst_of gX, ?_⟩
    rw [all_rep]
    exact q _ sX
end
end K24
set_option Elab.async false
set_option linter.all false
set_option autoImplicit false
set_option maxRecDepth 100000
set_option maxHeartbeats 4000000
namespace K24
open PySem PySem.Spec PyProof.Rows L2 Tl
open C8 (Cal pe_c)
/-! ### the program: worlds -/
theorem pw_get {α : Type} {L : α → α → Prop} : ∀ {l : List α} {i j : Nat} {e f : α}, l.Pairwise L → l[i]? = some e → l[j]? = some f → i < j → L e f
  | _ :: r, 0, j + 1, e, f, h, he, hf, _ => by
    have h' := List.pairwise_cons.mp h
    cases he
    exact h'.1 f (List.mem_of_getElem? (i := j) hf)
  | _ :: r, i + 1, j + 1, e, f, h, he, hf, lt => pw_get (l := r) (i := i) (j := j) (List.pairwise_cons.mp h).2 he hf (by omega)
theorem consec {α : Type} {K : PySem.W.Frag} {H : Hp} {R : V → α → Prop} {L : α → α → Prop} {xs : List V} {es : List α} (h : Paired R xs es) (pw : es.Pairwise L) (to : ∀ x y e f, R x e → R y f → L e f → LtV K H x y) :
    ∀ i x y, xs[i]? = some x → xs[i + 1]? = some y → LtV K H x y := fun i x y hx hy => by
  obtain ⟨e, he, r1⟩ := getP h hx
  obtain ⟨f, hf, r2⟩ := getP h hy
  exact to x y e f r1 r2 (pw_get pw he hf (Nat.lt_succ_self i))
theorem paired_of {α : Type} {f : α → V} : ∀ ns : List α, Paired (fun x n => x = f n) (ns.map f) ns
  | [] => .nil
  | n :: ns => .cons rfl (paired_of ns)
theorem mapR {α β γ : Type} {F : α → β → Prop} {G : α → γ → Prop} {g : β → γ} (to : ∀ a b, F a b → G a (g b)) : ∀ {xs : List α} {ys : List β}, Paired F xs ys → Paired G xs (ys.map g)
  | _, _, .nil => .nil
  | _, _, .cons r t => .cons (to _ _ r) (mapR to t)
theorem mapL {α β γ : Type} {F : α → β → Prop} {G : γ → β → Prop} {g : α → γ} (to : ∀ a b, F a b → G (g a) b) : ∀ {xs : List α} {ys : List β}, Paired F xs ys → Paired G (xs.map g) ys
  | _, _, .nil => .nil
  | _, _, .cons r t => .cons (to _ _ r) (mapL to t)
theorem withR {α β : Type} {F : α → β → Prop} {R : β → Prop} : ∀ {xs : List α} {ys : List β}, Paired F xs ys → (∀ e ∈ ys, R e) → Paired (fun p e => F p e ∧ R e) xs ys
  | _, _, .nil, _ => .nil
  | _, _, .cons r t, h => .cons ⟨r, h _ List.mem_cons_self⟩ (withR t fun e he => h e (List.mem_cons_of_mem _ he))
theorem memP {α β : Type} {F : α → β → Prop} : ∀ {xs : List α} {ys : List β} {x : α}, Paired F xs ys → x ∈ xs → ∃ y ∈ ys, F x y
  | _, _, _, .nil, h => nomatch h
  | _, _, _, .cons r t, h => by
    rcases List.mem_cons.mp h with rfl | h
    · exact ⟨_, List.mem_cons_self, r⟩
    · obtain ⟨y, hy, f⟩ := memP t h
      exact ⟨y, List.mem_cons_of_mem _ hy, f⟩
structure Items (K : PySem.W.Frag) (H : Hp) (sp : Sp) (n : Int) (xs : List V) : Prop where
  ne : xs ≠ []
  len : xs.length ≤ 1000
  asc : ∀ i x y, xs[i]? = some x → xs[i + 1]? = some y → LtV K H x y
  acc : ∀ x ∈ xs, ∀ (H' : Hp) (Q : VK), L2.Same H H' → Q (.bl true) H' → sp [x, .int n] H' Q fun _ _ _ => False
theorem items_st {K : PySem.W.Frag} {H H' : Hp} {sp : Sp} {n : Int} {xs : List V} (s : L2.Same H H') (h : Items K H sp n xs) : Items K H' sp n xs :=
  ⟨h.ne, h.len, fun i x y a b => ltv_st (Tl.Same.stay s) (h.asc i x y a b), fun x hx G Q e q => h.acc x hx G Q (s.trans e) q⟩
def Row (K : PySem.W.Frag) (H : Hp) (sp : Sp) (n : Int) (v : V) (e : Str × List V) : Prop := isW e.1 = true ∧ ∃ p t, v = .ref p ∧ SqT K H p [.str e.1, .ref t] ∧ SqT K H t e.2 ∧ Items K H sp n e.2
theorem row_st {K : PySem.W.Frag} {H H' : Hp} {sp : Sp} {n : Int} {v : V} {e : Str × List V} (s : L2.Same H H') (h : Row K H sp n v e) : Row K H' sp n v e := by
  obtain ⟨h0, p, t, rfl, h1, h2, h3⟩ := h
  exact ⟨h0, p, t, rfl, (Tl.Same.stay s).tup h1, (Tl.Same.stay s).tup h2, items_st s h3⟩
section
variable {P : Program} {w : World} {K : PySem.W.Frag} {mg : Str → Option Value} {base : Heap}
def spThing : Sp := fun vs H Q _ => ∃ (x n : Int), vs = [.int x, .int n] ∧ 0 ≤ x ∧ x < n ∧ Q (.bl true) H
theorem cIsThing (T : Txt K mg) : Cal P w K mg base 2 "_is_thing" spThing [] := by
  refine cal_of T.isThing scIsThing (fun _ _ _ _ _ _ us hl => match us, hl with | [_, _], _ => rfl) (fun vs H Q E h => ?_) (fun f cdv A outer s H vs Q E hr h => ?_)
  · obtain ⟨x, n, rfl, _⟩ := h
    rfl
  obtain ⟨x, n, rfl, h0, h1, q⟩ := h
  refine ⟨_, (pss_one (ps_ret (pe_and (pe_c (cIsInteger T) hr (by decide) rfl (pa_cons (pv 0) pa_nil)) (pe_one (pe_chain op_le op_lt pe_int (pv 0) (pv 1)))))), ?_⟩
  refine ⟨.int x, rfl, x, rfl, true, rfl, .int x, rfl, 0, x, rfl, rfl, _, rfl, ?_⟩
  rw [decide_eq_true h0]
  refine iteT ⟨.int n, rfl, x, n, rfl, rfl, ?_⟩
  show Q (V.bl (decide (x < n))) H
  rw [decide_eq_true h1]
  exact q
def spTie (K : PySem.W.Frag) : Sp := fun vs H Q _ => ∃ (a : Addr) (e : Int × Int) (n : Int), vs = [.ref a, .int n] ∧ PrE K H a e ∧ 0 ≤ e.1 ∧ e.1 < n ∧ 0 ≤ e.2 ∧ e.2 < n ∧ Q (.bl true) H
theorem cIsTie (T : Txt K mg) : Cal P w K mg base 3 "_is_tie" (spTie K) [] := by
  refine cal_of T.isTie scIsTie (fun _ _ _ _ _ _ us hl => match us, hl with | [_, _], _ => rfl) (fun vs H Q E h => ?_) (fun f cdv A outer s H vs Q E hr h => ?_)
  · obtain ⟨a, e, n, rfl, _⟩ := h
    rfl
  obtain ⟨a, e, n, rfl, ha, h0, h1, h2, h3, q⟩ := h
  refine ⟨_, (pss_one (ps_ret (pe_and (pe_c (cIsPair T) hr (by decide) rfl (pa_cons (pv 0) pa_nil)) (pe_and (pe_c (cIsThing T) hr (by decide) rfl (pa_cons (pe_ix ix_tup (pv 0) pe_int (fun _ _ => rfl)) (pa_cons (pv 1) pa_nil))) (pe_one (pe_c (cIsThing T) hr (by decide) rfl (pa_cons (pe_ix ix_tup (pv 0) pe_int (fun _ _ => rfl)) (pa_cons (pv 1) pa_nil)))))))), ?_⟩
  exact ⟨.ref a, rfl, a, _, _, rfl, ha, true, rfl, .ref a, rfl, a, _, 0, _, rfl, rfl, ha, atI_nat (j := 0) rfl, .int n, rfl, _, n, rfl, h0, h1, true, rfl, .ref a, rfl, a, _, 1, _, rfl, rfl, ha, atI_nat (j := 1) rfl, .int n, rfl, _, n, rfl, h2, h3, q⟩
def spItems (P : Program) (w : World) (K : PySem.W.Frag) (mg : Str → Option Value) (base : Heap) : Sp := fun vs H Q _ => ∃ (a f : Addr) (n : Int) (xs : List V) (sp : Sp), vs = [.ref a, .ref f, .int n] ∧ SqT K H a xs ∧ Held P w K mg base 3 f sp ∧ Items K H sp n xs ∧
  ∀ H', L2.Same H H' → Q (.bl true) H'
theorem cAreItems (T : Txt K mg) : Cal P w K mg base 4 "_are_items" (spItems P w K mg base) [] := by
  refine cal_of T.areItems scAreItems (fun _ _ _ _ _ _ us hl => match us, hl with | [_, _, _], _ => rfl) (fun vs H Q E h => ?_) (fun f cdv A outer s H vs Q E hr h => ?_)
  · obtain ⟨a, f, n, xs, sp, rfl, _⟩ := h
    rfl
  obtain ⟨a, g, n, xs, sp, rfl, ha, held, it, q⟩ := h
  refine ⟨_, (pss_cons (ps_if (PW.pt (pw_or (pt_not (pt_val (pe_callB call_isi (by rfl) T.isinstance (by decide +kernel) (pa_cons (pv 0) (pa_cons (pe_bltn (v := V.ty "tuple") (u := Value.type "tuple") (by rfl) T.tuple (by decide +kernel) rfl) pa_nil))))) (pw_or1 (pt_cmpR op_eq (pe_callB call_len_seq (by rfl) T.len (by decide +kernel) (pa_cons (pv 0) pa_nil)) pe_int (nomark _)))))
 (pss_one (ps_ret pe_bl))
 pss_nil)
 (pss_one (ps_ret (pe_and (pe_callB (cr_all rfl) (by rfl) T.all (by decide +kernel) (pa_cons (pe_lc (own := [("item", 3)]) (by rfl) scAreItems.nd (pi_tup (pv 0)) (blkOk_by (own := [("item", 3)]) (N := ["thing", "is_item", "many", "item"]) (sc := defScope sAreItems) (by decide +kernel)) (fun _ _ _ _ _ => (pg_name (i := 3) scAreItems.nd rfl (.inl rfl))) (fun _ _ _ _ _ => pts_nil) (fun _ _ _ _ _ => (pe_callA (i := 1) (S := fun z => if z = g then some sp else none) (k := 3) (fun f' sp' e => by
      by_cases z : f' = g
      · rw [if_pos z] at e
        cases e
        rw [z]
        exact held
      · rw [if_neg z] at e
        cases e) hr (by rfl) (by first | exact Or.inl rfl | exact Or.inr (Or.inl rfl) | exact Or.inr (Or.inr rfl)) (pa_cons (pv 3) (pa_cons (pv 2) pa_nil))))) pa_nil)) (pe_one (pe_c (cIsAscending T) hr (by decide) rfl (pa_cons (pv 0) pa_nil))))))), ?_⟩
  refine ⟨.ref a, rfl, .ref a, .ty "tuple", .type "tuple", .type "tuple", true, rfl, .ty _, ty_tup ha, kit_ty (by decide +kernel), true, rfl, iteF ?_⟩
  refine ⟨.ref a, rfl, a, xs, rfl, .inr ha, rfl, _, rfl, ?_⟩
  have ne0 : decide (V.int (xs.length : Int) = V.int 0) = false := decide_eq_false fun e => by
    have := V.int.inj e
    have := List.length_pos_iff.mpr it.ne
    omega
  rw [ne0]
  refine iteF ⟨.ref a, rfl, a, rfl, ⟨_, ha⟩, fun D nD => ?_⟩
  refine lc_tup (K := K) (a := a) (xs := xs) (fun i X => L2.Same H X ∧ X D = some (.lst ((List.replicate i true).map V.bl))) ⟨same_up nD, upd_same⟩ (fun i X _ z => (Tl.Same.stay z.1).tup ha) (fun i x X hx z => ?_) (fun X z => ?_)
  · obtain ⟨sX, gX⟩ := z
    refine ⟨rfl, g, sp, rfl, if_pos rfl, x, rfl, .int n, rfl, it.acc x (List.mem_of_getElem? hx) X _ sX ⟨_, gX, ?_, same_mut sX nD, ?_⟩⟩
    · rw [List.length_map, List.length_replicate]
      have : i < xs.length := by
        have := List.getElem?_eq_some_iff.mp hx
        exact this.1
      have := it.len
      exact Nat.lt_of_lt_of_le (show i < 1001 by omega) (by decide)
    · rw [upd_same, List.replicate_succ', List.map_append]
      rfl
  · obtain ⟨sX, gX⟩ := z
    refine ⟨D, _, rfl, lst_of gX, true, by rw [all_rep], iteT ⟨.ref a, rfl, a, xs, rfl, .inr ((Tl.Same.stay sX).tup ha), it.len, fun i x y hx hy => ltv_st (Tl.Same.stay sX) (it.asc i x y hx hy), fun H' e => q H' (sX.trans e)⟩⟩
def spListing (P : Program) (w : World) (K : PySem.W.Frag) (mg : Str → Option Value) (base : Heap) : Sp := fun vs H Q _ => ∃ (a f : Addr) (n : Int) (xs : List V) (es : List (Str × List V)) (sp : Sp), vs = [.ref a, .ref f, .int n] ∧ SqT K H a xs ∧ Held P w K mg base 3 f sp ∧
  Paired (Row K H sp n) xs es ∧ (es.map (·.1)).Pairwise sl ∧ es.length ≤ 1000 ∧ ∀ H', L2.Same H H' → Q (.bl true) H'
theorem cIsListing (T : Txt K mg) : Cal P w K mg base 5 "_is_listing" (spListing P w K mg base) [] := by
  refine cal_of T.isListing scIsListing (fun _ _ _ _ _ _ us hl => match us, hl with | [_, _, _], _ => rfl) (fun vs H Q E h => ?_) (fun f cdv A outer s H vs Q E hr h => ?_)
  · obtain ⟨a, f, n, xs, es, sp, rfl, _⟩ := h
    rfl
  obtain ⟨a, g, n, xs, es, sp, rfl, ha, held, rows, asc, len, q⟩ := h
  refine ⟨_, (pss_cons (ps_if (pt_not (pt_val (pe_callB call_isi (by rfl) T.isinstance (by decide +kernel) (pa_cons (pv 0) (pa_cons (pe_bltn (v := V.ty "tuple") (u := Value.type "tuple") (by rfl) T.tuple (by decide +kernel) rfl) pa_nil)))))
 (pss_one (ps_ret pe_bl))
 pss_nil)
 (pss_cons (ps_for PassesOwn.never rfl (pi_tup (pv 0)) (pg_name (i := 3) scIsListing.nd rfl (.inl rfl))
 (pss_one (ps_if (PW.pt (pw_or (pt_not (pt_val (pe_c (cIsPair T) hr (by decide) rfl (pa_cons (pv 3) pa_nil)))) (pw_or (pt_not (pt_val (pe_c (cIsWord T) hr (by decide) rfl (pa_cons (pe_ix ix_tup (pv 3) pe_int (fun _ _ => rfl)) pa_nil)))) (pw_or1 (pt_not (pt_val (pe_c (cAreItems T) hr (by decide) rfl (pa_cons (pe_ix ix_tup (pv 3) pe_int (fun _ _ => rfl)) (pa_cons (pv 1) (pa_cons (pv 2) pa_nil))))))))))
 (pss_one (ps_ret pe_bl))
 pss_nil)))
 (pss_one (ps_ret (pe_c (cIsAscending T) hr (by decide) rfl (pa_cons (pe_lc (own := [("row", 3)]) (by rfl) scIsListing.nd (pi_tup (pv 0)) (blkOk_by (own := [("row", 3)]) (N := ["thing", "is_item", "many", "row"]) (sc := defScope sIsListing) (by decide +kernel)) (fun _ _ _ _ _ => (pg_name (i := 3) scIsListing.nd rfl (.inl rfl))) (fun _ _ _ _ _ => pts_nil) (fun _ _ _ _ _ => (pe_ix (ix_tupK (K := K) rfl) (pv 3) pe_int (fun _ _ => rfl)))) pa_nil)))))), ?_⟩
  refine ⟨.ref a, rfl, .ref a, .ty "tuple", .type "tuple", .type "tuple", true, rfl, .ty _, ty_tup ha, kit_ty (by decide +kernel), true, rfl, iteF ?_⟩
  refine ⟨.ref a, rfl, a, rfl, ⟨_, ha⟩, ?_⟩
  refine for_tup (K := K) (a := a) (xs := xs) (fun i σ X => ∃ t, σ = [some (.ref a), some (.ref g), some (.int n), t] ∧ L2.Same H X) ⟨_, rfl, L2.Same.refl H⟩ (fun i σ X _ z => ?_) (fun i x σ X hx z => ?_) (fun σ X z => ?_)
  · obtain ⟨t, rfl, sX⟩ := z
    exact (Tl.Same.stay sX).tup ha
  · obtain ⟨t, rfl, sX⟩ := z
    obtain ⟨e, he, r⟩ := getP rows hx
    obtain ⟨hw, p, t2, rfl, h1, h2, h3⟩ := row_st sX r
    refine ⟨.ref p, rfl, p, _, _, rfl, h1, true, rfl, iteF ?_⟩
    refine ⟨.ref p, rfl, p, _, 0, _, rfl, rfl, h1, atI_nat (j := 0) rfl, _, rfl, hw, fun X2 e2 => ⟨true, rfl, iteF ?_⟩⟩
    refine ⟨.ref p, rfl, p, _, 1, _, rfl, rfl, (Tl.Same.stay e2).tup h1, atI_nat (j := 1) rfl, .ref g, rfl, .int n, rfl, t2, g, n, e.2, sp, rfl, (Tl.Same.stay e2).tup h2, held, items_st e2 h3, fun X3 e3 => ⟨true, rfl, iteF ?_⟩⟩
    exact ⟨_, rfl, (sX.trans e2).trans e3⟩
  · obtain ⟨t, rfl, sX⟩ := z
    have ha' := (Tl.Same.stay sX).tup ha
    refine ⟨.ref a, rfl, a, rfl, ⟨_, ha'⟩, fun D nD => ?_⟩
    refine lc_tup (K := K) (a := a) (xs := xs) (fun i Y => L2.Same X Y ∧ Y D = some (.lst (((es.map (·.1)).take i).map V.str))) ⟨same_up nD, upd_same⟩ (fun i Y _ z => (Tl.Same.stay z.1).tup ha') (fun i x Y hx z => ?_) (fun Y z => ?_)
    · obtain ⟨sY, gY⟩ := z
      obtain ⟨e, he, r⟩ := getP rows hx
      obtain ⟨hw, p, t2, rfl, h1, h2, h3⟩ := row_st (sX.trans sY) r
      have he' : (es.map (·.1))[i]? = some e.1 := by rw [List.getElem?_map, he]; rfl
      refine ⟨rfl, .ref p, rfl, p, _, 0, _, rfl, rfl, h1, atI_nat (j := 0) rfl, _, gY, ?_, same_mut sY nD, ?_⟩
      · rw [List.length_map, List.length_take]
        exact Nat.lt_of_le_of_lt (Nat.le_trans (Nat.min_le_right _ _) (by rw [List.length_map]; exact len)) (by decide)
      · rw [upd_same, List.take_add_one, he', List.map_append]
        rfl
    · obtain ⟨sY, gY⟩ := z
      rw [List.take_of_length_le (by rw [List.length_map, rows.length]; exact Nat.le_refl _)] at gY
      refine ⟨D, _, rfl, .inl (lst_of gY), by rw [List.length_map, List.length_map]; exact len, consec (paired_of (es.map (·.1))) asc fun x y e f h1 h2 h => ?_, fun H' e => q H' ((sX.trans sY).trans e)⟩
      subst h1 h2
      exact .str h
def spWorldT (K : PySem.W.Frag) : Sp := fun vs H Q _ => ∃ (v : V) (W : Wd), vs = [v] ∧ IsWd K H v W ∧ WOk W ∧ ∀ H', L2.Same H H' → Q (.bl true) H'
theorem names_rows {sp : Sp} {H : Hp} {a : Addr} {W : Wd} (ok : WOk W) (h : Names K H a W.names) (acc : ∀ (x : Int) (H' : Hp) (Q : VK), 0 ≤ x → x < W.many → Q (.bl true) H' → sp [.int x, .int W.many] H' Q fun _ _ _ => False) :
    ∃ xs, SqT K H a xs ∧ Paired (Row K H sp W.many) xs (W.names.map fun e => (e.1, e.2.map V.int)) := by
  obtain ⟨ps, hf, hp⟩ := h
  refine ⟨ps.map V.ref, rd_of_frz hf, mapL (F := fun (p : Addr) b => Row K H sp W.many (V.ref p) b) (g := V.ref) (fun p b z => z) (mapR (F := fun p e => NmE K H p e ∧ (isW e.1 = true ∧ GoodN W.many e.2)) (g := fun e : Str × List Int => (e.1, e.2.map V.int)) (fun p e z => ?_) (withR hp ok.names.2.1))⟩
  obtain ⟨⟨t, h1, h2⟩, hw, ne, asc, rg⟩ := z
  refine ⟨hw, p, t, rfl, h1, h2, ?_, ?_, consec (paired_of e.2) asc fun x y e f h1 h2 h => ?_, fun x hx H' Q s q => ?_⟩
  · intro z
    exact ne (List.map_eq_nil_iff.mp z)
  · rw [List.length_map]
    have := asc_len _ 0 W.many asc rg
    have := ok.many
    omega
  · subst h1 h2
    exact .int h
  · obtain ⟨i, hi, rfl⟩ := List.mem_map.mp hx
    exact acc i H' Q (rg i hi).1 (rg i hi).2 q
theorem roles_rows {sp : Sp} {H : Hp} {a : Addr} {W : Wd} (ok : WOk W) (h : Roles K H a W.roles) (acc : ∀ (p : Addr) (e : Int × Int) (H' : Hp) (Q : VK), PrE K H' p e → (0 ≤ e.1 ∧ e.1 < W.many) ∧ 0 ≤ e.2 ∧ e.2 < W.many → Q (.bl true) H' → sp [.ref p, .int W.many] H' Q fun _ _ _ => False) :
    ∃ (xs : List V) (es : List (Str × List V)), SqT K H a xs ∧ Paired (Row K H sp W.many) xs es ∧ es.map (·.1) = W.roles.map (·.1) := by
  obtain ⟨ps, hf, hp⟩ := h
  have : ∀ {ps : List Addr} {rs : List (Str × List (Int × Int))}, Paired (fun p e => RlE K H p e ∧ (isW e.1 = true ∧ GoodR W.many e.2)) ps rs → ∃ es : List (Str × List V), Paired (Row K H sp W.many) (ps.map V.ref) es ∧ es.map (·.1) = rs.map (·.1) := by
    intro ps rs h
    induction h with
    | nil => exact ⟨[], .nil, rfl⟩
    | @cons p e _ _ z _ ih =>
      obtain ⟨es, h1, h2⟩ := ih
      obtain ⟨⟨t, g1, qs, g2, g3⟩, hw, ne, asc, rg⟩ := z
      refine ⟨(e.1, qs.map V.ref) :: es, .cons ⟨hw, p, t, rfl, g1, g2, ?_, ?_, consec (mapL (G := fun v b => ∃ q, v = .ref q ∧ PrE K H q b) (fun q b z => ⟨q, rfl, z⟩) g3) asc fun x y e f h1 h2 h => ?_, fun x hx H' Q s q => ?_⟩ h1, by rw [List.map_cons, List.map_cons, h2]⟩
      · intro z
        have z := List.map_eq_nil_iff.mp z
        have := g3.length
        rw [z] at this
        exact ne (List.length_eq_zero_iff.mp this.symm)
      · rw [List.length_map, g3.length]
        have := lex_len (by have := ok.many; omega) ok.many.2 asc rg
        omega
      · obtain ⟨q1, rfl, z1⟩ := h1
        obtain ⟨q2, rfl, z2⟩ := h2
        exact .prs z1 z2 h
      · obtain ⟨qa, hq, rfl⟩ := List.mem_map.mp hx
        obtain ⟨b, hb, hpb⟩ := memP g3 hq
        exact acc qa b H' Q (pre_st (Tl.Same.stay s) hpb) (rg b hb) q
  obtain ⟨es, h1, h2⟩ := this (withR hp ok.roles.2.1)
  exact ⟨ps.map V.ref, es, rd_of_frz hf, h1, h2⟩
theorem held_of {k : Nat} {x : Str} {sp : Sp} (c : Cal P w K mg base k x sp []) : ∃ f, mg x = some (.ref f) ∧ Held P w K mg base k f sp := by
  obtain ⟨f, fd, ps, ds, F, hm, kp, b, d⟩ := c.ex
  cases d
  exact ⟨f, hm, ⟨fd, ps, F, kp, b⟩⟩
theorem cIsWorld (T : Txt K mg) : Cal P w K mg base 6 "is_world" (spWorldT K) [] := by
  refine cal_of T.isWorld scIsWorld (fun _ _ _ _ _ _ us hl => match us, hl with | [_], _ => rfl) (fun vs H Q E h => ?_) (fun f cdv A outer s H vs Q E hr h => ?_)
  · obtain ⟨v, W, rfl, _⟩ := h
    rfl
  obtain ⟨v, W, rfl, hW, ok, q⟩ := h
  obtain ⟨tm, hmt⟩ := T.most_things
  obtain ⟨f1, hf1, held1⟩ := held_of (calUp (cIsThing (P := P) (w := w) (base := base) T) (show 2 ≤ 3 by decide))
  obtain ⟨f2, hf2, held2⟩ := held_of (cIsTie (P := P) (w := w) (base := base) T)
  refine ⟨_, (pss_cons (ps_if (PW.pt (pw_or (pt_not (pt_val (pe_callB call_isi (by rfl) T.isinstance (by decide +kernel) (pa_cons (pv 0) (pa_cons (pe_bltn (v := V.ty "tuple") (u := Value.type "tuple") (by rfl) T.tuple (by decide +kernel) rfl) pa_nil))))) (pw_or1 (pt_cmpR op_ne (pe_callB call_len_seq (by rfl) T.len (by decide +kernel) (pa_cons (pv 0) pa_nil)) pe_int (nomark _)))))
 (pss_one (ps_ret pe_bl))
 pss_nil)
 (pss_cons (ps_asg (pv 0) (pg_tup rfl (pgs_cons (pg_name (i := 1) scIsWorld.nd rfl (.inl rfl)) (pgs_cons (pg_name (i := 2) scIsWorld.nd rfl (.inl rfl)) (pgs_cons (pg_name (i := 3) scIsWorld.nd rfl (.inl rfl)) pgs_nil)))))
 (pss_cons (ps_if (PW.pt (pw_or (pt_not (pt_val (pe_c (cIsInteger T) hr (by decide) rfl (pa_cons (pv 1) pa_nil)))) (pw_or1 (pt_not (pt_chain op_le op_le pe_int (pv 1) (pe_glob (v := V.int 2000) rfl hmt ⟨_, rfl⟩))))))
 (pss_one (ps_ret pe_bl))
 pss_nil)
 (pss_one (ps_ret (pe_and (pe_c (cIsListing T) hr (by decide) rfl (pa_cons (pv 2) (pa_cons (pe_glob (v := V.ref f1) rfl hf1 rfl) (pa_cons (pv 1) pa_nil)))) (pe_one (pe_c (cIsListing T) hr (by decide) rfl (pa_cons (pv 3) (pa_cons (pe_glob (v := V.ref f2) rfl hf2 rfl) (pa_cons (pv 1) pa_nil))))))))))), ?_⟩
  obtain ⟨a, na, ra, rfl, ha, hN, hR⟩ := hW
  have okm := ok.many
  obtain ⟨xs1, hx1, hr1⟩ := names_rows (sp := spThing) ok hN fun x H' Q h0 h1 q => ⟨x, _, rfl, h0, h1, q⟩
  obtain ⟨xs2, es2, hx2, hr2, he2⟩ := roles_rows (sp := spTie K) ok hR fun p e H' Q h0 h1 q => ⟨p, e, _, rfl, h0, h1.1.1, h1.1.2, h1.2.1, h1.2.2, q⟩
  refine ⟨.ref a, rfl, .ref a, .ty "tuple", .type "tuple", .type "tuple", true, rfl, .ty _, ty_tup ha, kit_ty (by decide +kernel), true, rfl, iteF ?_⟩
  refine ⟨.ref a, rfl, a, _, rfl, .inr ha, rfl, _, rfl, iteF ?_⟩
  refine ⟨.ref a, rfl, a, _, rfl, ha, rfl, .int W.many, _, rfl, .ref na, _, rfl, .ref ra, [], rfl, rfl, ?_⟩
  refine ⟨.int W.many, rfl, W.many, rfl, true, rfl, iteF ?_⟩
  refine ⟨.int W.many, rfl, 1, W.many, rfl, rfl, _, rfl, ?_⟩
  rw [show decide ((1 : Int) ≤ W.many) = true from decide_eq_true okm.1]
  refine iteT ⟨W.many, 2000, rfl, rfl, _, rfl, ?_⟩
  rw [show decide (W.many ≤ (2000 : Int)) = true from decide_eq_true (by omega)]
  refine iteF ?_
  refine ⟨.ref na, rfl, .int W.many, rfl, na, f1, W.many, xs1, _, spThing, rfl, hx1, held1, hr1, ?_, ?_, fun X e1 => ⟨true, rfl, iteT ?_⟩⟩
  · rw [List.map_map]
    exact ok.names.1
  · rw [List.length_map]
    have := ok.names.2.2
    omega
  refine ⟨.ref ra, rfl, .int W.many, rfl, ra, f2, W.many, xs2, es2, spTie K, rfl, (Tl.Same.stay e1).tup hx2, held2, Paired.mapP hr2 fun _ _ z => row_st e1 z, ?_, ?_, fun X2 e2 => q X2 (e1.trans e2)⟩
  · rw [he2]
    exact ok.roles.1
  · have := congrArg List.length he2
    rw [List.length_map, List.length_map] at this
    rw [this]
    have := ok.roles.2.2
    omega
theorem cCheckWorld (T : Txt K mg) : Cal P w K mg base 7 "check_world" (fun vs H Q _ => ∃ (v : V) (W : Wd), vs = [v] ∧ IsWd K H v W ∧ WOk W ∧ ∀ H', L2.Same H H' → Q .non H') [] := by
  refine cal_of T.checkWorld scCheckWorld (fun _ _ _ _ _ _ us hl => match us, hl with | [_], _ => rfl) (fun vs H Q E h => ?_) (fun f cdv A outer s H vs Q E hr h => ?_)
  · obtain ⟨v, W, rfl, _⟩ := h
    rfl
  obtain ⟨v, W, rfl, hW, ok, q⟩ := h
  refine ⟨_, (pss_one (ps_if (pt_not (pt_val (pe_c (cIsWorld T) hr (by decide) rfl (pa_cons (pv 0) pa_nil))))
 (pss_one ps_never)
 pss_nil)), ?_⟩
  exact ⟨v, rfl, v, W, rfl, hW, ok, fun H' e => ⟨true, rfl, iteF (q H' e)⟩⟩
end
end K24
set_option Elab.async false
set_option linter.all false
set_option autoImplicit false
set_option maxRecDepth 100000
set_option maxHeartbeats 4000000
namespace Tl
open PySem PySem.Spec PyProof.Rows L2
section
variable {X : Cx} {K : PySem.W.Frag}
theorem op_neDK (hK : X.K = K) (hu : X.A.units + 64 < cLine) : OpR X (compareOp .NotEq) (rNeD K) := by
  subst hK
  exact op_neD hu
theorem op_eqDK (hK : X.K = K) (hu : X.A.units + 64 < cLine) : OpR X (compareOp .Eq) (rEqD K) := by
  subst hK
  exact op_eqD hu
theorem pi_tupK {tg l : Expr} {tl : TE} (hK : X.K = K) (hl : PE X l tl) : PI X tg l (iTup K tl) := by
  subst hK
  exact pi_tup hl
end
end Tl
namespace K24
open PySem PySem.Spec PyProof.Rows L2 Tl
open C8 (Cal pe_c)
theorem filt_any {α : Type} (p : α → Bool) (l : List α) : (!(l.filter p).isEmpty) = l.any p := by
  induction l with
  | nil => rfl
  | cons x l ih =>
    rw [List.any_cons, List.filter_cons]
    cases h : p x with
    | true => simp
    | false => simpa using ih
/-- what x is tied to -/
def tied (W : Wd) (r : Str) (x : Int) : List Int := ((lookR W r).filter fun e => decide (e.1 = x)).map (·.2)
section
variable {P : Program} {w : World} {K : PySem.W.Frag} {mg : Str → Option Value} {base : Heap}
def spTied2 (K : PySem.W.Frag) : Sp := fun vs H Q _ => ∃ (v : V) (W : Wd) (r : Str) (x : Int), vs = [v, .str r, .int x] ∧ IsWd K H v W ∧ WOk W ∧
  ∀ (p : Addr) (H' : Hp), L2.Same H H' → H p = none → H' p = some (.lst ((tied W r x).map V.int)) → Q (.ref p) H'
theorem cLawTied (T : Txt K mg) : Cal P w K mg base 1 "_law_tied" (spTied2 K) [] := by
  refine cal_of T.lawTied scLawTied (fun _ _ _ _ _ _ us hl => match us, hl with | [_, _, _], _ => rfl) (fun vs H Q E h => ?_) (fun f cdv A outer s H vs Q E hr h => ?_)
  · obtain ⟨v, W, r, x, rfl, _⟩ := h
    rfl
  obtain ⟨v, W, r, x, rfl, hW, ok, q⟩ := h
  have hu := hu_of hr
  refine ⟨_, (pss_one (ps_ret (pe_lc (own := [("pair", 3)]) (by rfl) scLawTied.nd (pi_tup (pe_dget2 hu (pe_callTy (cr_dctT rfl) (by rfl) T.dict (by decide +kernel) (pa_cons (pe_ix ix_tup (pv 0) pe_int (fun _ _ => rfl)) pa_nil)) (pv 1) (pe_tup pa_nil) ⟨rfl, rfl, rfl, rfl⟩)) (blkOk_by (own := [("pair", 3)]) (N := ["world", "role", "x", "pair"]) (sc := defScope sLawTied) (by decide +kernel)) (fun _ _ _ _ _ => (pg_name (i := 3) scLawTied.nd rfl (.inl rfl))) (fun _ _ _ _ _ => pts_one (pt_cmpR op_eq (pe_ix (ix_tupK (K := K) rfl) (pv 3) pe_int (fun _ _ => rfl)) (pv 2) (nomark _))) (fun _ _ _ _ _ => (pe_ix (ix_tupK (K := K) rfl) (pv 3) pe_int (fun _ _ => rfl)))))), ?_⟩
  obtain ⟨wa, na, ra, rfl, hw, hN, hR⟩ := hW
  have okm := ok.many
  obtain ⟨ps, ⟨oo, fz, no⟩, hps⟩ := hR
  obtain ⟨kvs, hk1, hk2⟩ := ent_of_roles hps
  refine ⟨.ref wa, rfl, wa, _, 2, .ref ra, rfl, rfl, hw, atI_nat (j := 2) rfl, ra, oo, ps, kvs, rfl, fz, no, hk1, fun d nd => ?_⟩
  rw [merged_ent hk2 ok.roles.1]
  have s1 := same_up (o := .dK kvs) nd
  refine ⟨d, rfl, .inl ⟨kvs, .inl upd_same⟩, .str r, rfl, Nat.zero_le _, fun z nz => ?_⟩
  have s2 := same_add s1 (o := .tup []) nz
  have gd : (upd (upd H d (.dK kvs)) z (.tup [])) d = some (.dK kvs) := (same_up nz) _ _ upd_same
  obtain ⟨t, qs, ev, ht, hqs⟩ : ∃ (t : Addr) (qs : List Addr), (valV kvs (.inr r)).getD (.ref z) = .ref t ∧ SqT K (upd (upd H d (.dK kvs)) z (.tup [])) t (qs.map V.ref) ∧
      Paired (PrE K (upd (upd H d (.dK kvs)) z (.tup []))) qs (lookR W r) := by
    unfold lookR
    rcases ent_look hk2 r with ⟨e1, e2⟩ | ⟨t, es, e1, e2, qs, h3, h4⟩
    · rw [e1, e2]
      exact ⟨z, [], rfl, tupOf upd_same, .nil⟩
    · rw [e1, e2]
      exact ⟨t, qs, rfl, (Tl.Same.stay s2).tup h3, Paired.mapP h4 fun _ _ z => pre_st (Tl.Same.stay s2) z⟩
  refine ⟨_, DGet.k (k := .inr r) gd, t, ev, ⟨_, ht⟩, fun D nD => ?_⟩
  generalize (upd (upd H d (.dK kvs)) z (.tup [])) = G at ht hqs nD s2 ⊢
  have D0 := s2.free nD
  have good := lookR_good ok r
  have few := lex_len (by omega) okm.2 good.1 good.2
  have lq := Paired.length hqs
  refine lc_tup (K := K) (a := t) (xs := qs.map V.ref) (fun i X => L2.Same G X ∧ X D = some (.lst (((((lookR W r).take i).filter fun e => decide (e.1 = x)).map (·.2)).map V.int)))
    ⟨same_up nD, upd_same⟩ (fun i X _ z => (Tl.Same.stay z.1).tup ht) (fun i y X hx z => ?_) (fun X z => ?_)
  · obtain ⟨sX, gX⟩ := z
    obtain ⟨qa, hqa, rfl⟩ : ∃ m, qs[i]? = some m ∧ y = V.ref m := by
      rw [List.getElem?_map] at hx
      obtain ⟨m, h, e⟩ := Option.map_eq_some_iff.mp hx
      exact ⟨m, h, e.symm⟩
    obtain ⟨e, he, hpe⟩ := getP hqs hqa
    have hq := (Tl.Same.stay sX).tup hpe
    have htk : (lookR W r).take (i + 1) = (lookR W r).take i ++ [e] := by rw [List.take_add_one, he]; rfl
    refine ⟨rfl, .ref qa, rfl, qa, _, 0, _, rfl, rfl, hq, atI_nat (j := 0) rfl, .int x, rfl, rfl, _, rfl, ite2 (fun c => ?_) (fun c => ?_)⟩
    · have c : e.1 = x := V.int.inj (of_decide_eq_true c)
      refine ⟨.ref qa, rfl, qa, _, 1, _, rfl, rfl, hq, atI_nat (j := 1) rfl, _, gX, ?_, same_mut sX nD, ?_⟩
      · rw [List.length_map, List.length_map]
        refine Nat.lt_of_le_of_lt (Nat.le_trans (List.length_filter_le _ _) ?_) (show 100 < sizeLine by decide)
        rw [List.length_take]
        omega
      · rw [upd_same, htk, List.filter_append, List.map_append, List.map_append, List.filter_cons, if_pos (decide_eq_true c)]
        rfl
    · have c : ¬ e.1 = x := fun z => c (decide_eq_true (by rw [z]))
      refine ⟨sX, ?_⟩
      rw [htk, List.filter_append, List.filter_cons, if_neg (by simpa using c), gX]
      simp
  · obtain ⟨sX, gX⟩ := z
    rw [List.length_map, lq, List.take_of_length_le (Nat.le_refl _)] at gX
    exact q D X (s2.trans sX) D0 gX
end
end K24
set_option Elab.async false
set_option linter.all false
set_option autoImplicit false
set_option maxRecDepth 100000
set_option maxHeartbeats 2000000
namespace K24
open PySem PySem.Spec PyProof.Rows L2 Tl
open C8 (Cal pe_c)
/-! ### masks: numbers below 64 -/
def bitsN (N : Nat) : List Nat := (List.range 6).filter N.testBit
def bitsOf (N : Nat) : List Int := (bitsN N).map fun (i : Nat) => (i : Int)
theorem bor_tab : ((List.range 64).all fun a => (List.range 64).all fun b => decide (Builtin.bitOr (a : Int) (b : Int) = ((a ||| b : Nat) : Int)) && decide (Builtin.bitAnd (a : Int) (b : Int) = ((a &&& b : Nat) : Int))) = true := by decide +kernel
theorem bor {a b : Nat} (ha : a < 64) (hb : b < 64) : Builtin.bitOr (a : Int) (b : Int) = ((a ||| b : Nat) : Int) := by
  have h := List.all_eq_true.mp (List.all_eq_true.mp bor_tab a (List.mem_range.mpr ha)) b (List.mem_range.mpr hb)
  rw [Bool.and_eq_true, decide_eq_true_eq] at h
  exact h.1
theorem band {a b : Nat} (ha : a < 64) (hb : b < 64) : Builtin.bitAnd (a : Int) (b : Int) = ((a &&& b : Nat) : Int) := by
  have h := List.all_eq_true.mp (List.all_eq_true.mp bor_tab a (List.mem_range.mpr ha)) b (List.mem_range.mpr hb)
  rw [Bool.and_eq_true, decide_eq_true_eq, decide_eq_true_eq] at h
  exact h.2
theorem or64 {a b : Nat} (ha : a < 64) (hb : b < 64) : (a ||| b) < 64 := Nat.or_lt_two_pow (n := 6) ha hb
theorem and64 {a b : Nat} (ha : a < 64) : (a &&& b) < 64 := Nat.lt_of_le_of_lt Nat.and_le_left ha
theorem pow64 {i : Nat} (h : i < 6) : 2 ^ i < 64 := by
  have := Nat.pow_lt_pow_right (a := 2) (by decide) h
  exact this
/-- the lowest bit -/
def lowB (N : Nat) : Nat := ((List.range 6).find? N.testBit).getD 0
theorem low_tab : ((List.range 64).all fun N => decide (N = 0) || (decide (lowB N < 6) && (decide (Builtin.bitAnd (N : Int) (-(N : Int)) = ((2 ^ lowB N : Nat) : Int)) && (decide (2 ^ lowB N ≤ N) && (decide (bitsN N = lowB N :: bitsN (N - 2 ^ lowB N)) && (decide (Builtin.Int.intBits ((2 ^ lowB N : Nat) : Int) = lowB N + 1))))))) = true := by decide +kernel
theorem low_ok {N : Nat} (h : N < 64) (n0 : N ≠ 0) : lowB N < 6 ∧ Builtin.bitAnd (N : Int) (-(N : Int)) = ((2 ^ lowB N : Nat) : Int) ∧ 2 ^ lowB N ≤ N ∧ bitsN N = lowB N :: bitsN (N - 2 ^ lowB N) ∧ Builtin.Int.intBits ((2 ^ lowB N : Nat) : Int) = lowB N + 1 := by
  have h := List.all_eq_true.mp low_tab N (List.mem_range.mpr h)
  rw [Bool.or_eq_true, decide_eq_true_eq] at h
  have h := h.resolve_left n0
  simp only [Bool.and_eq_true, decide_eq_true_eq] at h
  exact h
def spBits : Sp := fun vs H Q _ => ∃ N : Nat, vs = [.int (N : Int)] ∧ N < 64 ∧ ∀ (p : Addr) (H' : Hp), H p = none → L2.Same H H' → H' p = some (.lst ((bitsOf N).map V.int)) → Q (.ref p) H'
section
variable {P : Program} {w : World} {K : PySem.W.Frag} {mg : Str → Option Value} {base : Heap}
theorem cBits (T : Txt K mg) : Cal P w K mg base 1 "bits" spBits [] := by
  refine cal_of T.bits scBits (fun _ _ _ _ _ _ us hl => match us, hl with | [_], _ => rfl) (fun vs H Q E h => ?_) (fun f cdv A outer s H vs Q E hr h => ?_)
  · obtain ⟨N, rfl, _⟩ := h
    rfl
  obtain ⟨N, rfl, hN, q⟩ := h
  refine ⟨_, (pss_cons (ps_set (i := 1) scBits.nd rfl (.inl rfl) (pe_lst pa_nil))
 (pss_cons (ps_while PassesOwn.never (pt_truth (pv 0) (fun _ => rfl))
 (pss_cons (ps_set (i := 2) scBits.nd rfl (.inl rfl) (pe_op op_and (pv 0) (pe_un un_neg (pv 0))))
 (pss_cons (ps_expr (pe_bm PySem.F.plainAttrs_list PySem.F.slot_list_append PySem.F.type_list_append mt_append (pv 1) (pa_cons (pe_op op_sub (pe_bits (pv 2)) pe_int) pa_nil)))
 (pss_one (ps_set (i := 0) scBits.nd rfl (.inl rfl) (pe_op op_sub (pv 0) (pv 2)))))))
 (pss_one (ps_ret (pv 1))))), ?_⟩
  refine ⟨Nat.zero_le _, fun p np => ?_⟩
  refine ⟨fun m σ X => ∃ (M : Nat) (xs : List Nat) (t : Option V), σ = [some (.int (M : Int)), some (.ref p), t] ∧ m = M ∧ M < 64 ∧ xs ++ bitsN M = bitsN N ∧ L2.Same H X ∧ X p = some (.lst ((xs.map fun (i : Nat) => (i : Int)).map V.int)),
    ⟨N, N, [], none, rfl, rfl, hN, rfl, same_up np, upd_same⟩, ?_⟩
  rintro M σ X ⟨_, xs, t, rfl, rfl, hM, eb, sX, gX⟩
  refine ⟨.int (M : Int), rfl, _, rfl, ?_⟩
  by_cases h0 : M = 0
  · subst h0
    refine iteF ⟨_, rfl, q p X np sX ?_⟩
    rw [gX, ← List.append_nil xs, show ([] : List Nat) = bitsN 0 from by decide, eb]
    rfl
  · have e1 : ((M : Int) != 0) = true := by simp [h0]
    rw [e1]
    obtain ⟨l6, la, lle, lb, li⟩ := low_ok hM h0
    have pp : 0 < 2 ^ lowB M := Nat.pos_of_ne_zero (by intro z; have := Nat.pow_eq_zero.mp z; omega)
    have lx : xs.length ≤ 6 := by
      have e2 := congrArg List.length eb
      rw [List.length_append] at e2
      have : (bitsN N).length ≤ 6 := Nat.le_trans (List.length_filter_le _ _) (by simp)
      omega
    refine iteT ⟨fun σ' X' => ∃ m', m' < M ∧ ∃ (M' : Nat) (xs : List Nat) (t : Option V), σ' = [some (.int (M' : Int)), some (.ref p), t] ∧ m' = M' ∧ M' < 64 ∧ xs ++ bitsN M' = bitsN N ∧ L2.Same H X' ∧ X' p = some (.lst ((xs.map fun (i : Nat) => (i : Int)).map V.int)), fun _ _ z => z, ?_⟩
    refine ⟨.int (M : Int), rfl, .int (M : Int), rfl, (M : Int), rfl, (M : Int), -(M : Int), rfl, rfl, ?_⟩
    refine ⟨.ref p, rfl, .inl ⟨rfl, _, lst_of gX⟩, .int (Builtin.bitAnd (M : Int) (-(M : Int))), rfl, Builtin.bitAnd (M : Int) (-(M : Int)), rfl, _, _, rfl, rfl, p, _, _, rfl, rfl, gX, ?_, ?_⟩
    · rw [List.length_map, List.length_map]
      exact Nat.lt_of_le_of_lt lx (by decide)
    refine ⟨.int (M : Int), rfl, .int (Builtin.bitAnd (M : Int) (-(M : Int))), rfl, _, _, rfl, rfl, ?_⟩
    refine ⟨M - 2 ^ lowB M, by omega, M - 2 ^ lowB M, xs ++ [lowB M], some (.int (Builtin.bitAnd (M : Int) (-(M : Int)))), ?_, rfl, by omega, ?_, same_mut sX np, ?_⟩
    · show [some (V.int ((M : Int) - Builtin.bitAnd (M : Int) (-(M : Int)))), some (.ref p), some (.int (Builtin.bitAnd (M : Int) (-(M : Int))))] = _
      rw [show ((M : Int) - Builtin.bitAnd (M : Int) (-(M : Int))) = ((M - 2 ^ lowB M : Nat) : Int) by rw [la]; omega]
    · rw [List.append_assoc, List.singleton_append, ← lb, eb]
    · rw [upd_same, List.map_append, List.map_append]
      show some (HO.lst (List.map V.int (List.map (fun (i : Nat) => (i : Int)) xs) ++ [V.int (((Builtin.Int.intBits (Builtin.bitAnd (M : Int) (-(M : Int))) : Nat) : Int) - 1)])) = _
      rw [show ((Builtin.Int.intBits (Builtin.bitAnd (M : Int) (-(M : Int))) : Nat) : Int) - 1 = ((lowB M : Nat) : Int) by rw [la, li]; omega]
      rfl
end
end K24
set_option Elab.async false
set_option linter.all false
set_option autoImplicit false
set_option maxRecDepth 100000
set_option maxHeartbeats 2000000
namespace K24
open PySem PySem.Spec PyProof.Rows L2 Tl
open C8 (Cal pe_c Met Mak pe_mt pe_mt0 pe_mk)
/-! ### ties by masks -/
def aft (es : List (Int × Int)) (x : Int) : Nat := es.foldl (fun N e => if e.1 = x then N ||| 2 ^ e.2.toNat else N) 0
theorem aft_snoc (es : List (Int × Int)) (e : Int × Int) (x : Int) : aft (es ++ [e]) x = if e.1 = x then aft es x ||| 2 ^ e.2.toNat else aft es x := by
  unfold aft
  rw [List.foldl_append]
  rfl
def InB (n : Int) (es : List (Int × Int)) : Prop := ∀ e ∈ es, (0 ≤ e.1 ∧ e.1 < n) ∧ 0 ≤ e.2 ∧ e.2 < 6
theorem aft_lt {n : Int} : ∀ (es : List (Int × Int)) (x : Int), InB n es → aft es x < 64 := by
  intro es x h
  have key : ∀ (l : List (Int × Int)) (N : Nat), (∀ e ∈ l, 0 ≤ e.2 ∧ e.2 < 6) → N < 64 → l.foldl (fun N e => if e.1 = x then N ||| 2 ^ e.2.toNat else N) N < 64 := by
    intro l
    induction l with
    | nil => exact fun N _ h => h
    | cons e l ih =>
      intro N h1 h2
      refine ih _ (fun f hf => h1 f (List.mem_cons_of_mem _ hf)) ?_
      have := h1 e List.mem_cons_self
      by_cases z : e.1 = x
      · simp only [if_pos z]
        exact or64 h2 (pow64 (by omega))
      · simp only [if_neg z]
        exact h2
  exact key es 0 (fun e he => (h e he).2) (by decide)
theorem aft_bit {n : Int} (es : List (Int × Int)) (x y : Int) (h : InB n es) (y0 : 0 ≤ y) : (aft es x).testBit y.toNat = decide ((x, y) ∈ es) := by
  have key : ∀ (l : List (Int × Int)) (N : Nat), (∀ e ∈ l, 0 ≤ e.2) → (l.foldl (fun N e => if e.1 = x then N ||| 2 ^ e.2.toNat else N) N).testBit y.toNat = (N.testBit y.toNat || decide ((x, y) ∈ l)) := by
    intro l
    induction l with
    | nil => intro N _; simp
    | cons e l ih =>
      intro N h1
      have e0 := h1 e List.mem_cons_self
      rw [List.foldl_cons, ih _ fun f hf => h1 f (List.mem_cons_of_mem _ hf)]
      have em : ((x, y) ∈ e :: l) ↔ ((x = e.1 ∧ y = e.2) ∨ (x, y) ∈ l) := by
        rw [List.mem_cons, Prod.ext_iff]
      by_cases z : e.1 = x
      · rw [if_pos z, Nat.testBit_or, Nat.testBit_two_pow]
        have : decide ((x, y) ∈ e :: l) = (decide (e.2.toNat = y.toNat) || decide ((x, y) ∈ l)) := by
          rw [Bool.eq_iff_iff]
          simp only [Bool.or_eq_true, decide_eq_true_eq, em]
          constructor
          · rintro (⟨_, h⟩ | h)
            · exact .inl (by rw [h])
            · exact .inr h
          · rintro (h | h)
            · exact .inl ⟨z.symm, by omega⟩
            · exact .inr h
        rw [this, Bool.or_assoc]
      · rw [if_neg z]
        have : decide ((x, y) ∈ e :: l) = decide ((x, y) ∈ l) := by
          rw [Bool.eq_iff_iff]
          simp only [decide_eq_true_eq, em]
          constructor
          · rintro (⟨h, _⟩ | h)
            · exact absurd h.symm z
            · exact h
          · exact .inr
        rw [this]
  have := key es 0 fun e he => (h e he).2.1
  rw [Nat.zero_testBit, Bool.false_or] at this
  exact this
def afts (n : Int) (es : List (Int × Int)) : List Int := (rgI n).map fun x => ((aft es x : Nat) : Int)
theorem rgI_len (n : Int) : (rgI n).length = n.toNat := by simp [rgI]
theorem rgI_get {n : Int} {i : Nat} (h : i < n.toNat) : (rgI n)[i]? = some (i : Int) := by
  unfold rgI
  rw [List.getElem?_map, List.getElem?_range h]
  rfl
theorem afts_len (n : Int) (es : List (Int × Int)) : (afts n es).length = n.toNat := by
  unfold afts
  rw [List.length_map, rgI_len]
theorem afts_get {n : Int} {es : List (Int × Int)} {x : Int} (h0 : 0 ≤ x) (h1 : x < n) : (afts n es)[x.toNat]? = some ((aft es x : Nat) : Int) := by
  unfold afts
  rw [List.getElem?_map, rgI_get (by omega)]
  show some ((aft es (x.toNat : Int) : Nat) : Int) = _
  rw [Int.toNat_of_nonneg h0]
theorem afts_nil (n : Int) : afts n [] = List.replicate n.toNat 0 := by
  unfold afts
  rw [← rgI_len n]
  show (rgI n).map (fun _ => (0 : Int)) = _
  exact List.map_const' ..
theorem afts_snoc {n : Int} {es : List (Int × Int)} {e : Int × Int} (h0 : 0 ≤ e.1) (h1 : e.1 < n) : afts n (es ++ [e]) = (afts n es).set e.1.toNat ((aft es e.1 ||| 2 ^ e.2.toNat : Nat) : Int) := by
  apply List.ext_getElem?
  intro i
  by_cases hi : i < n.toNat
  · rw [List.getElem?_set]
    have e1 : (afts n (es ++ [e]))[i]? = some ((aft (es ++ [e]) (i : Int) : Nat) : Int) := by
      have := afts_get (n := n) (es := es ++ [e]) (x := (i : Int)) (by omega) (by omega)
      rwa [Int.toNat_natCast] at this
    have e2 : (afts n es)[i]? = some ((aft es (i : Int) : Nat) : Int) := by
      have := afts_get (n := n) (es := es) (x := (i : Int)) (by omega) (by omega)
      rwa [Int.toNat_natCast] at this
    rw [e1, e2, aft_snoc, afts_len]
    by_cases z : e.1 = (i : Int)
    · rw [if_pos z, if_pos (by omega), if_pos (by omega), z]
    · rw [if_neg z, if_neg (by omega)]
  · rw [List.getElem?_eq_none (by rw [afts_len]; omega), List.getElem?_eq_none (by rw [List.length_set, afts_len]; omega)]
def AfR (Fr : Addr → Prop) (H : Hp) (n : Int) (t : Addr) (es : List (Int × Int)) : Prop := Fr t ∧ H t = some (.lst ((afts n es).map V.int))
theorem ent_imp {α : Type} {R S : Addr → α → Prop} {kvs : List (Key × V)} {nm : List (Str × α)} (h : Paired (Ent R) kvs nm) (to : ∀ t y, R t y → S t y) : Paired (Ent S) kvs nm :=
  Paired.mapP h fun _ _ ⟨a, t, b, c⟩ => ⟨a, t, b, to t _ c⟩
theorem ent_fresh {α : Type} {R : Addr → α → Prop} {kvs : List (Key × V)} {nm : List (Str × α)} (h : Paired (Ent R) kvs nm) {x : Str} (n : x ∉ nm.map (·.1)) : valV kvs (.inr x) = none := by
  rcases ent_look h x with z | ⟨t, y, _, z, _⟩
  · exact z.1
  · exact absurd (List.mem_map.mpr ⟨_, look_mem z, rfl⟩) n
theorem sl_nodup {ws : List Str} (h : ws.Pairwise sl) : ws.Nodup := h.imp fun {a b} hab e => by
  rw [e] at hab
  exact List.lt_irrefl _ hab
theorem take_fresh {α : Type} : ∀ {nm : List (Str × α)} {i : Nat} {e : Str × α}, (nm.map (·.1)).Nodup → nm[i]? = some e → e.1 ∉ (nm.take i).map (·.1)
  | [], _, _, _, h => nomatch h
  | _ :: _, 0, _, _, _ => by simp
  | f :: nm, i + 1, e, n, h => by
    have h : nm[i]? = some e := h
    have n := List.nodup_cons.mp n
    rw [List.take_succ_cons, List.map_cons, List.mem_cons]
    rintro (z | z)
    · exact n.1 (List.mem_map.mpr ⟨e, List.mem_of_getElem? h, z⟩)
    · exact take_fresh n.2 h z
theorem stay_ins {H X : Hp} {p C dx : Addr} {fs : List (Str × V)} (e : ∀ a o, a ≠ p → H a = some o → X a = some o) (h : H p = some (.ins C dx fs)) : Stay H X := fun a o ha k => by
  refine e a o (fun z => ?_) ha
  subst z
  rw [h] at ha
  cases ha
  rcases k with ⟨_, k⟩ | ⟨_, _, k⟩ <;> cases k
theorem lk1 (k : Str) (v : V) (fs : List (Str × V)) : ((k, v) :: fs).lookup k = some v := List.lookup_cons_self
theorem ixN_nat {n : Nat} {x : Int} (h0 : 0 ≤ x) (h1 : x < (n : Int)) : ixN n x = some x.toNat := by
  unfold ixN
  rw [if_pos h0]
  simp
  omega
theorem atI_of {α : Type} {xs : List α} {x : Int} {v : α} (h0 : 0 ≤ x) (h : xs[x.toNat]? = some v) : atI xs x = some v := by
  have := (List.getElem?_eq_some_iff.mp h).1
  unfold atI
  rw [ixN_nat h0 (by omega)]
  exact h
end K24
set_option Elab.async false
set_option linter.all false
set_option autoImplicit false
set_option maxRecDepth 100000
set_option maxHeartbeats 2000000
namespace K24
open PySem PySem.Spec PyProof.Rows L2 Tl
open C8 (Cal pe_c Met Mak pe_mt pe_mt0 pe_mk)
def spTies (K : PySem.W.Frag) : Sp := fun vs H Q _ => ∃ (p rl C dx : Addr) (n : Int) (es : List (Str × List (Int × Int))), vs = [.ref p, .int n, .ref rl] ∧ H p = some (.ins C dx []) ∧ Cls K C ∧ NoAttr K C "_after" ∧ Roles K H rl es ∧
  (es.map (·.1)).Pairwise sl ∧ es.length ≤ 50 ∧ 1 ≤ n ∧ n ≤ 6 ∧ (∀ e ∈ es, InB n e.2) ∧
  ∀ (D : Addr) (kvs : List (Key × V)) (H' : Hp), (∀ a o, a ≠ p → H a = some o → H' a = some o) → H D = none → H' p = some (.ins C dx [("_after", .ref D)]) → H' D = some (.dK kvs) →
    Paired (Ent (AfR (fun a => H a = none) H' n)) kvs es → Q .non H'
section
variable {P : Program} {w : World} {K : PySem.W.Frag} {mg : Str → Option Value} {base : Heap}
theorem rTiesInit {cT : Addr} (D : RAt K mg "Ties" "__init__" "Ties.__init__" cT sTiesInit) : Rcl P w K mg base 1 "Ties" "__init__" cT (spTies K) := by
  refine rcl_of D scTiesInit (fun _ _ _ _ _ _ us hl => match us, hl with | [_, _, _], _ => rfl) (fun vs H Q E h => ?_) (fun f cdv A outer s H vs Q E hr h => ?_)
  · obtain ⟨p, rl, C, dx, n, es, rfl, _⟩ := h
    rfl
  obtain ⟨p, rl, C, dx, n, es, rfl, gp, cls, na, hR, asc, len, n1, n6, inb, q⟩ := h
  refine ⟨_, (pss_cons (ps_fld (pv 0) pe_dnewK rfl)
 (pss_one (ps_for PassesOwn.never rfl (pi_tup (pv 2)) (pg_tup rfl (pgs_cons (pg_name (i := 3) scTiesInit.nd rfl (.inl rfl)) (pgs_cons (pg_name (i := 4) scTiesInit.nd rfl (.inl rfl)) pgs_nil)))
 (pss_cons (ps_set (i := 5) scTiesInit.nd rfl (.inl rfl) (L2.pe_dsetd (pe_fld (pv 0) rfl) (pv 3) (pe_op op_rep (pe_lst (pa_cons pe_int pa_nil)) (pv 1)) ⟨rfl, rfl, rfl, rfl⟩))
 (pss_one (ps_for PassesOwn.never rfl (pi_tup (pv 4)) (pg_tup rfl (pgs_cons (pg_name (i := 6) scTiesInit.nd rfl (.inl rfl)) (pgs_cons (pg_name (i := 7) scTiesInit.nd rfl (.inl rfl)) pgs_nil)))
 (pss_one (ps_asg (pe_op op_or (pe_ix ix_list (pv 5) (pv 6) (fun _ _ => rfl)) (pe_op op_oneShl pe_int (pv 7))) (pg_sub (pv 5) (pv 6) set_list))))))))), ?_⟩
  refine fun D0 nD => ?_
  have pD : p ≠ D0 := ne_of_none gp nD
  refine ⟨.ref p, rfl, p, C, dx, [], rfl, (upd_ne pD).trans gp, cls, na, by decide, ?_⟩
  obtain ⟨ps, hf, hp⟩ := hR
  have sq := rd_of_frz (K := K) hf
  have o1 : ∀ a o, a ≠ p → H a = some o → upd (upd H D0 (.dK [])) p (.ins C dx [("_after", .ref D0)]) a = some o := fun a o h1 h2 => by
    rw [upd_ne h1, upd_ne (ne_of_none h2 nD)]
    exact h2
  have st1 := stay_ins o1 gp
  refine ⟨.ref rl, rfl, rl, rfl, ⟨_, st1.tup sq⟩, ?_⟩
  refine for_tup (K := K) (a := rl) (xs := ps.map V.ref) (fun i σ X => ∃ (kvs : List (Key × V)) (t3 t4 t5 t6 t7 : Option V), σ = [some (.ref p), some (.int n), some (.ref rl), t3, t4, t5, t6, t7] ∧ (∀ a o, a ≠ p → H a = some o → X a = some o) ∧
      X p = some (.ins C dx [("_after", .ref D0)]) ∧ X D0 = some (.dK kvs) ∧ Paired (Ent (AfR (fun a => H a = none) X n)) kvs (es.take i))
    ⟨[], _, _, _, _, _, rfl, o1, upd_same, (upd_ne pD.symm).trans upd_same, .nil⟩ (fun i σ X _ z => ?_) (fun i x σ X hx z => ?_) (fun σ X z => ?_)
  · obtain ⟨_, _, _, _, _, _, _, z, _⟩ := z
    exact (stay_ins z gp).tup sq
  · obtain ⟨kvs, t3, t4, t5, t6, t7, rfl, oX, pX, dX, eX⟩ := z
    have hl : i < ps.length := by
      have := (List.getElem?_eq_some_iff.mp hx).1
      rwa [List.length_map] at this
    obtain ⟨qa, rfl⟩ : ∃ qa, x = V.ref qa := by
      rw [List.getElem?_map] at hx
      obtain ⟨u, _, e⟩ := Option.map_eq_some_iff.mp hx
      exact ⟨u, e.symm⟩
    have hq : ps[i]? = some qa := by
      rw [List.getElem?_map] at hx
      obtain ⟨u, h1, e⟩ := Option.map_eq_some_iff.mp hx
      rw [h1, V.ref.inj e]
    obtain ⟨e, he, t', h1, qs, h2, h3⟩ := getP hp hq
    have stX := stay_ins oX gp
    have fr : e.1 ∉ (es.take i).map (·.1) := take_fresh (sl_nodup asc) he
    have ib := inb e (List.mem_of_getElem? he)
    refine ⟨qa, _, rfl, stX.tup h1, rfl, .str e.1, _, rfl, .ref t', [], rfl, rfl, ?_⟩
    -- tied = self._after.setdefault(role, [0] * many)
    refine ⟨.ref p, rfl, p, C, dx, _, .ref D0, rfl, pX, cls, na, lk1 _ _ _, D0, rfl, .inl ⟨kvs, .inl dX⟩, .str e.1, rfl, ?_⟩
    refine ⟨by show 1 ≤ sizeLine; decide, fun l nl => ⟨.int n, rfl, l, n, [.int 0], rfl, rfl, upd_same, by omega, by omega, ?_, fun t nt => ?_⟩⟩
    · show 1 * n.toNat ≤ sizeLine
      rw [Nat.one_mul]
      exact Nat.le_trans (show n.toNat ≤ 6 by omega) (by decide)
    have tl : t ≠ l := fun z => by
      rw [z, upd_same] at nt
      cases nt
    have ntX : X t = none := by
      rw [upd_ne tl] at nt
      exact nt
    have pt : p ≠ t := ne_of_none pX ntX
    have dt : D0 ≠ t := ne_of_none dX ntX
    have pd := pD
    have pl : p ≠ l := ne_of_none pX nl
    have dl : D0 ≠ l := ne_of_none dX nl
    have tH : H t = none := by
      cases z : H t with
      | none => rfl
      | some o => rw [oX t o pt.symm z] at ntX; cases ntX
    refine ⟨kvs, .inr e.1, ?_, rfl, ?_, fun v hv => ?_, fun _ => ?_⟩
    · rw [upd_ne dt, upd_ne dl]
      exact dX
    · have := eX.length
      rw [this, List.length_take]
      exact Nat.lt_of_le_of_lt (show min i es.length ≤ 50 by omega) (by decide)
    · rw [ent_fresh eX fr] at hv
      cases hv
    -- for x, y in pairs
    have flat : (List.replicate n.toNat [V.int 0]).flatten = (afts n []).map V.int := by
      rw [afts_nil, List.map_replicate]
      generalize n.toNat = k
      induction k with
      | zero => rfl
      | succ k ih => rw [List.replicate_succ, List.flatten_cons, ih, List.replicate_succ]; rfl
    rw [flat, putK_new _ (ent_fresh eX fr)]
    generalize hX2 : upd (upd (upd X l (.lst [.int 0])) t (.lst ((afts n []).map V.int))) D0 (.dK (kvs ++ [(.inr e.1, .ref t)])) = X2
    have k2 : ∀ a o, a ≠ D0 → X a = some o → X2 a = some o := fun a o h1 h2 => by
      rw [← hX2, upd_ne h1, upd_ne (ne_of_none h2 ntX), upd_ne (ne_of_none h2 nl)]
      exact h2
    have g2t : X2 t = some (.lst ((afts n []).map V.int)) := by rw [← hX2, upd_ne dt.symm, upd_same]
    have g2d : X2 D0 = some (.dK (kvs ++ [(.inr e.1, .ref t)])) := by rw [← hX2]; exact upd_same
    have g2p : X2 p = some (.ins C dx [("_after", .ref D0)]) := k2 p _ pD pX
    have o2 : ∀ a o, a ≠ p → H a = some o → X2 a = some o := fun a o h1 h2 => k2 a o (ne_of_none h2 nD) (oX a o h1 h2)
    have e2 : Paired (Ent (AfR (fun a => H a = none ∧ a ≠ t) X2 n)) kvs (es.take i) := ent_imp eX fun a y ⟨z1, z2⟩ => ⟨⟨z1, ne_of_none z2 ntX⟩, k2 a _ (fun z => by rw [z, dX] at z2; cases z2) z2⟩
    have sqp := (stay_ins o2 gp).tup h2
    clear hX2 k2 flat
    refine ⟨.ref t', rfl, t', rfl, ⟨_, sqp⟩, ?_⟩
    refine for_tup (K := K) (a := t') (xs := qs.map V.ref) (fun j σ Y => ∃ (t6 t7 : Option V), σ = [some (.ref p), some (.int n), some (.ref rl), some (.str e.1), some (.ref t'), some (.ref t), t6, t7] ∧ (∀ a o, a ≠ t → X2 a = some o → Y a = some o) ∧
        Y t = some (.lst ((afts n (e.2.take j)).map V.int)))
      ⟨_, _, rfl, fun _ _ _ z => z, g2t⟩ (fun j σ Y _ z => ?_) (fun j x σ Y hx z => ?_) (fun σ Y z => ?_)
    · obtain ⟨_, _, _, z, _⟩ := z
      exact (stay_ins (X := Y) (p := p) (fun a o h1 h2 => z a o (ne_of_none h2 tH) (o2 a o h1 h2)) gp).tup h2
    · obtain ⟨t6, t7, rfl, oY, gY⟩ := z
      obtain ⟨ra, hra, rfl⟩ : ∃ ra, qs[j]? = some ra ∧ V.ref ra = x := by
        rw [List.getElem?_map] at hx
        exact Option.map_eq_some_iff.mp hx
      obtain ⟨f, hf2, h4⟩ := getP h3 hra
      have fb := ib f (List.mem_of_getElem? hf2)
      have stY : Stay H Y := stay_ins (p := p) (fun a o h1 h2 => oY a o (ne_of_none h2 tH) (o2 a o h1 h2)) gp
      have ibj : InB n (e.2.take j) := fun g hg => ib g (List.mem_of_mem_take hg)
      refine ⟨ra, _, rfl, stY.tup h4, rfl, .int f.1, _, rfl, .int f.2, [], rfl, rfl, ?_⟩
      refine ⟨.ref t, rfl, .int f.1, rfl, t, _, f.1, .int ((aft (e.2.take j) f.1 : Nat) : Int), rfl, rfl, lst_of gY, atI_of fb.1.1 ?_, .int f.2, rfl, f.2.toNat, rfl, ?_, by omega, ?_⟩
      · rw [List.getElem?_map, afts_get fb.1.1 fb.1.2]
        rfl
      · rw [Int.toNat_of_nonneg fb.2.1]
      refine ⟨_, _, rfl, rfl, .ref t, rfl, .int f.1, rfl, t, _, f.1, f.1.toNat, rfl, rfl, gY, ixN_nat fb.1.1 ?_, ?_⟩
      · rw [List.length_map, afts_len]
        omega
      refine ⟨_, _, rfl, fun a o h1 h2 => ?_, ?_⟩
      · rw [upd_ne h1]
        exact oY a o h1 h2
      · rw [upd_same, List.take_add_one, hf2]
        show _ = some (HO.lst ((afts n (e.2.take j ++ [f])).map V.int))
        rw [afts_snoc fb.1.1 fb.1.2, List.map_set]
        have e3 : Builtin.bitOr ((aft (e.2.take j) f.1 : Nat) : Int) (2 ^ f.2.toNat) = ((aft (e.2.take j) f.1 ||| 2 ^ f.2.toNat : Nat) : Int) := by
          have := bor (aft_lt (e.2.take j) f.1 ibj) (pow64 (i := f.2.toNat) (by omega))
          rw [← this, Int.natCast_pow]
          rfl
        rw [← e3]
    · obtain ⟨t6, t7, rfl, oY, gY⟩ := z
      rw [List.take_of_length_le (by rw [List.length_map, h3.length]; exact Nat.le_refl _)] at gY
      refine ⟨_, _, _, _, _, _, rfl, fun a o h1 h2 => oY a o (ne_of_none h2 tH) (o2 a o h1 h2), oY p _ pt g2p, oY D0 _ dt g2d, ?_⟩
      rw [List.take_add_one, he]
      exact snoc (ent_imp e2 fun a y ⟨z1, z2⟩ => ⟨z1.1, oY a _ z1.2 z2⟩) ⟨rfl, t, rfl, tH, gY⟩
  · obtain ⟨kvs, t3, t4, t5, t6, t7, rfl, oX, pX, dX, eX⟩ := z
    rw [List.take_of_length_le (by rw [List.length_map, hp.length]; exact Nat.le_refl _)] at eX
    exact q D0 kvs X oX nD pX dX eX
end
end K24
set_option Elab.async false
set_option linter.all false
set_option autoImplicit false
set_option maxRecDepth 100000
set_option maxHeartbeats 2000000
namespace Tl
open PySem PySem.Spec PyProof.Rows L2
theorem pi_alt {X : Cx} {tg l : Expr} {w1 w2 : TI} (h1 : PI X tg l w1) (h2 : PI X tg l w2) : PI X tg l (fun σ H R => w1 σ H R ∨ w2 σ H R) :=
  ⟨fun pins s σ H R I h => h.elim (fun h => h1.run pins s σ H R I h) fun h => h2.run pins s σ H R I h⟩
end Tl
namespace K24
open PySem PySem.Spec PyProof.Rows L2 Tl
open C8 (Cal pe_c Met Mak pe_mt pe_mt0 pe_mk)
/-- the mask of what has p, below i -/
def pm (p : Nat → Bool) : Nat → Nat
  | 0 => 0
  | i + 1 => if p i = true then pm p i ||| 2 ^ i else pm p i
theorem pm_bit (p : Nat → Bool) : ∀ i j : Nat, (pm p i).testBit j = (decide (j < i) && p j)
  | 0, j => by simp [pm]
  | i + 1, j => by
    have ih := pm_bit p i j
    unfold pm
    by_cases h : p i = true
    · rw [if_pos h, Nat.testBit_or, Nat.testBit_two_pow, ih]
      by_cases e : i = j
      · subst e
        simp [h]
      · have : decide (j < i + 1) = decide (j < i) := by
          rw [decide_eq_decide]
          omega
        simp [e, this]
    · rw [if_neg h, ih]
      by_cases e : i = j
      · subst e
        have : p i = false := by simpa using h
        simp [this]
      · have : decide (j < i + 1) = decide (j < i) := by
          rw [decide_eq_decide]
          omega
        rw [this]
theorem pm_lt (p : Nat → Bool) : ∀ i : Nat, i ≤ 6 → pm p i < 64
  | 0, _ => by unfold pm; decide
  | i + 1, h => by
    have ih := pm_lt p i (by omega)
    unfold pm
    by_cases z : p i = true
    · rw [if_pos z]
      exact or64 ih (pow64 (by omega))
    · rw [if_neg z]
      exact ih
theorem mask_ext {a b : Nat} (h : ∀ j, a.testBit j = b.testBit j) : a = b := Nat.eq_of_testBit_eq h
/-- the mask of a list of things -/
def hv (xs : List Int) : Nat := (xs.map fun x => 2 ^ x.toNat).sum
def HvE (kv : Key × V) (e : Str × List Int) : Prop := kv.1 = .inr e.1 ∧ kv.2 = .int ((hv e.2 : Nat) : Int)
def mdFs (D1 : Addr) (n : Int) (D2 : Addr) : List (Str × V) := [("_after", .ref D1), ("everything", .int (((2 ^ n.toNat - 1 : Nat)) : Int)), ("_having", .ref D2)]
def MdAt (cM : Addr) (Fr : Addr → Prop) (H : Hp) (q : Addr) (W : Wd) : Prop := ∃ (dx D1 D2 : Addr) (k1 k2 : List (Key × V)), (Fr q ∧ Fr D1 ∧ Fr D2) ∧ H q = some (.ins cM dx (mdFs D1 W.many D2)) ∧
  (H D1 = some (.dK k1) ∧ Paired (Ent (AfR Fr H W.many)) k1 W.roles) ∧ H D2 = some (.dK k2) ∧ Paired HvE k2 W.names
theorem MdAt.keep {cM : Addr} {Fr Gr : Addr → Prop} {H H' : Hp} {q : Addr} {W : Wd} (h : MdAt cM Fr H q W) (k : ∀ a o, Fr a → H a = some o → H' a = some o) (g : ∀ a o, Fr a → H a = some o → Gr a) : MdAt cM Gr H' q W := by
  obtain ⟨dx, D1, D2, k1, k2, ⟨f1, f2, f3⟩, h1, ⟨h2, h3⟩, h4, h5⟩ := h
  exact ⟨dx, D1, D2, k1, k2, ⟨g _ _ f1 h1, g _ _ f2 h2, g _ _ f3 h4⟩, k _ _ f1 h1, ⟨k _ _ f2 h2, ent_imp h3 fun t y ⟨z1, z2⟩ => ⟨g _ _ z1 z2, k _ _ z1 z2⟩⟩, k _ _ f3 h4, h5⟩
theorem s_ea : ¬ ("everything" : Str) = "_after" := by decide +kernel
theorem s_ha : ¬ ("_having" : Str) = "_after" := by decide +kernel
theorem s_he : ¬ ("_having" : Str) = "everything" := by decide +kernel
theorem lkn {k j : Str} {v : V} {fs : List (Str × V)} (h : ¬ j = k) : ((k, v) :: fs).lookup j = fs.lookup j := by
  rw [List.lookup_cons]
  have : (j == k) = false := beq_false_of_ne h
  rw [this]
theorem md_after (D1 : Addr) (n : Int) (D2 : Addr) : (mdFs D1 n D2).lookup ("_after" : Str) = some (.ref D1) := lk1 _ _ _
theorem md_ev (D1 : Addr) (n : Int) (D2 : Addr) : (mdFs D1 n D2).lookup ("everything" : Str) = some (.int (((2 ^ n.toNat - 1 : Nat)) : Int)) := (lkn s_ea).trans (lk1 _ _ _)
theorem md_hv (D1 : Addr) (n : Int) (D2 : Addr) : (mdFs D1 n D2).lookup ("_having" : Str) = some (.ref D2) := (lkn s_ha).trans ((lkn s_he).trans (lk1 _ _ _))
theorem md_no {D1 : Addr} {n : Int} {D2 : Addr} {m : Str} (h1 : ¬ m = "_after") (h2 : ¬ m = "everything") (h3 : ¬ m = "_having") : (mdFs D1 n D2).lookup m = none := (lkn h1).trans ((lkn h2).trans (lkn h3))
/-- what has something after it among N -/
def bef (n : Int) (es : List (Int × Int)) (N : Nat) : Nat := pm (fun x => (aft es (x : Int) &&& N) != 0) n.toNat
theorem and_ne {a b : Nat} (ha : a < 64) (hb : b < 64) : (((a &&& b : Nat) : Int) != 0) = ((a &&& b) != 0) := by
  rw [Bool.eq_iff_iff]
  simp
theorem inb_of {W : Wd} (ok : WOk W) : ∀ e ∈ W.roles, InB W.many e.2 := fun e he f hf => by
  have h1 := (ok.roles.2.1 e he).2.2.2 f hf
  have h2 := ok.many
  exact ⟨h1.1, by omega⟩
def spBefore (cM : Addr) : Sp := fun vs H Q _ => ∃ (Fr : Addr → Prop) (q : Addr) (W : Wd) (r : Str) (N : Nat), vs = [.ref q, .str r, .int (N : Int)] ∧ MdAt cM Fr H q W ∧ WOk W ∧ N < 64 ∧
  ∀ H', L2.Same H H' → Q (.int ((bef W.many (lookR W r) N : Nat) : Int)) H'
section
variable {P : Program} {w : World} {K : PySem.W.Frag} {mg : Str → Option Value} {base : Heap}
theorem mBefore {cM : Addr} (T : Txt K mg) (D : MAt K cM "before" "Ties.before" sTiesBefore) (na : NoAttr K cM "_after") : Met P w K mg base 1 cM "before" (spBefore cM) [] := by
  have cls := D.cls
  refine met_of D scTiesBefore (fun _ _ _ _ _ _ us hl => match us, hl with | [_, _, _], _ => rfl) (fun vs H Q E h => ?_) (fun f cdv A outer s H vs Q E hr h => ?_)
  · obtain ⟨Fr, q, W, r, N, rfl, _⟩ := h
    rfl
  obtain ⟨Fr, q, W, r, N, rfl, hM, ok, hN, k⟩ := h
  have hu := hu_of hr
  obtain ⟨dx, D1, D2, k1, k2, _, gq, ⟨g1, e1⟩, _, _⟩ := hM
  refine ⟨_, (pss_cons (ps_set (i := 3) scTiesBefore.nd rfl (.inl rfl) pe_int)
 (pss_cons (ps_for PassesOwn.never rfl (pi_alt (pi_enum rfl T.enumerate (pa_cons (pe_dget2 hu (pe_fld (pv 0) rfl) (pv 1) (pe_tup pa_nil) ⟨rfl, rfl, rfl, rfl⟩) pa_nil)) (pi_enumT (K := K) rfl rfl T.enumerate (pa_cons (pe_dget2 hu (pe_fld (pv 0) rfl) (pv 1) (pe_tup pa_nil) ⟨rfl, rfl, rfl, rfl⟩) pa_nil))) (pg_tup rfl (pgs_cons (pg_name (i := 4) scTiesBefore.nd rfl (.inl rfl)) (pgs_cons (pg_name (i := 5) scTiesBefore.nd rfl (.inl rfl)) pgs_nil)))
 (pss_one (ps_if (pt_truth (pe_op op_and (pv 5) (pv 2)) (fun _ => rfl))
 (pss_one (ps_set (i := 3) scTiesBefore.nd rfl (.inl rfl) (pe_op op_or (pv 3) (pe_op op_oneShl pe_int (pv 4)))))
 pss_nil)))
 (pss_one (ps_ret (pv 3))))), ?_⟩
  rcases ent_look e1 r with ⟨v1, l1⟩ | ⟨t, es, v1, l1, -, gt⟩
  · refine .inr ⟨.ref q, rfl, q, cM, dx, _, .ref D1, rfl, gq, cls, na, md_after _ _ _, D1, rfl, .inl ⟨k1, .inl g1⟩, .str r, rfl, Nat.zero_le _, fun z nz => ⟨none, ?_, ?_⟩⟩
    · have := DGet.k (k := .inr r) (show upd H z (.tup []) D1 = some (.dK k1) from (upd_ne (ne_of_none g1 nz)).trans g1)
      rw [v1] at this
      exact this
    · refine ⟨z, [], rfl, tupOf upd_same, for_enumT (K := K) (a := z) (xs := []) (fun i σ X => ∃ t4 t5, σ = [some (.ref q), some (.str r), some (.int (N : Int)), some (.int 0), t4, t5] ∧ L2.Same H X ∧ X z = some (.tup [])) ⟨_, _, rfl, same_up nz, upd_same⟩ (fun i σ X _ z => ?_) (fun i x σ X T hx z => ?_) (fun σ X z => ?_)⟩
      · obtain ⟨_, _, _, _, z⟩ := z
        exact tupOf z
      · cases hx
      · obtain ⟨t4, t5, rfl, sX, _⟩ := z
        have e0 : bef W.many (lookR W r) N = 0 := by
          unfold lookR
          rw [l1]
          refine mask_ext fun j => ?_
          unfold bef
          rw [pm_bit, Nat.zero_testBit]
          simp [aft]
        have := k X sX
        rw [e0] at this
        exact ⟨_, rfl, this⟩
  · have el : lookR W r = es := by unfold lookR; rw [l1]; rfl
    have ib : InB W.many es := inb_of ok (r, es) (look_mem l1)
    have n6 := ok.many
    refine .inl ⟨.ref q, rfl, q, cM, dx, _, .ref D1, rfl, gq, cls, na, md_after _ _ _, D1, rfl, .inl ⟨k1, .inl g1⟩, .str r, rfl, Nat.zero_le _, fun z nz => ⟨some (.ref t), ?_, ?_⟩⟩
    · have := DGet.k (k := .inr r) (show upd H z (.tup []) D1 = some (.dK k1) from (upd_ne (ne_of_none g1 nz)).trans g1)
      rw [v1] at this
      exact this
    · refine ⟨t, (afts W.many es).map V.int, rfl, lst_of ((upd_ne (ne_of_none gt nz)).trans gt), for_enumLs (K := K) (a := t) (xs := (afts W.many es).map V.int) (fun i σ X => ∃ t4 t5, σ = [some (.ref q), some (.str r), some (.int (N : Int)), some (.int ((pm (fun x => (aft es (x : Int) &&& N) != 0) i : Nat) : Int)), t4, t5] ∧ L2.Same H X) ⟨_, _, rfl, same_up nz⟩ (fun i σ X _ z => ?_) (fun i x σ X T hx z nT => ?_) (fun σ X z => ?_)⟩
      · obtain ⟨_, _, _, z⟩ := z
        exact lst_of (z _ _ gt)
      · obtain ⟨t4, t5, rfl, sX⟩ := z
        have hi : i < W.many.toNat := by
          have := (List.getElem?_eq_some_iff.mp hx).1
          rwa [List.length_map, afts_len] at this
        have ex : x = .int ((aft es (i : Int) : Nat) : Int) := by
          have := afts_get (n := W.many) (es := es) (x := (i : Int)) (by omega) (by omega)
          rw [List.getElem?_map, Int.toNat_natCast] at *
          rw [this] at hx
          exact (Option.some.inj hx).symm
        subst ex
        have la := aft_lt es (i : Int) ib
        refine ⟨T, _, rfl, tupOf upd_same, rfl, .int (i : Int), _, rfl, .int ((aft es (i : Int) : Nat) : Int), [], rfl, rfl, ?_⟩
        refine ⟨.int ((aft es (i : Int) : Nat) : Int), rfl, .int (N : Int), rfl, _, _, rfl, rfl, _, rfl, ?_⟩
        have eb : (Builtin.bitAnd ((aft es (i : Int) : Nat) : Int) (N : Int) != 0) = ((aft es (i : Int) &&& N) != 0) := by rw [band la hN, and_ne la hN]
        rw [eb]
        have sX2 := same_add sX (o := .tup [.int (i : Int), .int ((aft es (i : Int) : Nat) : Int)]) nT
        by_cases hz : ((aft es (i : Int) &&& N) != 0) = true
        · rw [hz]
          refine iteT ?_
          refine ⟨.int _, rfl, .int (i : Int), rfl, i, rfl, rfl, by omega, _, _, rfl, rfl, some (.int (i : Int)), some (.int ((aft es (i : Int) : Nat) : Int)), ?_, sX2⟩
          have e2 : pm (fun x => (aft es (x : Int) &&& N) != 0) (i + 1) = pm (fun x => (aft es (x : Int) &&& N) != 0) i ||| 2 ^ i := if_pos hz
          rw [e2, ← bor (pm_lt _ i (by omega)) (pow64 (by omega)), Int.natCast_pow]
          rfl
        · have hz0 := hz
          rw [Bool.not_eq_true] at hz
          rw [hz]
          refine iteF ⟨some (.int (i : Int)), some (.int ((aft es (i : Int) : Nat) : Int)), ?_, sX2⟩
          have e2 : pm (fun x => (aft es (x : Int) &&& N) != 0) (i + 1) = pm (fun x => (aft es (x : Int) &&& N) != 0) i := if_neg hz0
          rw [e2]
          rfl
      · obtain ⟨t4, t5, rfl, sX⟩ := z
        have := k X sX
        rw [el] at this
        refine ⟨_, rfl, ?_⟩
        rw [List.length_map, afts_len]
        exact this
end
end K24
set_option Elab.async false
set_option linter.all false
set_option autoImplicit false
set_option maxRecDepth 100000
set_option maxHeartbeats 2000000
namespace Tl
open PySem PySem.Spec PyProof.Rows L2
theorem cr_sumK {X : Cx} {K : PySem.W.Frag} (hK : X.K = K) (hc : X.calm = true) : CallR X (.builtin "sum") (rSum K) := by
  subst hK
  exact cr_sum hc
end Tl
namespace K24
open PySem PySem.Spec PyProof.Rows L2 Tl
open C8 (Cal pe_c Met Mak pe_mt pe_mt0 pe_mk)
theorem hv_tab : ((List.range 64).all fun M => decide (hv (bitsOf M) = M)) = true := by decide +kernel
theorem mem_bitsOf {M : Nat} {y : Int} : y ∈ bitsOf M ↔ 0 ≤ y ∧ y < 6 ∧ M.testBit y.toNat = true := by
  unfold bitsOf bitsN
  rw [List.mem_map]
  constructor
  · rintro ⟨i, hi, rfl⟩
    rw [List.mem_filter, List.mem_range] at hi
    refine ⟨by omega, by omega, ?_⟩
    rw [Int.toNat_natCast]
    exact hi.2
  · rintro ⟨h0, h1, h2⟩
    refine ⟨y.toNat, ?_, Int.toNat_of_nonneg h0⟩
    rw [List.mem_filter, List.mem_range]
    exact ⟨by omega, h2⟩
theorem asc_bitsOf (M : Nat) : (bitsOf M).Pairwise (· < ·) := by
  unfold bitsOf bitsN
  rw [List.pairwise_map]
  exact (List.pairwise_lt_range.filter _).imp fun h => by omega
theorem hv_ok {xs : List Int} (asc : xs.Pairwise (· < ·)) (h : ∀ x ∈ xs, 0 ≤ x ∧ x < 6) : hv xs < 64 ∧ ∀ y : Int, 0 ≤ y → (hv xs).testBit y.toNat = decide (y ∈ xs) := by
  have lt := pm_lt (fun i => decide ((i : Int) ∈ xs)) 6 (Nat.le_refl _)
  have bt := pm_bit (fun i => decide ((i : Int) ∈ xs)) 6
  generalize pm (fun i => decide ((i : Int) ∈ xs)) 6 = M at lt bt
  have key : ∀ y : Int, 0 ≤ y → M.testBit y.toNat = decide (y ∈ xs) := fun y y0 => by
    rw [bt, Int.toNat_of_nonneg y0, Bool.eq_iff_iff, Bool.and_eq_true, decide_eq_true_eq, decide_eq_true_eq]
    exact ⟨fun z => z.2, fun z => ⟨by have := (h y z).2; omega, z⟩⟩
  have e : xs = bitsOf M := asc_eq _ _ asc (asc_bitsOf M) fun y => by
    rw [mem_bitsOf]
    constructor
    · intro z
      have := h y z
      exact ⟨this.1, this.2, by rw [key y this.1]; exact decide_eq_true z⟩
    · rintro ⟨h0, _, h2⟩
      rw [key y h0] at h2
      exact of_decide_eq_true h2
  have hM := of_decide_eq_true (List.all_eq_true.mp hv_tab M (List.mem_range.mpr lt))
  have e2 : hv xs = M := by
    rw [e]
    exact hM
  rw [e2]
  exact ⟨lt, key⟩
theorem hv_sum (xs : List Int) : (xs.map fun x => (2 : Int) ^ x.toNat).sum = ((hv xs : Nat) : Int) := by
  unfold hv
  induction xs with
  | nil => rfl
  | cons x xs ih =>
    rw [List.map_cons, List.sum_cons, List.map_cons, List.sum_cons, ih, Int.natCast_add, Int.natCast_pow]
    rfl
theorem putF_new {f : Str} {y : V} : ∀ {fs : List (Str × V)}, (∀ e ∈ fs, ¬ e.1 = f) → putF f y fs = fs ++ [(f, y)]
  | [], _ => rfl
  | e :: fs, h => by
    obtain ⟨k, v⟩ := e
    show (if k = f then (k, y) :: fs else (k, v) :: putF f y fs) = _
    rw [if_neg (h (k, v) List.mem_cons_self), putF_new fun e he => h e (List.mem_cons_of_mem _ he)]
    rfl
def spModel (K : PySem.W.Frag) (cM : Addr) : Sp := fun vs H Q _ => ∃ (p dx : Addr) (v : V) (W : Wd), vs = [.ref p, v] ∧ H p = some (.ins cM dx []) ∧ IsWd K H v W ∧ WOk W ∧
  ∀ H', (∀ a o, a ≠ p → H a = some o → H' a = some o) → MdAt cM (fun a => a = p ∨ H a = none) H' p W → Q .non H'
section
variable {P : Program} {w : World} {K : PySem.W.Frag} {mg : Str → Option Value} {base : Heap}
theorem kModel {cT cM cL : Addr} (T : Txt K mg) (D : TxC K mg cT cM cL) : Mak P w K mg base 2 "Model" cM (spModel K cM) [] := by
  have cls := D.mModel_before.cls
  refine mak_of D.kModel scModelInit (fun _ _ _ _ _ _ us hl => match us, hl with | [_, _], _ => rfl) (fun vs H Q E h => ?_) (fun f cdv A outer s H vs Q E hr h => ?_)
  · obtain ⟨p, dx, v, W, rfl, _⟩ := h
    rfl
  obtain ⟨p, dx, v, W, rfl, gp, hW, ok, q⟩ := h
  refine ⟨_, (pss_cons (ps_asg (pv 1) (pg_tup rfl (pgs_cons (pg_name (i := 2) scModelInit.nd rfl (.inl rfl)) (pgs_cons (pg_name (i := 3) scModelInit.nd rfl (.inl rfl)) (pgs_cons (pg_name (i := 4) scModelInit.nd rfl (.inl rfl)) pgs_nil)))))
 (pss_cons (ps_expr (pe_rc (rTiesInit D.rTies___init__) hr (by decide) rfl (pa_cons (pv 0) (pa_cons (pv 2) (pa_cons (pv 4) pa_nil)))))
 (pss_cons (ps_fld (pv 0) (pe_op op_sub (pe_op op_oneShl pe_int (pv 2)) pe_int) rfl)
 (pss_one (ps_fld (pv 0) (pe_dc (own := [("name", 6), ("things", 7), ("x", 5)]) rfl scModelInit.nd (pi_tup (pv 3)) (blkOk_by (own := [("name", 6), ("things", 7), ("x", 5)]) (N := ["self", "world", "many", "names", "roles", "x", "name", "things"]) (sc := defScope sModelInit) (by decide +kernel))
   (fun _ _ _ _ _ => (pg_tupK (K := K) (n := 2) rfl rfl (pgs_cons (pg_name (i := 6) scModelInit.nd rfl (.inl rfl)) (pgs_cons (pg_name (i := 7) scModelInit.nd rfl (.inl rfl)) pgs_nil)))) (fun _ _ _ _ _ => pts_nil) (fun _ _ _ _ _ => (pv 6))
   (fun _ _ _ _ _ => (pe_callB (cr_sumK (K := K) rfl rfl) (by rfl) T.sum (by decide +kernel) (pa_cons (pe_lc (own := [("x", 5)]) (by rfl) scModelInit.nd (pi_tupK (K := K) rfl (pv 7)) (by exact blkOk_by (own := [("x", 5)]) (N := ["self", "world", "many", "names", "roles", "x", "name", "things"]) (by rfl)) (fun _ _ _ _ _ => (pg_name (i := 5) scModelInit.nd rfl (.inl rfl))) (fun _ _ _ _ _ => pts_nil) (fun _ _ _ _ _ => (pe_op op_oneShl pe_int (pv 5)))) pa_nil)))) rfl))))), ?_⟩
  obtain ⟨a, na, ra, rfl, ha, hN, hR⟩ := hW
  have n6 := ok.many
  refine ⟨.ref a, rfl, a, _, rfl, ha, rfl, .int W.many, _, rfl, .ref na, _, rfl, .ref ra, [], rfl, rfl, ?_⟩
  refine ⟨.ref p, rfl, .int W.many, rfl, .ref ra, rfl, p, ra, cM, dx, W.many, W.roles, rfl, gp, cls, D.nModel__after, hR, ok.roles.1, ok.roles.2.2, n6.1, n6.2, inb_of ok, fun D1 k1 H1 o1 nD1 p1 g1 e1 => ?_⟩
  have pD1 : p ≠ D1 := ne_of_none gp nD1
  have e2n : ((2 : Int) ^ W.many.toNat - 1) = ((2 ^ W.many.toNat - 1 : Nat) : Int) := by
    have : 1 ≤ 2 ^ W.many.toNat := Nat.one_le_two_pow
    rw [Int.natCast_sub this, Int.natCast_pow]
    rfl
  refine ⟨.int W.many, rfl, W.many.toNat, rfl, by rw [Int.toNat_of_nonneg (by omega)], by omega, _, _, rfl, rfl, .ref p, rfl, p, cM, dx, _, rfl, p1, cls, D.nModel_everything, (by show 1 < 1000; decide), ?_⟩
  rw [putF_new (fun e he => by rw [List.mem_singleton.mp he]; exact fun z => s_ea z.symm)]
  generalize hH2 : upd H1 p _ = H2
  have p2 : H2 p = some (.ins cM dx (([("_after", .ref D1)] : List (Str × V)) ++ ([("everything", .int ((2 : Int) ^ W.many.toNat - 1))] : List (Str × V)))) := by rw [← hH2]; exact upd_same
  have k2 : ∀ a o, a ≠ p → H1 a = some o → H2 a = some o := fun a o h1 h2 => by
    rw [← hH2, upd_ne h1]
    exact h2
  rw [e2n] at p2
  clear hH2
  have o2 : ∀ a o, a ≠ p → H a = some o → H2 a = some o := fun a o h1 h2 => k2 a o h1 (o1 a o h1 h2)
  have st := stay_ins o2 gp
  obtain ⟨ps, hf, hp⟩ := hN
  have sq := st.tup (rd_of_frz (K := K) hf)
  refine ⟨.ref na, rfl, na, rfl, ⟨_, sq⟩, fun D2 nD2 => ?_⟩
  have nD2H : H D2 = none := by
    cases z : H D2 with
    | none => rfl
    | some o =>
      have := o2 D2 o (fun e => by rw [e, p2] at nD2; cases nD2) z
      rw [this] at nD2
      cases nD2
  refine dc_tup (K := K) (a := na) (xs := ps.map V.ref) (fun i X => ∃ kvs, L2.Same H2 X ∧ X D2 = some (.dK kvs) ∧ Paired HvE kvs (W.names.take i)) ⟨[], same_up nD2, upd_same, .nil⟩ (fun i X _ z => ?_) (fun i x X hx z => ?_) (fun X z => ?_)
  · obtain ⟨_, z, _⟩ := z
    exact (Tl.Same.stay z).tup sq
  · obtain ⟨kvs, sX, gX, eX⟩ := z
    obtain ⟨qa, hq, rfl⟩ : ∃ qa, ps[i]? = some qa ∧ V.ref qa = x := by
      rw [List.getElem?_map] at hx
      exact Option.map_eq_some_iff.mp hx
    obtain ⟨e, he, t, h1, h2⟩ := getP hp hq
    have gd := (ok.names.2.1 e (List.mem_of_getElem? he)).2
    have stX := st.trans (Tl.Same.stay sX)
    refine ⟨qa, _, rfl, stX.tup h1, rfl, .str e.1, _, rfl, .ref t, [], rfl, rfl, rfl, .str e.1, rfl, ?_⟩
    refine ⟨.ref t, rfl, t, rfl, ⟨_, stX.tup h2⟩, fun S nS => ?_⟩
    refine lc_tup (K := K) (a := t) (xs := e.2.map V.int) (fun j Y => L2.Same X Y ∧ Y S = some (.lst (((e.2.take j).map fun x => (2 : Int) ^ x.toNat).map V.int))) ⟨same_up nS, upd_same⟩ (fun j Y _ z => (Tl.Same.stay z.1).tup (stX.tup h2)) (fun j y Y hy z => ?_) (fun Y z => ?_)
    · obtain ⟨sY, gY⟩ := z
      obtain ⟨b, hb, rfl⟩ : ∃ b, e.2[j]? = some b ∧ V.int b = y := by
        rw [List.getElem?_map] at hy
        exact Option.map_eq_some_iff.mp hy
      have rb := gd.2.2 b (List.mem_of_getElem? hb)
      refine ⟨rfl, .int b, rfl, b.toNat, rfl, by rw [Int.toNat_of_nonneg rb.1], by omega, _, gY, ?_, same_mut sY nS, ?_⟩
      · rw [List.length_map, List.length_map]
        have := asc_len e.2 0 W.many gd.2.1 gd.2.2
        rw [List.length_take]
        exact Nat.lt_of_le_of_lt (show min j e.2.length ≤ 6 by omega) (by decide)
      · rw [upd_same, List.take_add_one, hb, List.map_append, List.map_append]
        rfl
    · obtain ⟨sY, gY⟩ := z
      rw [List.length_map, List.take_length] at gY
      refine ⟨S, _, rfl, lst_of gY, kvs, .inr e.1, rfl, sY _ _ gX, ?_, kvs ++ [(.inr e.1, .int ((hv e.2 : Nat) : Int))], same_mut (sX.trans sY) nD2, ?_, ?_⟩
      · have := eX.length
        rw [this, List.length_take]
        have := ok.names.2.2
        exact Nat.lt_of_le_of_lt (show min i W.names.length ≤ 50 by omega) (by decide)
      · rw [upd_same, hv_sum, putK_new]
        have e3 : Paired (Ent fun (_ : Addr) (_ : List Int) => True) (kvs.map fun kv => (kv.1, V.ref 0)) (W.names.take i) := mapL (F := HvE) (fun kv b z => ⟨z.1, 0, rfl, trivial⟩) eX
        have fr := ent_fresh e3 (take_fresh (sl_nodup ok.names.1) he)
        cases hz : valV kvs (.inr e.1) with
        | none => rfl
        | some u =>
          have := valV_in hz
          exact absurd (by rw [List.map_map]; exact this) (valV_not fr)
      · rw [List.take_add_one, he]
        exact snoc eX ⟨rfl, rfl⟩
  · obtain ⟨k2', sX, gX, eX⟩ := z
    rw [List.length_map, hp.length, List.take_length] at eX
    have pX := sX _ _ p2
    refine ⟨.ref p, rfl, p, cM, dx, _, rfl, pX, cls, D.nModel__having, (by show 2 < 1000; decide), ?_⟩
    have pD2 : p ≠ D2 := ne_of_none p2 nD2
    refine q _ (fun a o h1 h2 => ?_) ⟨dx, D1, D2, k1, k2', ⟨.inl rfl, .inr nD1, .inr nD2H⟩, ?_, ⟨?_, ent_imp e1 fun t y ⟨z1, z2⟩ => ⟨.inr z1, ?_⟩⟩, ?_, eX⟩
    · rw [upd_ne h1]
      exact sX _ _ (o2 a o h1 h2)
    · rw [upd_same, putF_new (fun e he => ?_)]
      · rfl
      · rcases List.mem_cons.mp he with rfl | he
        · exact fun z => s_ha z.symm
        · rw [List.mem_singleton.mp he]
          exact fun z => s_he z.symm
    · rw [upd_ne pD1.symm]
      exact sX _ _ (k2 _ _ pD1.symm g1)
    · have tp : t ≠ p := fun z => by rw [z, p1] at z2; cases z2
      rw [upd_ne tp]
      exact sX _ _ (k2 _ _ tp z2)
    · rw [upd_ne pD2.symm]
      exact gX
end
end K24
set_option Elab.async false
set_option linter.all false
set_option autoImplicit false
set_option maxRecDepth 100000
set_option maxHeartbeats 2000000
namespace K24
open PySem PySem.Spec PyProof.Rows L2 Tl
open C8 (Cal pe_c Met Mak pe_mt pe_mt0 pe_mk)
/-! ### matching, round by round -/
def natV (Fs : List Nat) : List V := Fs.map fun (N : Nat) => V.int (N : Int)
theorem natV_eq (Fs : List Nat) : natV Fs = (Fs.map fun (N : Nat) => (N : Int)).map V.int := by
  unfold natV
  rw [List.map_map]
  rfl
def stp (W : Wd) (F : List Nat) (N : Nat) (e : Str × Int) : Nat := N &&& bef W.many (lookR W e.1) (F.getD e.2.toNat 0)
def rowM (W : Wd) (F : List Nat) (N : Nat) (row : List (Str × Int)) : Nat := row.foldl (stp W F) N
def mat (W : Wd) (ts : List (List (Str × Int))) (F : List Nat) : List Nat := (List.range F.length).map fun x => rowM W F (F.getD x 0) (ts.getD x [])
theorem rowM_le (W : Wd) (F : List Nat) : ∀ (row : List (Str × Int)) (N : Nat), rowM W F N row ≤ N
  | [], N => Nat.le_refl _
  | e :: row, N => Nat.le_trans (rowM_le W F row (stp W F N e)) Nat.and_le_left
theorem rowM_snoc (W : Wd) (F : List Nat) (N : Nat) (row : List (Str × Int)) (e : Str × Int) : rowM W F N (row ++ [e]) = stp W F (rowM W F N row) e := by
  unfold rowM
  rw [List.foldl_append]
  rfl
theorem mat_len (W : Wd) (ts : List (List (Str × Int))) (F : List Nat) : (mat W ts F).length = F.length := by
  unfold mat
  rw [List.length_map, List.length_range]
theorem mat_get {W : Wd} {ts : List (List (Str × Int))} {F : List Nat} {x : Nat} (h : x < F.length) : (mat W ts F)[x]? = some (rowM W F (F.getD x 0) (ts.getD x [])) := by
  unfold mat
  rw [List.getElem?_map, List.getElem?_range h]
  rfl
theorem getD_of {α : Type} {l : List α} {i : Nat} {x d : α} (h : l[i]? = some x) : l.getD i d = x := by
  rw [List.getD_eq_getElem?_getD, h]
  rfl
def TsAt (K : PySem.W.Frag) (H : Hp) (t : Addr) (ts : List (List (Str × Int))) : Prop := ∃ ls : List Addr, H t = some (.lst (ls.map V.ref)) ∧
  Paired (fun l row => ∃ qs : List Addr, H l = some (.lst (qs.map V.ref)) ∧ Paired (fun q (e : Str × Int) => SqT K H q [.str e.1, .int e.2]) qs row) ls ts
theorem TsAt.same {K : PySem.W.Frag} {H H' : Hp} {t : Addr} {ts : List (List (Str × Int))} (h : TsAt K H t ts) (s : L2.Same H H') : TsAt K H' t ts := by
  obtain ⟨ls, h1, h2⟩ := h
  exact ⟨ls, s _ _ h1, Paired.mapP h2 fun l row ⟨qs, h3, h4⟩ => ⟨qs, s _ _ h3, Paired.mapP h4 fun q e z => (Tl.Same.stay s).tup z⟩⟩
theorem MdAt.same {cM : Addr} {Fr : Addr → Prop} {H H' : Hp} {q : Addr} {W : Wd} (h : MdAt cM Fr H q W) (s : L2.Same H H') : MdAt cM Fr H' q W := h.keep (fun a o _ z => s a o z) fun a o f _ => f
structure FitOk (ts : List (List (Str × Int))) (F : List Nat) : Prop where
  lt : ∀ N ∈ F, N < 64
  len : F.length = ts.length
  six : F.length ≤ 6
  rows : ∀ row ∈ ts, ∀ e ∈ row, 0 ≤ e.2 ∧ e.2 < (F.length : Int)
theorem FitOk.mat {W : Wd} {ts : List (List (Str × Int))} {F : List Nat} (h : FitOk ts F) : FitOk ts (mat W ts F) := by
  refine ⟨fun N hN => ?_, (mat_len W ts F).trans h.len, by rw [mat_len]; exact h.six, by rw [mat_len]; exact h.rows⟩
  unfold K24.mat at hN
  obtain ⟨x, hx, rfl⟩ := List.mem_map.mp hN
  rw [List.mem_range] at hx
  have : F.getD x 0 < 64 := by
    rw [getD_of (List.getElem?_eq_getElem hx)]
    exact h.lt _ (List.getElem_mem hx)
  exact Nat.lt_of_le_of_lt (rowM_le W F _ _) this
theorem bef_lt {n : Int} (h : n ≤ 6) (es : List (Int × Int)) (N : Nat) : bef n es N < 64 := pm_lt _ _ (by omega)
def spMat (K : PySem.W.Frag) (cM : Addr) : Sp := fun vs H Q _ => ∃ (a t q : Addr) (Fr : Addr → Prop) (W : Wd) (ts : List (List (Str × Int))) (F : List Nat), vs = [.ref a, .ref t, .ref q, .int 0] ∧ H a = some (.lst (natV F)) ∧ TsAt K H t ts ∧ MdAt cM Fr H q W ∧ WOk W ∧ FitOk ts F ∧
  ∀ p H', H p = none → L2.Same H H' → H' p = some (.lst (natV (mat W ts F))) → Q (.ref p) H'
section
variable {P : Program} {w : World} {K : PySem.W.Frag} {mg : Str → Option Value} {base : Heap}
theorem cMatched {cT cM cL : Addr} (T : Txt K mg) (D : TxC K mg cT cM cL) : Cal P w K mg base 2 "matched" (spMat K cM) [] := by
  have mB : Met P w K mg base 1 cM "before" (spBefore cM) [] := mBefore T D.mModel_before D.nModel__after
  refine cal_of T.matched scMatched (fun _ _ _ _ _ _ us hl => match us, hl with | [_, _, _, _], _ => rfl) (fun vs H Q E h => ?_) (fun f cdv A outer s H vs Q E hr h => ?_)
  · obtain ⟨a, t, q, Fr, W, ts, F, rfl, _⟩ := h
    rfl
  obtain ⟨a, t, q, Fr, W, ts, F, rfl, ga, hT, hM, ok, fo, k⟩ := h
  have n6 := ok.many
  refine ⟨_, (pss_cons (ps_set (i := 4) scMatched.nd rfl (.inl rfl) (pe_lst pa_nil))
 (pss_cons (ps_for PassesOwn.never rfl (pi_enum rfl T.enumerate (pa_cons (pv 0) pa_nil)) (pg_tup rfl (pgs_cons (pg_name (i := 5) scMatched.nd rfl (.inl rfl)) (pgs_cons (pg_name (i := 6) scMatched.nd rfl (.inl rfl)) pgs_nil)))
 (pss_cons (ps_for PassesOwn.never rfl (pi_list (pe_ix ix_list (pv 1) (pv 5) (fun _ _ => rfl))) (pg_tup rfl (pgs_cons (pg_name (i := 7) scMatched.nd rfl (.inl rfl)) (pgs_cons (pg_name (i := 8) scMatched.nd rfl (.inl rfl)) pgs_nil)))
 (pss_one (ps_if (pt_truth (pv 6) (fun _ => rfl))
 (pss_one (ps_set (i := 6) scMatched.nd rfl (.inl rfl) (pe_op op_and (pv 6) (pe_op op_or (pv 3) (pe_mt mB hr (by decide) (pv 2) (pa_cons (pv 7) (pa_cons (pe_ix ix_list (pv 0) (pv 8) (fun _ _ => rfl)) pa_nil)))))))
 pss_nil)))
 (pss_one (ps_expr (pe_bm PySem.F.plainAttrs_list PySem.F.slot_list_append PySem.F.type_list_append mt_append (pv 4) (pa_cons (pv 6) pa_nil))))))
 (pss_one (ps_ret (pv 4))))), ?_⟩
  refine ⟨Nat.zero_le _, fun p np => ?_⟩
  have ap : a ≠ p := ne_of_none ga np
  refine ⟨.ref a, rfl, a, natV F, rfl, lst_of ((upd_ne ap).trans ga), ?_⟩
  refine for_enumLs (K := K) (a := a) (xs := natV F) (fun i σ X => ∃ t5 t6 t7 t8, σ = [some (.ref a), some (.ref t), some (.ref q), some (.int 0), some (.ref p), t5, t6, t7, t8] ∧ L2.Same H X ∧ X p = some (.lst (natV ((mat W ts F).take i))))
    ⟨_, _, _, _, rfl, same_up np, upd_same⟩ (fun i σ X _ z => ?_) (fun i x σ X U hx z nU => ?_) (fun σ X z => ?_)
  · obtain ⟨_, _, _, _, _, z, _⟩ := z
    exact lst_of (z _ _ ga)
  · obtain ⟨t5, t6, t7, t8, rfl, sX, gX⟩ := z
    have hi : i < F.length := by
      have := (List.getElem?_eq_some_iff.mp hx).1
      rwa [natV, List.length_map] at this
    have ex : x = .int ((F.getD i 0 : Nat) : Int) := by
      rw [natV, List.getElem?_map, List.getElem?_eq_getElem hi] at hx
      rw [getD_of (List.getElem?_eq_getElem hi)]
      exact (Option.some.inj hx).symm
    subst ex
    refine ⟨U, _, rfl, tupOf upd_same, rfl, .int (i : Int), _, rfl, .int ((F.getD i 0 : Nat) : Int), [], rfl, rfl, ?_⟩
    have sU := same_add sX (o := .tup [.int (i : Int), .int ((F.getD i 0 : Nat) : Int)]) nU
    have gU : upd X U (.tup [.int (i : Int), .int ((F.getD i 0 : Nat) : Int)]) p = some (.lst (natV ((mat W ts F).take i))) := (upd_ne (ne_of_none gX nU)).trans gX
    generalize upd X U (.tup [.int (i : Int), .int ((F.getD i 0 : Nat) : Int)]) = X1 at sU gU ⊢
    obtain ⟨ls, gt, pr⟩ := hT.same sU
    have hl : i < ls.length := by rw [pr.length, ← fo.len]; exact hi
    obtain ⟨row, hrow, qs, gl, pq⟩ := getP pr (List.getElem?_eq_getElem hl)
    have rb := fo.rows row (List.mem_of_getElem? hrow)
    refine ⟨.ref t, rfl, .int (i : Int), rfl, t, _, (i : Int), .ref ls[i], rfl, rfl, lst_of gt, atI_nat (by rw [List.getElem?_map, List.getElem?_eq_getElem hl]; rfl), ls[i], rfl, ⟨_, lst_of gl⟩, ?_⟩
    refine for_list (K := K) (a := ls[i]) (xs := qs.map V.ref) (fun j σ Y => ∃ t7 t8, σ = [some (.ref a), some (.ref t), some (.ref q), some (.int 0), some (.ref p), some (.int (i : Int)), some (.int ((rowM W F (F.getD i 0) (row.take j) : Nat) : Int)), t7, t8] ∧ L2.Same X1 Y)
      ⟨_, _, rfl, L2.Same.refl X1⟩ (fun j σ Y _ z => ?_) (fun j y σ Y hy z => ?_) (fun σ Y z => ?_)
    · obtain ⟨_, _, _, z⟩ := z
      exact lst_of (z _ _ gl)
    · obtain ⟨t7, t8, rfl, sY⟩ := z
      obtain ⟨qa, hq, rfl⟩ : ∃ qa, qs[j]? = some qa ∧ V.ref qa = y := by
        rw [List.getElem?_map] at hy
        exact Option.map_eq_some_iff.mp hy
      obtain ⟨e, he, h1⟩ := getP pq hq
      have be := rb e (List.mem_of_getElem? he)
      have hN : rowM W F (F.getD i 0) (row.take j) < 64 := by
        refine Nat.lt_of_le_of_lt (rowM_le W F _ _) ?_
        rw [getD_of (List.getElem?_eq_getElem hi)]
        exact fo.lt _ (List.getElem_mem hi)
      have e2 : rowM W F (F.getD i 0) (row.take (j + 1)) = stp W F (rowM W F (F.getD i 0) (row.take j)) e := by
        rw [List.take_add_one, he]
        exact rowM_snoc W F _ _ e
      refine ⟨qa, _, rfl, (Tl.Same.stay sY).tup h1, rfl, .str e.1, _, rfl, .int e.2, [], rfl, rfl, .int _, rfl, _, rfl, ?_⟩
      generalize hN0 : rowM W F (F.getD i 0) (row.take j) = N at hN e2 ⊢
      by_cases z0 : N = 0
      · subst z0
        refine iteF ⟨some (.str e.1), some (.int e.2), ?_, sY⟩
        rw [e2]
        unfold stp
        rw [Nat.zero_and]
        rfl
      · have : ((N : Int) != 0) = true := by simp [z0]
        rw [this]
        have hx2 : e.2.toNat < F.length := by omega
        have hF : F[e.2.toNat]? = some (F.getD e.2.toNat 0) := by
          rw [getD_of (List.getElem?_eq_getElem hx2), List.getElem?_eq_getElem hx2]
        have l64 : F.getD e.2.toNat 0 < 64 := fo.lt _ (List.mem_of_getElem? hF)
        obtain ⟨dx, D1, D2, k1, k2, _, gq, _⟩ := id ((hM.same sU).same sY)
        refine iteT ⟨.int (N : Int), rfl, .int 0, rfl, .ref q, rfl, q, dx, _, rfl, gq, md_no (by decide +kernel) (by decide +kernel) (by decide +kernel), .str e.1, rfl, .ref a, rfl, .int e.2, rfl, a, natV F, e.2, .int ((F.getD e.2.toNat 0 : Nat) : Int), rfl, rfl, lst_of ((sU.trans sY) _ _ ga), atI_of be.1 ?_, Fr, q, W, e.1, F.getD e.2.toNat 0, rfl, (hM.same sU).same sY, ok, l64, fun Z sZ => ?_⟩
        · rw [natV, List.getElem?_map, hF]
          rfl
        have b64 := bef_lt n6.2 (lookR W e.1) (F.getD e.2.toNat 0)
        refine ⟨_, _, rfl, rfl, _, _, rfl, rfl, some (.str e.1), some (.int e.2), ?_, sY.trans sZ⟩
        rw [e2]
        have e3 : Builtin.bitAnd (N : Int) (Builtin.bitOr 0 ((bef W.many (lookR W e.1) (F.getD e.2.toNat 0) : Nat) : Int)) = ((stp W F N e : Nat) : Int) := by
          have := bor (a := 0) (by decide) b64
          rw [Nat.zero_or] at this
          rw [show ((0 : Nat) : Int) = 0 from rfl] at this
          rw [this, band hN b64]
          rfl
        rw [← e3]
        rfl
    · obtain ⟨t7, t8, rfl, sY⟩ := z
      rw [List.length_map, pq.length, List.take_length]
      refine ⟨.ref p, rfl, .inl ⟨rfl, _, lst_of (sY _ _ gU)⟩, .int _, rfl, p, _, _, rfl, rfl, sY _ _ gU, ?_, _, _, _, _, rfl, same_mut (sU.trans sY) np, ?_⟩
      · rw [natV, List.length_map, List.length_take, mat_len]
        have := fo.six
        exact Nat.lt_of_le_of_lt (show min i F.length ≤ 6 by omega) (by decide)
      · rw [upd_same, List.take_add_one, mat_get hi, getD_of hrow]
        unfold natV
        rw [List.map_append]
        rfl
  · obtain ⟨t5, t6, t7, t8, rfl, sX, gX⟩ := z
    rw [show (natV F).length = F.length from List.length_map _] at gX
    rw [List.take_of_length_le (by rw [mat_len]; exact Nat.le_refl _)] at gX
    exact ⟨_, rfl, k p X np sX gX⟩
end
end K24
set_option Elab.async false
set_option linter.all false
set_option autoImplicit false
set_option maxRecDepth 100000
set_option maxHeartbeats 2000000
namespace K24
open PySem PySem.Spec PyProof.Rows L2 Tl
open C8 (Cal pe_c Met Mak pe_mt pe_mt0 pe_mk)
def its (W : Wd) (ts : List (List (Str × Int))) (F : List Nat) : Nat → List Nat
  | 0 => F
  | t + 1 => mat W ts (its W ts F t)
theorem its_ok {W : Wd} {ts : List (List (Str × Int))} {F : List Nat} (h : FitOk ts F) : ∀ t, FitOk ts (its W ts F t)
  | 0 => h
  | t + 1 => (its_ok h t).mat
theorem sum_le : ∀ {F G : List Nat}, F.length = G.length → (∀ i, F.getD i 0 ≤ G.getD i 0) → F.sum ≤ G.sum ∧ (F ≠ G → F.sum < G.sum)
  | [], [], _, _ => ⟨Nat.le_refl _, fun h => absurd rfl h⟩
  | [], _ :: _, h, _ => nomatch h
  | _ :: _, [], h, _ => nomatch h
  | a :: F, b :: G, h, le => by
    have ih := sum_le (F := F) (G := G) (Nat.succ.inj h) fun i => le (i + 1)
    have h0 : a ≤ b := le 0
    rw [List.sum_cons, List.sum_cons]
    refine ⟨by have := ih.1; omega, fun ne => ?_⟩
    by_cases e : a = b
    · have := ih.2 fun z => ne (by rw [e, z])
      omega
    · have := ih.1
      omega
theorem mat_sum (W : Wd) (ts : List (List (Str × Int))) (F : List Nat) : (mat W ts F).sum ≤ F.sum ∧ (mat W ts F ≠ F → (mat W ts F).sum < F.sum) := by
  refine sum_le (mat_len W ts F) fun i => ?_
  by_cases hi : i < F.length
  · rw [getD_of (mat_get hi)]
    exact rowM_le W F _ _
  · rw [List.getD_eq_getElem?_getD, List.getElem?_eq_none (by rw [mat_len]; omega)]
    exact Nat.zero_le _
theorem sum64 : ∀ {F : List Nat}, (∀ N ∈ F, N < 64) → F.sum ≤ 64 * F.length
  | [], _ => Nat.zero_le _
  | a :: F, h => by
    have := sum64 fun N hN => h N (List.mem_cons_of_mem _ hN)
    have := h a List.mem_cons_self
    rw [List.sum_cons, List.length_cons]
    omega
theorem eqv_ints : ∀ xs ys : List Int, PyData.eqv (.list (xs.map PyData.int)) (.list (ys.map PyData.int)) = decide (xs = ys) := by
  have all : ∀ xs ys : List Int, PyData.eqvAll (xs.map PyData.int) (ys.map PyData.int) = decide (xs = ys) := by
    intro xs
    induction xs with
    | nil => intro ys; cases ys <;> simp [PyData.eqvAll]
    | cons x xs ih =>
      intro ys
      cases ys with
      | nil => simp [PyData.eqvAll]
      | cons y ys =>
        rw [List.map_cons, List.map_cons]
        simp only [PyData.eqvAll, PyData.eqv, ih ys, List.cons.injEq, Bool.decide_and]
        congr 1
  intro xs ys
  simp only [PyData.eqv]
  exact all xs ys
theorem nat_inj {F G : List Nat} : (F.map fun (N : Nat) => (N : Int)) = (G.map fun (N : Nat) => (N : Int)) ↔ F = G :=
  List.map_inj_right fun a b z => by omega
theorem atI_last {α : Type} {xs : List α} {x : α} (h : xs[xs.length - 1]? = some x) : atI xs (-1) = some x := by
  have h0 := (List.getElem?_eq_some_iff.mp h).1
  unfold atI ixN
  rw [if_neg (by decide), if_pos (by omega)]
  show xs[((-1 : Int) + (xs.length : Int)).toNat]? = some x
  rw [show ((-1 : Int) + (xs.length : Int)).toNat = xs.length - 1 by omega]
  exact h
/-- the rounds stand in the list at l -/
def RdAt (H : Hp) (l : Addr) (g : Nat → List Nat) (k : Nat) : Prop := ∃ ls : List Addr, H l = some (.lst (ls.map V.ref)) ∧ Paired (fun a (t : Nat) => H a = some (.lst (natV (g t)))) ls (List.range (k + 1))
theorem RdAt.same {H H' : Hp} {l : Addr} {g : Nat → List Nat} {k : Nat} (h : RdAt H l g k) (s : L2.Same H H') : RdAt H' l g k := by
  obtain ⟨ls, h1, h2⟩ := h
  exact ⟨ls, s _ _ h1, Paired.mapP h2 fun a t z => s _ _ z⟩
def spRounds (K : PySem.W.Frag) (cM : Addr) : Sp := fun vs H Q _ => ∃ (a t q : Addr) (Fr : Addr → Prop) (W : Wd) (ts : List (List (Str × Int))) (F : List Nat), vs = [.ref a, .ref t, .ref q, .int 0] ∧ H a = some (.lst (natV F)) ∧ TsAt K H t ts ∧ MdAt cM Fr H q W ∧ WOk W ∧ FitOk ts F ∧
  ∀ p k H', H p = none → L2.Same H H' → RdAt H' p (its W ts F) k → k ≤ 400 → its W ts F (k + 1) = its W ts F k → Q (.ref p) H'
section
variable {P : Program} {w : World} {K : PySem.W.Frag} {mg : Str → Option Value} {base : Heap}
theorem cRoundsOf {cT cM cL : Addr} (T : Txt K mg) (D : TxC K mg cT cM cL) : Cal P w K mg base 3 "rounds_of" (spRounds K cM) [] := by
  refine cal_of T.roundsOf scRoundsOf (fun _ _ _ _ _ _ us hl => match us, hl with | [_, _, _, _], _ => rfl) (fun vs H Q E h => ?_) (fun f cdv A outer s H vs Q E hr h => ?_)
  · obtain ⟨a, t, q, Fr, W, ts, F, rfl, _⟩ := h
    rfl
  obtain ⟨a, t, q, Fr, W, ts, F, rfl, ga, hT, hM, ok, fo, k⟩ := h
  have hu64 := hr.units
  refine ⟨_, (pss_cons (ps_set (i := 4) scRoundsOf.nd rfl (.inl rfl) (pe_lst (pa_cons (pv 0) pa_nil)))
 (pss_cons (ps_set (i := 5) scRoundsOf.nd rfl (.inl rfl) (pe_c (cMatched T D) hr (by decide) rfl (pa_cons (pv 0) (pa_cons (pv 1) (pa_cons (pv 2) (pa_cons (pv 3) pa_nil))))))
 (pss_cons (ps_while PassesOwn.never (pt_cmpR (op_neD hu64) (pv 5) (pe_ix ix_list (pv 4) (pe_un un_neg pe_int) (fun _ _ => rfl)) (nomark _))
 (pss_cons (ps_expr (pe_bm PySem.F.plainAttrs_list PySem.F.slot_list_append PySem.F.type_list_append mt_append (pv 4) (pa_cons (pv 5) pa_nil)))
 (pss_one (ps_set (i := 5) scRoundsOf.nd rfl (.inl rfl) (pe_c (cMatched T D) hr (by decide) rfl (pa_cons (pv 5) (pa_cons (pv 1) (pa_cons (pv 2) (pa_cons (pv 3) pa_nil)))))))))
 (pss_one (ps_ret (pv 4)))))), ?_⟩
  refine ⟨.ref a, rfl, by show 1 ≤ sizeLine; decide, fun p np => ?_⟩
  have s1 := same_up (o := .lst [.ref a]) np
  refine ⟨.ref a, rfl, .ref t, rfl, .ref q, rfl, .int 0, rfl, a, t, q, Fr, W, ts, F, rfl, s1 _ _ ga, hT.same s1, hM.same s1, ok, fo, fun b X nb sX gb => ?_⟩
  have gp : X p = some (.lst [.ref a]) := sX _ _ upd_same
  have sHX := s1.trans sX
  have ga' := sX _ _ (s1 _ _ ga)
  have S0 : F.sum ≤ 384 := by
    have := sum64 fo.lt
    have := fo.six
    omega
  refine ⟨fun m σ Y => ∃ (i : Nat) (b : Addr) (ls : List Addr), σ = [some (.ref a), some (.ref t), some (.ref q), some (.int 0), some (.ref p), some (.ref b)] ∧ m = (its W ts F i).sum ∧ L2.Same H Y ∧ Y p = some (.lst (ls.map V.ref)) ∧
      Paired (fun a (t : Nat) => Y a = some (.lst (natV (its W ts F t)))) ls (List.range (i + 1)) ∧ Y b = some (.lst (natV (its W ts F (i + 1)))) ∧ i + (its W ts F i).sum ≤ F.sum,
    ⟨_, 0, b, [a], rfl, rfl, sHX, gp, .cons ga' .nil, gb, by show 0 + F.sum ≤ F.sum; omega⟩, ?_⟩
  rintro m σ Y ⟨i, b, ls, rfl, rfl, sY, gp, pr, gb, le⟩
  have hlen : ls.length = i + 1 := by rw [pr.length, List.length_range]
  obtain ⟨z, hz⟩ : ∃ z, ls[i]? = some z := ⟨ls[i], List.getElem?_eq_getElem (by omega)⟩
  obtain ⟨t', ht', gz⟩ := getP pr hz
  have et : t' = i := by
    rw [List.getElem?_range (by omega)] at ht'
    exact (Option.some.inj ht').symm
  subst et
  refine ⟨.ref b, rfl, .ref p, rfl, 1, rfl, p, ls.map V.ref, -1, .ref z, rfl, rfl, lst_of gp, atI_last ?_, ?_⟩
  · rw [List.length_map, List.getElem?_map, hlen]
    show (ls[t' + 1 - 1]?).map V.ref = _
    rw [show t' + 1 - 1 = t' by omega, hz]
    rfl
  rw [natV_eq] at gb gz
  refine ⟨.list (((its W ts F (t' + 1)).map fun (N : Nat) => (N : Int)).map PyData.int), .list (((its W ts F t').map fun (N : Nat) => (N : Int)).map PyData.int), .lst (lst_of gb) (dp_ints _), .lst (lst_of gz) (dp_ints _), shaped_ints _, shaped_ints _, _, rfl, ?_⟩
  rw [eqv_ints]
  have ms := mat_sum W ts (its W ts F t')
  by_cases e : its W ts F (t' + 1) = its W ts F t'
  · rw [decide_eq_true (nat_inj.mpr e)]
    exact iteF ⟨_, rfl, k p t' Y np sY ⟨ls, gp, pr⟩ (by omega) e⟩
  · rw [decide_eq_false fun z => e (nat_inj.mp z)]
    have lt : (its W ts F (t' + 1)).sum < (its W ts F t').sum := ms.2 e
    have ms2 := mat_sum W ts (its W ts F (t' + 1))
    refine iteT ⟨fun σ' Y' => ∃ m', m' < (its W ts F t').sum ∧ ∃ (i : Nat) (b : Addr) (ls : List Addr), σ' = [some (.ref a), some (.ref t), some (.ref q), some (.int 0), some (.ref p), some (.ref b)] ∧ m' = (its W ts F i).sum ∧ L2.Same H Y' ∧ Y' p = some (.lst (ls.map V.ref)) ∧
      Paired (fun a (t : Nat) => Y' a = some (.lst (natV (its W ts F t)))) ls (List.range (i + 1)) ∧ Y' b = some (.lst (natV (its W ts F (i + 1)))) ∧ i + (its W ts F i).sum ≤ F.sum, fun _ _ z => z, ?_⟩
    rw [← natV_eq] at gb gz
    refine ⟨.ref p, rfl, .inl ⟨rfl, _, lst_of gp⟩, .ref b, rfl, p, _, _, rfl, rfl, gp, ?_, ?_⟩
    · rw [List.length_map, hlen]
      exact Nat.lt_of_le_of_lt (show t' + 1 ≤ 400 by omega) (by decide)
    have bp : b ≠ p := ne_of gb gp (by
      intro z
      have z := HO.lst.inj z
      unfold natV at z
      cases ls with
      | nil => rw [List.length_nil] at hlen; omega
      | cons l0 lr =>
        cases hh : its W ts F (t' + 1) with
        | nil => rw [hh] at z; cases z
        | cons n0 nr => rw [hh] at z; cases z)
    have s2 : L2.Same H (upd Y p (.lst (ls.map V.ref ++ [.ref b]))) := same_mut sY np
    generalize hZ : upd Y p (.lst (ls.map V.ref ++ [.ref b])) = Z at s2 ⊢
    have gpZ : Z p = some (.lst ((ls ++ [b]).map V.ref)) := by
      rw [← hZ, upd_same, List.map_append]
      rfl
    have kZ : ∀ a o, a ≠ p → Y a = some o → Z a = some o := fun a o h1 h2 => by
      rw [← hZ, upd_ne h1]
      exact h2
    have gbZ := kZ _ _ bp gb
    have prZ : Paired (fun a (t : Nat) => Z a = some (.lst (natV (its W ts F t)))) (ls ++ [b]) (List.range (t' + 1 + 1)) := by
      rw [List.range_succ]
      refine snoc (Paired.mapP pr fun a t h => kZ _ _ (fun z => ?_) h) gbZ
      subst z
      rw [gp] at h
      have h := HO.lst.inj (Option.some.inj h)
      unfold natV at h
      cases ls with
      | nil => rw [List.length_nil] at hlen; omega
      | cons l0 lr =>
        cases hh : its W ts F t with
        | nil => rw [hh] at h; cases h
        | cons n0 nr => rw [hh] at h; cases h
    clear hZ
    refine ⟨.ref b, rfl, .ref t, rfl, .ref q, rfl, .int 0, rfl, b, t, q, Fr, W, ts, its W ts F (t' + 1), rfl, gbZ, hT.same s2, hM.same s2, ok, its_ok fo _, fun b2 X2 nb2 sX2 gb2 => ?_⟩
    exact ⟨(its W ts F (t' + 1)).sum, lt, t' + 1, b2, ls ++ [b], rfl, rfl, s2.trans sX2, sX2 _ _ gpZ, Paired.mapP prZ fun a t z => sX2 _ _ z, gb2, by omega⟩
end
end K24
set_option Elab.async false
set_option linter.all false
set_option autoImplicit false
set_option maxRecDepth 100000
set_option maxHeartbeats 2000000
namespace K24
open PySem PySem.Spec PyProof.Rows L2 Tl
open C8 (Cal pe_c Met Mak pe_mt pe_mt0 pe_mk)
theorem hve_look {kvs : List (Key × V)} {nm : List (Str × List Int)} (h : Paired HvE kvs nm) (x : Str) : valV kvs (.inr x) = (look nm x).map fun xs => V.int ((hv xs : Nat) : Int) := by
  induction h with
  | nil => rfl
  | @cons kv e kvs nm r _ ih =>
    by_cases hx : e.1 = x
    · rw [valV_pos (by rw [r.1, hx]), r.2]
      unfold look
      rw [List.find?_cons_of_pos (by simpa using hx)]
      rfl
    · rw [valV_neg fun z => hx (Sum.inr.inj (r.1.symm.trans z)), ih]
      unfold look
      rw [List.find?_cons_of_neg (by simpa using hx)]
def spHaving (cM : Addr) : Sp := fun vs H Q _ => ∃ (Fr : Addr → Prop) (q : Addr) (W : Wd) (x : Str), vs = [.ref q, .str x] ∧ MdAt cM Fr H q W ∧ Q (.int ((hv (lookN W x) : Nat) : Int)) H
def wn (W : Wd) (ns : List Str) : Nat := ns.foldl (fun N x => N &&& hv (lookN W x)) (2 ^ W.many.toNat - 1)
theorem hvN_ok {W : Wd} (ok : WOk W) (x : Str) : hv (lookN W x) < 64 ∧ ∀ y : Int, 0 ≤ y → (hv (lookN W x)).testBit y.toNat = decide (y ∈ lookN W x) := by
  have n6 := ok.many
  obtain ⟨h1, h2⟩ := lookN_good ok x
  exact hv_ok h1 fun y hy => by have := h2 y hy; omega
theorem full_lt {n : Int} (h1 : 1 ≤ n) (h : n ≤ 6) : 2 ^ n.toNat - 1 < 64 := by
  have : 2 ^ n.toNat ≤ 2 ^ 6 := Nat.pow_le_pow_right (by decide) (by omega)
  have h64 : (2 : Nat) ^ 6 = 64 := by decide
  omega
theorem wn_lt {W : Wd} (ok : WOk W) (ns : List Str) : wn W ns < 64 := by
  have key : ∀ (l : List Str) (N : Nat), N < 64 → l.foldl (fun N x => N &&& hv (lookN W x)) N < 64 := by
    intro l
    induction l with
    | nil => exact fun N h => h
    | cons x l ih => exact fun N h => ih _ (and64 h)
  exact key ns _ (full_lt ok.many.1 ok.many.2)
theorem lk_none {k : Str} {fs : List (Str × V)} (h : ¬ k ∈ fs.map (·.1)) : fs.lookup k = none := by
  induction fs with
  | nil => rfl
  | cons e fs ih =>
    obtain ⟨a, v⟩ := e
    rw [List.map_cons, List.mem_cons] at h
    rw [lkn fun z => h (.inl z)]
    exact ih fun z => h (.inr z)
theorem putF_nk {f : Str} {y : V} {fs : List (Str × V)} (h : ¬ f ∈ fs.map (·.1)) : putF f y fs = fs ++ [(f, y)] :=
  putF_new fun e he z => h (List.mem_map.mpr ⟨e, he, z⟩)
def spWith (cM cL : Addr) : Sp := fun vs H Q _ => ∃ (p l q dx : Addr) (fs : List (Str × V)) (Fr : Addr → Prop) (W : Wd) (ns : List Str), vs = [.ref p, .ref l] ∧ H p = some (.ins cL dx fs) ∧ fs.lookup ("second" : Str) = some (.ref q) ∧ MdAt cM Fr H q W ∧ WOk W ∧
  H l = some (.lst (ns.map V.str)) ∧ Q (.int ((wn W ns : Nat) : Int)) H
section
variable {P : Program} {w : World} {K : PySem.W.Frag} {mg : Str → Option Value} {base : Heap}
theorem mHaving {cT cM cL : Addr} (T : Txt K mg) (D : TxC K mg cT cM cL) : Met P w K mg base 1 cM "having" (spHaving cM) [] := by
  have cls := D.mModel_having.cls
  refine met_of D.mModel_having scModelHaving (fun _ _ _ _ _ _ us hl => match us, hl with | [_, _], _ => rfl) (fun vs H Q E h => ?_) (fun f cdv A outer s H vs Q E hr h => ?_)
  · obtain ⟨Fr, q, W, x, rfl, _⟩ := h
    rfl
  obtain ⟨Fr, q, W, x, rfl, hM, k⟩ := h
  have hu := hu_of hr
  obtain ⟨dx, D1, D2, k1, k2, _, gq, _, g2, e2⟩ := hM
  refine ⟨_, (pss_one (ps_ret (pe_dget2 hu (pe_fld (pv 0) rfl) (pv 1) pe_int ⟨rfl, rfl, rfl, rfl⟩))), ?_⟩
  refine ⟨.ref q, rfl, q, cM, dx, _, .ref D2, rfl, gq, cls, D.nModel__having, md_hv _ _ _, D2, rfl, .inl ⟨k2, .inl g2⟩, .str x, rfl, valV k2 (.inr x), DGet.k (k := .inr x) g2, ?_⟩
  rw [hve_look e2]
  unfold lookN at k
  cases h : look W.names x with
  | none => rw [h] at k; exact k
  | some y => rw [h] at k; exact k
theorem mWith {cT cM cL : Addr} (T : Txt K mg) (D : TxC K mg cT cM cL) : Met P w K mg base 2 cL "_with_names" (spWith cM cL) [] := by
  have cls := D.mLook__with_names.cls
  have clM := D.mModel_having.cls
  refine met_of D.mLook__with_names scLookWithNames (fun _ _ _ _ _ _ us hl => match us, hl with | [_, _], _ => rfl) (fun vs H Q E h => ?_) (fun f cdv A outer s H vs Q E hr h => ?_)
  · obtain ⟨p, l, q, dx, fs, Fr, W, ns, rfl, _⟩ := h
    rfl
  obtain ⟨p, l, q, dx, fs, Fr, W, ns, rfl, gp, hs, hM, ok, gl, k⟩ := h
  refine ⟨_, (pss_cons (ps_set (i := 2) scLookWithNames.nd rfl (.inl rfl) (pe_fld (pe_fld (pv 0) rfl) rfl))
 (pss_cons (ps_for PassesOwn.never rfl (pi_list (pv 1)) (pg_name (i := 3) scLookWithNames.nd rfl (.inl rfl))
 (pss_one (ps_set (i := 2) scLookWithNames.nd rfl (.inl rfl) (pe_op op_and (pv 2) (pe_mt (mHaving T D) hr (by decide) (pe_fld (pv 0) rfl) (pa_cons (pv 3) pa_nil))))))
 (pss_one (ps_ret (pv 2))))), ?_⟩
  obtain ⟨dq, D1, D2, k1, k2, _, gq, _⟩ := id hM
  refine ⟨.ref p, rfl, p, cL, dx, fs, .ref q, rfl, gp, cls, D.nLook_second, hs, q, cM, dq, _, .int ((2 ^ W.many.toNat - 1 : Nat) : Int), rfl, gq, clM, D.nModel_everything, md_ev _ _ _, ?_⟩
  refine ⟨.ref l, rfl, l, rfl, ⟨_, lst_of gl⟩, ?_⟩
  refine for_list (K := K) (a := l) (xs := ns.map V.str) (fun i σ X => ∃ t3, σ = [some (.ref p), some (.ref l), some (.int ((wn W (ns.take i) : Nat) : Int)), t3] ∧ X = H) ⟨_, rfl, rfl⟩ (fun i σ X _ z => ?_) (fun i x σ X hx z => ?_) (fun σ X z => ?_)
  · obtain ⟨_, _, rfl⟩ := z
    exact lst_of gl
  · obtain ⟨t3, rfl, rfl⟩ := z
    obtain ⟨y, hy, rfl⟩ : ∃ y, ns[i]? = some y ∧ V.str y = x := by
      rw [List.getElem?_map] at hx
      exact Option.map_eq_some_iff.mp hx
    refine ⟨.int _, rfl, .ref p, rfl, p, cL, dx, fs, .ref q, rfl, gp, cls, D.nLook_second, hs, q, dq, _, rfl, gq, md_no (by decide +kernel) (by decide +kernel) (by decide +kernel), .str y, rfl, Fr, q, W, y, rfl, hM, _, _, rfl, rfl, some (.str y), ?_, rfl⟩
    rw [List.take_add_one, hy]
    have e : wn W (ns.take i ++ (some y).toList) = wn W (ns.take i) &&& hv (lookN W y) := by
      unfold wn
      rw [List.foldl_append]
      rfl
    rw [e, ← band (wn_lt ok _) (hvN_ok ok y).1]
    rfl
  · obtain ⟨t3, rfl, rfl⟩ := z
    rw [List.length_map, List.take_length]
    exact ⟨_, rfl, k⟩
end
/-! ### lists of rows that grow -/
def Cells {α : Type} (R : Hp → V → α → Prop) (H : Hp) (ls : List Addr) (f : Nat → List α) : Prop := ls.Nodup ∧ ∀ i l, ls[i]? = some l → ∃ vs, H l = some (.lst vs) ∧ Paired (R H) vs (f i)
theorem Cells.keep {α : Type} {R : Hp → V → α → Prop} {H H' : Hp} {ls : List Addr} {f : Nat → List α} (h : Cells R H ls f) (k : ∀ l ∈ ls, ∀ o, H l = some o → H' l = some o) (r : ∀ v a, R H v a → R H' v a) : Cells R H' ls f :=
  ⟨h.1, fun i l hl => by
    obtain ⟨vs, h1, h2⟩ := h.2 i l hl
    exact ⟨vs, k l (List.mem_of_getElem? hl) _ h1, Paired.mapP h2 fun _ _ z => r _ _ z⟩⟩
theorem Cells.put {α : Type} {R : Hp → V → α → Prop} {H : Hp} {ls : List Addr} {f g : Nat → List α} {y : Nat} {l : Addr} {vs : List V} {v : V} {a : α} (h : Cells R H ls f) (hl : ls[y]? = some l) (hv : H l = some (.lst vs))
    (rs : ∀ v' a', R H v' a' → R (upd H l (.lst (vs ++ [v]))) v' a') (rn : R (upd H l (.lst (vs ++ [v]))) v a) (hg : ∀ i, g i = if i = y then f i ++ [a] else f i) : Cells R (upd H l (.lst (vs ++ [v]))) ls g :=
  ⟨h.1, fun i m hm => by
    obtain ⟨us, h1, h2⟩ := h.2 i m hm
    rw [hg]
    by_cases e : i = y
    · subst e
      rw [hl] at hm
      cases hm
      rw [hv] at h1
      cases h1
      rw [if_pos rfl]
      exact ⟨_, upd_same, snoc (Paired.mapP h2 fun _ _ z => rs _ _ z) rn⟩
    · rw [if_neg e]
      have ne : m ≠ l := fun z => by
        subst z
        have := (List.getElem?_inj (by exact (List.getElem?_eq_some_iff.mp hm).1) h.1).mp (hm.trans hl.symm)
        exact e this
      exact ⟨us, (upd_ne ne).trans h1, Paired.mapP h2 fun _ _ z => rs _ _ z⟩⟩
end K24
set_option Elab.async false
set_option linter.all false
set_option autoImplicit false
set_option maxRecDepth 100000
set_option maxHeartbeats 2000000
namespace K24
open PySem PySem.Spec PyProof.Rows L2 Tl
open C8 (Cal pe_c Met Mak pe_mt pe_mt0 pe_mk)
theorem inV_str (x : Str) (ws : List Str) : inV (.str x) (ws.map V.str) = decide (x ∈ ws) := by
  unfold inV
  rw [List.any_map, Bool.eq_iff_iff, List.any_eq_true, decide_eq_true_eq]
  constructor
  · rintro ⟨y, hy, e⟩
    have e : eqV (.str y) (.str x) = true := e
    rw [eqV_str, decide_eq_true_eq] at e
    rw [← e]
    exact hy
  · intro h
    refine ⟨x, h, ?_⟩
    show eqV (.str x) (.str x) = true
    rw [eqV_str]
    exact decide_eq_true rfl
def nmC (ns : List Str) (es : List (Str × List Int)) (x : Nat) : List Str := (es.filter fun e => decide (e.1 ∈ ns) && decide ((x : Int) ∈ e.2)).map (·.1)
theorem nmC_app (ns : List Str) (es : List (Str × List Int)) (r : Str) (xs : List Int) (x : Nat) : nmC ns (es ++ [(r, xs)]) x = nmC ns es x ++ if (decide (r ∈ ns) && decide ((x : Int) ∈ xs)) = true then [r] else [] := by
  unfold nmC
  rw [List.filter_append, List.map_append]
  congr 1
  by_cases h : (decide (r ∈ ns) && decide ((x : Int) ∈ xs)) = true
  · rw [if_pos h, List.filter_cons_of_pos (by exact h)]
    rfl
  · rw [if_neg h, List.filter_cons_of_neg (by exact h)]
    rfl
theorem nmC_nil (ns : List Str) (es : List (Str × List Int)) (r : Str) (x : Nat) : nmC ns (es ++ [(r, [])]) x = nmC ns es x := by
  rw [nmC_app, if_neg (by simp), List.append_nil]
theorem nmC_out {ns : List Str} (es : List (Str × List Int)) {r : Str} (h : r ∉ ns) (xs : List Int) (x : Nat) : nmC ns (es ++ [(r, xs)]) x = nmC ns es x := by
  rw [nmC_app, if_neg (by simp [h]), List.append_nil]
theorem nmC_put {ns : List Str} (es : List (Str × List Int)) {r : Str} (h : r ∈ ns) {xs : List Int} {y : Int} (y0 : 0 ≤ y) (ny : y ∉ xs) (x : Nat) :
    nmC ns (es ++ [(r, xs ++ [y])]) x = if x = y.toNat then nmC ns (es ++ [(r, xs)]) x ++ [r] else nmC ns (es ++ [(r, xs)]) x := by
  rw [nmC_app, nmC_app]
  by_cases e : x = y.toNat
  · have e2 : (x : Int) = y := by omega
    rw [if_pos e, e2, if_pos (by simp [h]), if_neg (by simp [ny]), List.append_nil]
  · have e2 : ¬ (x : Int) = y := by omega
    rw [if_neg e]
    congr 1
    simp [e2]
def trC (rs : List Str) (es : List (Str × List (Int × Int))) (x : Nat) : List (Str × Int) := es.flatMap fun e => if e.1 ∈ rs then (e.2.filter fun p => decide (p.1 = (x : Int))).map fun p => (e.1, p.2) else []
theorem trC_app (rs : List Str) (es : List (Str × List (Int × Int))) (r : Str) (ps : List (Int × Int)) (x : Nat) : trC rs (es ++ [(r, ps)]) x = trC rs es x ++ if r ∈ rs then (ps.filter fun p => decide (p.1 = (x : Int))).map fun p => (r, p.2) else [] := by
  unfold trC
  rw [List.flatMap_append, List.flatMap_cons, List.flatMap_nil, List.append_nil]
theorem trC_nil (rs : List Str) (es : List (Str × List (Int × Int))) (r : Str) (x : Nat) : trC rs (es ++ [(r, [])]) x = trC rs es x := by
  rw [trC_app]
  simp
theorem trC_out {rs : List Str} (es : List (Str × List (Int × Int))) {r : Str} (h : r ∉ rs) (ps : List (Int × Int)) (x : Nat) : trC rs (es ++ [(r, ps)]) x = trC rs es x := by
  rw [trC_app, if_neg h, List.append_nil]
theorem trC_put {rs : List Str} (es : List (Str × List (Int × Int))) {r : Str} (h : r ∈ rs) {ps : List (Int × Int)} {p : Int × Int} (p0 : 0 ≤ p.1) (x : Nat) :
    trC rs (es ++ [(r, ps ++ [p])]) x = if x = p.1.toNat then trC rs (es ++ [(r, ps)]) x ++ [(r, p.2)] else trC rs (es ++ [(r, ps)]) x := by
  rw [trC_app, trC_app, if_pos h, if_pos h, List.filter_append, List.map_append]
  by_cases e : x = p.1.toNat
  · have e2 : p.1 = (x : Int) := by omega
    rw [if_pos e, List.append_assoc, List.filter_cons_of_pos (by simpa using e2)]
    rfl
  · have e2 : ¬ p.1 = (x : Int) := by omega
    rw [if_neg e, List.filter_cons_of_neg (by simpa using e2)]
    simp
def fit0 (W1 W2 : Wd) (ns : List Str) : List Nat := (List.range W1.many.toNat).map fun x => wn W2 (nmC ns W1.names x)
def ties0 (W1 : Wd) (rs : List Str) : List (List (Str × Int)) := (List.range W1.many.toNat).map (trC rs W1.roles)
theorem fit0_ok {W1 W2 : Wd} (ok1 : WOk W1) (ok2 : WOk W2) (ns rs : List Str) : FitOk (ties0 W1 rs) (fit0 W1 W2 ns) := by
  have n6 := ok1.many
  have l1 : (fit0 W1 W2 ns).length = W1.many.toNat := by unfold fit0; rw [List.length_map, List.length_range]
  have l2 : (ties0 W1 rs).length = W1.many.toNat := by unfold ties0; rw [List.length_map, List.length_range]
  refine ⟨fun N hN => ?_, by rw [l1, l2], by omega, fun row hrow e he => ?_⟩
  · unfold fit0 at hN
    obtain ⟨x, _, rfl⟩ := List.mem_map.mp hN
    exact wn_lt ok2 _
  · unfold ties0 at hrow
    obtain ⟨x, _, rfl⟩ := List.mem_map.mp hrow
    unfold trC at he
    obtain ⟨en, hen, he⟩ := List.mem_flatMap.mp he
    by_cases hr : en.1 ∈ rs
    · rw [if_pos hr] at he
      obtain ⟨p, hp, rfl⟩ := List.mem_map.mp he
      have hp := (List.mem_filter.mp hp).1
      have := (ok1.roles.2.1 en hen).2.2.2 p hp
      rw [l1]
      exact ⟨this.2.1, by have := this.2.2; show p.2 < _; omega⟩
    · rw [if_neg hr] at he
      cases he
def VocS (K : PySem.W.Frag) (H : Hp) (v : V) (ns rs : List Str) : Prop := ∃ a n r, v = .ref a ∧ SqT K H a [.ref n, .ref r] ∧ SqT K H n (ns.map V.str) ∧ SqT K H r (rs.map V.str)
theorem VocS.st {K : PySem.W.Frag} {H H' : Hp} {v : V} {ns rs : List Str} (h : VocS K H v ns rs) (s : Stay H H') : VocS K H' v ns rs := by
  obtain ⟨a, n, r, h1, h2, h3, h4⟩ := h
  exact ⟨a, n, r, h1, s.tup h2, s.tup h3, s.tup h4⟩
theorem asc_nodup {xs : List Int} (h : xs.Pairwise (· < ·)) : xs.Nodup := h.imp fun {a b} hab => by omega
theorem nodup_take {xs : List Int} (h : xs.Nodup) : ∀ {j : Nat} {y : Int}, xs[j]? = some y → y ∉ xs.take j := by
  intro j y hy hm
  obtain ⟨i, hi⟩ := List.mem_iff_getElem?.mp hm
  have hij : i < j := by
    have := (List.getElem?_eq_some_iff.mp hi).1
    rw [List.length_take] at this
    omega
  rw [List.getElem?_take_of_lt hij] at hi
  have := (List.getElem?_inj (List.getElem?_eq_some_iff.mp hi).1 h).mp (hi.trans hy.symm)
  omega
end K24
set_option Elab.async false
set_option linter.all false
set_option autoImplicit false
set_option maxRecDepth 100000
set_option maxHeartbeats 4000000
namespace K24
open PySem PySem.Spec PyProof.Rows L2 Tl
open C8 (Cal pe_c Met Mak pe_mt pe_mt0 pe_mk)
def Rn (_ : Hp) (v : V) (x : Str) : Prop := v = .str x
def Rt (K : PySem.W.Frag) (H : Hp) (v : V) (e : Str × Int) : Prop := ∃ q, v = .ref q ∧ SqT K H q [.str e.1, .int e.2]
/-- the fields that the law's second half reads -/
def LkF (K : PySem.W.Frag) (cM : Addr) (H : Hp) (fs : List (Str × V)) (W1 W2 : Wd) (ns rs : List Str) : Prop := ∃ (G M x : Addr) (Fr : Addr → Prop), fs.lookup ("fits" : Str) = some (.ref G) ∧ fs.lookup ("ties" : Str) = some (.ref M) ∧ fs.lookup ("second" : Str) = some (.ref x) ∧
  H G = some (.lst (natV (fit0 W1 W2 ns))) ∧ TsAt K H M (ties0 W1 rs) ∧ MdAt cM Fr H x W2
def spLook (K : PySem.W.Frag) (cM cL : Addr) : Sp := fun vs H Q _ => ∃ (p dx : Addr) (v1 v2 v3 : V) (W1 W2 : Wd) (ns rs : List Str), vs = [.ref p, v1, v2, v3] ∧ H p = some (.ins cL dx []) ∧ IsWd K H v1 W1 ∧ WOk W1 ∧ IsWd K H v2 W2 ∧ WOk W2 ∧ VocS K H v3 ns rs ∧
  ∀ (H' : Hp) (fs : List (Str × V)) (l : Addr) (k : Nat), (∀ a o, a ≠ p → H a = some o → H' a = some o) → H' p = some (.ins cL dx fs) → fs.lookup ("rounds" : Str) = some (.ref l) → fs.lookup ("pairs" : Str) = none → fs.lookup ("round_of" : Str) = none →
    RdAt H' l (its W2 (ties0 W1 rs) (fit0 W1 W2 ns)) k → its W2 (ties0 W1 rs) (fit0 W1 W2 ns) (k + 1) = its W2 (ties0 W1 rs) (fit0 W1 W2 ns) k → k ≤ 400 → LkF K cM H' fs W1 W2 ns rs → Q .non H'
/-- new rows, all empty -/
def Newl (H X : Hp) (N : Addr) (ls : List Addr) (n : Nat) : Prop := ls.Nodup ∧ ls.length = n ∧ ∀ m ∈ ls, H m = none ∧ m ≠ N ∧ X m = some (.lst [])
theorem Newl.snoc {H X : Hp} {N l : Addr} {ls : List Addr} {n : Nat} {oN o : HO} (h : Newl H X N ls n) (nl : X l = none) (hX : L2.Same H X ∨ ∀ a, H a ≠ none → X a ≠ none) (hN : X N = some oN) : Newl H (upd (upd X l (.lst [])) N o) N (ls ++ [l]) (n + 1) := by
  obtain ⟨h1, h2, h3⟩ := h
  have nN : l ≠ N := fun z => by rw [z, hN] at nl; cases nl
  refine ⟨?_, by rw [List.length_append, h2]; rfl, fun m hm => ?_⟩
  · rw [List.nodup_append]
    refine ⟨h1, by simp, fun a ha b hb => ?_⟩
    rw [List.mem_singleton.mp hb]
    intro z
    subst z
    rw [(h3 _ ha).2.2] at nl
    cases nl
  · rcases List.mem_append.mp hm with hm | hm
    · have := h3 m hm
      exact ⟨this.1, this.2.1, by rw [upd_ne this.2.1, upd_ne (ne_of_none this.2.2 nl)]; exact this.2.2⟩
    · rw [List.mem_singleton.mp hm]
      refine ⟨?_, nN, by rw [upd_ne nN, upd_same]⟩
      rcases hX with hX | hX
      · exact hX.free nl
      · by_cases z : H l = none
        · exact z
        · exact absurd nl (hX l z)
theorem paired_get {α β : Type} {F : α → β → Prop} : ∀ {xs : List α} {ys : List β}, xs.length = ys.length → (∀ (i : Nat) (x : α) (y : β), xs[i]? = some x → ys[i]? = some y → F x y) → Paired F xs ys
  | [], [], _, _ => .nil
  | [], _ :: _, h, _ => nomatch h
  | _ :: _, [], h, _ => nomatch h
  | x :: xs, y :: ys, h, f => .cons (f 0 x y rfl rfl) (paired_get (Nat.succ.inj h) fun i a b h1 h2 => f (i + 1) a b h1 h2)
theorem Cells.paired {α : Type} {R : Hp → V → α → Prop} {H : Hp} {ls : List Addr} {f : Nat → List α} {n : Nat} (h : Cells R H ls f) (hn : ls.length = n) : Paired (fun l row => ∃ vs, H l = some (.lst vs) ∧ Paired (R H) vs row) ls ((List.range n).map f) := by
  refine paired_get (by rw [hn, List.length_map, List.length_range]) fun i l row hl hr => ?_
  rw [List.getElem?_map] at hr
  obtain ⟨j, hj, rfl⟩ := Option.map_eq_some_iff.mp hr
  have hi : i < n := by rw [← hn]; exact (List.getElem?_eq_some_iff.mp hl).1
  rw [List.getElem?_range hi] at hj
  cases hj
  exact h.2 i l hl
theorem rn_map {H : Hp} {vs : List V} {xs : List Str} (h : Paired (Rn H) vs xs) : vs = xs.map V.str := by
  induction h with
  | nil => rfl
  | cons r _ ih => rw [List.map_cons, ← ih, r]
theorem rt_map {K : PySem.W.Frag} {H : Hp} {vs : List V} {xs : List (Str × Int)} (h : Paired (Rt K H) vs xs) : ∃ qs : List Addr, vs = qs.map V.ref ∧ Paired (fun q (e : Str × Int) => SqT K H q [.str e.1, .int e.2]) qs xs := by
  induction h with
  | nil => exact ⟨[], rfl, .nil⟩
  | cons r _ ih =>
    obtain ⟨q, rfl, h⟩ := r
    obtain ⟨qs, rfl, h2⟩ := ih
    exact ⟨q :: qs, rfl, .cons h h2⟩
theorem nmC_len (ns : List Str) (es : List (Str × List Int)) (x : Nat) : (nmC ns es x).length ≤ es.length := by
  unfold nmC
  rw [List.length_map]
  exact List.length_filter_le _ _
theorem trC_len {rs : List Str} {m : Nat} (x : Nat) : ∀ {es : List (Str × List (Int × Int))}, (∀ e ∈ es, e.2.length ≤ m) → (trC rs es x).length ≤ m * es.length
  | [], _ => Nat.zero_le _
  | e :: es, h => by
    have ih := trC_len (rs := rs) x fun f hf => h f (List.mem_cons_of_mem _ hf)
    have h0 := h e List.mem_cons_self
    have e1 : trC rs (e :: es) x = (if e.1 ∈ rs then (e.2.filter fun p => decide (p.1 = (x : Int))).map fun p => (e.1, p.2) else []) ++ trC rs es x := by
      unfold trC
      rw [List.flatMap_cons]
    rw [e1, List.length_append, List.length_cons, Nat.mul_succ]
    have : (if e.1 ∈ rs then (e.2.filter fun p => decide (p.1 = (x : Int))).map fun p => (e.1, p.2) else []).length ≤ m := by
      by_cases z : e.1 ∈ rs
      · rw [if_pos z, List.length_map]
        exact Nat.le_trans (List.length_filter_le _ _) h0
      · rw [if_neg z]
        exact Nat.zero_le _
    omega
section
variable {P : Program} {w : World} {K : PySem.W.Frag} {mg : Str → Option Value} {base : Heap}
theorem kLook {cT cM cL : Addr} (T : Txt K mg) (D : TxC K mg cT cM cL) : Mak P w K mg base 4 "Look" cL (spLook K cM cL) [] := by
  have cls := D.mLook_pairs.cls
  refine mak_of D.kLook scLookInit (fun _ _ _ _ _ _ us hl => match us, hl with | [_, _, _, _], _ => rfl) (fun vs H Q E h => ?_) (fun f cdv A outer s H vs Q E hr h => ?_)
  · obtain ⟨p, dx, v1, v2, v3, W1, W2, ns, rs, rfl, _⟩ := h
    rfl
  obtain ⟨p, dx, v1, v2, v3, W1, W2, ns, rs, rfl, gp, hW1, ok1, hW2, ok2, hV, q⟩ := h
  refine ⟨_, (pss_cons (ps_asg (pv 3) (pg_tup rfl (pgs_cons (pg_name (i := 4) scLookInit.nd rfl (.inl rfl)) (pgs_cons (pg_name (i := 5) scLookInit.nd rfl (.inl rfl)) pgs_nil))))
 (pss_cons (ps_fld (pv 0) (pe_mk (kModel T D) hr (by decide) rfl (pa_cons (pv 2) pa_nil)) rfl)
 (pss_cons (ps_fld (pv 0) (pe_lc (own := [("_", 6)]) (by rfl) scLookInit.nd (pi_range1 rfl T.range (pa_cons (pe_ix ix_tup (pv 1) pe_int (fun _ _ => rfl)) pa_nil)) (blkOk_by (own := [("_", 6)]) (N := ["self", "world", "second", "vocabulary", "names", "roles", "_", "name", "things", "x", "role", "pairs", "tied", "mine"]) (sc := defScope sLookInit) (by decide +kernel)) (fun _ _ _ _ _ => (pg_name (i := 6) scLookInit.nd rfl (.inl rfl))) (fun _ _ _ _ _ => pts_nil) (fun _ _ _ _ _ => (pe_lst pa_nil))) rfl)
 (C8.pss_cut (ps_for PassesOwn.never rfl (pi_tup (pe_ix ix_tup (pv 1) pe_int (fun _ _ => rfl))) (pg_tup rfl (pgs_cons (pg_name (i := 7) scLookInit.nd rfl (.inl rfl)) (pgs_cons (pg_name (i := 8) scLookInit.nd rfl (.inl rfl)) pgs_nil)))
 (pss_one (ps_for PassesOwn.never rfl (pi_tup (pv 8)) (pg_name (i := 9) scLookInit.nd rfl (.inl rfl))
 (pss_one (ps_if (pt_cmpR op_in_seq (pv 7) (pv 4) rfl)
 (pss_one (ps_expr (pe_bm PySem.F.plainAttrs_list PySem.F.slot_list_append PySem.F.type_list_append mt_append (pe_ix ix_list (pe_fld (pv 0) rfl) (pv 9) (fun _ _ => rfl)) (pa_cons (pv 7) pa_nil))))
 pss_nil)))))
 (pss_cons (ps_fld (pv 0) (pe_lc (own := [("_", 6)]) (by rfl) scLookInit.nd (pi_range1 rfl T.range (pa_cons (pe_ix ix_tup (pv 1) pe_int (fun _ _ => rfl)) pa_nil)) (blkOk_by (own := [("_", 6)]) (N := ["self", "world", "second", "vocabulary", "names", "roles", "_", "name", "things", "x", "role", "pairs", "tied", "mine"]) (sc := defScope sLookInit) (by decide +kernel)) (fun _ _ _ _ _ => (pg_name (i := 6) scLookInit.nd rfl (.inl rfl))) (fun _ _ _ _ _ => pts_nil) (fun _ _ _ _ _ => (pe_lst pa_nil))) rfl)
 (C8.pss_cut (ps_for PassesOwn.never rfl (pi_tup (pe_ix ix_tup (pv 1) pe_int (fun _ _ => rfl))) (pg_tup rfl (pgs_cons (pg_name (i := 10) scLookInit.nd rfl (.inl rfl)) (pgs_cons (pg_name (i := 11) scLookInit.nd rfl (.inl rfl)) pgs_nil)))
 (pss_one (ps_for PassesOwn.never rfl (pi_tup (pv 11)) (pg_tup rfl (pgs_cons (pg_name (i := 9) scLookInit.nd rfl (.inl rfl)) (pgs_cons (pg_name (i := 12) scLookInit.nd rfl (.inl rfl)) pgs_nil)))
 (pss_one (ps_if (pt_cmpR op_in_seq (pv 10) (pv 5) rfl)
 (pss_one (ps_expr (pe_bm PySem.F.plainAttrs_list PySem.F.slot_list_append PySem.F.type_list_append mt_append (pe_ix ix_list (pe_fld (pv 0) rfl) (pv 9) (fun _ _ => rfl)) (pa_cons (pe_tup (pa_cons (pv 10) (pa_cons (pv 12) pa_nil))) pa_nil))))
 pss_nil)))))
 (pss_cons (ps_fld (pv 0) (pe_lc (own := [("mine", 13)]) (by rfl) scLookInit.nd (pi_list (pe_fld (pv 0) rfl)) (blkOk_by (own := [("mine", 13)]) (N := ["self", "world", "second", "vocabulary", "names", "roles", "_", "name", "things", "x", "role", "pairs", "tied", "mine"]) (sc := defScope sLookInit) (by decide +kernel)) (fun _ _ _ _ _ => (pg_name (i := 13) scLookInit.nd rfl (.inl rfl))) (fun _ _ _ _ _ => pts_nil) (fun _ _ _ _ _ => (pe_mt (mWith T D) hr (by decide) (pv 0) (pa_cons (pv 13) pa_nil)))) rfl)
 (pss_one (ps_fld (pv 0) (pe_c (cRoundsOf T D) hr (by decide) rfl (pa_cons (pe_fld (pv 0) rfl) (pa_cons (pe_fld (pv 0) rfl) (pa_cons (pe_fld (pv 0) rfl) (pa_cons pe_int pa_nil))))) rfl))))))))), ?_⟩
  have n6 := ok1.many
  obtain ⟨av, an, ar, rfl, hv1, hvn, hvr⟩ := hV
  refine ⟨.ref av, rfl, av, _, rfl, hv1, rfl, .ref an, _, rfl, .ref ar, [], rfl, rfl, ?_⟩
  -- self.second = Model(second)
  refine ⟨v2, rfl, fun x xd nx nxd dne => ⟨x, xd, v2, W2, rfl, upd_same, ?_, ok2, fun H2 o2 hM => ⟨rfl, ?_⟩⟩⟩
  · exact iswd_st ((stay_new nxd).trans (stay_new ((upd_ne dne.symm).trans nx))) hW2
  have s2 : L2.Same H H2 := fun a o ha => o2 a o (ne_of_none ha nx) (by rw [upd_ne (ne_of_none ha nx), upd_ne (ne_of_none ha nxd)]; exact ha)
  have xH : ∀ a, (a = x ∨ upd (upd H xd (.own x)) x (.ins cM xd []) a = none) → H a = none := fun a z => by
    rcases z with z | z
    · rw [z]; exact nx
    · by_cases e1 : a = x
      · rw [e1]; exact nx
      · rw [upd_ne e1] at z
        by_cases e2 : a = xd
        · rw [e2]; exact nxd
        · rw [upd_ne e2] at z; exact z
  refine ⟨.ref p, rfl, p, cL, dx, [], rfl, s2 _ _ gp, cls, D.nLook_second, (by show 0 < 1000; decide), ?_⟩
  have e3 : putF ("second" : Str) (.ref x) [] = ([("second", .ref x)] : List (Str × V)) := rfl
  rw [e3]
  generalize hH3 : upd H2 p (.ins cL dx ([("second", .ref x)] : List (Str × V))) = H3
  have g3 : H3 p = some (.ins cL dx ([("second", .ref x)] : List (Str × V))) := by rw [← hH3]; exact upd_same
  have o3 : ∀ a o, a ≠ p → H2 a = some o → H3 a = some o := fun a o h1 h2 => by rw [← hH3, upd_ne h1]; exact h2
  have hM3 : MdAt cM (fun a => a ≠ p) H3 x W2 := hM.keep (fun a o f z => o3 a o (fun e => by rw [e] at f; rw [xH p f] at gp; cases gp) z) fun a o f z e => by rw [e] at f; rw [xH p f] at gp; cases gp
  have oH3 : ∀ a o, a ≠ p → H a = some o → H3 a = some o := fun a o h1 h2 => o3 a o h1 (s2 _ _ h2)
  have st3 : Stay H H3 := stay_ins oH3 gp
  clear hH3 o3 xH hM o2 s2 nx nxd dne e3
  -- self._names = [[] for _ in range(world[0])]
  obtain ⟨a1, n1, r1, rfl, ha1, hN1, hR1⟩ := hW1
  refine ⟨.ref a1, rfl, a1, _, 0, .int W1.many, rfl, rfl, st3.tup ha1, atI_nat (j := 0) rfl, W1.many, rfl, by omega, by omega, fun N nN => ?_⟩
  refine lc_range (lo := 0) (n := W1.many.toNat) (fun i X => ∃ ls : List Addr, Newl H3 X N ls i ∧ L2.Same H3 X ∧ X N = some (.lst (ls.map V.ref))) ⟨[], ⟨List.nodup_nil, rfl, fun m hm => nomatch hm⟩, same_up nN, upd_same⟩ (fun i X hi z => ?_) (fun X z => ?_)
  · obtain ⟨ls, nl, sX, gX⟩ := z
    refine ⟨rfl, Nat.zero_le _, fun l nll => ⟨_, (upd_ne (ne_of_none gX nll)).trans gX, ?_, ls ++ [l], nl.snoc nll (.inl sX) gX, ?_, ?_⟩⟩
    · rw [List.length_map, nl.2.1]
      exact Nat.lt_of_le_of_lt (show i ≤ 6 by omega) (by decide)
    · exact same_mut (same_add sX nll) nN
    · rw [upd_same, List.map_append]
      rfl
  obtain ⟨ls, nl, sX, gX⟩ := z
  have hlen : ls.length = W1.many.toNat := nl.2.1
  refine ⟨.ref p, rfl, p, cL, dx, _, rfl, sX _ _ g3, cls, D.nLook__names, (by show 1 < 1000; decide), ?_⟩
  rw [putF_nk (by show ¬ ("_names" : Str) ∈ (["second"] : List Str); decide +kernel)]
  generalize hH5 : upd X p _ = H5
  have g5 : H5 p = some (.ins cL dx ([("second", .ref x), ("_names", .ref N)] : List (Str × V))) := by rw [← hH5]; exact upd_same
  have o5 : ∀ a o, a ≠ p → X a = some o → H5 a = some o := fun a o h1 h2 => by rw [← hH5, upd_ne h1]; exact h2
  have pN : N ≠ p := (ne_of_none g3 nN).symm
  have lp : ∀ m ∈ ls, m ≠ p := fun m hm e => by have := (nl.2.2 m hm).1; rw [e, g3] at this; cases this
  have oH5 : ∀ a o, a ≠ p → H a = some o → H5 a = some o := fun a o h1 h2 => o5 a o h1 (sX _ _ (oH3 a o h1 h2))
  have hM5 : MdAt cM (fun a => a ≠ p ∧ a ∉ ls ∧ a ≠ N) H5 x W2 := hM3.keep (fun a o f z => o5 a o f (sX _ _ z)) fun a o f z => And.intro f (And.intro (fun hm => by rw [(nl.2.2 a hm).1] at z; cases z) (fun e => by rw [e, nN] at z; cases z))
  have gN5 := o5 _ _ pN gX
  have c0 : Cells Rn H5 ls (nmC ns []) := ⟨nl.1, fun i l hl => ⟨[], o5 _ _ (lp l (List.mem_of_getElem? hl)) (nl.2.2 l (List.mem_of_getElem? hl)).2.2, .nil⟩⟩
  have lH : ∀ m ∈ ls, H m = none := fun m hm => by
    cases z : H m with
    | none => rfl
    | some o => have := oH3 m o (lp m hm) z; rw [(nl.2.2 m hm).1] at this; cases this
  have lN : N ∉ ls := fun hm => (nl.2.2 N hm).2.1 rfl
  have st5 : Stay H H5 := stay_ins oH5 gp
  clear hH5 o5
  have KO : ∀ Y : Hp, (∀ a o, a ∉ ls → H5 a = some o → Y a = some o) → Stay H Y := fun Y k => stay_ins (p := p) (fun a o h1 h2 => k a o (fun hm => by rw [lH a hm] at h2; cases h2) (oH5 a o h1 h2)) gp
  have plm : p ∉ ls := fun hm => lp p hm rfl
  -- for name, things in world[1]
  refine ⟨fun σ Y => ∃ t6 t7 t8 t9 t10 t11 t12 t13, σ = [some (.ref p), some (.ref a1), some v2, some (.ref av), some (.ref an), some (.ref ar), t6, t7, t8, t9, t10, t11, t12, t13] ∧ (∀ a o, a ∉ ls → H5 a = some o → Y a = some o) ∧ Cells Rn Y ls (nmC ns W1.names), ?_, ?_⟩
  · obtain ⟨ps, hf, hp⟩ := hN1
    have sq := rd_of_frz (K := K) hf
    refine ⟨.ref a1, rfl, a1, _, 1, .ref n1, rfl, rfl, st5.tup ha1, atI_nat (j := 1) rfl, n1, rfl, ⟨_, st5.tup sq⟩, ?_⟩
    refine for_tup (K := K) (a := n1) (xs := ps.map V.ref) (fun i σ Y => ∃ t6 t7 t8 t9 t10 t11 t12 t13, σ = [some (.ref p), some (.ref a1), some v2, some (.ref av), some (.ref an), some (.ref ar), t6, t7, t8, t9, t10, t11, t12, t13] ∧ (∀ a o, a ∉ ls → H5 a = some o → Y a = some o) ∧ Cells Rn Y ls (nmC ns (W1.names.take i)))
      ⟨_, _, _, _, _, _, _, _, rfl, fun _ _ _ z => z, c0⟩ (fun i σ Y _ z => ?_) (fun i y σ Y hy z => ?_) (fun σ Y z => ?_)
    · obtain ⟨_, _, _, _, _, _, _, _, _, k, _⟩ := z
      exact (KO Y k).tup sq
    · obtain ⟨t6, t7, t8, t9, t10, t11, t12, t13, rfl, k, c⟩ := z
      obtain ⟨qa, hq, rfl⟩ : ∃ qa, ps[i]? = some qa ∧ V.ref qa = y := by
        rw [List.getElem?_map] at hy
        exact Option.map_eq_some_iff.mp hy
      obtain ⟨e, he, t, h1, h2⟩ := getP hp hq
      have gd := (ok1.names.2.1 e (List.mem_of_getElem? he)).2
      have c : Cells Rn Y ls (nmC ns (W1.names.take i ++ [(e.1, e.2.take 0)])) := by
        have e0 : nmC ns (W1.names.take i ++ [(e.1, e.2.take 0)]) = nmC ns (W1.names.take i) := funext fun x => nmC_nil ns _ e.1 x
        rw [e0]
        exact c
      refine ⟨qa, _, rfl, (KO Y k).tup h1, rfl, .str e.1, _, rfl, .ref t, [], rfl, rfl, ?_⟩
      refine ⟨.ref t, rfl, t, rfl, ⟨_, (KO Y k).tup h2⟩, ?_⟩
      refine for_tup (K := K) (a := t) (xs := e.2.map V.int) (fun j σ Z => ∃ t6 t9 t10 t11 t12 t13, σ = [some (.ref p), some (.ref a1), some v2, some (.ref av), some (.ref an), some (.ref ar), t6, some (.str e.1), some (.ref t), t9, t10, t11, t12, t13] ∧ (∀ a o, a ∉ ls → H5 a = some o → Z a = some o) ∧ Cells Rn Z ls (nmC ns (W1.names.take i ++ [(e.1, e.2.take j)])))
        ⟨_, _, _, _, _, _, rfl, k, c⟩ (fun j σ Z _ z => ?_) (fun j y σ Z hy z => ?_) (fun σ Z z => ?_)
      · obtain ⟨_, _, _, _, _, _, _, k, _⟩ := z
        exact (KO Z k).tup h2
      · obtain ⟨t6, t9, t10, t11, t12, t13, rfl, kZ, cZ⟩ := z
        obtain ⟨b, hb, rfl⟩ : ∃ b, e.2[j]? = some b ∧ V.int b = y := by
          rw [List.getElem?_map] at hy
          exact Option.map_eq_some_iff.mp hy
        have rb := gd.2.2 b (List.mem_of_getElem? hb)
        refine ⟨.str e.1, rfl, .ref an, rfl, an, _, rfl, .inr ((KO Z kZ).tup hvn), rfl, flat_strs ns, _, rfl, ?_⟩
        show (if inV (.str e.1) (ns.map V.str) = true then _ else _)
        rw [inV_str]
        by_cases hin : e.1 ∈ ns
        · rw [decide_eq_true hin]
          have hl : b.toNat < ls.length := by rw [hlen]; omega
          obtain ⟨vs, gv, pv2⟩ := cZ.2 b.toNat ls[b.toNat] (List.getElem?_eq_getElem hl)
          refine iteT ⟨.ref p, rfl, p, cL, dx, _, .ref N, rfl, kZ _ _ plm g5, cls, D.nLook__names, (lkn (by decide +kernel)).trans (lk1 _ _ _), .int b, rfl, N, ls.map V.ref, b, .ref ls[b.toNat], rfl, rfl, lst_of (kZ _ _ lN gN5), atI_of rb.1 (by rw [List.getElem?_map, List.getElem?_eq_getElem hl]; rfl), .inl ⟨rfl, _, lst_of gv⟩, .str e.1, rfl, ls[b.toNat], _, _, rfl, rfl, gv, ?_, ?_⟩
          · rw [pv2.length]
            refine Nat.lt_of_le_of_lt (Nat.le_trans (nmC_len ns _ _) ?_) (show 51 < sizeLine by decide)
            rw [List.length_append, List.length_take]
            have := ok1.names.2.2
            show min i _ + 1 ≤ 51
            omega
          · refine ⟨_, _, _, _, _, _, rfl, fun a o h1 h2 => ?_, ?_⟩
            · rw [upd_ne fun z => h1 (by rw [z]; exact List.getElem_mem hl)]
              exact kZ a o h1 h2
            · refine cZ.put (List.getElem?_eq_getElem hl) gv (fun _ _ z => z) rfl fun x => ?_
              rw [List.take_add_one, hb]
              exact nmC_put _ hin rb.1 (nodup_take (asc_nodup gd.2.1) hb) x
        · rw [decide_eq_false hin]
          refine iteF ⟨_, _, _, _, _, _, rfl, kZ, ?_⟩
          have e0 : nmC ns (W1.names.take i ++ [(e.1, e.2.take (j + 1))]) = nmC ns (W1.names.take i ++ [(e.1, e.2.take j)]) := funext fun x => by rw [nmC_out _ hin, nmC_out _ hin]
          rw [e0]
          exact cZ
      · obtain ⟨t6, t9, t10, t11, t12, t13, rfl, kZ, cZ⟩ := z
        rw [List.length_map, List.take_length] at cZ
        refine ⟨_, _, _, _, _, _, _, _, rfl, kZ, ?_⟩
        rw [List.take_add_one, he]
        exact cZ
    · obtain ⟨t6, t7, t8, t9, t10, t11, t12, t13, rfl, k, c⟩ := z
      rw [List.length_map, hp.length, List.take_length] at c
      exact ⟨_, _, _, _, _, _, _, _, rfl, k, c⟩
  rintro σ Y ⟨t6, t7, t8, t9, t10, t11, t12, t13, rfl, kY, cY⟩
  have st6 : Stay H Y := KO Y kY
  have gpY := kY _ _ plm g5
  have gNY := kY _ _ lN gN5
  have hMY : MdAt cM (fun a => a ≠ p) Y x W2 := hM5.keep (fun a o f z => kY a o f.2.1 z) fun a o f _ => f.1
  have oHY : ∀ a o, a ≠ p → H a = some o → Y a = some o := fun a o h1 h2 => kY a o (fun hm => by rw [lH a hm] at h2; cases h2) (oH5 a o h1 h2)
  have pN' : N ≠ p := pN
  clear KO kY hM5 st5 oH5 g5 gN5 c0 hM3 gX sX nl oH3 g3 st3 nN
  -- self.ties = [[] for _ in range(world[0])]
  refine ⟨.ref a1, rfl, a1, _, 0, .int W1.many, rfl, rfl, st6.tup ha1, atI_nat (j := 0) rfl, W1.many, rfl, by omega, by omega, fun M nM => ?_⟩
  refine lc_range (lo := 0) (n := W1.many.toNat) (fun i X => ∃ ks : List Addr, Newl Y X M ks i ∧ L2.Same Y X ∧ X M = some (.lst (ks.map V.ref))) ⟨[], ⟨List.nodup_nil, rfl, fun m hm => nomatch hm⟩, same_up nM, upd_same⟩ (fun i X hi z => ?_) (fun X z => ?_)
  · obtain ⟨ks, nl, sX, gX⟩ := z
    refine ⟨rfl, Nat.zero_le _, fun l nll => ⟨_, (upd_ne (ne_of_none gX nll)).trans gX, ?_, ks ++ [l], nl.snoc nll (.inl sX) gX, ?_, ?_⟩⟩
    · rw [List.length_map, nl.2.1]
      exact Nat.lt_of_le_of_lt (show i ≤ 6 by omega) (by decide)
    · exact same_mut (same_add sX nll) nM
    · rw [upd_same, List.map_append]
      rfl
  obtain ⟨ks, nl, sX, gX⟩ := z
  have klen : ks.length = W1.many.toNat := nl.2.1
  refine ⟨.ref p, rfl, p, cL, dx, _, rfl, sX _ _ gpY, cls, D.nLook_ties, (by show 2 < 1000; decide), ?_⟩
  rw [putF_nk (by show ¬ ("ties" : Str) ∈ (["second", "_names"] : List Str); decide +kernel)]
  generalize hH6 : upd X p _ = H6
  have g6 : H6 p = some (.ins cL dx ([("second", .ref x), ("_names", .ref N), ("ties", .ref M)] : List (Str × V))) := by rw [← hH6]; exact upd_same
  have o6 : ∀ a o, a ≠ p → X a = some o → H6 a = some o := fun a o h1 h2 => by rw [← hH6, upd_ne h1]; exact h2
  have pM : M ≠ p := (ne_of_none gpY nM).symm
  have kp : ∀ m ∈ ks, m ≠ p := fun m hm e => by have := (nl.2.2 m hm).1; rw [e, gpY] at this; cases this
  have oH6 : ∀ a o, a ≠ p → H a = some o → H6 a = some o := fun a o h1 h2 => o6 a o h1 (sX _ _ (oHY a o h1 h2))
  have gM6 := o6 _ _ pM gX
  have gN6 := o6 _ _ pN' (sX _ _ gNY)
  have lk : ∀ l ∈ ls, l ∉ ks := fun l hl hm => by
    obtain ⟨i, hi⟩ := List.mem_iff_getElem?.mp hl
    obtain ⟨vs, h1, _⟩ := cY.2 i l hi
    rw [(nl.2.2 l hm).1] at h1
    cases h1
  have c6 : Cells Rn H6 ls (nmC ns W1.names) := cY.keep (fun l hl o h => o6 _ _ (lp l hl) (sX _ _ h)) fun _ _ z => z
  have d0 : Cells (Rt K) H6 ks (trC rs []) := ⟨nl.1, fun i l hl => ⟨[], o6 _ _ (kp l (List.mem_of_getElem? hl)) (nl.2.2 l (List.mem_of_getElem? hl)).2.2, .nil⟩⟩
  have hM6 : MdAt cM (fun a => a ≠ p ∧ a ∉ ks) H6 x W2 := hMY.keep (fun a o f z => o6 a o f (sX _ _ z)) fun a o f z => And.intro f (fun hm => by rw [(nl.2.2 a hm).1] at z; cases z)
  have kH : ∀ m ∈ ks, H m = none := fun m hm => by
    cases z : H m with
    | none => rfl
    | some o => have := oHY m o (kp m hm) z; rw [(nl.2.2 m hm).1] at this; cases this
  have kM : M ∉ ks := fun hm => (nl.2.2 M hm).2.1 rfl
  have kN : N ∉ ks := fun hm => by have := (nl.2.2 N hm).1; rw [gNY] at this; cases this
  have pkm : p ∉ ks := fun hm => kp p hm rfl
  clear hH6 o6 cY
  have KO : ∀ Z : Hp, (∀ a o, a ∉ ks → H6 a = some o → Z a = some o) → Stay H Z := fun Z k => stay_ins (p := p) (fun a o h1 h2 => k a o (fun hm => by rw [kH a hm] at h2; cases h2) (oH6 a o h1 h2)) gp
  -- for role, pairs in world[2]
  refine ⟨fun σ Z => ∃ t6 t7 t8 t9 t10 t11 t12 t13, σ = [some (.ref p), some (.ref a1), some v2, some (.ref av), some (.ref an), some (.ref ar), t6, t7, t8, t9, t10, t11, t12, t13] ∧ (∀ a o, a ∉ ks → H6 a = some o → Z a = some o) ∧ Cells (Rt K) Z ks (trC rs W1.roles), ?_, ?_⟩
  · obtain ⟨ps, hf, hp⟩ := hR1
    have sq := rd_of_frz (K := K) hf
    have st7 := KO H6 fun _ _ _ z => z
    refine ⟨.ref a1, rfl, a1, _, 2, .ref r1, rfl, rfl, st7.tup ha1, atI_nat (j := 2) rfl, r1, rfl, ⟨_, st7.tup sq⟩, ?_⟩
    refine for_tup (K := K) (a := r1) (xs := ps.map V.ref) (fun i σ Z => ∃ t6 t7 t8 t9 t10 t11 t12 t13, σ = [some (.ref p), some (.ref a1), some v2, some (.ref av), some (.ref an), some (.ref ar), t6, t7, t8, t9, t10, t11, t12, t13] ∧ (∀ a o, a ∉ ks → H6 a = some o → Z a = some o) ∧ Cells (Rt K) Z ks (trC rs (W1.roles.take i)))
      ⟨_, _, _, _, _, _, _, _, rfl, fun _ _ _ z => z, d0⟩ (fun i σ Z _ z => ?_) (fun i y σ Z hy z => ?_) (fun σ Z z => ?_)
    · obtain ⟨_, _, _, _, _, _, _, _, _, k, _⟩ := z
      exact (KO Z k).tup sq
    · obtain ⟨t6, t7, t8, t9, t10, t11, t12, t13, rfl, k, c⟩ := z
      obtain ⟨qa, hq, rfl⟩ : ∃ qa, ps[i]? = some qa ∧ V.ref qa = y := by
        rw [List.getElem?_map] at hy
        exact Option.map_eq_some_iff.mp hy
      obtain ⟨e, he, t, h1, qs, h2, h3⟩ := getP hp hq
      have gd := (ok1.roles.2.1 e (List.mem_of_getElem? he)).2
      have c : Cells (Rt K) Z ks (trC rs (W1.roles.take i ++ [(e.1, e.2.take 0)])) := by
        have e0 : trC rs (W1.roles.take i ++ [(e.1, e.2.take 0)]) = trC rs (W1.roles.take i) := funext fun x => trC_nil rs _ e.1 x
        rw [e0]
        exact c
      refine ⟨qa, _, rfl, (KO Z k).tup h1, rfl, .str e.1, _, rfl, .ref t, [], rfl, rfl, ?_⟩
      refine ⟨.ref t, rfl, t, rfl, ⟨_, (KO Z k).tup h2⟩, ?_⟩
      refine for_tup (K := K) (a := t) (xs := qs.map V.ref) (fun j σ U => ∃ t6 t7 t8 t9 t12 t13, σ = [some (.ref p), some (.ref a1), some v2, some (.ref av), some (.ref an), some (.ref ar), t6, t7, t8, t9, some (.str e.1), some (.ref t), t12, t13] ∧ (∀ a o, a ∉ ks → H6 a = some o → U a = some o) ∧ Cells (Rt K) U ks (trC rs (W1.roles.take i ++ [(e.1, e.2.take j)])))
        ⟨_, _, _, _, _, _, rfl, k, c⟩ (fun j σ U _ z => ?_) (fun j y σ U hy z => ?_) (fun σ U z => ?_)
      · obtain ⟨_, _, _, _, _, _, _, k, _⟩ := z
        exact (KO U k).tup h2
      · obtain ⟨t6, t7, t8, t9, t12, t13, rfl, kU, cU⟩ := z
        obtain ⟨qb, hb, rfl⟩ : ∃ b, qs[j]? = some b ∧ V.ref b = y := by
          rw [List.getElem?_map] at hy
          exact Option.map_eq_some_iff.mp hy
        obtain ⟨b, hb2, hqb⟩ := getP h3 hb
        have rb := gd.2.2 b (List.mem_of_getElem? hb2)
        refine ⟨qb, _, rfl, (KO U kU).tup hqb, rfl, .int b.1, _, rfl, .int b.2, [], rfl, rfl, ?_⟩
        refine ⟨.str e.1, rfl, .ref ar, rfl, ar, _, rfl, .inr ((KO U kU).tup hvr), rfl, flat_strs rs, _, rfl, ?_⟩
        show (if inV (.str e.1) (rs.map V.str) = true then _ else _)
        rw [inV_str]
        by_cases hin : e.1 ∈ rs
        · rw [decide_eq_true hin]
          have hl : b.1.toNat < ks.length := by rw [klen]; omega
          obtain ⟨vs, gv, pv2⟩ := cU.2 b.1.toNat ks[b.1.toNat] (List.getElem?_eq_getElem hl)
          refine iteT ⟨.ref p, rfl, p, cL, dx, _, .ref M, rfl, kU _ _ pkm g6, cls, D.nLook_ties, (lkn (by decide +kernel)).trans ((lkn (by decide +kernel)).trans (lk1 _ _ _)), .int b.1, rfl, M, ks.map V.ref, b.1, .ref ks[b.1.toNat], rfl, rfl, lst_of (kU _ _ kM gM6), atI_of rb.1.1 (by rw [List.getElem?_map, List.getElem?_eq_getElem hl]; rfl), .inl ⟨rfl, _, lst_of gv⟩, .str e.1, rfl, .int b.2, rfl, (by show 2 ≤ sizeLine; decide), fun q2 nq2 => ?_⟩
          have kU2 : ∀ a o, U a = some o → upd U q2 (.tup [.str e.1, .int b.2]) a = some o := same_up nq2
          have gq2 : upd U q2 (.tup [.str e.1, .int b.2]) q2 = some (.tup [.str e.1, .int b.2]) := upd_same
          have cU2 : Cells (Rt K) (upd U q2 (.tup [.str e.1, .int b.2])) ks (trC rs (W1.roles.take i ++ [(e.1, e.2.take j)])) := cU.keep (fun _ _ o h => kU2 _ o h) fun v a ⟨q3, z1, z2⟩ => ⟨q3, z1, (Tl.Same.stay kU2).tup z2⟩
          have gv2 := kU2 _ _ gv
          generalize upd U q2 (.tup [.str e.1, .int b.2]) = U2 at kU2 gq2 cU2 gv2 ⊢
          refine ⟨ks[b.1.toNat], _, _, rfl, rfl, gv2, ?_, ?_⟩
          · rw [pv2.length]
            refine Nat.lt_of_le_of_lt (trC_len (m := 36) _ fun g hg => ?_) (show 36 * (W1.roles.take i ++ [(e.1, e.2.take j)]).length < sizeLine from ?_)
            · rcases List.mem_append.mp hg with hg | hg
              · have := (ok1.roles.2.1 g (List.mem_of_mem_take hg)).2
                exact lex_len (by omega) n6.2 this.2.1 this.2.2
              · rw [List.mem_singleton.mp hg]
                rw [List.length_take]
                have := lex_len (by omega) n6.2 gd.2.1 gd.2.2
                omega
            · rw [List.length_append, List.length_take]
              have := ok1.roles.2.2
              exact Nat.lt_of_le_of_lt (show 36 * (min i W1.roles.length + 1) ≤ 1836 by omega) (by decide)
          · refine ⟨_, _, _, _, _, _, rfl, fun a o h1 h2 => ?_, ?_⟩
            · rw [upd_ne fun z => h1 (by rw [z]; exact List.getElem_mem hl)]
              exact kU2 a o (kU a o h1 h2)
            · have sm : Stay U2 (upd U2 ks[b.1.toNat] (.lst (vs ++ [.ref q2]))) := stay_mut (by rw [gv2]; trivial)
              refine cU2.put (List.getElem?_eq_getElem hl) gv2 (fun v a ⟨q3, z1, z2⟩ => ⟨q3, z1, sm.tup z2⟩) (a := (e.1, b.2)) ⟨q2, rfl, sm.tup (show SqT K U2 q2 [.str e.1, .int b.2] from tupOf gq2)⟩ fun x => ?_
              rw [List.take_add_one, hb2]
              exact trC_put _ hin rb.1.1 x
        · rw [decide_eq_false hin]
          refine iteF ⟨_, _, _, _, _, _, rfl, kU, ?_⟩
          have e0 : trC rs (W1.roles.take i ++ [(e.1, e.2.take (j + 1))]) = trC rs (W1.roles.take i ++ [(e.1, e.2.take j)]) := funext fun x => by rw [trC_out _ hin, trC_out _ hin]
          rw [e0]
          exact cU
      · obtain ⟨t6, t7, t8, t9, t12, t13, rfl, kU, cU⟩ := z
        rw [List.length_map, h3.length, List.take_length] at cU
        refine ⟨_, _, _, _, _, _, _, _, rfl, kU, ?_⟩
        rw [List.take_add_one, he]
        exact cU
    · obtain ⟨t6, t7, t8, t9, t10, t11, t12, t13, rfl, k, c⟩ := z
      rw [List.length_map, hp.length, List.take_length] at c
      exact ⟨_, _, _, _, _, _, _, _, rfl, k, c⟩
  rintro σ Z ⟨t6, t7, t8, t9, t10, t11, t12, t13, rfl, kZ, dZ⟩
  have st8 := KO Z kZ
  have gpZ := kZ _ _ pkm g6
  have gNZ := kZ _ _ kN gN6
  have gMZ := kZ _ _ kM gM6
  have hMZ : MdAt cM (fun a => a ≠ p) Z x W2 := hM6.keep (fun a o f z => kZ a o f.2 z) fun a o f _ => f.1
  have cZ : Cells Rn Z ls (nmC ns W1.names) := c6.keep (fun l hl o h => kZ _ _ (lk l hl) h) fun _ _ z => z
  have oHZ : ∀ a o, a ≠ p → H a = some o → Z a = some o := fun a o h1 h2 => kZ a o (fun hm => by rw [kH a hm] at h2; cases h2) (oH6 a o h1 h2)
  clear KO hM6 kZ
  have l0 : (fit0 W1 W2 ns).length = W1.many.toNat := by unfold fit0; rw [List.length_map, List.length_range]
  -- self.fits
  refine ⟨.ref p, rfl, p, cL, dx, _, .ref N, rfl, gpZ, cls, D.nLook__names, (lkn (by decide +kernel)).trans (lk1 _ _ _), N, rfl, ⟨_, lst_of gNZ⟩, fun G nG => ?_⟩
  refine lc_list (K := K) (a := N) (xs := ls.map V.ref) (fun i X => L2.Same Z X ∧ X G = some (.lst (natV ((fit0 W1 W2 ns).take i)))) ⟨same_up nG, upd_same⟩ (fun i X _ z => lst_of (z.1 _ _ gNZ)) (fun i y X hy z => ?_) (fun X z => ?_)
  · obtain ⟨sX, gX⟩ := z
    obtain ⟨l, hl, rfl⟩ : ∃ l, ls[i]? = some l ∧ V.ref l = y := by
      rw [List.getElem?_map] at hy
      exact Option.map_eq_some_iff.mp hy
    have hi : i < W1.many.toNat := by rw [← hlen]; exact (List.getElem?_eq_some_iff.mp hl).1
    obtain ⟨vs, gv, pv2⟩ := cZ.2 i l hl
    rw [rn_map pv2] at gv
    refine ⟨rfl, .ref p, rfl, p, dx, _, rfl, sX _ _ gpZ, lk_none (by show ¬ ("_with_names" : Str) ∈ (["second", "_names", "ties"] : List Str); decide +kernel), .ref l, rfl, p, l, x, dx, _, _, W2, nmC ns W1.names i, rfl, sX _ _ gpZ, lk1 _ _ _, hMZ.same sX, ok2, sX _ _ gv, _, gX, ?_, same_mut sX nG, ?_⟩
    · rw [natV, List.length_map, List.length_take]
      exact Nat.lt_of_le_of_lt (show min i _ ≤ 6 by omega) (by decide)
    · have hg : (fit0 W1 W2 ns)[i]? = some (wn W2 (nmC ns W1.names i)) := by
        unfold fit0
        rw [List.getElem?_map, List.getElem?_range hi]
        rfl
      rw [upd_same, List.take_add_one, hg]
      unfold natV
      rw [List.map_append]
      rfl
  obtain ⟨sX, gX⟩ := z
  rw [List.take_of_length_le (by rw [l0, List.length_map, hlen]; exact Nat.le_refl _)] at gX
  refine ⟨.ref p, rfl, p, cL, dx, _, rfl, sX _ _ gpZ, cls, D.nLook_fits, (by show 3 < 1000; decide), ?_⟩
  rw [putF_nk (by show ¬ ("fits" : Str) ∈ (["second", "_names", "ties"] : List Str); decide +kernel)]
  generalize hH7 : upd X p _ = H7
  have g7 : H7 p = some (.ins cL dx ([("second", .ref x), ("_names", .ref N), ("ties", .ref M), ("fits", .ref G)] : List (Str × V))) := by rw [← hH7]; exact upd_same
  have o7 : ∀ a o, a ≠ p → Z a = some o → H7 a = some o := fun a o h1 h2 => by rw [← hH7, upd_ne h1]; exact sX _ _ h2
  have pG : G ≠ p := (ne_of_none gpZ nG).symm
  have gG7 : H7 G = some (.lst (natV (fit0 W1 W2 ns))) := by rw [← hH7, upd_ne pG]; exact gX
  clear hH7
  have d7 : Cells (Rt K) H7 ks (trC rs W1.roles) := dZ.keep (fun l hl o h => o7 _ _ (kp l hl) h) fun v a ⟨q3, z1, z2⟩ => ⟨q3, z1, (stay_ins o7 gpZ).tup z2⟩
  have hM7 : MdAt cM (fun a => a ≠ p) H7 x W2 := hMZ.keep (fun a o f z => o7 a o f z) fun a o f _ => f
  have hT : TsAt K H7 M (ties0 W1 rs) := ⟨ks, o7 _ _ pM gMZ, Paired.mapP (d7.paired klen) fun l row ⟨vs, h1, h2⟩ => by
    obtain ⟨qs, rfl, h3⟩ := rt_map h2
    exact ⟨qs, h1, h3⟩⟩
  -- self.rounds
  refine ⟨.ref p, rfl, p, cL, dx, _, .ref G, rfl, g7, cls, D.nLook_fits, (lkn (by decide +kernel)).trans ((lkn (by decide +kernel)).trans ((lkn (by decide +kernel)).trans (lk1 _ _ _))), .ref p, rfl, p, cL, dx, _, .ref M, rfl, g7, cls, D.nLook_ties, (lkn (by decide +kernel)).trans ((lkn (by decide +kernel)).trans (lk1 _ _ _)), .ref p, rfl, p, cL, dx, _, .ref x, rfl, g7, cls, D.nLook_second, lk1 _ _ _, ?_⟩
  refine ⟨G, M, x, _, W2, ties0 W1 rs, fit0 W1 W2 ns, rfl, gG7, hT, hM7, ok2, fit0_ok ok1 ok2 ns rs, fun R k X8 nR s8 hR hk fx => ?_⟩
  refine ⟨.ref p, rfl, p, cL, dx, _, rfl, s8 _ _ g7, cls, D.nLook_rounds, (by show 4 < 1000; decide), ?_⟩
  rw [putF_nk (by show ¬ ("rounds" : Str) ∈ (["second", "_names", "ties", "fits"] : List Str); decide +kernel)]
  have gp8 := s8 _ _ g7
  obtain ⟨rl, h1, h2⟩ := hR
  have rp : R ≠ p := fun z => by rw [z, gp8] at h1; cases h1
  refine q _ _ R k (fun a o z1 z2 => ?_) upd_same ?_ (lk_none ?_) (lk_none ?_) ⟨rl, (upd_ne rp).trans h1, Paired.mapP h2 fun a t z => ?_⟩ fx hk ?_
  · rw [upd_ne z1]
    exact s8 _ _ (o7 _ _ z1 (oHZ _ _ z1 z2))
  · exact (lkn (by decide +kernel)).trans ((lkn (by decide +kernel)).trans ((lkn (by decide +kernel)).trans ((lkn (by decide +kernel)).trans (lk1 _ _ _))))
  · show ¬ ("pairs" : Str) ∈ (["second", "_names", "ties", "fits", "rounds"] : List Str)
    decide +kernel
  · show ¬ ("round_of" : Str) ∈ (["second", "_names", "ties", "fits", "rounds"] : List Str)
    decide +kernel
  · have : a ≠ p := fun e => by rw [e, gp8] at z; cases z
    rw [upd_ne this]
    exact z
  · have nl : ∀ {a : Addr} {xs : List V}, X8 a = some (.lst xs) → a ≠ p := fun {a xs} z e => by rw [e, gp8] at z; cases z
    obtain ⟨ls, t1, t2⟩ := hT.same s8
    refine ⟨G, M, x, _, (lkn (by decide +kernel)).trans ((lkn (by decide +kernel)).trans ((lkn (by decide +kernel)).trans (lk1 _ _ _))), (lkn (by decide +kernel)).trans ((lkn (by decide +kernel)).trans (lk1 _ _ _)), lk1 _ _ _, (upd_ne (nl (s8 _ _ gG7))).trans (s8 _ _ gG7), ⟨ls, (upd_ne (nl t1)).trans t1, Paired.mapP t2 fun l row ⟨qs, h3, h4⟩ => ⟨qs, (upd_ne (nl h3)).trans h3, Paired.mapP h4 fun q e z => (stay_mut (by rw [gp8]; trivial)).tup z⟩⟩, hM7.keep (fun a o f z => (upd_ne f).trans (s8 _ _ z)) fun a o f _ => f⟩
end
end K24
set_option Elab.async false
set_option linter.all false
set_option autoImplicit false
set_option maxRecDepth 100000
set_option maxHeartbeats 4000000
namespace Tl
open PySem PySem.Spec PyProof.Rows L2
theorem walk_enum {K : PySem.W.Frag} {a : Addr} {xs : List V} {B : V → Hp → (Hp → Prop) → Prop} {Q0 : Hp → Prop} {H0 : Hp} (Pv : Nat → Hp → Prop) (h0 : Pv 0 H0) (hl : ∀ i H, i ≤ xs.length → Pv i H → SqL K H a xs)
    (hs : ∀ i x H T, xs[i]? = some x → Pv i H → H T = none → B (.ref T) (upd H T (.tup [.int (i : Nat), x])) (Pv (i + 1))) (hd : ∀ H, Pv xs.length H → Q0 H) :
    ∃ W : Nat → Nat → Hp → Prop, (∃ m, W 0 m H0) ∧ ∀ i m H, W i m H → ((Ite K a).stop i H ∧ Q0 H) ∨ ((Ite K a).go i H ∧ ∃ Nx : Hp → Prop, (∀ H', Nx H' → ∃ m', m' < m ∧ W (i + 1) m' H') ∧ ∀ x H', (Ite K a).yld i H x H' → B x H' Nx) := by
  refine ⟨fun i m H => m + i = xs.length ∧ Pv i H, ⟨xs.length, rfl, h0⟩, fun i m H ⟨e, p⟩ => ?_⟩
  cases m with
  | zero =>
    obtain rfl : i = xs.length := by omega
    exact .inl ⟨⟨xs, hl _ _ (Nat.le_refl _) p, Nat.le_refl _⟩, hd H p⟩
  | succ m =>
    have li : i < xs.length := by omega
    refine .inr ⟨⟨xs, xs[i], hl _ _ (by omega) p, List.getElem?_eq_getElem li⟩, Pv (i + 1), fun H' p' => ⟨m, Nat.lt_succ_self m, by omega, p'⟩, fun v H' y => ?_⟩
    obtain ⟨T, x, rfl, nT, rfl, hx⟩ := y
    exact hs i x H T (hx xs (hl _ _ (by omega) p)) p nT
theorem walk_list {K : PySem.W.Frag} {a : Addr} {xs : List V} {B : V → Hp → (Hp → Prop) → Prop} {Q0 : Hp → Prop} {H0 : Hp} (Pv : Nat → Hp → Prop) (h0 : Pv 0 H0) (hl : ∀ i H, i ≤ xs.length → Pv i H → SqL K H a xs)
    (hs : ∀ i x H, xs[i]? = some x → Pv i H → B x H (Pv (i + 1))) (hd : ∀ H, Pv xs.length H → Q0 H) :
    ∃ W : Nat → Nat → Hp → Prop, (∃ m, W 0 m H0) ∧ ∀ i m H, W i m H → ((Itl K a).stop i H ∧ Q0 H) ∨ ((Itl K a).go i H ∧ ∃ Nx : Hp → Prop, (∀ H', Nx H' → ∃ m', m' < m ∧ W (i + 1) m' H') ∧ ∀ x H', (Itl K a).yld i H x H' → B x H' Nx) := by
  refine ⟨fun i m H => m + i = xs.length ∧ Pv i H, ⟨xs.length, rfl, h0⟩, fun i m H ⟨e, p⟩ => ?_⟩
  cases m with
  | zero =>
    obtain rfl : i = xs.length := by omega
    exact .inl ⟨⟨xs, hl _ _ (Nat.le_refl _) p, Nat.le_refl _⟩, hd H p⟩
  | succ m =>
    have li : i < xs.length := by omega
    refine .inr ⟨⟨xs, xs[i], hl _ _ (by omega) p, List.getElem?_eq_getElem li⟩, Pv (i + 1), fun H' p' => ⟨m, Nat.lt_succ_self m, by omega, p'⟩, fun v H' y => ?_⟩
    obtain ⟨rfl, hx⟩ := y
    exact hs i v _ (hx xs (hl _ _ (by omega) p)) p
theorem pi_listK {X : Cx} {K : PySem.W.Frag} {tg l : Expr} {tl : TE} (hK : X.K = K) (hl : PE X l tl) : PI X tg l (iList K tl) := by
  subst hK
  exact pi_list hl
end Tl
namespace K24
open PySem PySem.Spec PyProof.Rows L2 Tl
open C8 (Cal pe_c Met Mak pe_mt pe_mt0 pe_mk)
def rowP (F : List Nat) (x : Nat) : List (Int × Int) := (bitsOf (F.getD x 0)).map fun y => ((x : Int), y)
def pairsOf (F : List Nat) : List (Int × Int) := (List.range F.length).flatMap (rowP F)
def spPairs (K : PySem.W.Frag) (cL : Addr) : Sp := fun vs H Q _ => ∃ (p dx l : Addr) (fs : List (Str × V)) (g : Nat → List Nat) (k : Nat), vs = [.ref p] ∧ H p = some (.ins cL dx fs) ∧ fs.lookup ("rounds" : Str) = some (.ref l) ∧ RdAt H l g k ∧ (∀ N ∈ g k, N < 64) ∧ (g k).length ≤ 6 ∧
  ∀ t H', L2.Same H H' → Prs K H' t (pairsOf (g k)) → Q (.ref t) H'
def bt (g : Nat → List Nat) (x y : Int) (t : Nat) : Bool := ((g t).getD x.toNat 0).testBit y.toNat
def rv (g : Nat → List Nat) (k : Nat) (x y : Int) : V := match (List.range (k + 1)).find? (fun t => !(bt g x y t)) with
  | some t => .int (t : Int)
  | none => .non
def spRndM (cL : Addr) : Sp := fun vs H Q _ => ∃ (p dx l : Addr) (fs : List (Str × V)) (g : Nat → List Nat) (k : Nat) (x y : Int), vs = [.ref p, .int x, .int y] ∧ H p = some (.ins cL dx fs) ∧ fs.lookup ("rounds" : Str) = some (.ref l) ∧ RdAt H l g k ∧
  0 ≤ x ∧ (∀ t ≤ k, x.toNat < (g t).length) ∧ 0 ≤ y ∧ ∀ H', L2.Same H H' → Q (rv g k x y) H'
theorem bitsOf_len (N : Nat) : (bitsOf N).length ≤ 6 := by
  unfold bitsOf bitsN
  rw [List.length_map]
  exact Nat.le_trans (List.length_filter_le _ _) (by simp)
theorem rows_len (F : List Nat) : ∀ i : Nat, ((List.range i).flatMap (rowP F)).length ≤ 6 * i
  | 0 => Nat.zero_le _
  | i + 1 => by
    have ih := rows_len F i
    rw [List.range_succ, List.flatMap_append, List.length_append, List.flatMap_cons, List.flatMap_nil, List.append_nil]
    have : (rowP F i).length ≤ 6 := by unfold rowP; rw [List.length_map]; exact bitsOf_len _
    omega
theorem bit_tst (N : Nat) (y : Int) (y0 : 0 ≤ y) : (Builtin.bitAnd ((N : Int) / 2 ^ y.toNat) 1 != 0) = N.testBit y.toNat := by
  rw [PyProof.Rows.bitAnd_m1, Nat.testBit_eq_decide_div_mod_eq]
  have e : ((N : Int) / 2 ^ y.toNat) % 2 = ((N / 2 ^ y.toNat % 2 : Nat) : Int) := by
    rw [Int.natCast_emod, Int.natCast_ediv, Int.natCast_pow]
    rfl
  rw [e, Bool.eq_iff_iff, decide_eq_true_eq, bne_iff_ne]
  have : N / 2 ^ y.toNat % 2 < 2 := Nat.mod_lt _ (by decide)
  omega
section
variable {P : Program} {w : World} {K : PySem.W.Frag} {mg : Str → Option Value} {base : Heap}
theorem mPairs {cT cM cL : Addr} (T : Txt K mg) (D : TxC K mg cT cM cL) : Met P w K mg base 2 cL "pairs" (spPairs K cL) [] := by
  have cls := D.mLook_pairs.cls
  refine met_of D.mLook_pairs scLookPairs (fun _ _ _ _ _ _ us hl => match us, hl with | [_], _ => rfl) (fun vs H Q E h => ?_) (fun f cdv A outer s H vs Q E hr h => ?_)
  · obtain ⟨p, dx, l, fs, g, k, rfl, _⟩ := h
    rfl
  obtain ⟨p, dx, l, fs, g, k, rfl, gp, hl, hR, h64, h6, q⟩ := h
  refine ⟨_, (pss_one (ps_ret (pe_callTy call_tuple_of (by rfl) T.tuple (by decide +kernel) (pa_cons (pe_lc2 (own := [("x", 1), ("matching", 2), ("y", 3)]) (vs1 := [3]) (by rfl) scLookPairs.nd (pi_enum rfl T.enumerate (pa_cons (pe_ix ix_list (pe_fld (pv 0) rfl) (pe_un un_neg pe_int) (fun _ _ => rfl)) pa_nil)) (blkOk_by (own := [("x", 1), ("matching", 2), ("y", 3)]) (N := ["self", "x", "matching", "y"]) (sc := defScope sLookPairs) (by decide +kernel)) (by decide)
    (fun _ _ _ _ _ => (pg_tupK (K := K) (n := 2) rfl rfl (pgs_cons (pg_name (i := 1) scLookPairs.nd rfl (.inl rfl)) (pgs_cons (pg_name (i := 2) scLookPairs.nd rfl (.inl rfl)) pgs_nil)))) (fun _ _ _ _ _ => pts_nil)
    (fun _ _ _ _ _ => (pi_listK (K := K) rfl (pe_c (cBits T) hr (by decide) rfl (pa_cons (pv 2) pa_nil))))
    (fun _ _ _ _ _ => (pg_name (i := 3) scLookPairs.nd rfl (.inl rfl))) (fun _ _ _ _ _ => pts_nil) (fun _ _ _ _ _ => (pe_tup (pa_cons (pv 1) (pa_cons (pv 3) pa_nil))))) pa_nil)))), ?_⟩
  obtain ⟨ls, gl, pr⟩ := hR
  have hlen : ls.length = k + 1 := by rw [pr.length, List.length_range]
  obtain ⟨z, hz⟩ : ∃ z, ls[k]? = some z := ⟨ls[k], List.getElem?_eq_getElem (by omega)⟩
  obtain ⟨t', ht', gz⟩ := getP pr hz
  obtain rfl : t' = k := by
    rw [List.getElem?_range (by omega)] at ht'
    exact (Option.some.inj ht').symm
  refine ⟨.ref p, rfl, p, cL, dx, fs, .ref l, rfl, gp, cls, D.nLook_rounds, hl, 1, rfl, l, ls.map V.ref, -1, .ref z, rfl, rfl, lst_of gl, atI_last ?_, z, natV (g t'), rfl, lst_of gz, fun S nS => ?_⟩
  · rw [List.length_map, List.getElem?_map, hlen]
    show (ls[t' + 1 - 1]?).map V.ref = _
    rw [show t' + 1 - 1 = t' by omega, hz]
    rfl
  refine walk_enum (K := K) (a := z) (xs := natV (g t')) (fun i X => L2.Same H X ∧ ∃ qs : List Addr, X S = some (.lst (qs.map V.ref)) ∧ Paired (PrE K X) qs ((List.range i).flatMap (rowP (g t')))) ⟨same_up nS, [], upd_same, .nil⟩ (fun i X _ z => lst_of (z.1 _ _ gz)) (fun i x X U hx z nU => ?_) (fun X z => ?_)
  · obtain ⟨sX, qs, gX, pX⟩ := z
    have hi : i < (g t').length := by
      have := (List.getElem?_eq_some_iff.mp hx).1
      rwa [natV, List.length_map] at this
    have ex : x = .int (((g t').getD i 0 : Nat) : Int) := by
      rw [natV, List.getElem?_map, List.getElem?_eq_getElem hi] at hx
      rw [getD_of (List.getElem?_eq_getElem hi)]
      exact (Option.some.inj hx).symm
    subst ex
    have l64 : (g t').getD i 0 < 64 := by
      rw [getD_of (List.getElem?_eq_getElem hi)]
      exact h64 _ (List.getElem_mem hi)
    refine ⟨U, _, rfl, tupOf upd_same, rfl, .int (i : Int), _, rfl, .int _, [], rfl, rfl, rfl, .int _, rfl, (g t').getD i 0, rfl, l64, fun b Y nb sY gb => ⟨b, rfl, ⟨_, lst_of gb⟩, ?_⟩⟩
    have sU := same_add sX (o := .tup [.int (i : Int), .int (((g t').getD i 0 : Nat) : Int)]) nU
    have sHY := sU.trans sY
    have sXY : L2.Same X Y := (same_up nU).trans sY
    refine walk_list (K := K) (a := b) (xs := (bitsOf ((g t').getD i 0)).map V.int) (fun j Z => L2.Same H Z ∧ Z b = some (.lst ((bitsOf ((g t').getD i 0)).map V.int)) ∧ ∃ qs : List Addr, Z S = some (.lst (qs.map V.ref)) ∧ Paired (PrE K Z) qs ((List.range i).flatMap (rowP (g t')) ++ (rowP (g t') i).take j))
      ⟨sHY, gb, qs, sXY _ _ gX, by rw [List.take_zero, List.append_nil]; exact Paired.mapP pX fun _ _ z => pre_st (Tl.Same.stay sXY) z⟩ (fun j Z _ z => lst_of z.2.1) (fun j y Z hy z => ?_) (fun Z z => ?_)
    · obtain ⟨sZ, gbZ, rs, gZ, pZ⟩ := z
      obtain ⟨c, hc, rfl⟩ : ∃ c, (bitsOf ((g t').getD i 0))[j]? = some c ∧ V.int c = y := by
        rw [List.getElem?_map] at hy
        exact Option.map_eq_some_iff.mp hy
      refine ⟨rfl, .int (i : Int), rfl, .int c, rfl, (by show 2 ≤ sizeLine; decide), fun V2 nV => ⟨_, (upd_ne (ne_of_none gZ nV)).trans gZ, ?_, same_mut (same_add sZ nV) nS, ?_, rs ++ [V2], ?_, ?_⟩⟩
      · rw [List.length_map, pZ.length, List.length_append, List.length_take]
        have h1 := rows_len (g t') i
        have h2 : (rowP (g t') i).length ≤ 6 := by unfold rowP; rw [List.length_map]; exact bitsOf_len _
        refine Nat.lt_of_le_of_lt (show _ ≤ 42 by omega) (by decide)
      · have bS : b ≠ S := fun e => by
          rw [e] at nb
          have := same_add sX (o := .tup [.int (i : Int), .int (((g t').getD i 0 : Nat) : Int)]) nU
          rw [(same_up nU) S _ gX] at nb
          cases nb
        rw [upd_ne bS, upd_ne (ne_of_none gbZ nV)]
        exact gbZ
      · rw [upd_same, List.map_append]
        rfl
      · have hr2 : (rowP (g t') i)[j]? = some ((i : Int), c) := by
          unfold rowP
          rw [List.getElem?_map, hc]
          rfl
        rw [List.take_add_one, hr2, ← List.append_assoc]
        have st1 : Stay Z (upd (upd Z V2 (.tup [.int (i : Int), .int c])) S (.lst (rs.map V.ref ++ [.ref V2]))) := (stay_new nV).trans (stay_mut (by rw [upd_ne (ne_of_none gZ nV), gZ]; trivial))
        refine snoc (Paired.mapP pZ fun _ _ z => pre_st st1 z) ?_
        have : V2 ≠ S := fun e => by rw [e, gZ] at nV; cases nV
        exact tupOf ((upd_ne this).trans upd_same)
    · obtain ⟨sZ, gbZ, rs, gZ, pZ⟩ := z
      refine ⟨sZ, rs, gZ, ?_⟩
      rw [List.length_map, List.take_of_length_le (by unfold rowP; rw [List.length_map]; exact Nat.le_refl _)] at pZ
      rw [List.range_succ, List.flatMap_append, List.flatMap_cons, List.flatMap_nil, List.append_nil]
      exact pZ
  · obtain ⟨sX, qs, gX, pX⟩ := z
    refine ⟨S, _, rfl, .inl ⟨lst_of gX, fun t nt => q t _ (same_add sX nt) ⟨qs, tupOf upd_same, ?_⟩⟩⟩
    rw [show (natV (g t')).length = (g t').length from List.length_map _] at pX
    exact Paired.mapP pX fun _ _ z => pre_st (stay_new nt) z
end
end K24
set_option Elab.async false
set_option linter.all false
set_option autoImplicit false
set_option maxRecDepth 100000
set_option maxHeartbeats 4000000
namespace K24
open PySem PySem.Spec PyProof.Rows L2 Tl
open C8 (Cal pe_c Met Mak pe_mt pe_mt0 pe_mk)
structure VocG (ns rs : List Str) : Prop where
  n : ns.length ≤ 10 ∧ (∀ x ∈ ns, isW x = true) ∧ ns.Pairwise sl
  r : rs.length ≤ 10 ∧ (∀ x ∈ rs, isW x = true) ∧ rs.Pairwise sl
theorem all_true : ∀ n : Nat, (List.replicate n true).all id = true := all_rep
def spGreat (K : PySem.W.Frag) : Sp := fun vs H Q _ => ∃ (v1 v2 v3 : V) (W1 W2 : Wd) (ns rs : List Str), vs = [v1, v2, v3] ∧ IsWd K H v1 W1 ∧ WOk W1 ∧ IsWd K H v2 W2 ∧ WOk W2 ∧ VocS K H v3 ns rs ∧ VocG ns rs ∧
  ∀ t H' k, L2.Same H H' → Prs K H' t (pairsOf (its W2 (ties0 W1 rs) (fit0 W1 W2 ns) k)) → its W2 (ties0 W1 rs) (fit0 W1 W2 ns) (k + 1) = its W2 (ties0 W1 rs) (fit0 W1 W2 ns) k → Q (.ref t) H'
def spRound (K : PySem.W.Frag) : Sp := fun vs H Q _ => ∃ (v1 v2 v3 : V) (x y : Int) (W1 W2 : Wd) (ns rs : List Str), vs = [v1, .int x, v2, .int y, v3] ∧ IsWd K H v1 W1 ∧ WOk W1 ∧ IsWd K H v2 W2 ∧ WOk W2 ∧ VocS K H v3 ns rs ∧ VocG ns rs ∧ (0 ≤ x ∧ x < W1.many) ∧ (0 ≤ y ∧ y < W2.many) ∧
  ∀ H' k, L2.Same H H' → its W2 (ties0 W1 rs) (fit0 W1 W2 ns) (k + 1) = its W2 (ties0 W1 rs) (fit0 W1 W2 ns) k → Q (rv (its W2 (ties0 W1 rs) (fit0 W1 W2 ns)) k x y) H'
section
variable {P : Program} {w : World} {K : PySem.W.Frag} {mg : Str → Option Value} {base : Heap}
theorem mRnd {cT cM cL : Addr} (T : Txt K mg) (D : TxC K mg cT cM cL) : Met P w K mg base 1 cL "round_of" (spRndM cL) [] := by
  have cls := D.mLook_pairs.cls
  refine met_of D.mLook_round_of scLookRoundOf (fun _ _ _ _ _ _ us hl => match us, hl with | [_, _, _], _ => rfl) (fun vs H Q E h => ?_) (fun f cdv A outer s H vs Q E hr h => ?_)
  · obtain ⟨p, dx, l, fs, g, k, x, y, rfl, _⟩ := h
    rfl
  obtain ⟨p, dx, l, fs, g, k, x, y, rfl, gp, hl, hR, x0, xl, y0, q⟩ := h
  refine ⟨_, (pss_cons (ps_for PassesOwn.never rfl (pi_enum rfl T.enumerate (pa_cons (pe_fld (pv 0) rfl) pa_nil)) (pg_tup rfl (pgs_cons (pg_name (i := 3) scLookRoundOf.nd rfl (.inl rfl)) (pgs_cons (pg_name (i := 4) scLookRoundOf.nd rfl (.inl rfl)) pgs_nil)))
 (pss_one (ps_if (pt_not (pt_truth (pe_op op_and (pe_op op_shr (pe_ix ix_list (pv 4) (pv 1) (fun _ _ => rfl)) (pv 2)) pe_int) (fun _ => rfl)))
 (pss_one (ps_ret (pv 3)))
 pss_nil)))
 (pss_one (ps_ret pe_non))), ?_⟩
  obtain ⟨ls, gl, pr⟩ := hR
  have hlen : ls.length = k + 1 := by rw [pr.length, List.length_range]
  refine ⟨.ref p, rfl, p, cL, dx, fs, .ref l, rfl, gp, cls, D.nLook_rounds, hl, l, ls.map V.ref, rfl, lst_of gl, ?_⟩
  refine for_enumLs (K := K) (a := l) (xs := ls.map V.ref) (fun i σ X => ∃ t3 t4, σ = [some (.ref p), some (.int x), some (.int y), t3, t4] ∧ L2.Same H X ∧ ∀ s, s < i → bt g x y s = true) ⟨_, _, rfl, L2.Same.refl H, fun s hs => absurd hs (Nat.not_lt_zero s)⟩ (fun i σ X _ z => ?_) (fun i v σ X U hv z nU => ?_) (fun σ X z => ?_)
  · obtain ⟨_, _, _, z, _⟩ := z
    exact lst_of (z _ _ gl)
  · obtain ⟨t3, t4, rfl, sX, hb⟩ := z
    obtain ⟨a, ha, rfl⟩ : ∃ a, ls[i]? = some a ∧ V.ref a = v := by
      rw [List.getElem?_map] at hv
      exact Option.map_eq_some_iff.mp hv
    have hi : i < k + 1 := by rw [← hlen]; exact (List.getElem?_eq_some_iff.mp ha).1
    obtain ⟨t', ht', ga⟩ := getP pr ha
    obtain rfl : t' = i := by
      rw [List.getElem?_range hi] at ht'
      exact (Option.some.inj ht').symm
    have sU := same_add sX (o := .tup [.int (t' : Int), .ref a]) nU
    have hx := xl t' (by omega)
    have hg : (g t')[x.toNat]? = some ((g t').getD x.toNat 0) := by rw [getD_of (List.getElem?_eq_getElem hx), List.getElem?_eq_getElem hx]
    refine ⟨U, _, rfl, tupOf upd_same, rfl, .int (t' : Int), _, rfl, .ref a, [], rfl, rfl, ?_⟩
    refine ⟨.ref a, rfl, .int x, rfl, a, natV (g t'), x, .int (((g t').getD x.toNat 0 : Nat) : Int), rfl, rfl, lst_of (sU _ _ ga), atI_of x0 (by rw [natV, List.getElem?_map, hg]; rfl), .int y, rfl, _, _, rfl, rfl, y0, _, _, rfl, rfl, _, rfl, ?_⟩
    rw [bit_tst _ _ y0]
    show (if (!(bt g x y t')) = true then _ else _)
    by_cases hbt : bt g x y t' = true
    · rw [hbt]
      refine iteF ⟨some (.int (t' : Int)), some (.ref a), rfl, sU, fun s hs => ?_⟩
      by_cases e : s = t'
      · rw [e]; exact hbt
      · exact hb s (by omega)
    · have hbf : bt g x y t' = false := by simpa using hbt
      rw [hbf]
      refine iteT ⟨_, rfl, ?_⟩
      have e : rv g k x y = .int (t' : Int) := by
        unfold rv
        have : (List.range (k + 1)).find? (fun t => !(bt g x y t)) = some t' := by
          rw [List.find?_range_eq_some]
          refine ⟨by rw [hbf]; rfl, List.mem_range.mpr hi, fun j hj => by rw [hb j hj]; rfl⟩
        rw [this]
      have := q _ sU
      rw [e] at this
      exact this
  · obtain ⟨t3, t4, rfl, sX, hb⟩ := z
    rw [List.length_map, hlen] at hb
    have e : rv g k x y = .non := by
      unfold rv
      have : (List.range (k + 1)).find? (fun t => !(bt g x y t)) = none := by
        rw [List.find?_eq_none]
        intro t ht
        rw [hb t (List.mem_range.mp ht)]
        exact Bool.false_ne_true
      rw [this]
    have := q _ sX
    rw [e] at this
    exact this
def spWords (K : PySem.W.Frag) : Sp := fun vs H Q _ => ∃ (a : Addr) (ws : List Str), vs = [.ref a] ∧ SqT K H a (ws.map V.str) ∧ (ws.length ≤ 10 ∧ (∀ x ∈ ws, isW x = true) ∧ ws.Pairwise sl) ∧ ∀ H', L2.Same H H' → Q (.bl true) H'
theorem cAreWords (T : Txt K mg) : Cal P w K mg base 3 "_are_words" (spWords K) [] := by
  refine cal_of T.areWords scAreWords (fun _ _ _ _ _ _ us hl => match us, hl with | [_], _ => rfl) (fun vs H Q E h => ?_) (fun f cdv A outer s H vs Q E hr h => ?_)
  · obtain ⟨a, ws, rfl, _⟩ := h
    rfl
  obtain ⟨a, ws, rfl, ha, hw, q⟩ := h
  refine ⟨_, (pss_one (ps_ret (pe_and (pe_callB call_isi (by rfl) T.isinstance (by decide +kernel) (pa_cons (pv 0) (pa_cons (pe_bltn (v := V.ty "tuple") (u := Value.type "tuple") (by rfl) T.tuple (by decide +kernel) rfl) pa_nil))) (pe_and (pe_callB (cr_all rfl) (by rfl) T.all (by decide +kernel) (pa_cons (pe_lc (own := [("word", 1)]) (by rfl) scAreWords.nd (pi_tup (pv 0)) (blkOk_by (own := [("word", 1)]) (N := ["thing", "word"]) (sc := defScope sAreWords) (by decide +kernel)) (fun _ _ _ _ _ => (pg_name (i := 1) scAreWords.nd rfl (.inl rfl))) (fun _ _ _ _ _ => pts_nil) (fun _ _ _ _ _ => (pe_c (cIsWord T) hr (by decide) rfl (pa_cons (pv 1) pa_nil)))) pa_nil)) (pe_one (pe_c (cIsAscending T) hr (by decide) rfl (pa_cons (pv 0) pa_nil))))))), ?_⟩
  refine ⟨.ref a, rfl, .ref a, .ty "tuple", .type "tuple", .type "tuple", true, rfl, .ty _, ty_tup ha, kit_ty (by decide +kernel), true, rfl, iteT ?_⟩
  refine ⟨.ref a, rfl, a, rfl, ⟨_, ha⟩, fun S nS => ?_⟩
  refine lc_tup (K := K) (a := a) (xs := ws.map V.str) (fun i X => L2.Same H X ∧ X S = some (.lst ((List.replicate i true).map V.bl))) ⟨same_up nS, upd_same⟩ (fun i X _ z => (Tl.Same.stay z.1).tup ha) (fun i x X hx z => ?_) (fun X z => ?_)
  · obtain ⟨sX, gX⟩ := z
    obtain ⟨x, hx', rfl⟩ : ∃ u, ws[i]? = some u ∧ V.str u = x := by
      rw [List.getElem?_map] at hx
      exact Option.map_eq_some_iff.mp hx
    refine ⟨rfl, .str x, rfl, x, rfl, hw.2.1 x (List.mem_of_getElem? hx'), fun X2 s2 => ⟨_, s2 _ _ gX, ?_, same_mut (sX.trans s2) nS, ?_⟩⟩
    · rw [List.length_map, List.length_replicate]
      have := (List.getElem?_eq_some_iff.mp hx').1
      exact Nat.lt_of_lt_of_le (show i < 10 by omega) (by decide)
    · rw [upd_same, List.replicate_succ', List.map_append]
      rfl
  · obtain ⟨sX, gX⟩ := z
    refine ⟨S, _, rfl, lst_of gX, true, by rw [all_rep], iteT ⟨.ref a, rfl, a, ws.map V.str, rfl, .inr ((Tl.Same.stay sX).tup ha), by rw [List.length_map]; omega, consec (paired_of ws) hw.2.2 fun x y e f h1 h2 h => ?_, fun H' e => q H' (sX.trans e)⟩⟩
    subst h1 h2
    exact .str h
theorem cIsVocabulary (T : Txt K mg) : Cal P w K mg base 4 "is_vocabulary" (fun vs H Q _ => ∃ (v : V) (ns rs : List Str), vs = [v] ∧ VocS K H v ns rs ∧ VocG ns rs ∧ ∀ H', L2.Same H H' → Q (.bl true) H') [] := by
  refine cal_of T.isVocabulary scIsVocabulary (fun _ _ _ _ _ _ us hl => match us, hl with | [_], _ => rfl) (fun vs H Q E h => ?_) (fun f cdv A outer s H vs Q E hr h => ?_)
  · obtain ⟨v, ns, rs, rfl, _⟩ := h
    rfl
  obtain ⟨v, ns, rs, rfl, hV, hG, q⟩ := h
  refine ⟨_, (pss_one (ps_ret (pe_and (pe_c (cIsPair T) hr (by decide) rfl (pa_cons (pv 0) pa_nil)) (pe_and (pe_c (cAreWords T) hr (by decide) rfl (pa_cons (pe_ix ix_tup (pv 0) pe_int (fun _ _ => rfl)) pa_nil)) (pe_one (pe_c (cAreWords T) hr (by decide) rfl (pa_cons (pe_ix ix_tup (pv 0) pe_int (fun _ _ => rfl)) pa_nil))))))), ?_⟩
  obtain ⟨a, n, r, rfl, h1, h2, h3⟩ := hV
  refine ⟨.ref a, rfl, a, _, _, rfl, h1, true, rfl, iteT ?_⟩
  refine ⟨.ref a, rfl, a, _, 0, _, rfl, rfl, h1, atI_nat (j := 0) rfl, n, ns, rfl, h2, hG.n, fun X s1 => ⟨true, rfl, iteT ?_⟩⟩
  exact ⟨.ref a, rfl, a, _, 1, _, rfl, rfl, (Tl.Same.stay s1).tup h1, atI_nat (j := 1) rfl, r, rs, rfl, (Tl.Same.stay s1).tup h3, hG.r, fun X2 s2 => q X2 (s1.trans s2)⟩
theorem cCheckVocabulary (T : Txt K mg) : Cal P w K mg base 5 "check_vocabulary" (fun vs H Q _ => ∃ (v : V) (ns rs : List Str), vs = [v] ∧ VocS K H v ns rs ∧ VocG ns rs ∧ ∀ H', L2.Same H H' → Q .non H') [] := by
  refine cal_of T.checkVocabulary scCheckVocabulary (fun _ _ _ _ _ _ us hl => match us, hl with | [_], _ => rfl) (fun vs H Q E h => ?_) (fun f cdv A outer s H vs Q E hr h => ?_)
  · obtain ⟨v, ns, rs, rfl, _⟩ := h
    rfl
  obtain ⟨v, ns, rs, rfl, hV, hG, q⟩ := h
  refine ⟨_, (pss_one (ps_if (pt_not (pt_val (pe_c (cIsVocabulary T) hr (by decide) rfl (pa_cons (pv 0) pa_nil))))
 (pss_one ps_never)
 pss_nil)), ?_⟩
  exact ⟨v, rfl, v, ns, rs, rfl, hV, hG, fun H' e => ⟨true, rfl, iteF (q H' e)⟩⟩
theorem cIsBelow (T : Txt K mg) : Cal P w K mg base 2 "_is_below" (fun vs H Q _ => ∃ (x n : Int), vs = [.int x, .int n] ∧ 0 ≤ x ∧ x < n ∧ Q (.bl true) H) [] := by
  refine cal_of T.isBelow scIsBelow (fun _ _ _ _ _ _ us hl => match us, hl with | [_, _], _ => rfl) (fun vs H Q E h => ?_) (fun f cdv A outer s H vs Q E hr h => ?_)
  · obtain ⟨x, n, rfl, _⟩ := h
    rfl
  obtain ⟨x, n, rfl, h0, h1, q⟩ := h
  refine ⟨_, (pss_one (ps_ret (pe_and (pe_c (cIsInteger T) hr (by decide) rfl (pa_cons (pv 0) pa_nil)) (pe_one (pe_chain op_le op_lt pe_int (pv 0) (pv 1)))))), ?_⟩
  refine ⟨.int x, rfl, x, rfl, true, rfl, iteT ?_⟩
  refine ⟨.int x, rfl, 0, x, rfl, rfl, _, rfl, ?_⟩
  rw [show decide ((0 : Int) ≤ x) = true from decide_eq_true h0]
  refine iteT ⟨.int n, rfl, x, n, rfl, rfl, ?_⟩
  show Q (.bl (decide (x < n))) H
  rw [decide_eq_true h1]
  exact q
theorem cCheckThing (T : Txt K mg) : Cal P w K mg base 3 "_check_thing" (fun vs H Q _ => ∃ (v : V) (W : Wd) (x : Int), vs = [v, .int x] ∧ IsWd K H v W ∧ 0 ≤ x ∧ x < W.many ∧ Q .non H) [] := by
  refine cal_of T.checkThing scCheckThing (fun _ _ _ _ _ _ us hl => match us, hl with | [_, _], _ => rfl) (fun vs H Q E h => ?_) (fun f cdv A outer s H vs Q E hr h => ?_)
  · obtain ⟨v, W, x, rfl, _⟩ := h
    rfl
  obtain ⟨v, W, x, rfl, hW, h0, h1, q⟩ := h
  refine ⟨_, (pss_one (ps_if (pt_not (pt_val (pe_c (cIsBelow T) hr (by decide) rfl (pa_cons (pv 1) (pa_cons (pe_ix ix_tup (pv 0) pe_int (fun _ _ => rfl)) pa_nil)))))
 (pss_one ps_never)
 pss_nil)), ?_⟩
  obtain ⟨a, na, ra, rfl, ha, _⟩ := hW
  exact ⟨.int x, rfl, .ref a, rfl, a, _, 0, .int W.many, rfl, rfl, ha, atI_nat (j := 0) rfl, x, W.many, rfl, h0, h1, true, rfl, iteF q⟩
theorem cCheck (T : Txt K mg) : Cal P w K mg base 8 "_check" (fun vs H Q _ => ∃ (v1 v2 v3 : V) (x y : Int) (W1 W2 : Wd) (ns rs : List Str), vs = [v1, .int x, v2, .int y, v3] ∧ IsWd K H v1 W1 ∧ WOk W1 ∧ IsWd K H v2 W2 ∧ WOk W2 ∧ VocS K H v3 ns rs ∧ VocG ns rs ∧ (0 ≤ x ∧ x < W1.many) ∧ (0 ≤ y ∧ y < W2.many) ∧ ∀ H', L2.Same H H' → Q .non H') [] := by
  refine cal_of T.check scCheck (fun _ _ _ _ _ _ us hl => match us, hl with | [_, _, _, _, _], _ => rfl) (fun vs H Q E h => ?_) (fun f cdv A outer s H vs Q E hr h => ?_)
  · obtain ⟨v1, v2, v3, x, y, W1, W2, ns, rs, rfl, _⟩ := h
    rfl
  obtain ⟨v1, v2, v3, x, y, W1, W2, ns, rs, rfl, hW1, ok1, hW2, ok2, hV, hG, hx, hy, q⟩ := h
  refine ⟨_, (pss_cons (ps_expr (pe_c (cCheckWorld T) hr (by decide) rfl (pa_cons (pv 0) pa_nil)))
 (pss_cons (ps_expr (pe_c (cCheckThing T) hr (by decide) rfl (pa_cons (pv 0) (pa_cons (pv 1) pa_nil))))
 (pss_cons (ps_expr (pe_c (cCheckWorld T) hr (by decide) rfl (pa_cons (pv 2) pa_nil)))
 (pss_cons (ps_expr (pe_c (cCheckThing T) hr (by decide) rfl (pa_cons (pv 2) (pa_cons (pv 3) pa_nil))))
 (pss_one (ps_expr (pe_c (cCheckVocabulary T) hr (by decide) rfl (pa_cons (pv 4) pa_nil)))))))), ?_⟩
  refine ⟨v1, rfl, v1, W1, rfl, hW1, ok1, fun X1 s1 => ?_⟩
  refine ⟨v1, rfl, .int x, rfl, v1, W1, x, rfl, iswd_st (Tl.Same.stay s1) hW1, hx.1, hx.2, ?_⟩
  refine ⟨v2, rfl, v2, W2, rfl, iswd_st (Tl.Same.stay s1) hW2, ok2, fun X2 s2 => ?_⟩
  refine ⟨v2, rfl, .int y, rfl, v2, W2, y, rfl, iswd_st (Tl.Same.stay (s1.trans s2)) hW2, hy.1, hy.2, ?_⟩
  exact ⟨v3, rfl, v3, ns, rs, rfl, hV.st (Tl.Same.stay (s1.trans s2)), hG, fun X3 s3 => q X3 ((s1.trans s2).trans s3)⟩
theorem its_len (W : Wd) (ts : List (List (Str × Int))) (F : List Nat) : ∀ t, (its W ts F t).length = F.length
  | 0 => rfl
  | t + 1 => (mat_len W ts _).trans (its_len W ts F t)
theorem fGreatest (T : Txt K mg) : CalF P w K mg base 8 "greatest" sGreatest ["world", "second", "vocabulary"] (spGreat K) := by
  obtain ⟨cT, cM, cL, D⟩ := T.cls
  refine calF_of T.greatest scGreatest (fun vs H Q E h => ?_) (fun f cdv A outer s H vs Q E hr h => ?_)
  · obtain ⟨v1, v2, v3, W1, W2, ns, rs, rfl, _⟩ := h
    rfl
  obtain ⟨v1, v2, v3, W1, W2, ns, rs, rfl, hW1, ok1, hW2, ok2, hV, hG, q⟩ := h
  refine ⟨_, (pss_cons (ps_expr (pe_c (cCheckWorld T) hr (by decide) rfl (pa_cons (pv 0) pa_nil)))
 (pss_cons (ps_expr (pe_c (cCheckWorld T) hr (by decide) rfl (pa_cons (pv 1) pa_nil)))
 (pss_cons (ps_expr (pe_c (cCheckVocabulary T) hr (by decide) rfl (pa_cons (pv 2) pa_nil)))
 (pss_one (ps_ret (pe_mt0 (mPairs T D) hr (by decide) (pe_mk (kLook T D) hr (by decide) rfl (pa_cons (pv 0) (pa_cons (pv 1) (pa_cons (pv 2) pa_nil)))))))))), ?_⟩
  refine ⟨v1, rfl, v1, W1, rfl, hW1, ok1, fun X1 s1 => ?_⟩
  refine ⟨v2, rfl, v2, W2, rfl, iswd_st (Tl.Same.stay s1) hW2, ok2, fun X2 s2 => ?_⟩
  refine ⟨v3, rfl, v3, ns, rs, rfl, hV.st (Tl.Same.stay (s1.trans s2)), hG, fun X3 s3 => ?_⟩
  have s13 := (s1.trans s2).trans s3
  refine ⟨v1, rfl, v2, rfl, v3, rfl, fun x dx nx ndx dne => ?_⟩
  have sN : Stay X3 (upd (upd X3 dx (.own x)) x (.ins cL dx [])) := (stay_new ndx).trans (stay_new ((upd_ne dne.symm).trans nx))
  have st := (Tl.Same.stay s13).trans sN
  refine ⟨x, dx, v1, v2, v3, W1, W2, ns, rs, rfl, upd_same, iswd_st st hW1, ok1, iswd_st st hW2, ok2, hV.st st, fun X4 fs l k o4 g4 hl hp _ hR fx _ _ => ⟨rfl, ?_⟩⟩
  have s34 : L2.Same X3 X4 := fun a o ha => o4 a o (ne_of_none ha nx) (by rw [upd_ne (ne_of_none ha nx), upd_ne (ne_of_none ha ndx)]; exact ha)
  have fo := its_ok (W := W2) (fit0_ok ok1 ok2 ns rs) k
  refine ⟨x, dx, fs, rfl, g4, hp, x, dx, l, fs, _, k, rfl, g4, hl, hR, fo.lt, fo.six, fun t H' s5 hP => q t H' k ((s13.trans s34).trans s5) hP fx⟩
end
end K24
set_option Elab.async false
set_option linter.all false
set_option autoImplicit false
set_option maxRecDepth 100000
set_option maxHeartbeats 2000000
namespace K24
open PySem PySem.Spec PyProof.Rows L2 Tl
theorem look_of {α : Type} : ∀ {nm : List (Str × α)} {x : Str} {y : α}, (nm.map (·.1)).Nodup → (x, y) ∈ nm → look nm x = some y
  | e :: nm, x, y, n, h => by
    have n := List.nodup_cons.mp n
    unfold look
    rcases List.mem_cons.mp h with h | h
    · rw [← h, List.find?_cons_of_pos (by simp)]
      rfl
    · have : ¬ e.1 = x := fun z => n.1 (List.mem_map.mpr ⟨_, h, z.symm⟩)
      rw [List.find?_cons_of_neg (by simpa using this)]
      exact look_of n.2 h
def nmO (W : Wd) (x : Int) : List Str := (W.names.filter fun e => decide (x ∈ e.2)).map (·.1)
theorem mem_nmO {W : Wd} (ok : WOk W) {x : Int} {n : Str} : n ∈ nmO W x ↔ x ∈ lookN W n := by
  unfold nmO lookN
  rw [List.mem_map]
  constructor
  · rintro ⟨e, he, rfl⟩
    rw [List.mem_filter, decide_eq_true_eq] at he
    rw [look_of (sl_nodup ok.names.1) he.1]
    exact he.2
  · intro h
    cases hl : look W.names n with
    | none => rw [hl] at h; cases h
    | some xs =>
      rw [hl] at h
      exact ⟨(n, xs), List.mem_filter.mpr ⟨look_mem hl, decide_eq_true h⟩, rfl⟩
theorem wn_bit {W : Wd} (ok : WOk W) (l : List Str) (y : Int) (y0 : 0 ≤ y) (y1 : y < W.many) : (wn W l).testBit y.toNat = l.all fun nm => decide (y ∈ lookN W nm) := by
  have key : ∀ (l : List Str) (N : Nat), (l.foldl (fun N x => N &&& hv (lookN W x)) N).testBit y.toNat = (N.testBit y.toNat && l.all fun nm => decide (y ∈ lookN W nm)) := by
    intro l
    induction l with
    | nil => intro N; simp
    | cons a l ih =>
      intro N
      rw [List.foldl_cons, ih, Nat.testBit_and, (hvN_ok ok a).2 y y0, List.all_cons, Bool.and_assoc]
  unfold wn
  rw [key, Nat.testBit_two_pow_sub_one, decide_eq_true (show y.toNat < W.many.toNat by omega), Bool.true_and]
theorem rowM_bit (W : Wd) (F : List Nat) (j : Nat) : ∀ (row : List (Str × Int)) (N : Nat), (rowM W F N row).testBit j = (N.testBit j && row.all fun e => (bef W.many (lookR W e.1) (F.getD e.2.toNat 0)).testBit j)
  | [], N => by simp [rowM]
  | e :: row, N => by
    have ih := rowM_bit W F j row (stp W F N e)
    show (rowM W F (stp W F N e) row).testBit j = _
    rw [ih]
    unfold stp
    rw [Nat.testBit_and, List.all_cons, Bool.and_assoc]
theorem and_any {a b : Nat} : ((a &&& b) != 0) = true ↔ ∃ j, a.testBit j = true ∧ b.testBit j = true := by
  rw [bne_iff_ne]
  constructor
  · intro h
    obtain ⟨j, hj⟩ := Nat.exists_testBit_of_ne_zero h
    rw [Nat.testBit_and, Bool.and_eq_true] at hj
    exact ⟨j, hj⟩
  · rintro ⟨j, h1, h2⟩ z
    have := congrArg (fun n => Nat.testBit n j) z
    simp [Nat.testBit_and, h1, h2] at this
theorem bef_bit {W : Wd} (ok : WOk W) (r : Str) (N : Nat) (y : Int) (y0 : 0 ≤ y) (y1 : y < W.many) : (bef W.many (lookR W r) N).testBit y.toNat = (tied W r y).any fun z => N.testBit z.toNat := by
  have g := (lookR_good ok r).2
  have n6 := ok.many
  have ib : InB W.many (lookR W r) := fun e he => ⟨(g e he).1, by have := (g e he).2; omega⟩
  unfold bef
  rw [pm_bit, decide_eq_true (show y.toNat < W.many.toNat by omega), Bool.true_and, Int.toNat_of_nonneg y0, Bool.eq_iff_iff, and_any, List.any_eq_true]
  unfold tied
  constructor
  · rintro ⟨j, h1, h2⟩
    have h3 := aft_bit (lookR W r) y (j : Int) ib (by omega)
    rw [Int.toNat_natCast, h1] at h3
    refine ⟨(j : Int), List.mem_map.mpr ⟨(y, (j : Int)), List.mem_filter.mpr ⟨of_decide_eq_true h3.symm, decide_eq_true rfl⟩, rfl⟩, ?_⟩
    rw [Int.toNat_natCast]
    exact h2
  · rintro ⟨z, hz, h2⟩
    obtain ⟨e, he, rfl⟩ := List.mem_map.mp hz
    rw [List.mem_filter, decide_eq_true_eq] at he
    have ge := g e he.1
    refine ⟨e.2.toNat, ?_, h2⟩
    rw [aft_bit (lookR W r) y e.2 ib ge.2.1]
    refine decide_eq_true ?_
    rw [← he.2]
    exact he.1
section
variable (W1 W2 : Wd) (ns rs : List Str)
def bad0 (x y : Int) : List Str := (nmO W1 x).filter fun n => decide (n ∈ ns) && !decide (n ∈ nmO W2 y)
def good (S : Int → Int → Bool) (x y : Int) : Bool := rs.all fun r => (tied W1 r x).all fun far => (tied W2 r y).any fun it => S far it
abbrev G : Nat → List Nat := its W2 (ties0 W1 rs) (fit0 W1 W2 ns)
abbrev B (t : Nat) (x y : Int) : Bool := bt (G W1 W2 ns rs) x y t
end
section
variable {W1 W2 : Wd} {ns rs : List Str}
theorem l_fit : (fit0 W1 W2 ns).length = W1.many.toNat := by unfold fit0; rw [List.length_map, List.length_range]
theorem l_G (t : Nat) : (G W1 W2 ns rs t).length = W1.many.toNat := (its_len W2 _ _ t).trans l_fit
theorem B_zero (ok1 : WOk W1) (ok2 : WOk W2) {x y : Int} (x0 : 0 ≤ x) (x1 : x < W1.many) (y0 : 0 ≤ y) (y1 : y < W2.many) : B W1 W2 ns rs 0 x y = (bad0 W1 W2 ns x y).isEmpty := by
  unfold B bt
  show ((fit0 W1 W2 ns).getD x.toNat 0).testBit y.toNat = _
  have hx : x.toNat < W1.many.toNat := by omega
  have : (fit0 W1 W2 ns)[x.toNat]? = some (wn W2 (nmC ns W1.names x.toNat)) := by
    unfold fit0
    rw [List.getElem?_map, List.getElem?_range hx]
    rfl
  rw [getD_of this, wn_bit ok2 _ y y0 y1, Bool.eq_iff_iff, List.all_eq_true, List.isEmpty_iff]
  unfold bad0
  rw [List.filter_eq_nil_iff]
  have mem : ∀ nm, nm ∈ nmC ns W1.names x.toNat ↔ nm ∈ nmO W1 x ∧ nm ∈ ns := fun nm => by
    unfold nmC nmO
    rw [List.mem_map, List.mem_map, Int.toNat_of_nonneg x0]
    constructor
    · rintro ⟨e, he, rfl⟩
      rw [List.mem_filter, Bool.and_eq_true, decide_eq_true_eq, decide_eq_true_eq] at he
      exact ⟨⟨e, List.mem_filter.mpr ⟨he.1, decide_eq_true he.2.2⟩, rfl⟩, he.2.1⟩
    · rintro ⟨⟨e, he, rfl⟩, hn⟩
      rw [List.mem_filter, decide_eq_true_eq] at he
      exact ⟨e, List.mem_filter.mpr ⟨he.1, by rw [Bool.and_eq_true, decide_eq_true_eq, decide_eq_true_eq]; exact ⟨hn, he.2⟩⟩, rfl⟩
  constructor
  · intro h n hn
    simp only [Bool.and_eq_true, decide_eq_true_eq, Bool.not_eq_true', decide_eq_false_iff_not, not_and, Classical.not_not]
    intro h1
    rw [mem_nmO ok2]
    exact of_decide_eq_true (h n ((mem n).mpr ⟨hn, h1⟩))
  · intro h nm hm
    obtain ⟨h1, h2⟩ := (mem nm).mp hm
    have := h nm h1
    simp only [Bool.and_eq_true, decide_eq_true_eq, Bool.not_eq_true', decide_eq_false_iff_not, not_and, Classical.not_not] at this
    exact decide_eq_true ((mem_nmO ok2).mp (this h2))
theorem B_succ (ok1 : WOk W1) (ok2 : WOk W2) (t : Nat) {x y : Int} (x0 : 0 ≤ x) (x1 : x < W1.many) (y0 : 0 ≤ y) (y1 : y < W2.many) : B W1 W2 ns rs (t + 1) x y = (B W1 W2 ns rs t x y && good W1 W2 rs (B W1 W2 ns rs t) x y) := by
  unfold B bt
  show ((mat W2 (ties0 W1 rs) (G W1 W2 ns rs t)).getD x.toNat 0).testBit y.toNat = _
  have hx : x.toNat < W1.many.toNat := by omega
  rw [getD_of (mat_get (by rw [l_G]; exact hx)), rowM_bit]
  congr 1
  have hr : (ties0 W1 rs)[x.toNat]? = some (trC rs W1.roles x.toNat) := by
    unfold ties0
    rw [List.getElem?_map, List.getElem?_range hx]
    rfl
  rw [getD_of hr, Bool.eq_iff_iff, List.all_eq_true]
  unfold good
  simp only [List.all_eq_true]
  constructor
  · intro h r hr2 far hf
    unfold tied at hf
    obtain ⟨e, he, rfl⟩ := List.mem_map.mp hf
    rw [List.mem_filter, decide_eq_true_eq] at he
    have : (r, e.2) ∈ trC rs W1.roles x.toNat := by
      unfold trC
      unfold lookR at he
      cases hl : look W1.roles r with
      | none => rw [hl] at he; cases he.1
      | some es =>
        rw [hl] at he
        refine List.mem_flatMap.mpr ⟨(r, es), look_mem hl, ?_⟩
        rw [if_pos hr2]
        refine List.mem_map.mpr ⟨e, List.mem_filter.mpr ⟨he.1, decide_eq_true ?_⟩, rfl⟩
        rw [he.2]
        omega
    have := h _ this
    rw [bef_bit ok2 r _ y y0 y1] at this
    exact this
  · rintro h ⟨r, far⟩ hm
    unfold trC at hm
    obtain ⟨en, hen, hm⟩ := List.mem_flatMap.mp hm
    by_cases hr2 : en.1 ∈ rs
    · rw [if_pos hr2] at hm
      obtain ⟨p, hp, e⟩ := List.mem_map.mp hm
      cases e
      rw [List.mem_filter, decide_eq_true_eq] at hp
      rw [bef_bit ok2 en.1 _ y y0 y1]
      refine h en.1 hr2 p.2 ?_
      unfold tied lookR
      rw [look_of (sl_nodup ok1.roles.1) (show (en.1, en.2) ∈ W1.roles from hen)]
      refine List.mem_map.mpr ⟨p, List.mem_filter.mpr ⟨hp.1, decide_eq_true ?_⟩, rfl⟩
      rw [hp.2]
      omega
    · rw [if_neg hr2] at hm
      cases hm
end
end K24
set_option Elab.async false
set_option linter.all false
set_option autoImplicit false
set_option maxRecDepth 100000
set_option maxHeartbeats 2000000
namespace K24
open PySem PySem.Spec PyProof.Rows L2 Tl
def Inr (W1 W2 : Wd) (p : Int × Int) : Prop := (0 ≤ p.1 ∧ p.1 < W1.many) ∧ 0 ≤ p.2 ∧ p.2 < W2.many
def Pall (W1 W2 : Wd) : List (Int × Int) := (rgI W1.many).flatMap fun x => (rgI W2.many).map fun y => (x, y)
theorem mem_Pall {W1 W2 : Wd} {p : Int × Int} : p ∈ Pall W1 W2 ↔ Inr W1 W2 p := by
  unfold Pall Inr
  rw [List.mem_flatMap]
  constructor
  · rintro ⟨x, hx, hp⟩
    obtain ⟨y, hy, rfl⟩ := List.mem_map.mp hp
    exact ⟨mem_rgI.mp hx, mem_rgI.mp hy⟩
  · rintro ⟨h1, h2⟩
    exact ⟨p.1, mem_rgI.mpr h1, List.mem_map.mpr ⟨p.2, mem_rgI.mpr h2, rfl⟩⟩
theorem tied_rg {W : Wd} (ok : WOk W) {r : Str} {x z : Int} (h : z ∈ tied W r x) : 0 ≤ z ∧ z < W.many := by
  unfold tied at h
  obtain ⟨e, he, rfl⟩ := List.mem_map.mp h
  exact ((lookR_good ok r).2 e (List.mem_filter.mp he).1).2
def lawIt (W1 W2 : Wd) (ns rs : List Str) (P : List (Int × Int)) : Nat → List (Int × Int)
  | 0 => P.filter fun p => (bad0 W1 W2 ns p.1 p.2).isEmpty
  | t + 1 => (lawIt W1 W2 ns rs P t).filter fun p => good W1 W2 rs (fun a b => decide ((a, b) ∈ lawIt W1 W2 ns rs P t)) p.1 p.2
section
variable {W1 W2 : Wd} {ns rs : List Str}
theorem good_mono {S S' : Int → Int → Bool} {x y : Int} (h : ∀ r a b, a ∈ tied W1 r x → b ∈ tied W2 r y → S a b = true → S' a b = true) (g : good W1 W2 rs S x y = true) : good W1 W2 rs S' x y = true := by
  unfold good at *
  simp only [List.all_eq_true, List.any_eq_true] at *
  intro r hr far hf
  obtain ⟨it, hi, hs⟩ := g r hr far hf
  exact ⟨it, hi, h r far it hf hi hs⟩
theorem good_congr (ok1 : WOk W1) (ok2 : WOk W2) {S S' : Int → Int → Bool} {x y : Int} (h : ∀ p, Inr W1 W2 p → S p.1 p.2 = S' p.1 p.2) : good W1 W2 rs S x y = good W1 W2 rs S' x y := by
  rw [Bool.eq_iff_iff]
  exact ⟨good_mono fun r a b ha hb z => by rw [← h (a, b) ⟨tied_rg ok1 ha, tied_rg ok2 hb⟩]; exact z, good_mono fun r a b ha hb z => by rw [h (a, b) ⟨tied_rg ok1 ha, tied_rg ok2 hb⟩]; exact z⟩
theorem lawIt_all (ok1 : WOk W1) (ok2 : WOk W2) : ∀ t, lawIt W1 W2 ns rs (Pall W1 W2) t = (Pall W1 W2).filter fun p => B W1 W2 ns rs t p.1 p.2
  | 0 => List.filter_congr fun p hp => by
    obtain ⟨h1, h2⟩ := mem_Pall.mp hp
    exact (B_zero ok1 ok2 h1.1 h1.2 h2.1 h2.2).symm
  | t + 1 => by
    have ih := lawIt_all ok1 ok2 t
    unfold lawIt
    rw [ih, List.filter_filter]
    refine List.filter_congr fun p hp => ?_
    obtain ⟨h1, h2⟩ := mem_Pall.mp hp
    rw [B_succ ok1 ok2 t h1.1 h1.2 h2.1 h2.2, Bool.and_comm]
    congr 1
    refine good_congr ok1 ok2 fun q hq => ?_
    rw [Bool.eq_iff_iff, decide_eq_true_eq, List.mem_filter]
    exact ⟨fun z => z.2, fun z => ⟨mem_Pall.mpr hq, z⟩⟩
def FixAt (W1 W2 : Wd) (ns rs : List Str) (k : Nat) : Prop := ∀ p, Inr W1 W2 p → B W1 W2 ns rs (k + 1) p.1 p.2 = B W1 W2 ns rs k p.1 p.2
theorem FixAt.on (ok1 : WOk W1) (ok2 : WOk W2) {k : Nat} (h : FixAt W1 W2 ns rs k) : ∀ j p, Inr W1 W2 p → B W1 W2 ns rs (k + j) p.1 p.2 = B W1 W2 ns rs k p.1 p.2
  | 0, p, _ => rfl
  | j + 1, p, hp => by
    have ih := FixAt.on ok1 ok2 h j
    have e1 : B W1 W2 ns rs (k + (j + 1)) p.1 p.2 = (B W1 W2 ns rs (k + j) p.1 p.2 && good W1 W2 rs (B W1 W2 ns rs (k + j)) p.1 p.2) := B_succ ok1 ok2 (k + j) hp.1.1 hp.1.2 hp.2.1 hp.2.2
    have e2 := B_succ (ns := ns) (rs := rs) ok1 ok2 k hp.1.1 hp.1.2 hp.2.1 hp.2.2
    rw [e1, ih p hp, good_congr ok1 ok2 ih, ← e2]
    exact h p hp
theorem FixAt.same (ok1 : WOk W1) (ok2 : WOk W2) {k l : Nat} (h1 : FixAt W1 W2 ns rs k) (h2 : FixAt W1 W2 ns rs l) {p : Int × Int} (hp : Inr W1 W2 p) : B W1 W2 ns rs k p.1 p.2 = B W1 W2 ns rs l p.1 p.2 := by
  rw [← h1.on ok1 ok2 l p hp, ← h2.on ok1 ok2 k p hp, Nat.add_comm]
theorem fix_its {k : Nat} (h : G W1 W2 ns rs (k + 1) = G W1 W2 ns rs k) : FixAt W1 W2 ns rs k := fun p _ => by
  unfold B bt
  rw [h]
theorem fix_law (ok1 : WOk W1) (ok2 : WOk W2) {k : Nat} (h : lawIt W1 W2 ns rs (Pall W1 W2) (k + 1) = lawIt W1 W2 ns rs (Pall W1 W2) k) : FixAt W1 W2 ns rs k := fun p hp => by
  rw [lawIt_all ok1 ok2, lawIt_all ok1 ok2] at h
  have e1 : p ∈ (Pall W1 W2).filter (fun p => B W1 W2 ns rs (k + 1) p.1 p.2) ↔ p ∈ (Pall W1 W2).filter (fun p => B W1 W2 ns rs k p.1 p.2) := by rw [h]
  rw [List.mem_filter, List.mem_filter] at e1
  have m := mem_Pall.mpr hp
  rw [Bool.eq_iff_iff]
  exact ⟨fun z => (e1.mp ⟨m, z⟩).2, fun z => (e1.mpr ⟨m, z⟩).2⟩
/-- what is right within itself stays -/
theorem post_in (ok1 : WOk W1) (ok2 : WOk W2) {L : List (Int × Int)} (h : ∀ p ∈ L, Inr W1 W2 p ∧ (bad0 W1 W2 ns p.1 p.2).isEmpty = true ∧ good W1 W2 rs (fun a b => decide ((a, b) ∈ L)) p.1 p.2 = true) : ∀ t, ∀ p ∈ L, B W1 W2 ns rs t p.1 p.2 = true
  | 0, p, hp => by
    obtain ⟨hr, h0, _⟩ := h p hp
    rw [B_zero ok1 ok2 hr.1.1 hr.1.2 hr.2.1 hr.2.2]
    exact h0
  | t + 1, p, hp => by
    have ih := post_in ok1 ok2 h t
    obtain ⟨hr, _, hg⟩ := h p hp
    rw [B_succ ok1 ok2 t hr.1.1 hr.1.2 hr.2.1 hr.2.2, ih p hp, Bool.true_and]
    exact good_mono (fun r a b _ _ z => ih (a, b) (of_decide_eq_true z)) hg
theorem lawIt_sub (P : List (Int × Int)) : ∀ t, ∀ p ∈ lawIt W1 W2 ns rs P t, p ∈ P ∧ (bad0 W1 W2 ns p.1 p.2).isEmpty = true
  | 0, p, h => List.mem_filter.mp h
  | t + 1, p, h => lawIt_sub P t p (List.mem_filter.mp h).1
theorem lawIt_post {P : List (Int × Int)} (hP : ∀ p ∈ P, Inr W1 W2 p) {k : Nat} (h : lawIt W1 W2 ns rs P (k + 1) = lawIt W1 W2 ns rs P k) : ∀ p ∈ lawIt W1 W2 ns rs P k, Inr W1 W2 p ∧ (bad0 W1 W2 ns p.1 p.2).isEmpty = true ∧ good W1 W2 rs (fun a b => decide ((a, b) ∈ lawIt W1 W2 ns rs P k)) p.1 p.2 = true := fun p hp => by
  obtain ⟨h1, h2⟩ := lawIt_sub P k p hp
  refine ⟨hP p h1, h2, ?_⟩
  have : p ∈ lawIt W1 W2 ns rs P (k + 1) := by rw [h]; exact hp
  exact (List.mem_filter.mp this).2
theorem diag_in (ok : WOk W1) (t : Nat) {x : Int} (hx : 0 ≤ x ∧ x < W1.many) : B W1 W1 ns rs t x x = true := by
  refine post_in (L := (rgI W1.many).map fun x => (x, x)) ok ok (fun p hp => ?_) t (x, x) (List.mem_map.mpr ⟨x, mem_rgI.mpr hx, rfl⟩)
  obtain ⟨z, hz, rfl⟩ := List.mem_map.mp hp
  have hz := mem_rgI.mp hz
  refine ⟨⟨hz, hz⟩, ?_, ?_⟩
  · rw [List.isEmpty_iff]
    unfold bad0
    rw [List.filter_eq_nil_iff]
    intro n hn
    simp [hn]
  · unfold good
    simp only [List.all_eq_true, List.any_eq_true]
    intro r _ far hf
    exact ⟨far, hf, decide_eq_true (List.mem_map.mpr ⟨far, mem_rgI.mpr (tied_rg ok hf), rfl⟩)⟩
/-! ### the first round in which a pair is gone -/
def fv (W1 W2 : Wd) (ns rs : List Str) (T : Nat) (x y : Int) : Option Nat := (List.range T).find? fun t => !(B W1 W2 ns rs t x y)
theorem fv_succ (T : Nat) (x y : Int) : fv W1 W2 ns rs (T + 1) x y = (fv W1 W2 ns rs T x y).or (if B W1 W2 ns rs T x y = true then none else some T) := by
  unfold fv
  rw [List.range_succ, List.find?_append]
  congr 1
  by_cases h : B W1 W2 ns rs T x y = true
  · rw [if_pos h, List.find?_cons_of_neg (by simp [h])]
    rfl
  · rw [if_neg h, List.find?_cons_of_pos (by simpa using h)]
theorem fv_none {T : Nat} {x y : Int} : fv W1 W2 ns rs T x y = none ↔ ∀ t, t < T → B W1 W2 ns rs t x y = true := by
  unfold fv
  rw [List.find?_eq_none]
  constructor
  · intro h t ht
    have := h t (List.mem_range.mpr ht)
    simpa using this
  · intro h t ht
    rw [h t (List.mem_range.mp ht)]
    simp
theorem B_dec (ok1 : WOk W1) (ok2 : WOk W2) {p : Int × Int} (hp : Inr W1 W2 p) : ∀ j t, B W1 W2 ns rs (t + j) p.1 p.2 = true → B W1 W2 ns rs t p.1 p.2 = true
  | 0, t, h => h
  | j + 1, t, h => by
    have e1 : B W1 W2 ns rs (t + (j + 1)) p.1 p.2 = (B W1 W2 ns rs (t + j) p.1 p.2 && good W1 W2 rs (B W1 W2 ns rs (t + j)) p.1 p.2) := B_succ ok1 ok2 (t + j) hp.1.1 hp.1.2 hp.2.1 hp.2.2
    rw [e1, Bool.and_eq_true] at h
    exact B_dec ok1 ok2 hp j t h.1
/-- gone before T+1: gone in T -/
theorem fv_last (ok1 : WOk W1) (ok2 : WOk W2) {T : Nat} {p : Int × Int} (hp : Inr W1 W2 p) : fv W1 W2 ns rs (T + 1) p.1 p.2 = none ↔ B W1 W2 ns rs T p.1 p.2 = true := by
  rw [fv_none]
  constructor
  · exact fun h => h T (Nat.lt_succ_self T)
  · intro h t ht
    refine B_dec ok1 ok2 hp (T - t) t ?_
    rw [show t + (T - t) = T by omega]
    exact h
theorem fv_fix (ok1 : WOk W1) (ok2 : WOk W2) {k : Nat} (h : FixAt W1 W2 ns rs k) {p : Int × Int} (hp : Inr W1 W2 p) : ∀ j, fv W1 W2 ns rs (k + 1 + j) p.1 p.2 = fv W1 W2 ns rs (k + 1) p.1 p.2
  | 0 => rfl
  | j + 1 => by
    have ih := fv_fix ok1 ok2 h hp j
    show fv W1 W2 ns rs (k + 1 + j + 1) p.1 p.2 = _
    rw [fv_succ, ih]
    cases hf : fv W1 W2 ns rs (k + 1) p.1 p.2 with
    | some t => rfl
    | none =>
      have b := (fv_last ok1 ok2 hp).mp hf
      have := h.on ok1 ok2 (1 + j) p hp
      rw [show k + 1 + j = k + (1 + j) by omega, this, if_pos b]
      rfl
theorem fv_same (ok1 : WOk W1) (ok2 : WOk W2) {k l T : Nat} (hk : FixAt W1 W2 ns rs k) (hl : FixAt W1 W2 ns rs l) (hT : l + 1 ≤ T) {p : Int × Int} (hp : Inr W1 W2 p) : fv W1 W2 ns rs T p.1 p.2 = fv W1 W2 ns rs (k + 1) p.1 p.2 := by
  have e1 := fv_fix ok1 ok2 hl hp (T - (l + 1))
  rw [show l + 1 + (T - (l + 1)) = T by omega] at e1
  have e2 := fv_fix ok1 ok2 hl hp k
  have e3 := fv_fix ok1 ok2 hk hp l
  rw [e1, ← e2, ← e3]
  congr 1
  omega
theorem len_Pall (W1 W2 : Wd) : (Pall W1 W2).length = W1.many.toNat * W2.many.toNat := by
  unfold Pall
  rw [← rgI_len W1.many]
  induction rgI W1.many with
  | nil => simp
  | cons x l ih => rw [List.flatMap_cons, List.length_append, ih, List.length_map, rgI_len, List.length_cons, Nat.succ_mul, Nat.add_comm]
theorem fix_by (ok1 : WOk W1) (ok2 : WOk W2) : ∃ s, s ≤ W1.many.toNat * W2.many.toNat ∧ FixAt W1 W2 ns rs s := by
  have key : ∀ t, (∃ s, s < t ∧ FixAt W1 W2 ns rs s) ∨ ((Pall W1 W2).filter fun p => B W1 W2 ns rs t p.1 p.2).length + t ≤ W1.many.toNat * W2.many.toNat := by
    intro t
    induction t with
    | zero =>
      refine .inr ?_
      rw [← len_Pall, Nat.add_zero]
      exact List.length_filter_le _ _
    | succ t ih =>
      rcases ih with ⟨s, h1, h2⟩ | ih
      · exact .inl ⟨s, by omega, h2⟩
      · have e1 : ((Pall W1 W2).filter fun p => B W1 W2 ns rs (t + 1) p.1 p.2) = ((Pall W1 W2).filter fun p => B W1 W2 ns rs t p.1 p.2).filter fun p => B W1 W2 ns rs (t + 1) p.1 p.2 := by
          rw [List.filter_filter]
          refine List.filter_congr fun p hp => ?_
          have hp := mem_Pall.mp hp
          have := B_succ (ns := ns) (rs := rs) ok1 ok2 t hp.1.1 hp.1.2 hp.2.1 hp.2.2
          rw [this]
          cases B W1 W2 ns rs t p.1 p.2 <;> simp
        have le := List.length_filter_le (fun p => B W1 W2 ns rs (t + 1) p.1 p.2) ((Pall W1 W2).filter fun p => B W1 W2 ns rs t p.1 p.2)
        rw [← e1] at le
        by_cases eq : ((Pall W1 W2).filter fun p => B W1 W2 ns rs (t + 1) p.1 p.2).length = ((Pall W1 W2).filter fun p => B W1 W2 ns rs t p.1 p.2).length
        · refine .inl ⟨t, Nat.lt_succ_self t, fix_law ok1 ok2 ?_⟩
          rw [lawIt_all ok1 ok2, lawIt_all ok1 ok2, e1]
          rw [e1] at eq
          exact List.filter_sublist.eq_of_length eq
        · exact .inr (by omega)
  rcases key (W1.many.toNat * W2.many.toNat + 1) with ⟨s, h1, h2⟩ | h
  · exact ⟨s, by omega, h2⟩
  · omega
theorem G_bit : ∀ t x j, ((G W1 W2 ns rs t).getD x 0).testBit j = true → j < W2.many.toNat
  | 0, x, j, h => by
    by_cases hx : x < W1.many.toNat
    · have : (fit0 W1 W2 ns)[x]? = some (wn W2 (nmC ns W1.names x)) := by
        unfold fit0
        rw [List.getElem?_map, List.getElem?_range hx]
        rfl
      have h : ((fit0 W1 W2 ns).getD x 0).testBit j = true := h
      rw [getD_of this] at h
      have key : ∀ (l : List Str) (N : Nat), (l.foldl (fun N x => N &&& hv (lookN W2 x)) N).testBit j = true → N.testBit j = true := by
        intro l
        induction l with
        | nil => exact fun N h => h
        | cons a l ih =>
          intro N h
          have := ih _ h
          rw [Nat.testBit_and, Bool.and_eq_true] at this
          exact this.1
      have := key _ _ h
      rw [Nat.testBit_two_pow_sub_one, decide_eq_true_eq] at this
      exact this
    · have h : ((fit0 W1 W2 ns).getD x 0).testBit j = true := h
      rw [List.getD_eq_getElem?_getD, List.getElem?_eq_none (by rw [l_fit]; omega)] at h
      simp at h
  | t + 1, x, j, h => by
    by_cases hx : x < W1.many.toNat
    · have h : ((mat W2 (ties0 W1 rs) (G W1 W2 ns rs t)).getD x 0).testBit j = true := h
      rw [getD_of (mat_get (by rw [l_G]; exact hx)), rowM_bit, Bool.and_eq_true] at h
      exact G_bit t x j h.1
    · rw [List.getD_eq_getElem?_getD, List.getElem?_eq_none (by rw [l_G]; omega)] at h
      simp at h
theorem pairs_eq (ok2 : WOk W2) (t : Nat) : pairsOf (G W1 W2 ns rs t) = (Pall W1 W2).filter fun p => B W1 W2 ns rs t p.1 p.2 := by
  have n6 := ok2.many
  unfold pairsOf Pall
  rw [l_G, List.filter_flatMap]
  unfold rgI
  rw [List.flatMap_map]
  refine congrArg (fun f => List.flatMap f (List.range W1.many.toNat)) (funext fun x => ?_)
  unfold rowP
  rw [List.filter_map]
  refine congrArg (List.map fun y => ((x : Int), y)) (asc_eq _ _ (asc_bitsOf _) ((asc_rgI W2.many).filter _) fun y => ?_)
  rw [mem_bitsOf, List.mem_filter]
  show _ ↔ y ∈ rgI W2.many ∧ ((G W1 W2 ns rs t).getD (x : Int).toNat 0).testBit y.toNat = true
  rw [mem_rgI, Int.toNat_natCast]
  constructor
  · rintro ⟨h0, _, h2⟩
    have := G_bit t x _ h2
    exact ⟨⟨h0, by omega⟩, h2⟩
  · rintro ⟨h1, h2⟩
    exact ⟨h1.1, by omega, h2⟩
end
end K24
set_option Elab.async false
set_option linter.all false
set_option autoImplicit false
set_option maxRecDepth 100000
set_option maxHeartbeats 4000000
namespace K24
open PySem PySem.Spec PyProof.Rows L2 Tl
open C8 (Cal pe_c)
theorem eqv_pr (a b : Int × Int) : PyData.eqv (prD a) (prD b) = decide (a = b) := by
  rw [Bool.eq_iff_iff, decide_eq_true_eq, Prod.ext_iff]
  simp [prD, PyData.eqv, PyData.eqvAll]
theorem any_pr (es : List (Int × Int)) (e : Int × Int) : ((es.map prD).any fun z => PyData.eqv z (prD e)) = decide (e ∈ es) := by
  rw [List.any_map, Bool.eq_iff_iff, List.any_eq_true, decide_eq_true_eq]
  constructor
  · rintro ⟨x, hx, h⟩
    have h : PyData.eqv (prD x) (prD e) = true := h
    rw [eqv_pr, decide_eq_true_eq] at h
    rw [← h]
    exact hx
  · intro h
    refine ⟨e, h, ?_⟩
    show PyData.eqv (prD e) (prD e) = true
    rw [eqv_pr]
    exact decide_eq_true rfl
def rInP (K : PySem.W.Frag) (neg : Bool) : R2 := fun x y H Q => ∃ (b t : Addr) (e : Int × Int) (qs : List Addr) (es : List (Int × Int)), x = .ref b ∧ y = .ref t ∧ PrE K H b e ∧ (SqL K H t (qs.map V.ref) ∨ SqT K H t (qs.map V.ref)) ∧ Paired (PrE K H) qs es ∧
  Q (.bl (if neg = true then !decide (e ∈ es) else decide (e ∈ es))) H
theorem dep_pr (e : Int × Int) : (prD e).depth ≤ 1 := by simp [prD, PyData.depth, PyData.depthAll]
theorem op_inP {X : Cx} {K : PySem.W.Frag} (hK : X.K = K) (hu : X.A.units + 64 < cLine) : OpR X (compareOp .In) (rInP K false) := by
  subst hK
  intro pins s σ H x y v u Q I rx ry h
  obtain ⟨b, t, e, qs, es, rfl, rfl, hb, ht, hp, q⟩ := h
  have d1 : Dp X.K H (.ref b) (prD e) := .tup hb (.cons (.int _) (.cons (.int _) .nil))
  have dd := Dts.dp _ _ (dts_prs hp)
  obtain ⟨as, r1⟩ := Dp.reads I (prD e) _ v d1 rx
  have c1 : (prD e).canLay0 = true := by simp [prD, PyData.canLay0, PyData.canLayAll0]
  have room : X.A.units + 1 + min (PyData.depthAll (es.map prD)) (prD e).depth < cLine := by
    have := dep_pr e
    have := Nat.min_le_right (PyData.depthAll (es.map prD)) (prD e).depth
    omega
  rcases ht with ht | ht
  · obtain ⟨bs, r2⟩ := Dp.reads I (.list (es.map prD)) _ u (.lst ht dd) ry
    exact SeqAt.in_list_reads r2 r1 (canLay_prs es) c1 room (by rw [any_pr]; exact ⟨.bl _, H, I, rfl, q⟩)
  · obtain ⟨bs, r2⟩ := Dp.reads I (.tuple (es.map prD)) _ u (.tup ht dd) ry
    exact SeqAt.in_tuple_reads r2 r1 (canLay_prs es) c1 room (by rw [any_pr]; exact ⟨.bl _, H, I, rfl, q⟩)
theorem op_notInP {X : Cx} {K : PySem.W.Frag} (hK : X.K = K) (hu : X.A.units + 64 < cLine) : OpR X (compareOp .NotIn) (rInP K true) := by
  subst hK
  intro pins s σ H x y v u Q I rx ry h
  obtain ⟨b, t, e, qs, es, rfl, rfl, hb, ht, hp, q⟩ := h
  have d1 : Dp X.K H (.ref b) (prD e) := .tup hb (.cons (.int _) (.cons (.int _) .nil))
  have dd := Dts.dp _ _ (dts_prs hp)
  obtain ⟨as, r1⟩ := Dp.reads I (prD e) _ v d1 rx
  have c1 : (prD e).canLay0 = true := by simp [prD, PyData.canLay0, PyData.canLayAll0]
  have room : X.A.units + 1 + min (PyData.depthAll (es.map prD)) (prD e).depth < cLine := by
    have := dep_pr e
    have := Nat.min_le_right (PyData.depthAll (es.map prD)) (prD e).depth
    omega
  rcases ht with ht | ht
  · obtain ⟨bs, r2⟩ := Dp.reads I (.list (es.map prD)) _ u (.lst ht dd) ry
    exact SeqAt.notIn_list_reads r2 r1 (canLay_prs es) c1 room (by rw [any_pr]; exact ⟨.bl _, H, I, rfl, q⟩)
  · obtain ⟨bs, r2⟩ := Dp.reads I (.tuple (es.map prD)) _ u (.tup ht dd) ry
    exact SeqAt.notIn_tuple_reads r2 r1 (canLay_prs es) c1 room (by rw [any_pr]; exact ⟨.bl _, H, I, rfl, q⟩)
def spNamesOf (K : PySem.W.Frag) : Sp := fun vs H Q _ => ∃ (v : V) (W : Wd) (x : Int), vs = [v, .int x] ∧ IsWd K H v W ∧ WOk W ∧ ∀ (p : Addr) (H' : Hp), L2.Same H H' → H p = none → H' p = some (.lst ((nmO W x).map V.str)) → Q (.ref p) H'
theorem nmO_len {W : Wd} (ok : WOk W) (x : Int) : (nmO W x).length ≤ 50 := by
  unfold nmO
  rw [List.length_map]
  exact Nat.le_trans (List.length_filter_le _ _) ok.names.2.2
theorem nmO_isw {W : Wd} (ok : WOk W) {x : Int} {n : Str} (h : n ∈ nmO W x) : isW n = true := by
  unfold nmO at h
  obtain ⟨e, he, rfl⟩ := List.mem_map.mp h
  exact (ok.names.2.1 e (List.mem_filter.mp he).1).1
section
variable {P : Program} {w : World} {K : PySem.W.Frag} {mg : Str → Option Value} {base : Heap}
theorem cLawNamesOf (T : Txt K mg) : Cal P w K mg base 1 "_law_names_of" (spNamesOf K) [] := by
  refine cal_of T.lawNamesOf scLawNamesOf (fun _ _ _ _ _ _ us hl => match us, hl with | [_, _], _ => rfl) (fun vs H Q E h => ?_) (fun f cdv A outer s H vs Q E hr h => ?_)
  · obtain ⟨v, W, x, rfl, _⟩ := h
    rfl
  obtain ⟨v, W, x, rfl, hW, ok, q⟩ := h
  refine ⟨_, (pss_one (ps_ret (pe_lc (own := [("name", 2), ("things", 3)]) (by rfl) scLawNamesOf.nd (pi_tup (pe_ix ix_tup (pv 0) pe_int (fun _ _ => rfl))) (blkOk_by (own := [("name", 2), ("things", 3)]) (N := ["world", "x", "name", "things"]) (sc := defScope sLawNamesOf) (by decide +kernel)) (fun _ _ _ _ _ => (pg_tupK (K := K) (n := 2) rfl rfl (pgs_cons (pg_name (i := 2) scLawNamesOf.nd rfl (.inl rfl)) (pgs_cons (pg_name (i := 3) scLawNamesOf.nd rfl (.inl rfl)) pgs_nil)))) (fun _ _ _ _ _ => pts_one (pt_cmpR (op_inK (K := K) rfl) (pv 1) (pv 3) rfl)) (fun _ _ _ _ _ => (pv 2))))), ?_⟩
  obtain ⟨a, na, ra, rfl, ha, ⟨ps, hf, hp⟩, _⟩ := hW
  have sq := rd_of_frz (K := K) hf
  refine ⟨.ref a, rfl, a, _, 1, .ref na, rfl, rfl, ha, atI_nat (j := 1) rfl, na, rfl, ⟨_, sq⟩, fun S nS => ?_⟩
  refine lc_tup (K := K) (a := na) (xs := ps.map V.ref) (fun i X => L2.Same H X ∧ X S = some (.lst ((((W.names.take i).filter fun e => decide (x ∈ e.2)).map (·.1)).map V.str))) ⟨same_up nS, upd_same⟩ (fun i X _ z => (Tl.Same.stay z.1).tup sq) (fun i y X hy z => ?_) (fun X z => ?_)
  · obtain ⟨sX, gX⟩ := z
    obtain ⟨qa, hq, rfl⟩ : ∃ qa, ps[i]? = some qa ∧ V.ref qa = y := by
      rw [List.getElem?_map] at hy
      exact Option.map_eq_some_iff.mp hy
    obtain ⟨e, he, t, h1, h2⟩ := getP hp hq
    refine ⟨qa, _, rfl, (Tl.Same.stay sX).tup h1, rfl, .str e.1, _, rfl, .ref t, [], rfl, rfl, rfl, .int x, rfl, .ref t, rfl, t, _, rfl, .inr ((Tl.Same.stay sX).tup h2), rfl, flat_ints e.2, _, rfl, ?_⟩
    show (if inV (.int x) (e.2.map V.int) = true then _ else _)
    rw [inV_int, List.take_add_one, he]
    by_cases hx : x ∈ e.2
    · rw [decide_eq_true hx]
      refine iteT ⟨.str e.1, rfl, _, gX, ?_, same_mut sX nS, ?_⟩
      · rw [List.length_map, List.length_map]
        have := ok.names.2.2
        exact Nat.lt_of_le_of_lt (Nat.le_trans (List.length_filter_le _ _) (show (W.names.take i).length ≤ 50 by rw [List.length_take]; omega)) (by decide)
      · rw [upd_same]
        show _ = some (HO.lst ((((W.names.take i ++ [e]).filter fun e => decide (x ∈ e.2)).map (·.1)).map V.str))
        rw [List.filter_append, List.filter_cons_of_pos (by simpa using hx), List.map_append, List.map_append]
        rfl
    · rw [decide_eq_false hx]
      refine iteF ⟨sX, ?_⟩
      show _ = some (HO.lst ((((W.names.take i ++ [e]).filter fun e => decide (x ∈ e.2)).map (·.1)).map V.str))
      rw [List.filter_append, List.filter_cons_of_neg (by simpa using hx), List.filter_nil, List.append_nil]
      exact gX
  · obtain ⟨sX, gX⟩ := z
    rw [List.length_map, hp.length, List.take_length] at gX
    exact q S X sX nS gX
end
end K24
set_option Elab.async false
set_option linter.all false
set_option autoImplicit false
set_option maxRecDepth 100000
set_option maxHeartbeats 8000000
namespace K24
open PySem PySem.Spec PyProof.Rows L2 Tl
open C8 (Cal pe_c)
def PrL (K : PySem.W.Frag) (H : Hp) (l : Addr) (es : List (Int × Int)) : Prop := ∃ ks : List Addr, H l = some (.lst (ks.map V.ref)) ∧ Paired (PrE K H) ks es
theorem PrL.same {K : PySem.W.Frag} {H H' : Hp} {l : Addr} {es : List (Int × Int)} (h : PrL K H l es) (s : L2.Same H H') : PrL K H' l es := by
  obtain ⟨ks, h1, h2⟩ := h
  exact ⟨ks, s _ _ h1, Paired.mapP h2 fun _ _ z => pre_st (Tl.Same.stay s) z⟩
/-- one pair more, in a new tuple -/
theorem PrL.put {K : PySem.W.Frag} {H : Hp} {l q : Addr} {es : List (Int × Int)} {e : Int × Int} (h : PrL K H l es) (nq : H q = none) : ∃ ks : List Addr, upd H q (.tup [.int e.1, .int e.2]) l = some (.lst (ks.map V.ref)) ∧ ks.length = es.length ∧
    PrL K (upd (upd H q (.tup [.int e.1, .int e.2])) l (.lst (ks.map V.ref ++ [.ref q]))) l (es ++ [e]) := by
  obtain ⟨ks, h1, h2⟩ := h
  have lq : l ≠ q := ne_of_none h1 nq
  refine ⟨ks, (upd_ne lq).trans h1, Paired.length h2, ks ++ [q], ?_, ?_⟩
  · rw [upd_same, List.map_append]
    rfl
  · have st : Stay H (upd (upd H q (.tup [.int e.1, .int e.2])) l (.lst (ks.map V.ref ++ [.ref q]))) := (stay_new nq).trans (stay_mut (by rw [upd_ne lq, h1]; trivial))
    exact snoc (Paired.mapP h2 fun _ _ z => pre_st st z) (tupOf ((upd_ne lq.symm).trans upd_same))
def badL (W1 W2 : Wd) (S : Int → Int → Bool) (rs : List Str) (x y : Int) : List Int := rs.flatMap fun r => (tied W1 r x).filter fun far => !((tied W2 r y).any fun it => S far it)
theorem badL_good (W1 W2 : Wd) (S : Int → Int → Bool) (rs : List Str) (x y : Int) : (badL W1 W2 S rs x y).isEmpty = good W1 W2 rs S x y := by
  rw [Bool.eq_iff_iff, List.isEmpty_iff]
  unfold badL good
  rw [List.flatMap_eq_nil_iff]
  simp only [List.filter_eq_nil_iff, List.all_eq_true]
  constructor
  · intro h r hr far hf
    have := h r hr far hf
    simpa using this
  · intro h r hr far hf
    have := h r hr far hf
    simpa using this
theorem tied_len {W : Wd} (ok : WOk W) (r : Str) (x : Int) : (tied W r x).length ≤ 36 := by
  unfold tied
  rw [List.length_map]
  obtain ⟨h1, h2⟩ := lookR_good ok r
  exact Nat.le_trans (List.length_filter_le _ _) (lex_len (by have := ok.many; omega) ok.many.2 h1 h2)
theorem badL_len {W1 W2 : Wd} (ok1 : WOk W1) (S : Int → Int → Bool) (x y : Int) : ∀ rs : List Str, (badL W1 W2 S rs x y).length ≤ 36 * rs.length
  | [] => Nat.zero_le _
  | r :: rs => by
    have ih := badL_len (W2 := W2) ok1 S x y rs
    unfold badL at *
    rw [List.flatMap_cons, List.length_append, List.length_cons, Nat.mul_succ]
    have := Nat.le_trans (List.length_filter_le (fun far => !((tied W2 r y).any fun it => S far it)) (tied W1 r x)) (tied_len ok1 r x)
    omega
theorem eq_nil_ints (ns : List Int) : PyData.eqv (.list (ns.map PyData.int)) (.list []) = ns.isEmpty := by
  have := ne_nil ns
  have := congrArg not this
  rwa [Bool.not_not, Bool.not_not] at this
theorem eq_nil_strs (ns : List Str) : PyData.eqv (.list (ns.map PyData.str)) (.list []) = ns.isEmpty := by
  have := ne_nil_strs ns
  have := congrArg not this
  rwa [Bool.not_not, Bool.not_not] at this
theorem bad0_isw {W1 W2 : Wd} (ok1 : WOk W1) {ns : List Str} {x y : Int} : ∀ n ∈ bad0 W1 W2 ns x y, PyData.strOk n = true := fun n hn => by
  unfold bad0 at hn
  exact isw_ok (nmO_isw ok1 (List.mem_filter.mp hn).1)
def spPruned (K : PySem.W.Frag) : Sp := fun vs H Q _ => ∃ (v1 v2 v3 : V) (pl : Addr) (W1 W2 : Wd) (ns rs : List Str) (P : List (Int × Int)), vs = [v1, v2, v3, .ref pl] ∧ IsWd K H v1 W1 ∧ WOk W1 ∧ IsWd K H v2 W2 ∧ WOk W2 ∧ VocS K H v3 ns rs ∧ rs.length ≤ 10 ∧ PrL K H pl P ∧ P.length ≤ 36 ∧
  ∀ (p : Addr) (k : Nat) (H' : Hp), L2.Same H H' → H p = none → PrL K H' p (lawIt W1 W2 ns rs P k) → lawIt W1 W2 ns rs P (k + 1) = lawIt W1 W2 ns rs P k → Q (.ref p) H'
abbrev NP : List Str := ["world", "second", "vocabulary", "pairs", "names", "roles", "left", "is_new", "x", "y", "name", "kept", "bad", "role", "near", "far", "it"]
theorem lawIt_len (W1 W2 : Wd) (ns rs : List Str) (P : List (Int × Int)) : ∀ t, (lawIt W1 W2 ns rs P t).length ≤ P.length
  | 0 => List.length_filter_le _ _
  | t + 1 => Nat.le_trans (List.length_filter_le _ _) (lawIt_len W1 W2 ns rs P t)
section
variable {P : Program} {w : World} {K : PySem.W.Frag} {mg : Str → Option Value} {base : Heap}
theorem cLawPruned (T : Txt K mg) : Cal P w K mg base 2 "_law_pruned" (spPruned K) [] := by
  refine cal_of T.lawPruned scLawPruned (fun _ _ _ _ _ _ us hl => match us, hl with | [_, _, _, _], _ => rfl) (fun vs H Q E h => ?_) (fun f cdv A outer s H vs Q E hr h => ?_)
  · obtain ⟨v1, v2, v3, pl, W1, W2, ns, rs, P, rfl, _⟩ := h
    rfl
  obtain ⟨v1, v2, v3, pl, W1, W2, ns, rs, PP, rfl, hW1, ok1, hW2, ok2, hV, lrs, hP, h36, q⟩ := h
  have hu64 := hr.units
  refine ⟨_, (pss_cons (ps_asg (pv 2) (pg_tup rfl (pgs_cons (pg_name (i := 4) scLawPruned.nd rfl (.inr rfl)) (pgs_cons (pg_name (i := 5) scLawPruned.nd rfl (.inl rfl)) pgs_nil))))
 (pss_cons (ps_asg (pe_tup (pa_cons (pe_lst pa_nil) (pa_cons pe_bl pa_nil))) (pg_tup rfl (pgs_cons (pg_name (i := 6) scLawPruned.nd rfl (.inr rfl)) (pgs_cons (pg_name (i := 7) scLawPruned.nd rfl (.inl rfl)) pgs_nil))))
 (C8.pss_cut (ps_for PassesOwn.never rfl (pi_list (pv 3)) (pg_tup rfl (pgs_cons (pg_name (i := 8) scLawPruned.nd rfl (.inl rfl)) (pgs_cons (pg_name (i := 9) scLawPruned.nd rfl (.inr rfl)) pgs_nil)))
 (pss_one (ps_if (pt_cmpR (op_eqD hu64) (pe_lc (own := [("name", 10)]) (by rfl) scLawPruned.nd (pi_list (pe_c (cLawNamesOf T) hr (by decide) rfl (pa_cons (pv 0) (pa_cons (pv 8) pa_nil)))) (blkOk_by (own := [("name", 10)]) (N := NP) (sc := defScope sLawPruned) (by decide +kernel)) (fun _ _ _ _ _ => (pg_name (i := 10) scLawPruned.nd rfl (.inl rfl))) (fun _ _ _ _ _ => pts_one (PW.pt (pw_and (pt_cmpR (op_inK (K := K) rfl) (pv 10) (pv 4) rfl) (pw_and1 (pt_cmpR (op_notinK (K := K) rfl) (pv 10) (pe_c (cLawNamesOf T) hr (by decide) rfl (pa_cons (pv 1) (pa_cons (pv 9) pa_nil))) rfl))))) (fun _ _ _ _ _ => (pv 10))) (pe_lst pa_nil) (nomark _))
 (pss_one (ps_expr (pe_bm PySem.F.plainAttrs_list PySem.F.slot_list_append PySem.F.type_list_append mt_append (pv 6) (pa_cons (pe_tup (pa_cons (pv 8) (pa_cons (pv 9) pa_nil))) pa_nil))))
 pss_nil)))
 (pss_cons (ps_while PassesOwn.never (pt_truth (pv 7) (fun _ => rfl))
 (pss_cons (ps_set (i := 11) scLawPruned.nd rfl (.inl rfl) (pe_lst pa_nil))
 (C8.pss_cut (ps_for PassesOwn.never rfl (pi_list (pv 6)) (pg_tup rfl (pgs_cons (pg_name (i := 8) scLawPruned.nd rfl (.inl rfl)) (pgs_cons (pg_name (i := 9) scLawPruned.nd rfl (.inr rfl)) pgs_nil)))
 (pss_cons (ps_set (i := 12) scLawPruned.nd rfl (.inl rfl) (pe_lst pa_nil))
 (C8.pss_cut (ps_for PassesOwn.never rfl (pi_tup (pv 5)) (pg_name (i := 13) scLawPruned.nd rfl (.inl rfl))
 (pss_cons (ps_set (i := 14) scLawPruned.nd rfl (.inr rfl) (pe_c (cLawTied T) hr (by decide) rfl (pa_cons (pv 1) (pa_cons (pv 13) (pa_cons (pv 9) pa_nil)))))
 (pss_one (ps_expr (pe_bm PySem.F.plainAttrs_list PySem.F.slot_list_extend PySem.F.type_list_extend mt_extend (pv 12) (pa_cons (pe_lc (own := [("far", 15), ("it", 16)]) (by rfl) scLawPruned.nd (pi_list (pe_c (cLawTied T) hr (by decide) rfl (pa_cons (pv 0) (pa_cons (pv 13) (pa_cons (pv 8) pa_nil))))) (blkOk_by (own := [("far", 15), ("it", 16)]) (N := NP) (sc := defScope sLawPruned) (by decide +kernel)) (fun _ _ _ _ _ => (pg_name (i := 15) scLawPruned.nd rfl (.inr rfl))) (fun _ _ _ _ _ => pts_one (pt_cmpR (op_eqDK (K := K) rfl hu64) (pe_lc (own := [("it", 16)]) (by rfl) scLawPruned.nd (pi_listK (K := K) rfl (pv 14)) (by exact blkOk_by (own := [("it", 16)]) (N := NP) (by rfl)) (fun _ _ _ _ _ => (pg_name (i := 16) scLawPruned.nd rfl (.inl rfl))) (fun _ _ _ _ _ => pts_one (pt_cmpR (op_inP (K := K) rfl hu64) (pe_tup (pa_cons (pv 15) (pa_cons (pv 16) pa_nil))) (pv 6) rfl)) (fun _ _ _ _ _ => pe_int)) (pe_lst pa_nil) (nomark _))) (fun _ _ _ _ _ => (pv 15))) pa_nil))))))
 (pss_one (ps_if (pt_cmpR (op_eqD hu64) (pv 12) (pe_lst pa_nil) (nomark _))
 (pss_one (ps_expr (pe_bm PySem.F.plainAttrs_list PySem.F.slot_list_append PySem.F.type_list_append mt_append (pv 11) (pa_cons (pe_tup (pa_cons (pv 8) (pa_cons (pv 9) pa_nil))) pa_nil))))
 pss_nil)))))
 (pss_one (ps_asg (pe_tup (pa_cons (pv 11) (pa_cons (pe_cmpR op_lt (pe_callB call_len_seq (by rfl) T.len (by decide +kernel) (pa_cons (pv 11) pa_nil)) (pe_callB call_len_seq (by rfl) T.len (by decide +kernel) (pa_cons (pv 6) pa_nil)) (nomark _)) pa_nil))) (pg_tup rfl (pgs_cons (pg_name (i := 6) scLawPruned.nd rfl (.inr rfl)) (pgs_cons (pg_name (i := 7) scLawPruned.nd rfl (.inl rfl)) pgs_nil))))))))
 (pss_one (ps_ret (pv 6))))))), ?_⟩
  obtain ⟨av, an, ar, rfl, hv1, hvn, hvr⟩ := hV
  obtain ⟨ps, gpl, hps⟩ := id hP
  refine ⟨.ref av, rfl, av, _, rfl, hv1, rfl, .ref an, _, rfl, .ref ar, [], rfl, rfl, ?_⟩
  refine ⟨Nat.zero_le _, fun L nL => ⟨by show 2 ≤ sizeLine; decide, fun tt ntt => ⟨tt, _, rfl, tupOf upd_same, rfl, .ref L, [.bl true], rfl, .bl true, [], rfl, rfl, ?_⟩⟩⟩
  have s0 := same_add (same_up (o := .lst []) nL) (o := .tup [.ref L, .bl true]) ntt
  have g0 : upd (upd H L (.lst [])) tt (.tup [.ref L, .bl true]) L = some (.lst []) := (same_up ntt) _ _ upd_same
  generalize upd (upd H L (.lst [])) tt (.tup [.ref L, .bl true]) = H0 at s0 g0 ⊢
  clear ntt
  refine ⟨fun σ X => ∃ t8 t9 t10 t11 t12 t13 t14 t15 t16, σ = [some v1, some v2, some (.ref av), some (.ref pl), some (.ref an), some (.ref ar), some (.ref L), some (.bl true), t8, t9, t10, t11, t12, t13, t14, t15, t16] ∧ L2.Same H X ∧ PrL K X L (lawIt W1 W2 ns rs PP 0), ?_, ?_⟩
  · refine ⟨.ref pl, rfl, pl, rfl, ⟨_, lst_of (s0 _ _ gpl)⟩, ?_⟩
    refine for_list (K := K) (a := pl) (xs := ps.map V.ref) (fun i σ X => ∃ t8 t9 t10 t11 t12 t13 t14 t15 t16, σ = [some v1, some v2, some (.ref av), some (.ref pl), some (.ref an), some (.ref ar), some (.ref L), some (.bl true), t8, t9, t10, t11, t12, t13, t14, t15, t16] ∧ L2.Same H X ∧ PrL K X L ((PP.take i).filter fun p => (bad0 W1 W2 ns p.1 p.2).isEmpty))
      ⟨_, _, _, _, _, _, _, _, _, rfl, s0, [], g0, .nil⟩ (fun i σ X _ z => ?_) (fun i u σ X hu z => ?_) (fun σ X z => ?_)
    · obtain ⟨_, _, _, _, _, _, _, _, _, _, z, _⟩ := z
      exact lst_of (z _ _ gpl)
    · obtain ⟨t8, t9, t10, t11, t12, t13, t14, t15, t16, rfl, sX, hL⟩ := z
      obtain ⟨qa, hq, rfl⟩ : ∃ qa, ps[i]? = some qa ∧ V.ref qa = u := by
        rw [List.getElem?_map] at hu
        exact Option.map_eq_some_iff.mp hu
      obtain ⟨e, he, h1⟩ := getP hps hq
      have stX := Tl.Same.stay sX
      refine ⟨qa, _, rfl, pre_st stX h1, rfl, .int e.1, _, rfl, .int e.2, [], rfl, rfl, ?_⟩
      -- the names that are missed
      refine ⟨v1, rfl, .int e.1, rfl, v1, W1, e.1, rfl, iswd_st stX hW1, ok1, fun na X1 s1 n1 g1 => ⟨na, rfl, ⟨_, lst_of g1⟩, fun D nD => ?_⟩⟩
      have sX1 := sX.trans s1
      refine lc_list (K := K) (a := na) (xs := (nmO W1 e.1).map V.str) (fun j Y => L2.Same X1 Y ∧ Y D = some (.lst ((((nmO W1 e.1).take j).filter fun n => decide (n ∈ ns) && !decide (n ∈ nmO W2 e.2)).map V.str))) ⟨same_up nD, upd_same⟩ (fun j Y _ z => lst_of (z.1 _ _ g1)) (fun j y Y hy z => ?_) (fun Y z => ?_)
      · obtain ⟨sY, gY⟩ := z
        obtain ⟨n, hn, rfl⟩ : ∃ n, (nmO W1 e.1)[j]? = some n ∧ V.str n = y := by
          rw [List.getElem?_map] at hy
          exact Option.map_eq_some_iff.mp hy
        have stY := Tl.Same.stay (sX1.trans sY)
        refine ⟨rfl, .str n, rfl, .ref an, rfl, an, _, rfl, .inr (stY.tup hvn), rfl, flat_strs ns, _, rfl, ?_⟩
        show (if inV (.str n) (ns.map V.str) = true then _ else _)
        rw [inV_str, List.take_add_one, hn]
        show (if decide (n ∈ ns) = true then _ else _)
        have lnm := nmO_len ok1 e.1
        by_cases hin : n ∈ ns
        · rw [decide_eq_true hin]
          refine iteT ⟨.str n, rfl, v2, rfl, .int e.2, rfl, v2, W2, e.2, rfl, iswd_st stY hW2, ok2, fun nb Z s2 n2 g2 => ⟨nb, _, rfl, .inl (lst_of g2), rfl, flat_strs _, _, rfl, ?_⟩⟩
          show (if (!inV (.str n) ((nmO W2 e.2).map V.str)) = true then _ else _)
          rw [inV_str]
          by_cases h2 : n ∈ nmO W2 e.2
          · rw [decide_eq_true h2]
            refine iteF ⟨sY.trans s2, ?_⟩
            show _ = some (HO.lst ((((nmO W1 e.1).take j ++ [n]).filter fun n => decide (n ∈ ns) && !decide (n ∈ nmO W2 e.2)).map V.str))
            rw [List.filter_append, List.filter_cons_of_neg (by simp [h2]), List.filter_nil, List.append_nil]
            exact s2 _ _ gY
          · rw [decide_eq_false h2]
            refine iteT ⟨.str n, rfl, _, s2 _ _ gY, ?_, same_mut (sY.trans s2) nD, ?_⟩
            · rw [List.length_map]
              exact Nat.lt_of_le_of_lt (Nat.le_trans (List.length_filter_le _ _) (show ((nmO W1 e.1).take j).length ≤ 50 by rw [List.length_take]; omega)) (by decide)
            · rw [upd_same]
              show _ = some (HO.lst ((((nmO W1 e.1).take j ++ [n]).filter fun n => decide (n ∈ ns) && !decide (n ∈ nmO W2 e.2)).map V.str))
              rw [List.filter_append, List.filter_cons_of_pos (by simp [hin, h2]), List.map_append]
              rfl
        · rw [decide_eq_false hin]
          refine iteF (iteF ⟨sY, ?_⟩)
          show _ = some (HO.lst ((((nmO W1 e.1).take j ++ [n]).filter fun n => decide (n ∈ ns) && !decide (n ∈ nmO W2 e.2)).map V.str))
          rw [List.filter_append, List.filter_cons_of_neg (by simp [hin]), List.filter_nil, List.append_nil]
          exact gY
      · obtain ⟨sY, gY⟩ := z
        rw [List.length_map, List.take_length] at gY
        have gY : Y D = some (.lst ((bad0 W1 W2 ns e.1 e.2).map V.str)) := gY
        have sHY := sX1.trans sY
        refine ⟨Nat.zero_le _, fun v nv => ⟨.list ((bad0 W1 W2 ns e.1 e.2).map PyData.str), .list [], .lst (lst_of ((upd_ne (ne_of_none gY nv)).trans gY)) (dp_strs _), .lst (lst_of upd_same) .nil, shaped_strs _ (bad0_isw ok1), shaped_nil, _, rfl, ?_⟩⟩
        rw [eq_nil_strs, List.take_add_one, he]
        have sHV := same_add sHY (o := .lst []) nv
        have hL2 : PrL K (upd Y v (.lst [])) L ((PP.take i).filter fun p => (bad0 W1 W2 ns p.1 p.2).isEmpty) := hL.same ((s1.trans sY).trans (same_up nv))
        generalize upd Y v (.lst []) = Z at sHV hL2 ⊢
        by_cases hb : (bad0 W1 W2 ns e.1 e.2).isEmpty = true
        · rw [hb]
          obtain ⟨_, gL0, _⟩ := id hL2
          refine iteT ⟨.ref L, rfl, .inl ⟨rfl, _, lst_of gL0⟩, .int e.1, rfl, .int e.2, rfl, (by show 2 ≤ sizeLine; decide), fun q2 nq2 => ?_⟩
          obtain ⟨ks, gks, lks, pks⟩ := hL2.put (e := e) nq2
          refine ⟨L, _, _, rfl, rfl, gks, ?_, _, _, _, _, _, _, _, _, _, rfl, same_mut (same_add sHV nq2) nL, ?_⟩
          · rw [List.length_map, lks]
            exact Nat.lt_of_le_of_lt (Nat.le_trans (List.length_filter_le _ _) (show (PP.take i).length ≤ 36 by rw [List.length_take]; omega)) (by decide)
          · show PrL K _ L ((PP.take i ++ [e]).filter fun p => (bad0 W1 W2 ns p.1 p.2).isEmpty)
            rw [List.filter_append, List.filter_cons_of_pos (by exact hb)]
            exact pks
        · rw [Bool.not_eq_true] at hb
          rw [hb]
          refine iteF ⟨_, _, _, _, _, _, _, _, _, rfl, sHV, ?_⟩
          show PrL K _ L ((PP.take i ++ [e]).filter fun p => (bad0 W1 W2 ns p.1 p.2).isEmpty)
          rw [List.filter_append, List.filter_cons_of_neg (by rw [hb]; exact Bool.false_ne_true), List.filter_nil, List.append_nil]
          exact hL2
    · obtain ⟨t8, t9, t10, t11, t12, t13, t14, t15, t16, rfl, sX, hL⟩ := z
      rw [List.length_map, Paired.length hps, List.take_length] at hL
      exact ⟨_, _, _, _, _, _, _, _, _, rfl, sX, hL⟩
  rintro σ X ⟨t8, t9, t10, t11, t12, t13, t14, t15, t16, rfl, sX, hL⟩
  clear g0 s0
  -- while is_new
  refine ⟨fun m σ X => ∃ (t : Nat) (L : Addr) (b : Bool) (t8 t9 t10 t11 t12 t13 t14 t15 t16 : Option V), σ = [some v1, some v2, some (.ref av), some (.ref pl), some (.ref an), some (.ref ar), some (.ref L), some (.bl b), t8, t9, t10, t11, t12, t13, t14, t15, t16] ∧ L2.Same H X ∧ H L = none ∧ PrL K X L (lawIt W1 W2 ns rs PP t) ∧
      (b = false → ∃ s, lawIt W1 W2 ns rs PP (s + 1) = lawIt W1 W2 ns rs PP s ∧ lawIt W1 W2 ns rs PP t = lawIt W1 W2 ns rs PP s) ∧ m = if b = true then (lawIt W1 W2 ns rs PP t).length + 1 else 0,
    ⟨_, 0, L, true, _, _, _, _, _, _, _, _, _, rfl, sX, nL, hL, (fun z => by cases z), rfl⟩, ?_⟩
  clear hL sX nL L t8 t9 t10 t11 t12 t13 t14 t15 t16 X
  rintro m σ X ⟨t, L, b, t8, t9, t10, t11, t12, t13, t14, t15, t16, rfl, sX, nL, hL, fx, rfl⟩
  refine ⟨.bl b, rfl, b, rfl, ?_⟩
  cases b with
  | false =>
    obtain ⟨s, f1, f2⟩ := fx rfl
    rw [f2] at hL
    exact iteF ⟨_, rfl, q L s X sX nL hL f1⟩
  | true =>
    refine iteT ⟨fun σ' X' => ∃ m', m' < (lawIt W1 W2 ns rs PP t).length + 1 ∧ ∃ (t : Nat) (L : Addr) (b : Bool) (t8 t9 t10 t11 t12 t13 t14 t15 t16 : Option V), σ' = [some v1, some v2, some (.ref av), some (.ref pl), some (.ref an), some (.ref ar), some (.ref L), some (.bl b), t8, t9, t10, t11, t12, t13, t14, t15, t16] ∧ L2.Same H X' ∧ H L = none ∧ PrL K X' L (lawIt W1 W2 ns rs PP t) ∧
      (b = false → ∃ s, lawIt W1 W2 ns rs PP (s + 1) = lawIt W1 W2 ns rs PP s ∧ lawIt W1 W2 ns rs PP t = lawIt W1 W2 ns rs PP s) ∧ m' = if b = true then (lawIt W1 W2 ns rs PP t).length + 1 else 0, fun _ _ z => z, ?_⟩
    have lt36 : (lawIt W1 W2 ns rs PP t).length ≤ 36 := Nat.le_trans (lawIt_len W1 W2 ns rs PP t) h36
    refine ⟨Nat.zero_le _, fun M nM => ?_⟩
    have hML := hL.same (same_up (o := .lst []) nM)
    have sM := same_add sX (o := .lst []) nM
    have gM : upd X M (.lst []) M = some (.lst []) := upd_same
    have nMH : H M = none := sX.free nM
    generalize hX1 : upd X M (.lst []) = X1 at hML sM gM ⊢
    have sXX1 : L2.Same X X1 := by rw [← hX1]; exact same_up nM
    obtain ⟨ks, gLX, hks⟩ := id hL
    have gL : X1 L = some (.lst (ks.map V.ref)) := sXX1 _ _ gLX
    have lM : L ≠ M := fun z => by
      obtain ⟨_, g, _⟩ := hL
      rw [z, nM] at g
      cases g
    refine ⟨fun σ Y => ∃ t8 t9 t10 t12 t13 t14 t15 t16, σ = [some v1, some v2, some (.ref av), some (.ref pl), some (.ref an), some (.ref ar), some (.ref L), some (.bl true), t8, t9, t10, some (.ref M), t12, t13, t14, t15, t16] ∧ L2.Same X Y ∧ PrL K Y M (lawIt W1 W2 ns rs PP (t + 1)), ?_, ?_⟩
    · refine ⟨.ref L, rfl, L, rfl, ⟨_, lst_of gL⟩, ?_⟩
      refine for_list (K := K) (a := L) (xs := ks.map V.ref) (fun i σ Y => ∃ t8 t9 t10 t12 t13 t14 t15 t16, σ = [some v1, some v2, some (.ref av), some (.ref pl), some (.ref an), some (.ref ar), some (.ref L), some (.bl true), t8, t9, t10, some (.ref M), t12, t13, t14, t15, t16] ∧ L2.Same X Y ∧ PrL K Y M (((lawIt W1 W2 ns rs PP t).take i).filter fun p => good W1 W2 rs (fun a b => decide ((a, b) ∈ lawIt W1 W2 ns rs PP t)) p.1 p.2))
        ⟨_, _, _, _, _, _, _, _, rfl, sXX1, [], gM, .nil⟩ (fun i σ Y _ z => ?_) (fun i u σ Y hu z => ?_) (fun σ Y z => ?_)
      · obtain ⟨_, _, _, _, _, _, _, _, _, z, _⟩ := z
        exact lst_of (z _ _ gLX)
      · obtain ⟨t8, t9, t10, t12, t13, t14, t15, t16, rfl, sY, hM⟩ := z
        obtain ⟨qa, hq, rfl⟩ : ∃ qa, ks[i]? = some qa ∧ V.ref qa = u := by
          rw [List.getElem?_map] at hu
          exact Option.map_eq_some_iff.mp hu
        obtain ⟨e, he, h1⟩ := getP hks hq
        have stY := Tl.Same.stay (sX.trans sY)
        refine ⟨qa, _, rfl, pre_st (Tl.Same.stay sY) h1, rfl, .int e.1, _, rfl, .int e.2, [], rfl, rfl, ?_⟩
        refine ⟨Nat.zero_le _, fun Bd nB => ?_⟩
        have gB0 : upd Y Bd (.lst []) Bd = some (.lst []) := upd_same
        have sB0 := same_up (o := .lst []) nB
        generalize upd Y Bd (.lst []) = Y0 at gB0 sB0 ⊢
        refine ⟨fun σ Z => ∃ t10 t13 t14 t15 t16, σ = [some v1, some v2, some (.ref av), some (.ref pl), some (.ref an), some (.ref ar), some (.ref L), some (.bl true), some (.int e.1), some (.int e.2), t10, some (.ref M), some (.ref Bd), t13, t14, t15, t16] ∧ L2.Same Y Z ∧ Z Bd = some (.lst ((badL W1 W2 (fun a b => decide ((a, b) ∈ lawIt W1 W2 ns rs PP t)) rs e.1 e.2).map V.int)), ?_, ?_⟩
        · refine ⟨.ref ar, rfl, ar, rfl, ⟨_, (stY.trans (Tl.Same.stay sB0)).tup hvr⟩, ?_⟩
          refine for_tup (K := K) (a := ar) (xs := rs.map V.str) (fun j σ Z => ∃ t10 t13 t14 t15 t16, σ = [some v1, some v2, some (.ref av), some (.ref pl), some (.ref an), some (.ref ar), some (.ref L), some (.bl true), some (.int e.1), some (.int e.2), t10, some (.ref M), some (.ref Bd), t13, t14, t15, t16] ∧ L2.Same Y Z ∧ Z Bd = some (.lst ((badL W1 W2 (fun a b => decide ((a, b) ∈ lawIt W1 W2 ns rs PP t)) (rs.take j) e.1 e.2).map V.int)))
            ⟨_, _, _, _, _, rfl, sB0, gB0⟩ (fun j σ Z _ z => ?_) (fun j u σ Z hu z => ?_) (fun σ Z z => ?_)
          · obtain ⟨_, _, _, _, _, _, z, _⟩ := z
            exact (stY.trans (Tl.Same.stay z)).tup hvr
          · obtain ⟨t10, t13, t14, t15, t16, rfl, sZ, gB⟩ := z
            obtain ⟨r, hr2, rfl⟩ : ∃ r, rs[j]? = some r ∧ V.str r = u := by
              rw [List.getElem?_map] at hu
              exact Option.map_eq_some_iff.mp hu
            have stZ := stY.trans (Tl.Same.stay sZ)
            refine ⟨v2, rfl, .str r, rfl, .int e.2, rfl, v2, W2, r, e.2, rfl, iswd_st stZ hW2, ok2, fun nr Z1 s1 n1 g1 => ?_⟩
            have stZ1 := stZ.trans (Tl.Same.stay s1)
            refine ⟨.ref Bd, rfl, .inl ⟨rfl, _, lst_of (s1 _ _ gB)⟩, v1, rfl, .str r, rfl, .int e.1, rfl, v1, W1, r, e.1, rfl, iswd_st stZ1 hW1, ok1, fun fa Z2 s2 n2 g2 => ⟨fa, rfl, ⟨_, lst_of g2⟩, fun D nD => ?_⟩⟩
            have sYZ2 := (sZ.trans s1).trans s2
            have sXZ2 := sY.trans sYZ2
            refine lc_list (K := K) (a := fa) (xs := (tied W1 r e.1).map V.int) (fun a U => L2.Same Z2 U ∧ U D = some (.lst ((((tied W1 r e.1).take a).filter fun far => !((tied W2 r e.2).any fun it => decide ((far, it) ∈ lawIt W1 W2 ns rs PP t))).map V.int))) ⟨same_up nD, upd_same⟩ (fun a U _ z => lst_of (z.1 _ _ g2)) (fun a y U hy z => ?_) (fun U z => ?_)
            · obtain ⟨sU, gU⟩ := z
              obtain ⟨far, hfar, rfl⟩ : ∃ n, (tied W1 r e.1)[a]? = some n ∧ V.int n = y := by
                rw [List.getElem?_map] at hy
                exact Option.map_eq_some_iff.mp hy
              have sXU := sXZ2.trans sU
              refine ⟨rfl, .ref nr, rfl, nr, rfl, ⟨_, lst_of ((s2.trans sU) _ _ g1)⟩, fun D2 nD2 => ?_⟩
              refine lc_list (K := K) (a := nr) (xs := (tied W2 r e.2).map V.int) (fun c O => L2.Same U O ∧ O D2 = some (.lst (((((tied W2 r e.2).take c).filter fun it => decide ((far, it) ∈ lawIt W1 W2 ns rs PP t)).map fun _ => (1 : Int)).map V.int))) ⟨same_up nD2, upd_same⟩ (fun c O _ z => lst_of (z.1 _ _ ((s2.trans sU) _ _ g1))) (fun c y O hy z => ?_) (fun O z => ?_)
              · obtain ⟨sO, gO⟩ := z
                obtain ⟨it, hit, rfl⟩ : ∃ n, (tied W2 r e.2)[c]? = some n ∧ V.int n = y := by
                  rw [List.getElem?_map] at hy
                  exact Option.map_eq_some_iff.mp hy
                have ltd := tied_len ok2 r e.2
                refine ⟨rfl, .int far, rfl, .int it, rfl, (by show 2 ≤ sizeLine; decide), fun q2 nq2 => ⟨.ref L, rfl, q2, L, (far, it), ks, lawIt W1 W2 ns rs PP t, rfl, rfl, tupOf upd_same, .inl (lst_of (same_add (sXU.trans sO) nq2 _ _ gLX)), Paired.mapP hks fun _ _ z => pre_st (Tl.Same.stay (same_add (sXU.trans sO) nq2)) z, _, rfl, ?_⟩⟩
                show (if decide ((far, it) ∈ lawIt W1 W2 ns rs PP t) = true then _ else _)
                have gO2 := same_up (o := .tup [.int far, .int it]) nq2 _ _ gO
                have sO2 := same_add sO (o := .tup [.int far, .int it]) nq2
                generalize upd O q2 (.tup [.int far, .int it]) = O2 at gO2 sO2 ⊢
                rw [List.take_add_one, hit]
                by_cases hm : (far, it) ∈ lawIt W1 W2 ns rs PP t
                · rw [decide_eq_true hm]
                  refine iteT ⟨_, gO2, ?_, same_mut sO2 nD2, ?_⟩
                  · rw [List.length_map, List.length_map]
                    exact Nat.lt_of_le_of_lt (Nat.le_trans (List.length_filter_le _ _) (show ((tied W2 r e.2).take c).length ≤ 36 by rw [List.length_take]; omega)) (by decide)
                  · rw [upd_same]
                    show _ = some (HO.lst (((((tied W2 r e.2).take c ++ [it]).filter fun it => decide ((far, it) ∈ lawIt W1 W2 ns rs PP t)).map fun _ => (1 : Int)).map V.int))
                    rw [List.filter_append, List.filter_cons_of_pos (by simpa using hm), List.map_append, List.map_append]
                    rfl
                · rw [decide_eq_false hm]
                  refine iteF ⟨sO2, ?_⟩
                  show _ = some (HO.lst (((((tied W2 r e.2).take c ++ [it]).filter fun it => decide ((far, it) ∈ lawIt W1 W2 ns rs PP t)).map fun _ => (1 : Int)).map V.int))
                  rw [List.filter_append, List.filter_cons_of_neg (by simpa using hm), List.filter_nil, List.append_nil]
                  exact gO2
              · obtain ⟨sO, gO⟩ := z
                rw [List.length_map, List.take_length] at gO
                refine ⟨Nat.zero_le _, fun v nv => ⟨.list ((((tied W2 r e.2).filter fun it => decide ((far, it) ∈ lawIt W1 W2 ns rs PP t)).map fun _ => (1 : Int)).map PyData.int), .list [], .lst (lst_of ((upd_ne (ne_of_none gO nv)).trans gO)) (dp_ints _), .lst (lst_of upd_same) .nil, shaped_ints _, shaped_nil, _, rfl, ?_⟩⟩
                rw [eq_nil_ints]
                have eany : ((((tied W2 r e.2).filter fun it => decide ((far, it) ∈ lawIt W1 W2 ns rs PP t)).map fun _ => (1 : Int)).isEmpty) = !((tied W2 r e.2).any fun it => decide ((far, it) ∈ lawIt W1 W2 ns rs PP t)) := by
                  rw [List.isEmpty_map, ← filt_any, Bool.not_not]
                rw [eany, List.take_add_one, hfar]
                have sO2 := same_add (sU.trans sO) (o := .lst []) nv
                have gU2 := same_up (o := .lst []) nv _ _ (sO _ _ gU)
                generalize upd O v (.lst []) = O2 at sO2 gU2 ⊢
                have ltd := tied_len ok1 r e.1
                by_cases hc : (!((tied W2 r e.2).any fun it => decide ((far, it) ∈ lawIt W1 W2 ns rs PP t))) = true
                · rw [hc]
                  refine iteT ⟨.int far, rfl, _, gU2, ?_, same_mut sO2 nD, ?_⟩
                  · rw [List.length_map]
                    exact Nat.lt_of_le_of_lt (Nat.le_trans (List.length_filter_le _ _) (show ((tied W1 r e.1).take a).length ≤ 36 by rw [List.length_take]; omega)) (by decide)
                  · rw [upd_same]
                    show _ = some (HO.lst ((((tied W1 r e.1).take a ++ [far]).filter fun far => !((tied W2 r e.2).any fun it => decide ((far, it) ∈ lawIt W1 W2 ns rs PP t))).map V.int))
                    rw [List.filter_append, List.filter_cons_of_pos (by exact hc), List.map_append]
                    rfl
                · have hc0 := hc
                  rw [Bool.not_eq_true] at hc
                  rw [hc]
                  refine iteF ⟨sO2, ?_⟩
                  show _ = some (HO.lst ((((tied W1 r e.1).take a ++ [far]).filter fun far => !((tied W2 r e.2).any fun it => decide ((far, it) ∈ lawIt W1 W2 ns rs PP t))).map V.int))
                  rw [List.filter_append, List.filter_cons_of_neg (by exact hc0), List.filter_nil, List.append_nil]
                  exact gU2
            · obtain ⟨sU, gU⟩ := z
              rw [List.length_map, List.take_length] at gU
              have gBU := (s2.trans sU) _ _ (s1 _ _ gB)
              refine ⟨Bd, D, _, _, rfl, rfl, gBU, gU, ?_, _, _, _, _, _, rfl, same_mut (sYZ2.trans sU) nB, ?_⟩
              · rw [List.length_map, List.length_map]
                have h1 := badL_len (W2 := W2) ok1 (fun a b => decide ((a, b) ∈ lawIt W1 W2 ns rs PP t)) e.1 e.2 (rs.take j)
                have h2 := Nat.le_trans (List.length_filter_le (fun far => !((tied W2 r e.2).any fun it => decide ((far, it) ∈ lawIt W1 W2 ns rs PP t))) (tied W1 r e.1)) (tied_len ok1 r e.1)
                rw [List.length_take] at h1
                exact Nat.le_trans (show _ ≤ 400 by omega) (by decide)
              · rw [upd_same, List.take_add_one, hr2, ← List.map_append]
                unfold badL
                show _ = some (HO.lst (List.map V.int ((rs.take j ++ [r]).flatMap _)))
                rw [List.flatMap_append, List.flatMap_cons, List.flatMap_nil, List.append_nil]
          · obtain ⟨t10, t13, t14, t15, t16, rfl, sZ, gB⟩ := z
            rw [List.length_map, List.take_length] at gB
            exact ⟨_, _, _, _, _, rfl, sZ, gB⟩
        · rintro σ Z ⟨t10, t13, t14, t15, t16, rfl, sZ, gB⟩
          refine ⟨.ref Bd, rfl, Nat.zero_le _, fun v nv => ⟨.list ((badL W1 W2 (fun a b => decide ((a, b) ∈ lawIt W1 W2 ns rs PP t)) rs e.1 e.2).map PyData.int), .list [], .lst (lst_of ((upd_ne (ne_of_none gB nv)).trans gB)) (dp_ints _), .lst (lst_of upd_same) .nil, shaped_ints _, shaped_nil, _, rfl, ?_⟩⟩
          rw [eq_nil_ints, badL_good, List.take_add_one, he]
          have hM2 := hM.same (same_add sZ (o := .lst []) nv)
          have sXV := sY.trans (same_add sZ (o := .lst []) nv)
          generalize upd Z v (.lst []) = Z2 at hM2 sXV ⊢
          by_cases hg : good W1 W2 rs (fun a b => decide ((a, b) ∈ lawIt W1 W2 ns rs PP t)) e.1 e.2 = true
          · rw [hg]
            obtain ⟨_, gM0, _⟩ := id hM2
            refine iteT ⟨.ref M, rfl, .inl ⟨rfl, _, lst_of gM0⟩, .int e.1, rfl, .int e.2, rfl, (by show 2 ≤ sizeLine; decide), fun q2 nq2 => ?_⟩
            obtain ⟨ks2, gks, lks, pks⟩ := hM2.put (e := e) nq2
            refine ⟨M, _, _, rfl, rfl, gks, ?_, _, _, _, _, _, _, _, _, rfl, same_mut (same_add sXV nq2) nM, ?_⟩
            · rw [List.length_map, lks]
              exact Nat.lt_of_le_of_lt (Nat.le_trans (List.length_filter_le _ _) (show ((lawIt W1 W2 ns rs PP t).take i).length ≤ 36 by rw [List.length_take]; omega)) (by decide)
            · show PrL K _ M (((lawIt W1 W2 ns rs PP t).take i ++ [e]).filter fun p => good W1 W2 rs (fun a b => decide ((a, b) ∈ lawIt W1 W2 ns rs PP t)) p.1 p.2)
              rw [List.filter_append, List.filter_cons_of_pos (by exact hg)]
              exact pks
          · have hg0 := hg
            rw [Bool.not_eq_true] at hg
            rw [hg]
            refine iteF ⟨_, _, _, _, _, _, _, _, rfl, sXV, ?_⟩
            show PrL K _ M (((lawIt W1 W2 ns rs PP t).take i ++ [e]).filter fun p => good W1 W2 rs (fun a b => decide ((a, b) ∈ lawIt W1 W2 ns rs PP t)) p.1 p.2)
            rw [List.filter_append, List.filter_cons_of_neg (by exact hg0), List.filter_nil, List.append_nil]
            exact hM2
      · obtain ⟨t8, t9, t10, t12, t13, t14, t15, t16, rfl, sY, hM⟩ := z
        rw [List.length_map, Paired.length hks, List.take_length] at hM
        exact ⟨_, _, _, _, _, _, _, _, rfl, sY, hM⟩
    · rintro σ Y ⟨t8, t9, t10, t12, t13, t14, t15, t16, rfl, sY, hM⟩
      obtain ⟨ks2, gM2, hks2⟩ := id hM
      refine ⟨.ref M, rfl, .ref M, rfl, M, _, rfl, .inl (lst_of gM2), .ref L, rfl, L, _, rfl, .inl (lst_of (sY _ _ gLX)), _, _, rfl, rfl, (by show 2 ≤ sizeLine; decide), fun tt ntt => ⟨tt, _, rfl, tupOf upd_same, rfl, .ref M, _, rfl, .bl _, [], rfl, rfl, ?_⟩⟩
      have sEnd := same_add (sX.trans sY) (o := .tup [.ref M, .bl (decide (((ks2.map V.ref).length : Int) < ((ks.map V.ref).length : Int)))]) ntt
      have hMe := hM.same (same_up (o := .tup [.ref M, .bl (decide (((ks2.map V.ref).length : Int) < ((ks.map V.ref).length : Int)))]) ntt)
      have l1 : (ks2.map V.ref).length = (lawIt W1 W2 ns rs PP (t + 1)).length := by rw [List.length_map, Paired.length hks2]
      have l2 : (ks.map V.ref).length = (lawIt W1 W2 ns rs PP t).length := by rw [List.length_map, Paired.length hks]
      have le : (lawIt W1 W2 ns rs PP (t + 1)).length ≤ (lawIt W1 W2 ns rs PP t).length := List.length_filter_le _ _
      refine ⟨if decide (((ks2.map V.ref).length : Int) < ((ks.map V.ref).length : Int)) = true then (lawIt W1 W2 ns rs PP (t + 1)).length + 1 else 0, ?_, t + 1, M, decide (((ks2.map V.ref).length : Int) < ((ks.map V.ref).length : Int)), _, _, _, _, _, _, _, _, _, rfl, sEnd, nMH, hMe, fun hb => ⟨t, ?_, ?_⟩, rfl⟩
      · by_cases hd : ((ks2.map V.ref).length : Int) < ((ks.map V.ref).length : Int)
        · rw [decide_eq_true hd, if_pos rfl]
          omega
        · rw [decide_eq_false hd, if_neg Bool.false_ne_true]
          omega
      · have hb := of_decide_eq_false hb
        exact List.filter_sublist.eq_of_length (show (lawIt W1 W2 ns rs PP (t + 1)).length = _ by omega)
      · have hb := of_decide_eq_false hb
        exact List.filter_sublist.eq_of_length (show (lawIt W1 W2 ns rs PP (t + 1)).length = _ by omega)
end
end K24
set_option Elab.async false
set_option linter.all false
set_option autoImplicit false
set_option maxRecDepth 100000
set_option maxHeartbeats 8000000
namespace K24
open PySem PySem.Spec PyProof.Rows L2 Tl
open C8 (Cal pe_c)
theorem rgI_take {n : Int} {i : Nat} (h : i < n.toNat) : (rgI n).take (i + 1) = (rgI n).take i ++ [(i : Int)] := by
  rw [List.take_add_one, rgI_get h]
  rfl
theorem rgI_full (n : Int) : (rgI n).take n.toNat = rgI n := List.take_of_length_le (by rw [rgI_len]; exact Nat.le_refl _)
def spGreatL (K : PySem.W.Frag) : Sp := fun vs H Q _ => ∃ (v1 v2 v3 : V) (W1 W2 : Wd) (ns rs : List Str), vs = [v1, v2, v3] ∧ IsWd K H v1 W1 ∧ WOk W1 ∧ IsWd K H v2 W2 ∧ WOk W2 ∧ VocS K H v3 ns rs ∧ rs.length ≤ 10 ∧
  ∀ (t : Addr) (k : Nat) (H' : Hp), L2.Same H H' → Prs K H' t (lawIt W1 W2 ns rs (Pall W1 W2) k) → lawIt W1 W2 ns rs (Pall W1 W2) (k + 1) = lawIt W1 W2 ns rs (Pall W1 W2) k → Q (.ref t) H'
/-- the pairs of the first i rows -/
def Pfst (W1 W2 : Wd) (i : Nat) : List (Int × Int) := ((rgI W1.many).take i).flatMap fun x => (rgI W2.many).map fun y => (x, y)
theorem Pfst_len (W1 W2 : Wd) (i : Nat) : (Pfst W1 W2 i).length ≤ i * W2.many.toNat := by
  unfold Pfst
  have key : ∀ l : List Int, (l.flatMap fun x => (rgI W2.many).map fun y => (x, y)).length = l.length * W2.many.toNat := by
    intro l
    induction l with
    | nil => simp
    | cons x l ih => rw [List.flatMap_cons, List.length_append, ih, List.length_map, rgI_len, List.length_cons, Nat.succ_mul, Nat.add_comm]
  rw [key, List.length_take]
  exact Nat.mul_le_mul_right _ (Nat.min_le_left _ _)
section
variable {P : Program} {w : World} {K : PySem.W.Frag} {mg : Str → Option Value} {base : Heap}
theorem cLawGreatest (T : Txt K mg) : Cal P w K mg base 3 "_law_greatest" (spGreatL K) [] := by
  refine cal_of T.lawGreatest scLawGreatest (fun _ _ _ _ _ _ us hl => match us, hl with | [_, _, _], _ => rfl) (fun vs H Q E h => ?_) (fun f cdv A outer s H vs Q E hr h => ?_)
  · obtain ⟨v1, v2, v3, W1, W2, ns, rs, rfl, _⟩ := h
    rfl
  obtain ⟨v1, v2, v3, W1, W2, ns, rs, rfl, hW1, ok1, hW2, ok2, hV, lrs, q⟩ := h
  refine ⟨_, (pss_cons (ps_set (i := 3) scLawGreatest.nd rfl (.inl rfl) (pe_lst pa_nil))
 (pss_cons (ps_for PassesOwn.never rfl (pi_range1 rfl T.range (pa_cons (pe_ix ix_tup (pv 0) pe_int (fun _ _ => rfl)) pa_nil)) (pg_name (i := 4) scLawGreatest.nd rfl (.inr rfl))
 (pss_one (ps_expr (pe_bm PySem.F.plainAttrs_list PySem.F.slot_list_extend PySem.F.type_list_extend mt_extend (pv 3) (pa_cons (pe_lc (own := [("y", 5)]) (by rfl) scLawGreatest.nd (pi_range1 rfl T.range (pa_cons (pe_ix ix_tup (pv 1) pe_int (fun _ _ => rfl)) pa_nil)) (blkOk_by (own := [("y", 5)]) (N := ["world", "second", "vocabulary", "pairs", "x", "y"]) (sc := defScope sLawGreatest) (by decide +kernel)) (fun _ _ _ _ _ => (pg_name (i := 5) scLawGreatest.nd rfl (.inl rfl))) (fun _ _ _ _ _ => pts_nil) (fun _ _ _ _ _ => (pe_tup (pa_cons (pv 4) (pa_cons (pv 5) pa_nil))))) pa_nil)))))
 (pss_one (ps_ret (pe_callTy call_tuple_of (by rfl) T.tuple (by decide +kernel) (pa_cons (pe_c (cLawPruned T) hr (by decide) rfl (pa_cons (pv 0) (pa_cons (pv 1) (pa_cons (pv 2) (pa_cons (pv 3) pa_nil))))) pa_nil)))))), ?_⟩
  obtain ⟨a1, n1, r1, e1, ha1, hN1, hR1⟩ := id hW1
  obtain ⟨a2, n2, r2, e2, ha2, hN2, hR2⟩ := id hW2
  have n61 := ok1.many
  have n62 := ok2.many
  refine ⟨Nat.zero_le _, fun p np => ?_⟩
  have sP := same_up (o := .lst []) np
  rw [e1, e2]
  refine ⟨.ref a1, rfl, a1, _, 0, .int W1.many, rfl, rfl, (Tl.Same.stay sP).tup ha1, atI_nat (j := 0) rfl, W1.many, rfl, by omega, by omega, ?_⟩
  refine for_range (lo := 0) (n := W1.many.toNat) (fun i σ X => ∃ t4 t5, σ = [some (.ref a1), some (.ref a2), some v3, some (.ref p), t4, t5] ∧ L2.Same H X ∧ PrL K X p (Pfst W1 W2 i)) ⟨_, _, rfl, sP, [], upd_same, .nil⟩ (fun i σ X hi z => ?_) (fun σ X z => ?_)
  · obtain ⟨t4, t5, rfl, sX, hp⟩ := z
    rw [show (0 : Int) + (i : Int) = (i : Int) from Int.zero_add _]
    obtain ⟨ks, gp, hks⟩ := id hp
    have stX := Tl.Same.stay sX
    refine ⟨.ref p, rfl, .inl ⟨rfl, _, lst_of gp⟩, .ref a2, rfl, a2, _, 0, .int W2.many, rfl, rfl, stX.tup ha2, atI_nat (j := 0) rfl, W2.many, rfl, by omega, by omega, fun D nD => ?_⟩
    refine lc_range (lo := 0) (n := W2.many.toNat) (fun j Y => L2.Same X Y ∧ PrL K Y D (((rgI W2.many).take j).map fun y => ((i : Int), y))) ⟨same_up nD, [], upd_same, .nil⟩ (fun j Y hj z => ?_) (fun Y z => ?_)
    · obtain ⟨sY, hD⟩ := z
      rw [show (0 : Int) + (j : Int) = (j : Int) from Int.zero_add _]
      refine ⟨rfl, .int (i : Int), rfl, .int (j : Int), rfl, (by show 2 ≤ sizeLine; decide), fun q2 nq2 => ?_⟩
      obtain ⟨ks2, gks, lks, pks⟩ := hD.put (e := ((i : Int), (j : Int))) nq2
      refine ⟨_, gks, ?_, same_mut (same_add sY nq2) nD, ?_⟩
      · rw [List.length_map, lks, List.length_map, List.length_take]
        exact Nat.lt_of_le_of_lt (show min j _ ≤ 6 by omega) (by decide)
      · rw [rgI_take hj, List.map_append]
        exact pks
    · obtain ⟨sY, ks2, gD, hks2⟩ := z
      rw [rgI_full] at hks2
      refine ⟨p, D, _, _, rfl, rfl, sY _ _ gp, gD, ?_, some (.int (i : Int)), _, rfl, same_mut (sX.trans sY) np, ks ++ ks2, ?_, ?_⟩
      · rw [List.length_map, List.length_map, Paired.length hks, Paired.length hks2, List.length_map, rgI_len]
        have h1 := Pfst_len W1 W2 i
        have h2 : i * W2.many.toNat ≤ 6 * 6 := Nat.mul_le_mul (by omega) (by omega)
        exact Nat.le_trans (show _ ≤ 42 by omega) (by decide)
      · rw [upd_same, List.map_append]
      · have st2 : Stay Y (upd Y p (.lst (ks.map V.ref ++ ks2.map V.ref))) := stay_mut (by rw [sY _ _ gp]; trivial)
        have st1 := (Tl.Same.stay sY).trans st2
        have : Pfst W1 W2 (i + 1) = Pfst W1 W2 i ++ (rgI W2.many).map fun y => ((i : Int), y) := by
          unfold Pfst
          rw [rgI_take hi, List.flatMap_append, List.flatMap_cons, List.flatMap_nil, List.append_nil]
        rw [this]
        exact joinP (Paired.mapP hks fun _ _ z => pre_st st1 z) (Paired.mapP hks2 fun _ _ z => pre_st st2 z)
  · obtain ⟨t4, t5, rfl, sX, hp⟩ := z
    have eP : Pfst W1 W2 W1.many.toNat = Pall W1 W2 := by
      unfold Pfst Pall
      rw [rgI_full]
    rw [eP] at hp
    have stX := Tl.Same.stay sX
    have lP : (Pall W1 W2).length ≤ 36 := by
      rw [len_Pall]
      exact Nat.mul_le_mul (show W1.many.toNat ≤ 6 by omega) (show W2.many.toNat ≤ 6 by omega)
    rw [e1] at hW1
    rw [e2] at hW2
    refine ⟨.ref a1, rfl, .ref a2, rfl, v3, rfl, .ref p, rfl, .ref a1, .ref a2, v3, p, W1, W2, ns, rs, Pall W1 W2, rfl, iswd_st stX hW1, ok1, iswd_st stX hW2, ok2, hV.st stX, lrs, hp, lP, fun p2 k X2 s2 np2 hp2 fx => ?_⟩
    obtain ⟨ks, gp2, hks⟩ := id hp2
    exact ⟨p2, _, rfl, .inl ⟨lst_of gp2, fun t nt => q t k _ (same_add (sX.trans s2) nt) ⟨ks, tupOf upd_same, Paired.mapP hks fun _ _ z => pre_st (stay_new nt) z⟩ fx⟩⟩
end
end K24
set_option Elab.async false
set_option linter.all false
set_option autoImplicit false
set_option maxRecDepth 100000
set_option maxHeartbeats 2000000
namespace K24
open PySem PySem.Spec PyProof.Rows L2 Tl
/-! ### one after another, fewer words, fewer ties and more names -/
theorem bad0_iff {W1 W2 : Wd} {ns : List Str} {x y : Int} : (bad0 W1 W2 ns x y).isEmpty = true ↔ ∀ n ∈ nmO W1 x, n ∈ ns → n ∈ nmO W2 y := by
  rw [List.isEmpty_iff]
  unfold bad0
  rw [List.filter_eq_nil_iff]
  constructor
  · intro h n hn hs
    have := h n hn
    simpa [hs] using this
  · intro h n hn
    simp only [Bool.and_eq_true, decide_eq_true_eq, Bool.not_eq_true', decide_eq_false_iff_not, not_and, Classical.not_not]
    exact h n hn
theorem good_iff {W1 W2 : Wd} {rs : List Str} {S : Int → Int → Bool} {x y : Int} : good W1 W2 rs S x y = true ↔ ∀ r ∈ rs, ∀ far ∈ tied W1 r x, ∃ it ∈ tied W2 r y, S far it = true := by
  unfold good
  simp only [List.all_eq_true, List.any_eq_true]
section
variable {W1 W2 : Wd} {ns rs : List Str}
theorem fix_good (ok1 : WOk W1) (ok2 : WOk W2) {k : Nat} (F : FixAt W1 W2 ns rs k) {p : Int × Int} (hp : Inr W1 W2 p) (b : B W1 W2 ns rs k p.1 p.2 = true) :
    (bad0 W1 W2 ns p.1 p.2).isEmpty = true ∧ good W1 W2 rs (B W1 W2 ns rs k) p.1 p.2 = true := by
  have h0 := B_dec (ns := ns) (rs := rs) ok1 ok2 hp k 0 (by rw [Nat.zero_add]; exact b)
  rw [B_zero ok1 ok2 hp.1.1 hp.1.2 hp.2.1 hp.2.2] at h0
  have h1 := F p hp
  rw [B_succ ok1 ok2 k hp.1.1 hp.1.2 hp.2.1 hp.2.2, b, Bool.true_and] at h1
  exact ⟨h0, h1⟩
/-- what is left for more stays left for less -/
theorem less_in {V1 V2 : Wd} {ns' rs' : List Str} (ok1 : WOk W1) (ok2 : WOk W2) (kk1 : WOk V1) (kk2 : WOk V2) (m1 : V1.many = W1.many) (m2 : V2.many = W2.many)
    (hn : ∀ x n, n ∈ nmO V1 x → n ∈ ns' → n ∈ nmO W1 x ∧ n ∈ ns) (hn2 : ∀ y n, n ∈ nmO W2 y → n ∈ nmO V2 y)
    (ht : ∀ r ∈ rs', r ∈ rs ∧ ∀ x far, far ∈ tied V1 r x → far ∈ tied W1 r x) (ht2 : ∀ r y it, it ∈ tied W2 r y → it ∈ tied V2 r y)
    {k : Nat} (F : FixAt W1 W2 ns rs k) {p : Int × Int} (hp : Inr W1 W2 p) (b : B W1 W2 ns rs k p.1 p.2 = true) (t : Nat) : B V1 V2 ns' rs' t p.1 p.2 = true := by
  have inr : ∀ q, Inr W1 W2 q ↔ Inr V1 V2 q := fun q => by unfold Inr; rw [m1, m2]
  refine post_in (L := (Pall W1 W2).filter fun p => B W1 W2 ns rs k p.1 p.2) kk1 kk2 (fun q hq => ?_) t p (List.mem_filter.mpr ⟨mem_Pall.mpr hp, b⟩)
  rw [List.mem_filter, mem_Pall] at hq
  obtain ⟨g1, g2⟩ := fix_good ok1 ok2 F hq.1 hq.2
  refine ⟨(inr q).mp hq.1, bad0_iff.mpr fun n h1 h2 => ?_, good_iff.mpr fun r hr far hf => ?_⟩
  · obtain ⟨h3, h4⟩ := hn _ n h1 h2
    exact hn2 _ n (bad0_iff.mp g1 n h3 h4)
  · obtain ⟨h3, h4⟩ := ht r hr
    have hf1 := h4 _ far hf
    obtain ⟨it, h5, h6⟩ := good_iff.mp g2 r h3 far hf1
    refine ⟨it, ht2 r _ it h5, decide_eq_true (List.mem_filter.mpr ⟨mem_Pall.mpr ⟨tied_rg ok1 hf1, tied_rg ok2 h5⟩, h6⟩)⟩
end
/-- one after another -/
theorem comp_in {W1 W2 W3 : Wd} {ns rs : List Str} (ok1 : WOk W1) (ok2 : WOk W2) (ok3 : WOk W3) {k l : Nat} (F : FixAt W1 W2 ns rs k) (F' : FixAt W2 W3 ns rs l) {x y z : Int} (h1 : Inr W1 W2 (x, y)) (b1 : B W1 W2 ns rs k x y = true)
    (h2 : Inr W2 W3 (y, z)) (b2 : B W2 W3 ns rs l y z = true) (t : Nat) : B W1 W3 ns rs t x z = true := by
  have mem : ∀ {x y z : Int}, Inr W1 W2 (x, y) → B W1 W2 ns rs k x y = true → Inr W2 W3 (y, z) → B W2 W3 ns rs l y z = true → (x, z) ∈ (Pall W1 W3).filter (fun p => (rgI W2.many).any fun y => B W1 W2 ns rs k p.1 y && B W2 W3 ns rs l y p.2) := fun {x y z} a1 a2 a3 a4 =>
    List.mem_filter.mpr ⟨mem_Pall.mpr ⟨a1.1, a3.2⟩, List.any_eq_true.mpr ⟨y, mem_rgI.mpr a1.2, by rw [a2, a4]; rfl⟩⟩
  refine post_in (L := (Pall W1 W3).filter fun p => (rgI W2.many).any fun y => B W1 W2 ns rs k p.1 y && B W2 W3 ns rs l y p.2) ok1 ok3 (fun q hq => ?_) t (x, z) (mem h1 b1 h2 b2)
  obtain ⟨hq1, hq2⟩ := List.mem_filter.mp hq
  have hq1 := mem_Pall.mp hq1
  obtain ⟨y, hy, hb⟩ := List.any_eq_true.mp hq2
  rw [Bool.and_eq_true] at hb
  have hy := mem_rgI.mp hy
  obtain ⟨g1, g2⟩ := fix_good (p := (q.1, y)) ok1 ok2 F ⟨hq1.1, hy⟩ hb.1
  obtain ⟨e1, e2⟩ := fix_good (p := (y, q.2)) ok2 ok3 F' ⟨hy, hq1.2⟩ hb.2
  refine ⟨hq1, bad0_iff.mpr fun n a1 a2 => bad0_iff.mp e1 n (bad0_iff.mp g1 n a1 a2) a2, good_iff.mpr fun r hr far hf => ?_⟩
  obtain ⟨it, i1, i2⟩ := good_iff.mp g2 r hr far hf
  obtain ⟨it2, j1, j2⟩ := good_iff.mp e2 r hr it i1
  exact ⟨it2, j1, decide_eq_true (mem ⟨tied_rg ok1 hf, tied_rg ok2 i1⟩ i2 ⟨tied_rg ok2 i1, tied_rg ok3 j1⟩ j2)⟩
/-- without words all are left -/
theorem none_in {W1 W2 : Wd} (ok1 : WOk W1) (ok2 : WOk W2) {p : Int × Int} (hp : Inr W1 W2 p) (t : Nat) : B W1 W2 [] [] t p.1 p.2 = true :=
  post_in (ns := []) (rs := []) (L := Pall W1 W2) ok1 ok2 (fun q hq => ⟨mem_Pall.mp hq, bad0_iff.mpr fun n _ h => (List.not_mem_nil h).elim, good_iff.mpr fun r h => (List.not_mem_nil h).elim⟩) t p (mem_Pall.mpr hp)
end K24
set_option Elab.async false
set_option linter.all false
set_option autoImplicit false
set_option maxRecDepth 100000
set_option maxHeartbeats 4000000
namespace K24
open PySem PySem.Spec PyProof.Rows L2 Tl
open C8 (Cal pe_c)
structure Shows (d : PyData) : Prop where
  sh : d.showable = true
  nd : d.hasDict = false
  dp : d.depth ≤ 60
  len : d.shown.length ≤ sizeLine
theorem dis {α : Type} [DecidableEq α] (a : α) : (!decide (a = a)) = false := by simp
theorem pr_tab : ((List.range 6).all fun a => (List.range 6).all fun b => (prD ((a : Int), (b : Int))).showable && ((prD ((a : Int), (b : Int))).leavesShort 8 && (!(prD ((a : Int), (b : Int))).hasDict && decide ((prD ((a : Int), (b : Int))).bulk ≤ 20)))) = true := by decide +kernel
theorem pr_ok {e : Int × Int} (h : (0 ≤ e.1 ∧ e.1 < 6) ∧ 0 ≤ e.2 ∧ e.2 < 6) : (prD e).showable = true ∧ (prD e).leavesShort 8 = true ∧ (prD e).hasDict = false ∧ (prD e).bulk ≤ 20 := by
  have := List.all_eq_true.mp (List.all_eq_true.mp pr_tab e.1.toNat (List.mem_range.mpr (by omega))) e.2.toNat (List.mem_range.mpr (by omega))
  rw [Int.toNat_of_nonneg h.1.1, Int.toNat_of_nonneg h.2.1] at this
  simp only [Bool.and_eq_true, Bool.not_eq_true', decide_eq_true_eq] at this
  exact this
theorem prs_ok : ∀ es : List (Int × Int), (∀ e ∈ es, (0 ≤ e.1 ∧ e.1 < 6) ∧ 0 ≤ e.2 ∧ e.2 < 6) → PyData.showableAll (es.map prD) = true ∧ PyData.leavesShortAll 8 (es.map prD) = true ∧ PyData.hasDictAll (es.map prD) = false ∧ PyData.bulkAll (es.map prD) ≤ 30 * es.length
  | [], _ => ⟨by simp [PyData.showableAll], by simp [PyData.leavesShortAll], by simp [PyData.hasDictAll], by simp [PyData.bulkAll]⟩
  | e :: es, h => by
    obtain ⟨a1, a2, a3, a4⟩ := prs_ok es fun x hx => h x (List.mem_cons_of_mem _ hx)
    obtain ⟨b1, b2, b3, b4⟩ := pr_ok (h e List.mem_cons_self)
    refine ⟨?_, ?_, ?_, ?_⟩
    · rw [List.map_cons, PyData.showableAll, b1, a1]; rfl
    · rw [List.map_cons, PyData.leavesShortAll, b2, a2]; rfl
    · rw [List.map_cons, PyData.hasDictAll, a3, b3]; rfl
    · rw [List.map_cons, PyData.bulkAll, List.length_cons]
      omega
theorem shows_prs {es : List (Int × Int)} (h : ∀ e ∈ es, (0 ≤ e.1 ∧ e.1 < 6) ∧ 0 ≤ e.2 ∧ e.2 < 6) (len : es.length ≤ 36) : Shows (.tuple (es.map prD)) := by
  obtain ⟨a1, a2, a3, a4⟩ := prs_ok es h
  have hd := depth_prs es
  refine ⟨?_, ?_, ?_, ?_⟩
  · rw [PyData.showable]; exact a1
  · simp [PyData.hasDict, a3]
  · simp only [PyData.depth]
    omega
  · have := PyData.shown_le_bulk 8 (Nat.le_refl 8) (.tuple (es.map prD)) (by simp [PyData.leavesShort, a2])
    simp only [PyData.bulk] at this
    rw [sizeLine_eq]
    omega
section
variable {P : Program} {w : World} {K : PySem.W.Frag} {mg : Str → Option Value} {base : Heap}
theorem cGreatest (T : Txt K mg) : Cal P w K mg base 8 "greatest" (spGreat K) [] := (fGreatest T).cal fun _ _ _ _ _ _ us hl => match us, hl with | [_, _, _], _ => rfl
end
theorem voc_S {K : PySem.W.Frag} {H : Hp} {d l : Addr} {v : V} {ns rs : List Str} (h : Voc K H d l v ns rs) : VocS K H v ns rs ∧ VocG ns rs := by
  obtain ⟨o1, o2, a, n, r, rfl, h2, h3, h4⟩ := h
  exact ⟨⟨a, n, r, rfl, h2, h3.1, h4.1⟩, ⟨h3.2.2.2.1, h3.2.2.2.2, sorted_sl o1.1 o1.2⟩, ⟨h4.2.2.2.1, h4.2.2.2.2, sorted_sl o2.1 o2.2⟩⟩
end K24
set_option Elab.async false
set_option linter.all false
set_option autoImplicit false
set_option maxRecDepth 100000
set_option maxHeartbeats 4000000
namespace K24
open PySem PySem.Spec PyProof.Rows L2 Tl
open C8 (Cal pe_c Met Mak pe_mt pe_mt0 pe_mk)
/-- only where the pair is left in all rounds -/
def spJudge (K : PySem.W.Frag) : Sp := fun vs H Q _ => ∃ (v1 v2 v3 : V) (x y : Int) (W1 W2 : Wd) (ns rs : List Str), vs = [v1, .int x, v2, .int y, v3] ∧ IsWd K H v1 W1 ∧ WOk W1 ∧ IsWd K H v2 W2 ∧ WOk W2 ∧ VocS K H v3 ns rs ∧ VocG ns rs ∧ (0 ≤ x ∧ x < W1.many) ∧ (0 ≤ y ∧ y < W2.many) ∧
  (∀ t, bt (its W2 (ties0 W1 rs) (fit0 W1 W2 ns)) x y t = true) ∧
  ∀ p t H', L2.Same H H' → H' p = some (.tup [.str "simulated", .ref t]) → Q (.ref p) H'
theorem rv_none {g : Nat → List Nat} {k : Nat} {x y : Int} (h : ∀ t, bt g x y t = true) : rv g k x y = .non := by
  unfold rv
  rw [List.find?_eq_none.mpr fun t _ => by rw [h t]; decide]
section
variable {P : Program} {w : World} {K : PySem.W.Frag} {mg : Str → Option Value} {base : Heap}
theorem cJudge (T : Txt K mg) : Cal P w K mg base 9 "judge_simulated" (spJudge K) [] := by
  obtain ⟨cT, cM, cL, D⟩ := T.cls
  refine cal_of T.judgeSimulated scJudgeSimulated (fun _ _ _ _ _ _ us hl => match us, hl with | [_, _, _, _, _], _ => rfl) (fun vs H Q E h => ?_) (fun f cdv A outer s H vs Q E hr h => ?_)
  · obtain ⟨v1, v2, v3, x, y, W1, W2, ns, rs, rfl, _⟩ := h
    rfl
  obtain ⟨v1, v2, v3, x, y, W1, W2, ns, rs, rfl, hW1, ok1, hW2, ok2, hV, hG, hx, hy, hb, q⟩ := h
  refine ⟨_, (pss_cons (ps_expr (pe_c (cCheck T) hr (by decide) rfl (pa_cons (pv 0) (pa_cons (pv 1) (pa_cons (pv 2) (pa_cons (pv 3) (pa_cons (pv 4) pa_nil)))))))
 (pss_cons (ps_asg (pe_mk (kLook T D) hr (by decide) rfl (pa_cons (pv 0) (pa_cons (pv 2) (pa_cons (pv 4) pa_nil)))) (pg_name (i := 5) scJudgeSimulated.nd rfl (.inl rfl)))
 (pss_cons (ps_asg (pe_mt (mRnd T D) hr (by decide) (pv 5) (pa_cons (pv 1) (pa_cons (pv 3) pa_nil))) (pg_name (i := 6) scJudgeSimulated.nd rfl (.inl rfl)))
 (pss_cons (ps_if (pt_cmpR op_isN (pv 6) pe_non (nomark _))
 (pss_one (ps_ret (pe_tup (pa_cons pe_str (pa_cons (pe_mt0 (mPairs T D) hr (by decide) (pv 5)) pa_nil)))))
 pss_nil)
 (pss_cons ps_never
 (pss_one ps_never)))))), ?_⟩
  refine ⟨v1, rfl, .int x, rfl, v2, rfl, .int y, rfl, v3, rfl, v1, v2, v3, x, y, W1, W2, ns, rs, rfl, hW1, ok1, hW2, ok2, hV, hG, hx, hy, fun X3 s13 => ?_⟩
  refine ⟨v1, rfl, v2, rfl, v3, rfl, fun z dx nx ndx dne => ?_⟩
  have sN : Stay X3 (upd (upd X3 dx (.own z)) z (.ins cL dx [])) := (stay_new ndx).trans (stay_new ((upd_ne dne.symm).trans nx))
  have st := (Tl.Same.stay s13).trans sN
  refine ⟨z, dx, v1, v2, v3, W1, W2, ns, rs, rfl, upd_same, iswd_st st hW1, ok1, iswd_st st hW2, ok2, hV.st st, fun X4 fs l k o4 g4 hl hpp hp hR fx _ _ => ⟨rfl, ?_⟩⟩
  have s34 : L2.Same X3 X4 := fun a o ha => o4 a o (ne_of_none ha nx) (by rw [upd_ne (ne_of_none ha nx), upd_ne (ne_of_none ha ndx)]; exact ha)
  have fo := its_ok (W := W2) (fit0_ok ok1 ok2 ns rs) k
  refine ⟨.ref z, rfl, z, dx, fs, rfl, g4, hp, .int x, rfl, .int y, rfl, z, dx, l, fs, _, k, x, y, rfl, g4, hl, hR, hx.1, fun t _ => ?_, hy.1, fun H' s5 => ?_⟩
  · rw [its_len]
    unfold fit0
    rw [List.length_map, List.length_range]
    omega
  rw [rv_none hb]
  refine ⟨.non, rfl, rfl, _, rfl, iteT ?_⟩
  refine ⟨.ref z, rfl, z, dx, fs, rfl, s5 _ _ g4, hpp, z, dx, l, fs, _, k, rfl, s5 _ _ g4, hl, hR.same s5, fo.lt, fo.six, fun t H2 s6 hP => ?_⟩
  refine ⟨by show 2 ≤ sizeLine; decide, fun p np => q p t _ ?_ upd_same⟩
  exact ((((s13.trans s34).trans s5).trans s6).trans (same_up np))
end
end K24
set_option Elab.async false
set_option linter.all false
set_option autoImplicit false
set_option maxRecDepth 100000
set_option maxHeartbeats 4000000
namespace K24
open PySem PySem.Spec PyProof.Rows L2 Tl
open C8 (Cal pe_c Met Mak pe_mt pe_mt0 pe_mk)
section
variable {P : Program} {w : World} {K : PySem.W.Frag} {mg : Str → Option Value} {base : Heap}
def spArePairs (K : PySem.W.Frag) : Sp := fun vs H Q _ => ∃ (t : Addr) (m n : Int) (es : List (Int × Int)), vs = [.ref t, .int m, .int n] ∧ Prs K H t es ∧ es.Pairwise Lex ∧ es.length ≤ 100 ∧
  (∀ e ∈ es, (0 ≤ e.1 ∧ e.1 < m) ∧ 0 ≤ e.2 ∧ e.2 < n) ∧ ∀ H', L2.Same H H' → Q (.bl true) H'
theorem cArePairs (T : Txt K mg) : Cal P w K mg base 5 "_are_pairs" (spArePairs K) [] := by
  refine cal_of T.arePairs scArePairs (fun _ _ _ _ _ _ us hl => match us, hl with | [_, _, _], _ => rfl) (fun vs H Q E h => ?_) (fun f cdv A outer s H vs Q E hr h => ?_)
  · obtain ⟨t, m, n, es, rfl, _⟩ := h
    rfl
  obtain ⟨a, m, n, es, rfl, hP, asc, len, rg, q⟩ := h
  refine ⟨_, (pss_cons (ps_if (pt_not (pt_val (pe_callB call_isi (by rfl) T.isinstance (by decide +kernel) (pa_cons (pv 0) (pa_cons (pe_bltn (v := V.ty "tuple") (u := Value.type "tuple") (by rfl) T.tuple (by decide +kernel) rfl) pa_nil)))))
 (pss_one (ps_ret pe_bl))
 pss_nil)
 (pss_cons (ps_for PassesOwn.never rfl (pi_tup (pv 0)) (pg_name (i := 3) scArePairs.nd rfl (.inl rfl))
 (pss_one (ps_if (PW.pt (pw_or (pt_not (pt_val (pe_c (cIsPair T) hr (by decide) rfl (pa_cons (pv 3) pa_nil)))) (pw_or (pt_not (pt_val (pe_c (cIsBelow T) hr (by decide) rfl (pa_cons (pe_ix ix_tup (pv 3) pe_int (fun _ _ => rfl)) (pa_cons (pv 1) pa_nil))))) (pw_or1 (pt_not (pt_val (pe_c (cIsBelow T) hr (by decide) rfl (pa_cons (pe_ix ix_tup (pv 3) pe_int (fun _ _ => rfl)) (pa_cons (pv 2) pa_nil)))))))))
 (pss_one (ps_ret pe_bl))
 pss_nil)))
 (pss_one (ps_ret (pe_c (cIsAscending T) hr (by decide) rfl (pa_cons (pv 0) pa_nil)))))), ?_⟩
  obtain ⟨qs, ha, hp⟩ := hP
  refine ⟨.ref a, rfl, .ref a, .ty "tuple", .type "tuple", .type "tuple", true, rfl, .ty _, ty_tup ha, kit_ty (by decide +kernel), true, rfl, iteF ?_⟩
  refine ⟨.ref a, rfl, a, rfl, ⟨_, ha⟩, ?_⟩
  refine for_tup (K := K) (a := a) (xs := qs.map V.ref) (fun i σ X => ∃ t, σ = [some (.ref a), some (.int m), some (.int n), t] ∧ L2.Same H X) ⟨_, rfl, L2.Same.refl H⟩ (fun i σ X _ z => ?_) (fun i x σ X hx z => ?_) (fun σ X z => ?_)
  · obtain ⟨t, rfl, sX⟩ := z
    exact (Tl.Same.stay sX).tup ha
  · obtain ⟨t, rfl, sX⟩ := z
    obtain ⟨p, hq, rfl⟩ := List.mem_map.mp (List.mem_of_getElem? hx)
    obtain ⟨e, he, hpe⟩ := memP hp hq
    have h1 := pre_st (Tl.Same.stay sX) hpe
    obtain ⟨r1, r2⟩ := rg e he
    refine ⟨.ref p, rfl, p, _, _, rfl, h1, true, rfl, iteF ?_⟩
    refine ⟨.ref p, rfl, p, _, 0, _, rfl, rfl, h1, atI_nat (j := 0) rfl, .int m, rfl, e.1, m, rfl, r1.1, r1.2, true, rfl, iteF ?_⟩
    refine ⟨.ref p, rfl, p, _, 1, _, rfl, rfl, h1, atI_nat (j := 1) rfl, .int n, rfl, e.2, n, rfl, r2.1, r2.2, true, rfl, iteF ?_⟩
    exact ⟨_, rfl, sX⟩
  · obtain ⟨t, rfl, sX⟩ := z
    have hp' := mapL (G := fun (v : V) (b : Int × Int) => ∃ q, v = V.ref q ∧ PrE K X q b) (g := V.ref) (fun q b z => ⟨q, rfl, pre_st (Tl.Same.stay sX) z⟩) hp
    refine ⟨.ref a, rfl, a, _, rfl, .inr ((Tl.Same.stay sX).tup ha), by rw [List.length_map, hp.length]; omega, consec hp' asc fun x y e f h1 h2 h => ?_, fun H' e => q H' (sX.trans e)⟩
    obtain ⟨q1, rfl, z1⟩ := h1
    obtain ⟨q2, rfl, z2⟩ := h2
    exact .prs z1 z2 h
end
end K24
set_option Elab.async false
set_option linter.all false
set_option autoImplicit false
set_option maxRecDepth 100000
set_option maxHeartbeats 4000000
namespace K24
open PySem PySem.Spec PyProof.Rows L2 Tl
open C8 (Cal pe_c Met Mak pe_mt pe_mt0 pe_mk)
section
variable {P : Program} {w : World} {K : PySem.W.Frag} {mg : Str → Option Value} {base : Heap}
theorem cIsWithin (T : Txt K mg) : Cal P w K mg base 1 "is_within" (fun vs H Q _ => ∃ a b : Nat, vs = [.int (a : Int), .int (b : Int)] ∧ a < 64 ∧ b < 64 ∧ Q (.bl (decide (a &&& b = a))) H) [] := by
  refine cal_of T.isWithin scIsWithin (fun _ _ _ _ _ _ us hl => match us, hl with | [_, _], _ => rfl) (fun vs H Q E h => ?_) (fun f cdv A outer s H vs Q E hr h => ?_)
  · obtain ⟨a, b, rfl, _⟩ := h
    rfl
  obtain ⟨a, b, rfl, ha, hb, q⟩ := h
  have hu64 := hr.units
  refine ⟨_, (pss_one (ps_ret (pe_cmpR (op_eqD hu64) (pe_op op_and (pv 0) (pv 1)) (pv 0) (nomark _)))), ?_⟩
  have hd : PyData.eqv (.int ((a &&& b : Nat) : Int)) (.int (a : Int)) = decide (a &&& b = a) := by
    simp only [PyData.eqv]
    rw [Bool.eq_iff_iff]
    simp
    try omega
  refine ⟨.int a, rfl, .int b, rfl, a, b, rfl, rfl, .int a, rfl, ?_⟩
  simp only []
  rw [band ha hb]
  refine ⟨_, _, .int _, .int _, ?_⟩
  rw [hd]
  exact ⟨rfl, rfl, q⟩
end
end K24
set_option Elab.async false
set_option linter.all false
set_option autoImplicit false
set_option maxRecDepth 100000
set_option maxHeartbeats 4000000
namespace K24
open PySem PySem.Spec PyProof.Rows L2 Tl
/-- what is left when all rows ask is left when they ask less -/
theorem mat_less {W : Wd} {ts ts' : List (List (Str × Int))} {F : List Nat} (h : mat W ts F = F) (sub : ∀ x, x < F.length → ∀ e ∈ ts'.getD x [], e ∈ ts.getD x []) : mat W ts' F = F := by
  refine List.ext_getElem? fun x => ?_
  by_cases hx : x < F.length
  · have h1 := mat_get (W := W) (ts := ts) hx
    rw [h] at h1
    rw [mat_get hx, h1]
    congr 1
    refine Nat.eq_of_testBit_eq fun y => ?_
    have h2 : F.getD x 0 = rowM W F (F.getD x 0) (ts.getD x []) := getD_of h1
    rw [rowM_bit, rowM_bit]
    cases hb : (F.getD x 0).testBit y with
    | false => rfl
    | true =>
      have h3 : (rowM W F (F.getD x 0) (ts.getD x [])).testBit y = true := by rw [← h2]; exact hb
      rw [rowM_bit, hb, Bool.true_and] at h3
      rw [Bool.true_and, Bool.true_and, h3]
      exact List.all_eq_true.mpr fun e he => List.all_eq_true.mp h3 e (sub x hx e he)
  · rw [List.getElem?_eq_none (by rw [mat_len]; omega), List.getElem?_eq_none (by omega)]
theorem ties_less {W : Wd} {rs rs' : List Str} (h : ∀ r ∈ rs', r ∈ rs) (x : Nat) : ∀ e ∈ (ties0 W rs').getD x [], e ∈ (ties0 W rs).getD x [] := by
  intro e he
  unfold ties0 at he ⊢
  by_cases hx : x < W.many.toNat
  · have g : ∀ rs : List Str, ((List.range W.many.toNat).map fun x => trC rs W.roles x).getD x [] = trC rs W.roles x := fun rs => getD_of (by rw [List.getElem?_map, List.getElem?_range hx]; rfl)
    rw [g] at he ⊢
    unfold trC at he ⊢
    obtain ⟨en, h1, h2⟩ := List.mem_flatMap.mp he
    by_cases z : en.1 ∈ rs'
    · rw [if_pos z] at h2
      exact List.mem_flatMap.mpr ⟨en, h1, by rw [if_pos (h _ z)]; exact h2⟩
    · rw [if_neg z] at h2
      cases h2
  · rw [List.getD_eq_getElem?_getD, List.getElem?_eq_none (by rw [List.length_map, List.length_range]; omega)] at he
    cases he
end K24
set_option Elab.async false
set_option linter.all false
set_option autoImplicit false
set_option maxRecDepth 100000
set_option maxHeartbeats 4000000
namespace K24
open PySem PySem.Spec PyProof.Rows L2 Tl
theorem wn_tb {W : Wd} (y : Nat) : ∀ (l : List Str) (N : Nat), (l.foldl (fun N x => N &&& hv (lookN W x)) N).testBit y = (N.testBit y && l.all fun nm => (hv (lookN W nm)).testBit y)
  | [], N => by simp
  | n :: l, N => by
    rw [List.foldl_cons, wn_tb y l, Nat.testBit_and, List.all_cons, Bool.and_assoc]
/-- fewer names ask less -/
theorem wn_less {W : Wd} {l l' : List Str} (h : ∀ n ∈ l', n ∈ l) (y : Nat) (b : (wn W l).testBit y = true) : (wn W l').testBit y = true := by
  unfold wn at b ⊢
  rw [wn_tb, Bool.and_eq_true] at b ⊢
  exact ⟨b.1, List.all_eq_true.mpr fun n hn => List.all_eq_true.mp b.2 n (h n hn)⟩
theorem nmC_less {ns ns' : List Str} (h : ∀ n ∈ ns', n ∈ ns) (es : List (Str × List Int)) (x : Nat) : ∀ n ∈ nmC ns' es x, n ∈ nmC ns es x := by
  intro n hn
  unfold nmC at hn ⊢
  obtain ⟨e, he, rfl⟩ := List.mem_map.mp hn
  rw [List.mem_filter, Bool.and_eq_true, decide_eq_true_eq, decide_eq_true_eq] at he
  exact List.mem_map.mpr ⟨e, List.mem_filter.mpr ⟨he.1, by rw [Bool.and_eq_true, decide_eq_true_eq, decide_eq_true_eq]; exact ⟨h _ he.2.1, he.2.2⟩⟩, rfl⟩
/-- no round brings anything back -/
theorem its_down {W : Wd} {ts : List (List (Str × Int))} {F : List Nat} {x y : Nat} (hx : x < F.length) : ∀ t, ((its W ts F t).getD x 0).testBit y = true → (F.getD x 0).testBit y = true
  | 0, h => h
  | t + 1, h => by
    have hl : x < (its W ts F t).length := by rw [its_len]; exact hx
    have e : (its W ts F (t + 1)).getD x 0 = rowM W (its W ts F t) ((its W ts F t).getD x 0) (ts.getD x []) := getD_of (mat_get hl)
    rw [e, rowM_bit, Bool.and_eq_true] at h
    exact its_down hx t h.1
/-- what is left is within what fits fewer names -/
theorem within_less {W1 W2 : Wd} {ns ns' : List Str} {ts : List (List (Str × Int))} (h : ∀ n ∈ ns', n ∈ ns) (t : Nat) {x : Nat} (hx : x < W1.many.toNat) :
    (its W2 ts (fit0 W1 W2 ns) t).getD x 0 &&& (fit0 W1 W2 ns').getD x 0 = (its W2 ts (fit0 W1 W2 ns) t).getD x 0 := by
  have g : ∀ ns : List Str, (fit0 W1 W2 ns).getD x 0 = wn W2 (nmC ns W1.names x) := fun ns => getD_of (by unfold fit0; rw [List.getElem?_map, List.getElem?_range hx]; rfl)
  refine Nat.eq_of_testBit_eq fun y => ?_
  rw [Nat.testBit_and]
  cases hb : ((its W2 ts (fit0 W1 W2 ns) t).getD x 0).testBit y with
  | false => rfl
  | true =>
    have h1 := its_down (by rw [l_fit]; exact hx) t hb
    rw [g] at h1
    rw [g, wn_less (nmC_less h W1.names x) y h1]
    rfl
end K24
set_option Elab.async false
set_option linter.all false
set_option autoImplicit false
set_option maxRecDepth 100000
set_option maxHeartbeats 4000000
namespace K24
open PySem PySem.Spec PyProof.Rows L2 Tl
/-- a pair more in the rows -/
def pput (P : List Nat) (e : Int × Int) : List Nat := P.set e.1.toNat (P.getD e.1.toNat 0 ||| 2 ^ e.2.toNat)
theorem pput_len (P : List Nat) (e : Int × Int) : (pput P e).length = P.length := List.length_set
theorem pput_bit {P : List Nat} {e : Int × Int} (h : e.1.toNat < P.length) (x y : Nat) : ((pput P e).getD x 0).testBit y = ((P.getD x 0).testBit y || (decide (e.1.toNat = x) && decide (e.2.toNat = y))) := by
  unfold pput
  rw [List.getD_eq_getElem?_getD, List.getElem?_set]
  by_cases z : e.1.toNat = x
  · subst z
    rw [if_pos rfl, if_pos h]
    show (P.getD e.1.toNat 0 ||| 2 ^ e.2.toNat).testBit y = _
    rw [Nat.testBit_or, Nat.testBit_two_pow]
    simp
  · rw [if_neg z, ← List.getD_eq_getElem?_getD]
    simp [z]
theorem pputs_len : ∀ (es : List (Int × Int)) (P : List Nat), (es.foldl pput P).length = P.length
  | [], P => rfl
  | e :: es, P => by rw [List.foldl_cons, pputs_len es, pput_len]
theorem pputs_bit (x y : Nat) : ∀ (es : List (Int × Int)) (P : List Nat), (∀ e ∈ es, e.1.toNat < P.length) → ((es.foldl pput P).getD x 0).testBit y = ((P.getD x 0).testBit y || es.any fun e => decide (e.1.toNat = x) && decide (e.2.toNat = y))
  | [], P, _ => by simp
  | e :: es, P, h => by
    rw [List.foldl_cons, pputs_bit x y es (pput P e) fun f hf => by rw [pput_len]; exact h f (List.mem_cons_of_mem _ hf), pput_bit (h e List.mem_cons_self), List.any_cons, Bool.or_assoc]
end K24
set_option Elab.async false
set_option linter.all false
set_option autoImplicit false
set_option maxRecDepth 100000
set_option maxHeartbeats 4000000
namespace K24
open PySem PySem.Spec PyProof.Rows L2 Tl
theorem mem_pairsOf {F : List Nat} {e : Int × Int} : e ∈ pairsOf F ↔ ∃ x y : Nat, e = ((x : Int), (y : Int)) ∧ x < F.length ∧ y < 6 ∧ (F.getD x 0).testBit y = true := by
  unfold pairsOf rowP bitsOf bitsN
  rw [List.mem_flatMap]
  constructor
  · rintro ⟨x, hx, h⟩
    obtain ⟨y, hy, rfl⟩ := List.mem_map.mp h
    obtain ⟨n, hn, rfl⟩ := List.mem_map.mp hy
    rw [List.mem_filter, List.mem_range] at hn
    exact ⟨x, n, rfl, List.mem_range.mp hx, hn.1, hn.2⟩
  · rintro ⟨x, y, rfl, hx, hy, hb⟩
    exact ⟨x, List.mem_range.mpr hx, List.mem_map.mpr ⟨_, List.mem_map.mpr ⟨y, List.mem_filter.mpr ⟨List.mem_range.mpr hy, hb⟩, rfl⟩, rfl⟩⟩
/-- the rows come back from their pairs -/
theorem pputs_pairsOf {F : List Nat} (h64 : ∀ N ∈ F, N < 64) : (pairsOf F).foldl pput (List.replicate F.length 0) = F := by
  have len : ((pairsOf F).foldl pput (List.replicate F.length 0)).length = F.length := by rw [pputs_len, List.length_replicate]
  have rg : ∀ e ∈ pairsOf F, e.1.toNat < (List.replicate F.length 0).length := fun e he => by
    obtain ⟨x, y, rfl, hx, _⟩ := mem_pairsOf.mp he
    rw [List.length_replicate]
    exact hx
  refine List.ext_getElem len fun x h1 h2 => ?_
  refine Nat.eq_of_testBit_eq fun y => ?_
  have e1 := pputs_bit x y (pairsOf F) (List.replicate F.length 0) rg
  rw [getD_of (List.getElem?_eq_getElem h1)] at e1
  have e0 : (List.replicate F.length 0).getD x 0 = 0 := getD_of (by rw [List.getElem?_replicate, if_pos h2])
  have eF : F.getD x 0 = F[x] := getD_of (List.getElem?_eq_getElem h2)
  rw [e1, e0, Nat.zero_testBit, Bool.false_or, Bool.eq_iff_iff, List.any_eq_true]
  constructor
  · rintro ⟨e, he, hb⟩
    obtain ⟨a, b, rfl, _, _, ht⟩ := mem_pairsOf.mp he
    rw [Bool.and_eq_true, decide_eq_true_eq, decide_eq_true_eq] at hb
    obtain ⟨q1, q2⟩ := hb
    have q1 : a = x := q1
    have q2 : b = y := q2
    subst q1 q2
    rw [← eF]
    exact ht
  · intro hb
    have y6 : y < 6 := by
      refine Nat.lt_of_not_le fun z => ?_
      rw [Nat.testBit_lt_two_pow (Nat.lt_of_lt_of_le (h64 _ (List.getElem_mem h2)) (Nat.pow_le_pow_right (by decide) z : 2 ^ 6 ≤ 2 ^ y))] at hb
      cases hb
    exact ⟨((x : Int), (y : Int)), mem_pairsOf.mpr ⟨x, y, rfl, h2, y6, by rw [eF]; exact hb⟩, by simp⟩
end K24
set_option Elab.async false
set_option linter.all false
set_option autoImplicit false
set_option maxRecDepth 100000
set_option maxHeartbeats 4000000
namespace K24
open PySem PySem.Spec PyProof.Rows L2 Tl
open C8 (Cal pe_c Met Mak pe_mt pe_mt0 pe_mk)
/-- only where the pairs are those of rows that are a simulation -/
def spIsSim (K : PySem.W.Frag) (cM cL : Addr) : Sp := fun vs H Q _ => ∃ (p dx t : Addr) (fs : List (Str × V)) (W1 W2 : Wd) (ns rs : List Str) (F : List Nat), vs = [.ref p, .ref t] ∧ H p = some (.ins cL dx fs) ∧ LkF K cM H fs W1 W2 ns rs ∧ WOk W1 ∧ WOk W2 ∧
  Prs K H t (pairsOf F) ∧ FitOk (ties0 W1 rs) F ∧ F.length = (fit0 W1 W2 ns).length ∧ mat W2 (ties0 W1 rs) F = F ∧ (∀ x, x < F.length → F.getD x 0 &&& (fit0 W1 W2 ns).getD x 0 = F.getD x 0) ∧ ∀ H', L2.Same H H' → Q (.bl true) H'
theorem flat0 (k : Nat) : (List.replicate k [V.int 0]).flatten = natV (List.replicate k 0) := by
  unfold natV
  rw [List.map_replicate]
  induction k with
  | zero => rfl
  | succ k ih => rw [List.replicate_succ, List.flatten_cons, ih, List.replicate_succ]; rfl
theorem LkF.same {K : PySem.W.Frag} {cM : Addr} {H H' : Hp} {fs : List (Str × V)} {W1 W2 : Wd} {ns rs : List Str} (h : LkF K cM H fs W1 W2 ns rs) (s : L2.Same H H') : LkF K cM H' fs W1 W2 ns rs := by
  obtain ⟨G, M, x, Fr, h1, h2, h3, h4, h5, h6⟩ := h
  exact ⟨G, M, x, Fr, h1, h2, h3, s _ _ h4, h5.same s, h6.same s⟩
section
variable {P : Program} {w : World} {K : PySem.W.Frag} {mg : Str → Option Value} {base : Heap}
theorem cIsSim {cT cM cL : Addr} (T : Txt K mg) (D : TxC K mg cT cM cL) : Cal P w K mg base 3 "_is_simulation" (spIsSim K cM cL) [] := by
  have cls := D.mLook_pairs.cls
  refine cal_of T.isSimulation scIsSimulation (fun _ _ _ _ _ _ us hl => match us, hl with | [_, _], _ => rfl) (fun vs H Q E h => ?_) (fun f cdv A outer s H vs Q E hr h => ?_)
  · obtain ⟨p, dx, t, fs, W1, W2, ns, rs, F, rfl, _⟩ := h
    rfl
  obtain ⟨p, dx, t, fs, W1, W2, ns, rs, F, rfl, gp, hL, ok1, ok2, hP, fo, hl, hm, hw, q⟩ := h
  have hu64 := hr.units
  refine ⟨_, (pss_cons (ps_set (i := 2) scIsSimulation.nd rfl (.inl rfl) (pe_op op_rep (pe_lst (pa_cons pe_int pa_nil)) (pe_callB call_len_seq (by rfl) T.len (by decide +kernel) (pa_cons (pe_fld (pv 0) rfl) pa_nil))))
 (pss_cons (ps_for PassesOwn.never rfl (pi_tup (pv 1)) (pg_tup rfl (pgs_cons (pg_name (i := 3) scIsSimulation.nd rfl (.inl rfl)) (pgs_cons (pg_name (i := 4) scIsSimulation.nd rfl (.inl rfl)) pgs_nil)))
 (pss_one (ps_asg (pe_op op_or (pe_ix ix_list (pv 2) (pv 3) (fun _ _ => rfl)) (pe_op op_oneShl pe_int (pv 4))) (pg_sub (pv 2) (pv 3) set_list))))
 (pss_cons (ps_if (pt_not (pt_val (pe_callB (cr_all rfl) (by rfl) T.all (by decide +kernel) (pa_cons (pe_lc (own := [("mine", 5), ("fitting", 6)]) (by rfl) scIsSimulation.nd (pi_zip rfl T.zip (pa_cons (pv 2) (pa_cons (pe_fld (pv 0) rfl) pa_nil))) (blkOk_by (own := [("mine", 5), ("fitting", 6)]) (N := ["look", "pairs", "paired", "x", "y", "mine", "fitting"]) (sc := defScope sIsSimulation) (by decide +kernel)) (fun _ _ _ _ _ => (pg_tupK (K := K) (n := 2) rfl rfl (pgs_cons (pg_name (i := 5) scIsSimulation.nd rfl (.inl rfl)) (pgs_cons (pg_name (i := 6) scIsSimulation.nd rfl (.inl rfl)) pgs_nil)))) (fun _ _ _ _ _ => pts_nil) (fun _ _ _ _ _ => (pe_c (cIsWithin T) hr (by decide) rfl (pa_cons (pv 5) (pa_cons (pv 6) pa_nil))))) pa_nil))))
 (pss_one (ps_ret pe_bl))
 pss_nil)
 (pss_one (ps_ret (pe_cmpR (op_eqD hu64) (pe_c (cMatched T D) hr (by decide) rfl (pa_cons (pv 2) (pa_cons (pe_fld (pv 0) rfl) (pa_cons (pe_fld (pv 0) rfl) (pa_cons pe_int pa_nil))))) (pv 2) (nomark _))))))), ?_⟩
  obtain ⟨G, M, xx, Fr, k1, k2, k3, gG, hM, hMd⟩ := hL
  have l6 : F.length ≤ 6 := fo.six
  have fl : (natV (fit0 W1 W2 ns)).length = F.length := by unfold natV; rw [List.length_map, hl]
  -- paired = [0] * len(look.fits)
  refine ⟨by show 1 ≤ sizeLine; decide, fun l0 n0 => ?_⟩
  have g0p : upd H l0 (.lst [.int 0]) p = some (.ins cL dx fs) := (upd_ne (ne_of_none gp n0)).trans gp
  refine ⟨.ref p, rfl, p, cL, dx, _, .ref G, rfl, g0p, cls, D.nLook_fits, k1, G, _, rfl, .inl (lst_of ((upd_ne (ne_of_none gG n0)).trans gG)), l0, _, [.int 0], rfl, rfl, upd_same, by rw [fl]; omega, by rw [fl]; omega, ?_, fun b nb => ?_⟩
  · rw [fl]
    show 1 * F.length ≤ sizeLine
    rw [Nat.one_mul]
    exact Nat.le_trans l6 (by decide)
  have bl : b ≠ l0 := fun z => by rw [z, upd_same] at nb; cases nb
  have nbH : H b = none := by rw [upd_ne bl] at nb; exact nb
  rw [fl]
  have e0 : (List.replicate ((F.length : Nat) : Int).toNat [V.int 0]).flatten = natV (List.replicate F.length 0) := flat0 F.length
  rw [e0]
  generalize hH1 : upd (upd H l0 (.lst [.int 0])) b (.lst (natV (List.replicate F.length 0))) = H1
  have s1 : L2.Same H H1 := by rw [← hH1]; exact same_mut (same_up n0) nbH
  have g1 : H1 b = some (.lst (natV (List.replicate F.length 0))) := by rw [← hH1]; exact upd_same
  clear hH1 e0
  -- for x, y in pairs
  obtain ⟨qs, ht, hp⟩ := hP
  have st1 := Tl.Same.stay s1
  refine ⟨.ref t, rfl, t, rfl, ⟨_, st1.tup ht⟩, ?_⟩
  have rg : ∀ e ∈ pairsOf F, ∃ x y : Nat, e = ((x : Int), (y : Int)) ∧ x < F.length ∧ y < 6 := fun e he => by
    obtain ⟨x, y, h1, h2, h3, _⟩ := mem_pairsOf.mp he
    exact ⟨x, y, h1, h2, h3⟩
  refine for_tup (K := K) (a := t) (xs := qs.map V.ref) (fun i σ X => ∃ t3 t4 t5 t6, σ = [some (.ref p), some (.ref t), some (.ref b), t3, t4, t5, t6] ∧ L2.Same H X ∧ X b = some (.lst (natV (((pairsOf F).take i).foldl pput (List.replicate F.length 0)))))
    ⟨_, _, _, _, rfl, s1, g1⟩ (fun i σ X _ z => ?_) (fun i x σ X hx z => ?_) (fun σ X z => ?_)
  · obtain ⟨_, _, _, _, _, z, _⟩ := z
    exact (Tl.Same.stay z).tup ht
  · obtain ⟨t3, t4, t5, t6, rfl, sX, gX⟩ := z
    obtain ⟨ra, hra, rfl⟩ : ∃ ra, qs[i]? = some ra ∧ V.ref ra = x := by
      rw [List.getElem?_map] at hx
      exact Option.map_eq_some_iff.mp hx
    obtain ⟨f, hf2, h4⟩ := getP hp hra
    obtain ⟨a, c, rfl, ha, hc⟩ := rg f (List.mem_of_getElem? hf2)
    have stX := Tl.Same.stay sX
    generalize hN : ((pairsOf F).take i).foldl pput (List.replicate F.length 0) = N at gX
    have lN : N.length = F.length := by rw [← hN, pputs_len, List.length_replicate]
    have N64 : ∀ M ∈ N, M < 64 := by
      rw [← hN]
      have : ∀ (es : List (Int × Int)) (P : List Nat), (∀ e ∈ es, ∃ x y : Nat, e = ((x : Int), (y : Int)) ∧ x < F.length ∧ y < 6) → (∀ M ∈ P, M < 64) → ∀ M ∈ es.foldl pput P, M < 64 := by
        intro es
        induction es with
        | nil => intro P _ h; exact h
        | cons e es ih =>
          intro P he h
          rw [List.foldl_cons]
          refine ih _ (fun f hf => he f (List.mem_cons_of_mem _ hf)) fun M hM => ?_
          obtain ⟨x, y, rfl, hx, hy⟩ := he e List.mem_cons_self
          unfold pput at hM
          rcases List.mem_or_eq_of_mem_set hM with z | z
          · exact h M z
          · rw [z]
            have h1 : P.getD x 0 < 64 := by
              by_cases hx : x < P.length
              · rw [getD_of (List.getElem?_eq_getElem hx)]
                exact h _ (List.getElem_mem hx)
              · rw [List.getD_eq_getElem?_getD, List.getElem?_eq_none (by omega)]
                decide
            exact Nat.or_lt_two_pow (n := 6) h1 (Nat.pow_lt_pow_right (by decide) hy)
      exact this _ _ (fun e he => rg e (List.mem_of_mem_take he)) fun M hM => by
        rw [List.mem_replicate] at hM
        rw [hM.2]
        decide
    have gN : N[a]? = some (N.getD a 0) := by
      rw [getD_of (List.getElem?_eq_getElem (by rw [lN]; exact ha)), List.getElem?_eq_getElem (by rw [lN]; exact ha)]
    have n64 : N.getD a 0 < 64 := N64 _ (List.mem_of_getElem? gN)
    refine ⟨ra, _, rfl, stX.tup h4, rfl, .int (a : Int), _, rfl, .int (c : Int), [], rfl, rfl, ?_⟩
    refine ⟨.ref b, rfl, .int (a : Int), rfl, b, _, (a : Int), .int ((N.getD a 0 : Nat) : Int), rfl, rfl, lst_of gX, atI_nat (by unfold natV; rw [List.getElem?_map, gN]; rfl), .int (c : Int), rfl, c, rfl, rfl, by omega, ?_⟩
    refine ⟨_, _, rfl, rfl, .ref b, rfl, .int (a : Int), rfl, b, _, (a : Int), a, rfl, rfl, gX, ixN_nat (x := (a : Int)) (by omega) ?_, ?_⟩
    · unfold natV
      rw [List.length_map, lN]
      omega
    refine ⟨_, _, t5, t6, rfl, same_mut sX nbH, ?_⟩
    rw [upd_same, List.take_add_one, hf2]
    show _ = some (HO.lst (natV (((pairsOf F).take i ++ [((a : Int), (c : Int))]).foldl pput (List.replicate F.length 0))))
    rw [List.foldl_append, hN]
    show _ = some (HO.lst (natV (pput N ((a : Int), (c : Int)))))
    have e3 : Builtin.bitOr ((N.getD a 0 : Nat) : Int) (2 ^ c) = ((N.getD a 0 ||| 2 ^ c : Nat) : Int) := by
      have := bor n64 (pow64 (i := c) hc)
      rw [← this, Int.natCast_pow]
      rfl
    show some (HO.lst ((natV N).set a (.int (Builtin.bitOr ((N.getD a 0 : Nat) : Int) (2 ^ c))))) = _
    rw [e3]
    unfold pput natV
    rw [List.map_set]
    rfl
  obtain ⟨t3, t4, t5, t6, rfl, sX, gX⟩ := z
  rw [List.take_of_length_le (by rw [List.length_map, hp.length]; exact Nat.le_refl _), pputs_pairsOf fo.lt] at gX
  -- all([...])
  have gGX := sX _ _ gG
  have gpX := sX _ _ gp
  refine ⟨.ref b, rfl, .ref p, rfl, p, cL, dx, _, .ref G, rfl, gpX, cls, D.nLook_fits, k1, b, G, natV F, natV (fit0 W1 W2 ns), rfl, lst_of gX, lst_of gGX, fun D0 nD => ?_⟩
  refine lc_it (n := F.length) (fun i Y => L2.Same X Y ∧ Y D0 = some (.lst ((List.replicate i true).map V.bl))) ⟨same_up nD, upd_same⟩ (fun i Y hi z => ?_) (fun Y z => ?_) (fun i v Y Y1 hi z y => ?_) (fun Y z => ?_)
  · exact ⟨natV F, natV (fit0 W1 W2 ns), .int ((F.getD i 0 : Nat) : Int), .int (((fit0 W1 W2 ns).getD i 0 : Nat) : Int), lst_of (z.1 _ _ gX), lst_of (z.1 _ _ gGX), by
      unfold natV
      rw [List.getElem?_map, getD_of (List.getElem?_eq_getElem hi), List.getElem?_eq_getElem hi]
      rfl, by
      unfold natV
      rw [List.getElem?_map, getD_of (List.getElem?_eq_getElem (by rw [← hl]; exact hi)), List.getElem?_eq_getElem (by rw [← hl]; exact hi)]
      rfl⟩
  · exact ⟨natV F, natV (fit0 W1 W2 ns), lst_of (z.1 _ _ gX), lst_of (z.1 _ _ gGX), .inl (by unfold natV; rw [List.length_map]; exact Nat.le_refl _)⟩
  · obtain ⟨sY, gY⟩ := z
    obtain ⟨U, u, v, rfl, nU, rfl, f1, f2⟩ := y
    have hi2 : i < (fit0 W1 W2 ns).length := by rw [← hl]; exact hi
    have e1 := f1 _ (lst_of (sY _ _ gX))
    have e2 := f2 _ (lst_of (sY _ _ gGX))
    unfold natV at e1 e2
    rw [List.getElem?_map, List.getElem?_eq_getElem hi] at e1
    rw [List.getElem?_map, List.getElem?_eq_getElem hi2] at e2
    have e1 := Option.some.inj e1
    have e2 := Option.some.inj e2
    subst e1 e2
    have hw := hw i hi
    rw [getD_of (List.getElem?_eq_getElem hi), getD_of (List.getElem?_eq_getElem hi2)] at hw
    refine ⟨U, _, rfl, tupOf upd_same, rfl, .int ((F[i] : Nat) : Int), _, rfl, .int (((fit0 W1 W2 ns)[i] : Nat) : Int), [], rfl, rfl, rfl, .int _, rfl, .int _, rfl, F[i], (fit0 W1 W2 ns)[i], rfl, fo.lt _ (List.getElem_mem hi), (fit0_ok ok1 ok2 ns rs).lt _ (List.getElem_mem hi2), ?_⟩
    rw [decide_eq_true hw]
    have gY1 : upd Y U (.tup [.int ((F[i] : Nat) : Int), .int (((fit0 W1 W2 ns)[i] : Nat) : Int)]) D0 = some (.lst ((List.replicate i true).map V.bl)) := (upd_ne (ne_of_none gY nU)).trans gY
    refine ⟨_, gY1, ?_, same_mut (same_add sY nU) nD, ?_⟩
    · rw [List.length_map, List.length_replicate]
      exact Nat.lt_of_le_of_lt (show i ≤ 6 by omega) (by decide)
    · rw [upd_same, List.replicate_succ', List.map_append]
      rfl
  obtain ⟨sY, gY⟩ := z
  refine ⟨D0, _, rfl, lst_of gY, ?_⟩
  rw [all_rep]
  refine ⟨_, rfl, iteF ?_⟩
  -- matched(...) == paired
  have sHY := sX.trans sY
  refine ⟨.ref b, rfl, .ref p, rfl, p, cL, dx, _, .ref M, rfl, sHY _ _ gp, cls, D.nLook_ties, k2, .ref p, rfl, p, cL, dx, _, .ref xx, rfl, sHY _ _ gp, cls, D.nLook_second, k3, ?_⟩
  refine ⟨b, M, xx, Fr, W2, ties0 W1 rs, F, rfl, sY _ _ gX, hM.same sHY, hMd.same sHY, ok2, fo, fun c Z nc sZ gc => ?_⟩
  rw [hm] at gc
  have gbZ := sZ _ _ (sY _ _ gX)
  rw [natV_eq] at gc gbZ
  refine ⟨.ref b, rfl, .list ((F.map fun (N : Nat) => (N : Int)).map PyData.int), .list ((F.map fun (N : Nat) => (N : Int)).map PyData.int), .lst (lst_of gc) (dp_ints _), .lst (lst_of gbZ) (dp_ints _), shaped_ints _, shaped_ints _, ?_⟩
  rw [eqv_ints, decide_eq_true rfl]
  exact q Z (sHY.trans sZ)
end
end K24
set_option Elab.async false
set_option linter.all false
set_option autoImplicit false
set_option maxRecDepth 100000
set_option maxHeartbeats 4000000
namespace K24
open PySem PySem.Spec PyProof.Rows L2 Tl
open C8 (Cal pe_c Met Mak pe_mt pe_mt0 pe_mk)
theorem pairsOf_lex (F : List Nat) : (pairsOf F).Pairwise Lex := by
  unfold pairsOf
  rw [List.pairwise_flatMap]
  refine ⟨fun x _ => ?_, List.pairwise_lt_range.imp fun {a b} h e he f hf => ?_⟩
  · unfold rowP
    rw [List.pairwise_map]
    exact (asc_bitsOf _).imp fun h => .inr ⟨rfl, h⟩
  · unfold rowP at he hf
    obtain ⟨_, _, rfl⟩ := List.mem_map.mp he
    obtain ⟨_, _, rfl⟩ := List.mem_map.mp hf
    exact .inl (by show (a : Int) < (b : Int); omega)
theorem pairsOf_len (F : List Nat) : (pairsOf F).length ≤ 6 * F.length := rows_len F F.length
/-- only where the thing is pairs that are a simulation -/
def spHolds (K : PySem.W.Frag) : Sp := fun vs H Q _ => ∃ (v1 v2 v3 : V) (x y : Int) (th t : Addr) (W1 W2 : Wd) (ns rs : List Str) (F : List Nat), vs = [v1, .int x, v2, .int y, v3, .ref th] ∧ IsWd K H v1 W1 ∧ WOk W1 ∧ IsWd K H v2 W2 ∧ WOk W2 ∧ VocS K H v3 ns rs ∧ VocG ns rs ∧ (0 ≤ x ∧ x < W1.many) ∧ (0 ≤ y ∧ y < W2.many) ∧
  SqT K H th [.str "simulated", .ref t] ∧ Prs K H t (pairsOf F) ∧ (x, y) ∈ pairsOf F ∧ FitOk (ties0 W1 rs) F ∧ F.length = (fit0 W1 W2 ns).length ∧ mat W2 (ties0 W1 rs) F = F ∧ (∀ x, x < F.length → F.getD x 0 &&& (fit0 W1 W2 ns).getD x 0 = F.getD x 0) ∧
  (∀ e ∈ pairsOf F, (0 ≤ e.1 ∧ e.1 < W1.many) ∧ 0 ≤ e.2 ∧ e.2 < W2.many) ∧ ∀ H', L2.Same H H' → Q (.bl true) H'
theorem prs_same {K : PySem.W.Frag} {H H' : Hp} {t : Addr} {es : List (Int × Int)} (s : Stay H H') (h : Prs K H t es) : Prs K H' t es := by
  obtain ⟨qs, h1, h2⟩ := h
  exact ⟨qs, s.tup h1, Paired.mapP h2 fun q e z => pre_st s z⟩
section
variable {P : Program} {w : World} {K : PySem.W.Frag} {mg : Str → Option Value} {base : Heap}
theorem cHolds (T : Txt K mg) : Cal P w K mg base 9 "simulated_holds" (spHolds K) [] := by
  obtain ⟨cT, cM, cL, D⟩ := T.cls
  refine cal_of T.simulatedHolds scSimulatedHolds (fun _ _ _ _ _ _ us hl => match us, hl with | [_, _, _, _, _, _], _ => rfl) (fun vs H Q E h => ?_) (fun f cdv A outer s H vs Q E hr h => ?_)
  · obtain ⟨v1, v2, v3, x, y, th, t, W1, W2, ns, rs, F, rfl, _⟩ := h
    rfl
  obtain ⟨v1, v2, v3, x, y, th, t, W1, W2, ns, rs, F, rfl, hW1, ok1, hW2, ok2, hV, hG, hx, hy, hth, hP, hxy, fo, hl, hm, hw, rg, q⟩ := h
  have hu64 := hr.units
  refine ⟨_, (pss_cons (ps_expr (pe_c (cCheck T) hr (by decide) rfl (pa_cons (pv 0) (pa_cons (pv 1) (pa_cons (pv 2) (pa_cons (pv 3) (pa_cons (pv 4) pa_nil)))))))
 (pss_cons (ps_if (pt_not (pt_val (pe_c (cIsPair T) hr (by decide) rfl (pa_cons (pv 5) pa_nil))))
 (pss_one (ps_ret pe_bl))
 pss_nil)
 (pss_cons (ps_asg (pe_mk (kLook T D) hr (by decide) rfl (pa_cons (pv 0) (pa_cons (pv 2) (pa_cons (pv 4) pa_nil)))) (pg_name (i := 6) scSimulatedHolds.nd rfl (.inl rfl)))
 (pss_cons (ps_if (pt_cmpR op_eq (pe_ix ix_tup (pv 5) pe_int (fun _ _ => rfl)) pe_str (nomark _))
 (pss_one (ps_ret (pe_and (pe_c (cArePairs T) hr (by decide) rfl (pa_cons (pe_ix ix_tup (pv 5) pe_int (fun _ _ => rfl)) (pa_cons (pe_ix ix_tup (pv 0) pe_int (fun _ _ => rfl)) (pa_cons (pe_ix ix_tup (pv 2) pe_int (fun _ _ => rfl)) pa_nil)))) (pe_and (pe_cmpR (op_inP (K := K) rfl hu64) (pe_tup (pa_cons (pv 1) (pa_cons (pv 3) pa_nil))) (pe_ix ix_tup (pv 5) pe_int (fun _ _ => rfl)) rfl) (pe_one (pe_c (cIsSim T D) hr (by decide) rfl (pa_cons (pv 6) (pa_cons (pe_ix ix_tup (pv 5) pe_int (fun _ _ => rfl)) pa_nil))))))))
 pss_nil)
 (pss_cons ps_never
 (pss_cons ps_never
 (pss_cons ps_never
 (pss_one ps_never)))))))), ?_⟩
  refine ⟨v1, rfl, .int x, rfl, v2, rfl, .int y, rfl, v3, rfl, v1, v2, v3, x, y, W1, W2, ns, rs, rfl, hW1, ok1, hW2, ok2, hV, hG, hx, hy, fun X3 s13 => ?_⟩
  refine ⟨.ref th, rfl, th, _, _, rfl, (Tl.Same.stay s13).tup hth, true, rfl, iteF ?_⟩
  refine ⟨v1, rfl, v2, rfl, v3, rfl, fun z dx nx ndx dne => ?_⟩
  have sN : Stay X3 (upd (upd X3 dx (.own z)) z (.ins cL dx [])) := (stay_new ndx).trans (stay_new ((upd_ne dne.symm).trans nx))
  have st := (Tl.Same.stay s13).trans sN
  refine ⟨z, dx, v1, v2, v3, W1, W2, ns, rs, rfl, upd_same, iswd_st st hW1, ok1, iswd_st st hW2, ok2, hV.st st, fun X4 fs l k o4 g4 hlk hpp hp hR fx _ hF => ⟨rfl, ?_⟩⟩
  have s34 : L2.Same X3 X4 := fun a o ha => o4 a o (ne_of_none ha nx) (by rw [upd_ne (ne_of_none ha nx), upd_ne (ne_of_none ha ndx)]; exact ha)
  have s4 := s13.trans s34
  have st4 := Tl.Same.stay s4
  have hth4 := st4.tup hth
  refine ⟨.ref th, rfl, th, _, 0, .str "simulated", rfl, rfl, hth4, atI_nat (j := 0) rfl, rfl, _, rfl, iteT ?_⟩
  obtain ⟨a1, n1, r1, e1, ha1, hr1⟩ := id (iswd_st st4 hW1)
  obtain ⟨a2, n2, r2, e2, ha2, hr2⟩ := id (iswd_st st4 hW2)
  subst e1 e2
  refine ⟨.ref th, rfl, th, _, 1, .ref t, rfl, rfl, hth4, atI_nat (j := 1) rfl, .ref a1, rfl, a1, _, 0, .int W1.many, rfl, rfl, ha1, atI_nat (j := 0) rfl, .ref a2, rfl, a2, _, 0, .int W2.many, rfl, rfl, ha2, atI_nat (j := 0) rfl, ?_⟩
  refine ⟨t, W1.many, W2.many, pairsOf F, rfl, prs_same st4 hP, pairsOf_lex F, ?_, rg, fun X5 s45 => ⟨true, rfl, iteT ?_⟩⟩
  · have := pairsOf_len F
    have := fo.six
    omega
  have s5 := s4.trans s45
  have st5 := Tl.Same.stay s5
  refine ⟨.int x, rfl, .int y, rfl, by show 2 ≤ sizeLine; decide, fun b nb => ?_⟩
  have s6 := s5.trans (same_up (o := .tup [.int x, .int y]) nb)
  have st6 := Tl.Same.stay s6
  obtain ⟨qs, hq1, hq2⟩ := prs_same st6 hP
  refine ⟨.ref th, rfl, th, _, 1, .ref t, rfl, rfl, st6.tup hth, atI_nat (j := 1) rfl, b, t, (x, y), qs, pairsOf F, rfl, rfl, tupOf upd_same, .inr hq1, hq2, ?_⟩
  rw [decide_eq_true hxy]
  refine ⟨true, rfl, iteT ?_⟩
  have s46 := s45.trans (same_up (o := .tup [.int x, .int y]) nb)
  refine ⟨.ref z, rfl, .ref th, rfl, th, _, 1, .ref t, rfl, rfl, st6.tup hth, atI_nat (j := 1) rfl, z, dx, t, fs, W1, W2, ns, rs, F, rfl, s46 _ _ g4, hF.same s46, ok1, ok2, prs_same st6 hP, fo, hl, hm, hw, fun H' s7 => q H' (s6.trans s7)⟩
end
end K24
set_option Elab.async false
set_option linter.all false
set_option autoImplicit false
set_option maxRecDepth 100000
set_option maxHeartbeats 4000000
namespace K24
open PySem PySem.Spec PyProof.Rows L2 Tl
open C8 (Cal pe_c)
theorem shaped_tprs (es : List (Int × Int)) : SeqAt.shaped (.tuple (es.map prD)) = true := by
  have := depth_prs es
  simp [SeqAt.shaped, PyData.canLay0, PyData.depth, canLay_prs]
  omega
theorem tpr_ne (es : List (Int × Int)) : (!PyData.eqv (.tuple (es.map prD)) (.tuple [])) = !es.isEmpty := by
  cases es <;> simp [PyData.eqv, PyData.eqvAll]
/-- a role's rows come out of the world's -/
def Few (W : Wd) (rs : List (Str × List (Int × Int))) : Prop := ∀ e ∈ rs, e.2 ≠ [] ∧ ∃ f ∈ W.roles, f.1 = e.1 ∧ e.2.Sublist f.2
theorem few_tied {W : Wd} {rs : List (Str × List (Int × Int))} (ok : WOk W) (h : Few W rs) {r : Str} {x z : Int} (hz : z ∈ tied ⟨W.many, W.names, rs⟩ r x) : z ∈ tied W r x := by
  unfold tied lookR at hz ⊢
  obtain ⟨e, he, rfl⟩ := List.mem_map.mp hz
  rw [List.mem_filter] at he
  refine List.mem_map.mpr ⟨e, List.mem_filter.mpr ⟨?_, he.2⟩, rfl⟩
  cases hl : look rs r with
  | none =>
    rw [hl] at he
    exact (List.not_mem_nil he.1).elim
  | some es =>
    rw [hl] at he
    obtain ⟨_, f, hf, e1, sub⟩ := h _ (look_mem hl)
    have e1 : f.1 = r := e1
    have : look W.roles r = some f.2 := look_of (sl_nodup ok.roles.1) (by rw [← e1]; exact hf)
    rw [this]
    exact sub.subset he.1
theorem few_ok {W : Wd} {rs : List (Str × List (Int × Int))} (ok : WOk W) (h : Few W rs) (sub : (rs.map (·.1)).Sublist (W.roles.map (·.1))) : WOk ⟨W.many, W.names, rs⟩ := by
  refine ⟨ok.many, ok.names, ok.roles.1.sublist sub, fun e he => ?_, ?_⟩
  · obtain ⟨ne, f, hf, e1, s⟩ := h e he
    have g := ok.roles.2.1 f hf
    exact ⟨by rw [← e1]; exact g.1, ne, g.2.2.1.sublist s, fun p hp => g.2.2.2 p (s.subset hp)⟩
  · have := sub.length_le
    rw [List.length_map, List.length_map] at this
    have := ok.roles.2.2
    show rs.length ≤ 50
    omega
def spFewer (K : PySem.W.Frag) : Sp := fun vs H Q _ => ∃ (d l : Addr) (v : V) (W : Wd), vs = [.ref d, v] ∧ Deck H d l ∧ IsWd K H v W ∧ WOk W ∧
  ∀ (v' : V) (W' : Wd) (H' : Hp), IsWd K H' v' W' → WOk W' → W'.many = W.many → W'.names = W.names → (∀ r x z, z ∈ tied W' r x → z ∈ tied W r x) → Off d l H H' → Deck H' d l → Q v' H'
section
variable {P : Program} {w : World} {K : PySem.W.Frag} {mg : Str → Option Value} {base : Heap}
theorem cLawFewerTies (T : Txt K mg) : Cal P w K mg base 3 "_law_fewer_ties" (spFewer K) [] := by
  refine cal_of T.lawFewerTies scLawFewerTies (fun _ _ _ _ _ _ us hl => match us, hl with | [_, _], _ => rfl) (fun vs H Q E h => ?_) (fun f cdv A outer s H vs Q E hr h => ?_)
  · obtain ⟨d, l, v, W, rfl, _⟩ := h
    rfl
  obtain ⟨d, l, v, W, rfl, D, hW, ok, q⟩ := h
  have hu64 := hr.units
  refine ⟨_, (pss_cons (ps_set (i := 2) scLawFewerTies.nd rfl (.inl rfl) (pe_lst pa_nil))
 (pss_cons (ps_for PassesOwn.never rfl (pi_tup (pe_ix ix_tup (pv 1) pe_int (fun _ _ => rfl))) (pg_tup rfl (pgs_cons (pg_name (i := 3) scLawFewerTies.nd rfl (.inl rfl)) (pgs_cons (pg_name (i := 4) scLawFewerTies.nd rfl (.inl rfl)) pgs_nil)))
 (pss_cons (ps_set (i := 5) scLawFewerTies.nd rfl (.inl rfl) (pe_callTy call_tuple_of (by rfl) T.tuple (by decide +kernel) (pa_cons (pe_lc (own := [("pair", 6)]) (by rfl) scLawFewerTies.nd (pi_tup (pv 4)) (blkOk_by (own := [("pair", 6)]) (N := ["deck", "world", "roles", "role", "pairs", "kept", "pair"]) (sc := defScope sLawFewerTies) (by decide +kernel)) (fun _ _ _ _ _ => (pg_name (i := 6) scLawFewerTies.nd rfl (.inl rfl))) (fun _ _ _ _ _ => pts_one (pt_cmpR op_gt (pe_c (cLawDraw T) hr (by decide) rfl (pa_cons (pv 0) (pa_cons pe_int pa_nil))) pe_int (nomark _))) (fun _ _ _ _ _ => (pv 6))) pa_nil)))
 (pss_one (ps_if (pt_cmpR (op_neD hu64) (pv 5) (pe_tup pa_nil) (nomark _))
 (pss_one (ps_expr (pe_bm PySem.F.plainAttrs_list PySem.F.slot_list_append PySem.F.type_list_append mt_append (pv 2) (pa_cons (pe_tup (pa_cons (pv 3) (pa_cons (pv 5) pa_nil))) pa_nil))))
 pss_nil))))
 (pss_one (ps_ret (pe_op op_catT (pe_slice sl_tup (pv 1) po_none (po_some pe_int)) (pe_tup (pa_cons (pe_callTy cr_tupF (by rfl) T.tuple (by decide +kernel) (pa_cons (pv 2) pa_nil)) pa_nil))))))), ?_⟩
  refine ⟨Nat.zero_le _, fun r nr => ?_⟩
  obtain ⟨rd, rl⟩ := D.off nr
  obtain ⟨a1, n1, r1, rfl, ha, hN, ps, hf, hp⟩ := hW
  have s0 := same_up (o := .lst []) nr
  have sq := rd_of_frz (K := K) hf
  refine ⟨.ref a1, rfl, a1, _, 2, .ref r1, rfl, rfl, (Tl.Same.stay s0).tup ha, atI_nat (j := 2) rfl, r1, rfl, ⟨_, (Tl.Same.stay s0).tup sq⟩, ?_⟩
  refine for_tup (K := K) (a := r1) (xs := ps.map V.ref) (fun i σ G => ∃ (rps : List Addr) (rs : List (Str × List (Int × Int))) (t3 t4 t5 t6 : Option V), σ = [some (.ref d), some (.ref a1), some (.ref r), t3, t4, t5, t6] ∧
      Off d l H G ∧ Deck G d l ∧ G r = some (.lst (rps.map V.ref)) ∧ Paired (RlE K G) rps rs ∧ (rs.map (·.1)).Sublist ((W.roles.take i).map (·.1)) ∧ Few W rs)
    ⟨[], [], _, _, _, _, rfl, s0.off, D.same s0, upd_same, .nil, .slnil, fun e he => nomatch he⟩ (fun i σ G _ z => ?_) (fun i x σ G hx z => ?_) (fun σ G z => ?_)
  · obtain ⟨_, _, _, _, _, _, _, o3, _⟩ := z
    exact (o3.stay D).tup sq
  · obtain ⟨rps, rs, t3, t4, t5, t6, rfl, o3, D3, gr, hrs, srs, few⟩ := z
    obtain ⟨qa, hq, rfl⟩ : ∃ qa, ps[i]? = some qa ∧ V.ref qa = x := by
      rw [List.getElem?_map] at hx
      exact Option.map_eq_some_iff.mp hx
    obtain ⟨e, he, t, h1, qs, h2, h3⟩ := getP hp hq
    have me := List.mem_of_getElem? he
    have gd := (ok.roles.2.1 e me).2
    have lene : e.2.length ≤ 36 := lex_len (by have := ok.many; omega) ok.many.2 gd.2.1 gd.2.2
    have hT : (W.roles.take (i + 1)).map (·.1) = (W.roles.take i).map (·.1) ++ [e.1] := by rw [List.take_add_one, he, List.map_append]; rfl
    have lrs : rps.length ≤ 50 := by
      have h1 := srs.length_le
      rw [List.length_map, List.length_map, List.length_take] at h1
      have := hrs.length
      have := ok.roles.2.2
      omega
    refine ⟨qa, _, rfl, (o3.stay D).tup h1, rfl, .str e.1, _, rfl, .ref t, [], rfl, rfl, ?_⟩
    have sq2 : ∀ {X : Hp}, Off d l H X → SqT K X t (qs.map V.ref) := fun o => (o.stay D).tup h2
    refine ⟨.ref t, rfl, t, rfl, ⟨_, sq2 o3⟩, fun D' nD => ?_⟩
    obtain ⟨D'd, D'l⟩ := D3.off nD
    refine lc_tup (K := K) (a := t) (xs := qs.map V.ref) (fun j X => ∃ (ks : List Addr) (es : List (Int × Int)), X D' = some (.lst (ks.map V.ref)) ∧ Paired (PrE K X) ks es ∧ es.Sublist (e.2.take j) ∧ Off d l G X ∧ Deck X d l)
      ⟨[], [], upd_same, .nil, .slnil, off_new nD, D3.new nD⟩ (fun j X _ z => ?_) (fun j y X hy z => ?_) (fun X z => ?_)
    · obtain ⟨_, _, _, _, _, oX, _⟩ := z
      exact sq2 (o3.trans oX)
    · obtain ⟨ks, es, gX, hks, ses, oX, DX⟩ := z
      obtain ⟨qb, hqb, rfl⟩ : ∃ qb, qs[j]? = some qb ∧ V.ref qb = y := by
        rw [List.getElem?_map] at hy
        exact Option.map_eq_some_iff.mp hy
      obtain ⟨p, hp2, h4⟩ := getP h3 hqb
      have hT2 : e.2.take (j + 1) = e.2.take j ++ [p] := by rw [List.take_add_one, hp2]; rfl
      refine ⟨rfl, .ref d, rfl, d, l, 3, rfl, DX, by omega, by omega, fun c X2 c0 c1 o5 D5 => ⟨_, _, rfl, rfl, _, rfl, ite2 (fun _ => ?_) (fun _ => ?_)⟩⟩
      · have g2 := o5 _ _ D'd D'l gX
        have stm : Stay X2 (upd X2 D' (.lst (ks.map V.ref ++ [.ref qb]))) := stay_mut (by rw [g2]; trivial)
        refine ⟨.ref qb, rfl, _, g2, ?_, ks ++ [qb], es ++ [p], ?_, ?_, ?_, (oX.trans o5).mut nD, D5.mut D'd D'l⟩
        · have h1 := ses.length_le
          rw [List.length_take] at h1
          rw [List.length_map, hks.length]
          exact Nat.lt_of_le_of_lt (show es.length ≤ 36 by omega) (by decide)
        · rw [upd_same, List.map_append]
          rfl
        · exact snoc (Paired.mapP hks fun _ _ z => pre_st stm (pre_st (o5.stay DX) z)) (pre_st stm (pre_st (((o3.trans oX).trans o5).stay D) h4))
        · rw [hT2]
          exact ses.append (List.Sublist.refl _)
      · refine ⟨ks, es, o5 _ _ D'd D'l gX, Paired.mapP hks fun _ _ z => pre_st (o5.stay DX) z, ?_, oX.trans o5, D5⟩
        rw [hT2]
        exact ses.trans (List.sublist_append_left _ _)
    obtain ⟨ks, es, gX, hks, ses, oX, DX⟩ := z
    rw [List.take_of_length_le (by rw [List.length_map, h3.length]; exact Nat.le_refl _)] at ses
    refine ⟨D', _, rfl, .inl ⟨lst_of gX, fun tp ntp => ?_⟩⟩
    have oY : Off d l G (upd X tp (.tup (ks.map V.ref))) := oX.trans (off_new ntp)
    have DY := DX.new (o := .tup (ks.map V.ref)) ntp
    have gtp : (upd X tp (.tup (ks.map V.ref))) tp = some (.tup (ks.map V.ref)) := upd_same
    have hksY := Paired.mapP hks fun _ _ z => pre_st (stay_new (o := .tup (ks.map V.ref)) ntp) z
    generalize upd X tp (.tup (ks.map V.ref)) = Y at oY DY gtp hksY ⊢
    clear gX oX DX ntp hks
    have oHY := o3.trans oY
    have grY := oY _ _ rd rl gr
    have hrsY := Paired.mapP hrs fun _ _ z => rle_st (oY.stay D3) z
    -- if kept != ()
    refine ⟨.ref tp, rfl, Nat.zero_le _, fun u nu => ⟨.tuple (es.map prD), .tuple [], .tup (tupOf ((upd_ne (ne_of_none gtp nu)).trans gtp)) (Dts.dp _ _ (dts_prs (Paired.mapP hksY fun _ _ z => pre_st (stay_new nu) z))), .tup (tupOf upd_same) .nil, shaped_tprs es, shaped_tnil, _, rfl, ?_⟩⟩
    rw [tpr_ne]
    have s1 := same_up (o := .tup []) nu
    cases hes : es with
    | nil =>
      refine iteF ⟨rps, rs, _, _, _, _, rfl, oHY.trans s1.off, DY.same s1, s1 _ _ grY, Paired.mapP hrsY fun _ _ z => rle_st (Tl.Same.stay s1) z, ?_, few⟩
      rw [hT]
      exact srs.trans (List.sublist_append_left _ _)
    | cons x0 xr =>
      rw [← hes, show (!es.isEmpty) = true by rw [hes]; rfl]
      refine iteT ⟨.ref r, rfl, .inl ⟨rfl, _, lst_of (s1 _ _ grY)⟩, .str e.1, rfl, .ref tp, rfl, by show 2 ≤ sizeLine; decide, fun u2 nu2 => ?_⟩
      have s2 := same_add s1 (o := .tup [.str e.1, .ref tp]) nu2
      have gr2 := s2 _ _ grY
      refine ⟨r, _, _, rfl, rfl, gr2, by rw [List.length_map]; exact Nat.lt_of_le_of_lt lrs (by decide), ?_⟩
      have stm : Stay (upd (upd Y u (.tup [])) u2 (.tup [.str e.1, .ref tp])) (upd (upd (upd Y u (.tup [])) u2 (.tup [.str e.1, .ref tp])) r (.lst (rps.map V.ref ++ [.ref u2]))) := stay_mut (by rw [gr2]; trivial)
      have st := (Tl.Same.stay s2).trans stm
      refine ⟨rps ++ [u2], rs ++ [(e.1, es)], _, _, _, _, rfl, (oHY.trans s2.off).mut nr, (DY.same s2).mut rd rl, by rw [upd_same, List.map_append] <;> rfl, ?_, ?_, fun f hf => ?_⟩
      · exact snoc (Paired.mapP hrsY fun _ _ z => rle_st st z) ⟨tp, tupOf (stm _ _ upd_same (.inl ⟨_, rfl⟩)), ks, tupOf (st _ _ gtp (.inl ⟨_, rfl⟩)), Paired.mapP hksY fun _ _ z => pre_st st z⟩
      · rw [hT, List.map_append]
        exact srs.append (List.Sublist.refl _)
      · rcases List.mem_append.mp hf with hf | hf
        · exact few f hf
        · rw [List.mem_singleton.mp hf]
          exact ⟨by rw [hes]; exact List.cons_ne_nil _ _, e, me, rfl, ses⟩
  · obtain ⟨rps, rs, t3, t4, t5, t6, rfl, o3, D3, gr, hrs, srs, few⟩ := z
    rw [List.take_of_length_le (by rw [List.length_map, hp.length]; exact Nat.le_refl _)] at srs
    -- world[:2] + (tuple(roles),)
    refine ⟨.ref a1, rfl, ?_⟩
    dsimp only [tNoPart]
    refine ⟨2, rfl, a1, _, rfl, (o3.stay D).tup ha, ?_, fun b nb => ?_⟩
    · show ¬ (HT.sIx 3 0 none = 0 ∧ HT.sIx 3 3 (some 2) = 3)
      decide
    have eb : cutV [V.int W.many, .ref n1, .ref r1] none (some 2) = [.int W.many, .ref n1] := rfl
    rw [eb]
    have s1 := same_up (o := .tup [.int W.many, .ref n1]) nb
    refine ⟨.ref r, rfl, r, _, rfl, lst_of (s1 _ _ gr), fun c oc nc noc => ⟨by show 1 ≤ sizeLine; decide, fun t nt => ?_⟩⟩
    have s2 := same_add s1 (o := .frz oc (.tup (rps.map V.ref))) nc
    have s3 := same_add s2 (o := .tup [.ref c]) nt
    have sb : L2.Same (upd G b (.tup [.int W.many, .ref n1])) (upd (upd (upd G b (.tup [.int W.many, .ref n1])) c (.frz oc (.tup (rps.map V.ref)))) t (.tup [.ref c])) := same_add (same_up nc) nt
    have gb := sb _ _ upd_same
    have gc : (upd (upd (upd G b (.tup [.int W.many, .ref n1])) c (.frz oc (.tup (rps.map V.ref)))) t (.tup [.ref c])) c = some (.frz oc (.tup (rps.map V.ref))) := (same_up nt) _ _ upd_same
    refine ⟨b, t, [.int W.many, .ref n1], [.ref c], rfl, rfl, tupOf gb, tupOf upd_same, List.cons_ne_nil _ _, by show 3 ≤ sizeLine; decide, (fun z => by cases z), fun _ p np => ?_⟩
    have s4 := same_add s3 (o := .tup ([.int W.many, .ref n1] ++ [.ref c])) np
    have st4 := Tl.Same.stay s4
    exact q _ ⟨W.many, W.names, rs⟩ _ ⟨p, n1, c, rfl, tupOf upd_same, names_st ((o3.stay D).trans st4) hN, rps, ⟨oc, (upd_ne (ne_of_none gc np)).trans gc, noc⟩, Paired.mapP hrs fun _ _ z => rle_st st4 z⟩ (few_ok ok few srs) rfl rfl (fun r x z h => few_tied ok few h) (o3.trans s4.off) (D3.same s4)
end
end K24
set_option Elab.async false
set_option linter.all false
set_option autoImplicit false
set_option maxRecDepth 100000
set_option maxHeartbeats 4000000
namespace K24
open PySem PySem.Spec PyProof.Rows L2 Tl
/-! rows of names in a dict, one put in, and in order -/
section
variable {α : Type}
def putN (nm : List (Str × α)) (x : Str) (y : α) : List (Str × α) := if (nm.any fun e => decide (e.1 = x)) = true then nm.map (fun e => if e.1 = x then (e.1, y) else e) else nm ++ [(x, y)]
theorem any_inr {R : Addr → α → Prop} {kvs : List (Key × V)} {nm : List (Str × α)} (h : Paired (Ent R) kvs nm) (x : Str) : (kvs.any fun kv => decide (kv.1 = Sum.inr x)) = nm.any fun e => decide (e.1 = x) := by
  induction h with
  | nil => rfl
  | @cons kv e kvs nm r _ ih =>
    rw [List.any_cons, List.any_cons, ih]
    congr 1
    rw [r.1, decide_eq_decide]
    exact ⟨fun z => Sum.inr.inj z, fun z => by rw [z]⟩
theorem map_inr {R : Addr → α → Prop} {kvs : List (Key × V)} {nm : List (Str × α)} (h : Paired (Ent R) kvs nm) {x : Str} {t : Addr} {y : α} (r0 : R t y) :
    Paired (Ent R) (kvs.map fun kv => if kv.1 = Sum.inr x then (kv.1, V.ref t) else kv) (nm.map fun e => if e.1 = x then (e.1, y) else e) := by
  induction h with
  | nil => exact .nil
  | @cons kv e kvs nm r _ ih =>
    rw [List.map_cons, List.map_cons]
    refine .cons ?_ ih
    by_cases z : e.1 = x
    · rw [if_pos z, if_pos (by rw [r.1, z])]
      exact ⟨r.1, t, rfl, r0⟩
    · rw [if_neg z, if_neg (fun q => z (by rw [r.1] at q; exact Sum.inr.inj q))]
      exact r
theorem ent_put {R : Addr → α → Prop} {kvs : List (Key × V)} {nm : List (Str × α)} (h : Paired (Ent R) kvs nm) {x : Str} {t : Addr} {y : α} (r0 : R t y) : Paired (Ent R) (putK kvs (.inr x) (.ref t)) (putN nm x y) := by
  unfold putK putN
  rw [any_inr h]
  by_cases z : (nm.any fun e => decide (e.1 = x)) = true
  · rw [if_pos z, if_pos z]
    exact map_inr h r0
  · rw [if_neg z, if_neg z]
    exact snoc h ⟨rfl, t, rfl, r0⟩
theorem putN_keys (nm : List (Str × α)) (x : Str) (y : α) : (putN nm x y).map (·.1) = if (nm.any fun e => decide (e.1 = x)) = true then nm.map (·.1) else nm.map (·.1) ++ [x] := by
  unfold putN
  by_cases z : (nm.any fun e => decide (e.1 = x)) = true
  · rw [if_pos z, if_pos z, List.map_map]
    refine List.map_congr_left fun e _ => ?_
    show (if e.1 = x then (e.1, y) else e).1 = e.1
    by_cases q : e.1 = x
    · rw [if_pos q]
    · rw [if_neg q]
  · rw [if_neg z, if_neg z, List.map_append]
    rfl
theorem putN_nodup {nm : List (Str × α)} (h : (nm.map (·.1)).Nodup) (x : Str) (y : α) : ((putN nm x y).map (·.1)).Nodup := by
  rw [putN_keys]
  by_cases z : (nm.any fun e => decide (e.1 = x)) = true
  · rw [if_pos z]
    exact h
  · rw [if_neg z, List.nodup_append]
    refine ⟨h, by simp, fun a ha b hb e => z ?_⟩
    rw [List.mem_singleton.mp hb] at e
    obtain ⟨p, hp, q⟩ := List.mem_map.mp ha
    exact List.any_eq_true.mpr ⟨p, hp, decide_eq_true (q.trans e)⟩
theorem putN_len (nm : List (Str × α)) (x : Str) (y : α) : (putN nm x y).length ≤ nm.length + 1 := by
  unfold putN
  by_cases z : (nm.any fun e => decide (e.1 = x)) = true
  · rw [if_pos z, List.length_map]
    exact Nat.le_succ _
  · rw [if_neg z, List.length_append]
    exact Nat.le_refl _
theorem putN_mem {nm : List (Str × α)} {x : Str} {y : α} {e : Str × α} (h : e ∈ putN nm x y) : e ∈ nm ∨ e = (x, y) := by
  unfold putN at h
  by_cases z : (nm.any fun e => decide (e.1 = x)) = true
  · rw [if_pos z] at h
    obtain ⟨p, hp, rfl⟩ := List.mem_map.mp h
    by_cases q : p.1 = x
    · rw [if_pos q, q]
      exact .inr rfl
    · rw [if_neg q]
      exact .inl hp
  · rw [if_neg z] at h
    rcases List.mem_append.mp h with h | h
    · exact .inl h
    · exact .inr (List.mem_singleton.mp h)
theorem putN_in {nm : List (Str × α)} {x : Str} {y : α} : (x, y) ∈ putN nm x y := by
  unfold putN
  by_cases z : (nm.any fun e => decide (e.1 = x)) = true
  · rw [if_pos z]
    obtain ⟨p, hp, q⟩ := List.any_eq_true.mp z
    have q := of_decide_eq_true q
    exact List.mem_map.mpr ⟨p, hp, by rw [if_pos q, q]⟩
  · rw [if_neg z]
    exact List.mem_append_right _ List.mem_cons_self
theorem putN_old {nm : List (Str × α)} {x : Str} {y : α} {e : Str × α} (h : e ∈ nm) (ne : e.1 ≠ x) : e ∈ putN nm x y := by
  unfold putN
  by_cases z : (nm.any fun e => decide (e.1 = x)) = true
  · rw [if_pos z]
    exact List.mem_map.mpr ⟨e, h, by rw [if_neg ne]⟩
  · rw [if_neg z]
    exact List.mem_append_left _ h
theorem look_none {nm : List (Str × α)} {x : Str} {y : α} (h : look nm x = none) : (x, y) ∉ nm := fun z => by
  unfold look at h
  rw [Option.map_eq_none_iff, List.find?_eq_none] at h
  exact h _ z (decide_eq_true rfl)
/-- all that a row has, the other's row has too -/
def Grow (nm nm' : List (Str × List Int)) : Prop := ∀ x xs, (x, xs) ∈ nm → ∃ ys, (x, ys) ∈ nm' ∧ ∀ i ∈ xs, i ∈ ys
theorem Grow.refl (nm : List (Str × List Int)) : Grow nm nm := fun x xs h => ⟨xs, h, fun _ z => z⟩
theorem Grow.trans {a b c : List (Str × List Int)} (h : Grow a b) (k : Grow b c) : Grow a c := fun x xs z => by
  obtain ⟨ys, h1, h2⟩ := h x xs z
  obtain ⟨zs, h3, h4⟩ := k x ys h1
  exact ⟨zs, h3, fun i hi => h4 i (h2 i hi)⟩
theorem grow_put {nm : List (Str × List Int)} (nd : (nm.map (·.1)).Nodup) {x : Str} {ys : List Int} (h : ∀ i ∈ (look nm x).getD [], i ∈ ys) : Grow nm (putN nm x ys) := fun z zs hz => by
  by_cases e : z = x
  · subst e
    refine ⟨ys, putN_in, fun i hi => h i ?_⟩
    rw [look_of nd hz]
    exact hi
  · exact ⟨zs, putN_old hz e, fun _ q => q⟩
theorem grow_nmO {W V : Wd} (ok : WOk W) (kk : WOk V) (h : Grow W.names V.names) {x : Int} {n : Str} (hn : n ∈ nmO W x) : n ∈ nmO V x := by
  rw [mem_nmO kk]
  rw [mem_nmO ok] at hn
  unfold lookN at hn ⊢
  cases hl : look W.names n with
  | none =>
    rw [hl] at hn
    cases hn
  | some xs =>
    rw [hl] at hn
    obtain ⟨ys, h1, h2⟩ := h n xs (look_mem hl)
    rw [look_of (sl_nodup kk.names.1) h1]
    exact h2 x hn
/-- the names as data -/
abbrev nmD (e : Str × List Int) : PyData := rowD (fun e : Str × List Int => e.1) (fun e => .tuple (e.2.map PyData.int)) e
theorem cmp_ints : ∀ xs ys : List Int, cmpAll (xs.map PyData.int) (ys.map PyData.int) = true
  | [], _ => by simp [cmpAll]
  | _ :: _, [] => by simp [cmpAll]
  | x :: xs, y :: ys => by
    rw [List.map_cons, List.map_cons, cmpAll, cmp_ints xs ys, cmpb]
    simp
theorem plain_ints : ∀ xs : List Int, PyData.plainAll (xs.map PyData.int) = true
  | [] => by simp [PyData.plainAll]
  | x :: xs => by
    rw [List.map_cons, PyData.plainAll, plain_ints xs, PyData.plain]
    rfl
theorem inv_ints {K : PySem.W.Frag} {H : Hp} : ∀ {ns : List Int} {xs : List V}, Dts K H xs (ns.map PyData.int) → xs = ns.map V.int
  | [], _, h => by cases h; rfl
  | n :: ns, _, h => by
    cases h with
    | cons h1 h2 =>
      cases h1
      rw [inv_ints h2, List.map_cons]
theorem inv_names {K : PySem.W.Frag} {H : Hp} : ∀ {nm : List (Str × List Int)} {xs : List V}, Dts K H xs (nm.map nmD) → ∃ ps : List Addr, xs = ps.map V.ref ∧ Paired (NmE K H) ps nm
  | [], _, h => by cases h; exact ⟨[], rfl, .nil⟩
  | e :: nm, _, h => by
    cases h with
    | cons h1 h2 =>
      obtain ⟨ps, rfl, hp⟩ := inv_names h2
      cases h1 with
      | @tup a us _ sq ds =>
        cases ds with
        | cons d1 d2 =>
          cases d1
          cases d2 with
          | cons d3 d4 =>
            cases d4
            cases d3 with
            | @tup t ws _ sq2 ds2 =>
              rw [inv_ints ds2] at sq2
              exact ⟨a :: ps, rfl, .cons ⟨t, sq, sq2⟩ hp⟩
theorem ent_data {K : PySem.W.Frag} {H : Hp} {kvs : List (Key × V)} {nm : List (Str × List Int)} (h : Paired (Ent fun t xs => SqT K H t (xs.map V.int)) kvs nm) : Paired (EntD K H) kvs (nm.map nmD) := by
  induction h with
  | nil => exact .nil
  | @cons kv e kvs nm r _ ih =>
    obtain ⟨h1, t, h2, h3⟩ := r
    refine .cons ⟨.str e.1, .tuple (e.2.map PyData.int), rfl, ?_, ?_⟩ ih
    · rw [h1]
      exact .str e.1
    · rw [h2]
      exact .tup h3 (dts_ints e.2)
end
end K24
set_option Elab.async false
set_option linter.all false
set_option autoImplicit false
set_option maxRecDepth 100000
set_option maxHeartbeats 4000000
namespace K24
open PySem PySem.Spec PyProof.Rows L2 Tl
open C8 (Cal pe_c)
theorem lint_ne (ns : List Int) : (!PyData.eqv (.list (ns.map PyData.int)) (.list [])) = !ns.isEmpty := by
  cases ns <;> simp [PyData.eqv, PyData.eqvAll]
def spMoreN (K : PySem.W.Frag) : Sp := fun vs H Q _ => ∃ (d l : Addr) (v : V) (W : Wd), vs = [.ref d, v] ∧ Deck H d l ∧ IsWd K H v W ∧ WOk W ∧ W.names.length ≤ 40 ∧
  ∀ (v' : V) (W' : Wd) (H' : Hp), IsWd K H' v' W' → WOk W' → W'.many = W.many → W'.roles = W.roles → Grow W.names W'.names → Off d l H H' → Deck H' d l → Q v' H'
abbrev NtR (K : PySem.W.Frag) (H : Hp) : Addr → List Int → Prop := fun t xs => SqT K H t (xs.map V.int)
theorem ntr_st {K : PySem.W.Frag} {H H' : Hp} (s : Stay H H') {kv : Key × V} {e : Str × List Int} (h : Ent (NtR K H) kv e) : Ent (NtR K H') kv e := by
  obtain ⟨h1, t, h2, h3⟩ := h
  exact ⟨h1, t, h2, s.tup h3⟩
section
variable {P : Program} {w : World} {K : PySem.W.Frag} {mg : Str → Option Value} {base : Heap}
theorem cLawMoreNames (T : Txt K mg) : Cal P w K mg base 3 "_law_more_names" (spMoreN K) [] := by
  refine cal_of T.lawMoreNames scLawMoreNames (fun _ _ _ _ _ _ us hl => match us, hl with | [_, _], _ => rfl) (fun vs H Q E h => ?_) (fun f cdv A outer s H vs Q E hr h => ?_)
  · obtain ⟨d, l, v, W, rfl, _⟩ := h
    rfl
  obtain ⟨d, l, v, W, rfl, D, hW, ok, l40, q⟩ := h
  have hu64 := hr.units
  have hu := hu_of hr
  refine ⟨_, (pss_cons (ps_set (i := 2) scLawMoreNames.nd rfl (.inl rfl) (pe_callTy (call_dictP rfl) (by rfl) T.dict (by decide +kernel) (pa_cons (pe_callTy call_list_of (by rfl) T.list (by decide +kernel) (pa_cons (pe_ix ix_tup (pv 1) pe_int (fun _ _ => rfl)) pa_nil)) pa_nil)))
 (pss_cons (ps_for PassesOwn.never rfl (pi_tup (pe_tup (pa_cons pe_str (pa_cons pe_str (pa_cons pe_str pa_nil))))) (pg_name (i := 3) scLawMoreNames.nd rfl (.inl rfl))
 (pss_cons (ps_set (i := 4) scLawMoreNames.nd rfl (.inl rfl) (pe_callB (cr_sortedSet rfl) (by rfl) T.sorted (by decide +kernel) (pa_cons (pe_callTy (cr_setI rfl) (by rfl) T.set (by decide +kernel) (pa_cons (pe_op op_cat (pe_callTy call_list_of (by rfl) T.list (by decide +kernel) (pa_cons (pe_dget2 hu (pv 2) (pv 3) (pe_tup pa_nil) ⟨rfl, rfl, rfl, rfl⟩) pa_nil)) (pe_lc (own := [("x", 5)]) (by rfl) scLawMoreNames.nd (pi_range1 rfl T.range (pa_cons (pe_ix ix_tup (pv 1) pe_int (fun _ _ => rfl)) pa_nil)) (blkOk_by (own := [("x", 5)]) (N := ["deck", "world", "names", "name", "things", "x"]) (sc := defScope sLawMoreNames) (by decide +kernel)) (fun _ _ _ _ _ => (pg_name (i := 5) scLawMoreNames.nd rfl (.inl rfl))) (fun _ _ _ _ _ => pts_one (pt_cmpR op_eq (pe_c (cLawDraw T) hr (by decide) rfl (pa_cons (pv 0) (pa_cons pe_int pa_nil))) pe_int (nomark _))) (fun _ _ _ _ _ => (pv 5)))) pa_nil)) pa_nil)))
 (pss_one (ps_if (pt_cmpR (op_neD hu64) (pv 4) (pe_lst pa_nil) (nomark _))
 (pss_one (ps_dput hu (pv 2) (pv 3) (pe_callTy call_tuple_of (by rfl) T.tuple (by decide +kernel) (pa_cons (pv 4) pa_nil)) rfl))
 pss_nil))))
 (pss_one (ps_ret (pe_tup (pa_cons (pe_ix ix_tup (pv 1) pe_int (fun _ _ => rfl)) (pa_cons (pe_callTy cr_tupF (by rfl) T.tuple (by decide +kernel) (pa_cons (pe_callB (cr_sortItD rfl hu64) (by rfl) T.sorted (by decide +kernel) (pa_cons (pe_bm0 PySem.F.plainAttrs_dict PySem.F.slot_dict_items PySem.F.type_dict_items mt_itemsK (pv 2)) pa_nil)) pa_nil)) (pa_cons (pe_ix ix_tup (pv 1) pe_int (fun _ _ => rfl)) pa_nil)))))))), ?_⟩
  have okm := ok.many
  obtain ⟨a1, n1, r1, rfl, ha, ⟨ps, hf, hp⟩, hR⟩ := hW
  have sq := rd_of_frz (K := K) hf
  obtain ⟨kvs, hk1, hk2⟩ := ent_of_names hp
  -- names = dict(list(world[1]))
  refine ⟨.ref a1, rfl, a1, _, 1, .ref n1, rfl, rfl, ha, atI_nat (j := 1) rfl, n1, _, rfl, .inr sq, fun l1 nl1 => ?_⟩
  have s1 := same_up (o := .lst (ps.map V.ref)) nl1
  refine ⟨l1, ps, kvs, rfl, lst_of upd_same, Paired.mapP hk1 fun _ _ z => (Tl.Same.stay s1).tup z, fun dn ndn => ?_⟩
  rw [merged_ent hk2 ok.names.1]
  have s2 := same_add s1 (o := .dK kvs) ndn
  have gdn0 : (upd (upd H l1 (.lst (ps.map V.ref))) dn (.dK kvs)) dn = some (.dK kvs) := upd_same
  have ndH : H dn = none := s1.free ndn
  generalize upd (upd H l1 (.lst (ps.map V.ref))) dn (.dK kvs) = G0 at s2 gdn0 ⊢
  obtain ⟨dnd, dnl⟩ := D.off ndH
  have hk0 := Paired.mapP hk2 fun _ _ z => ntr_st (Tl.Same.stay s2) z
  -- for name in ("a", "b", "cc")
  refine ⟨by show 3 ≤ sizeLine; decide, fun tn ntn => ⟨tn, rfl, ⟨_, tupOf upd_same⟩, ?_⟩⟩
  have sT := same_add s2 (o := .tup [.str "a", .str "b", .str "cc"]) ntn
  have wordsN : ∀ x ∈ wsN, isW x = true := words_ok (by decide +kernel)
  refine for_tup (K := K) (a := tn) (xs := wsN.map V.str) (fun i σ G => ∃ (kvs : List (Key × V)) (nm : List (Str × List Int)) (t3 t4 t5 : Option V), σ = [some (.ref d), some (.ref a1), some (.ref dn), t3, t4, t5] ∧
      Off d l H G ∧ Deck G d l ∧ G dn = some (.dK kvs) ∧ SqT K G tn (wsN.map V.str) ∧ Paired (Ent (NtR K G)) kvs nm ∧ (nm.map (·.1)).Nodup ∧ (∀ e ∈ nm, isW e.1 = true ∧ GoodN W.many e.2) ∧ nm.length ≤ W.names.length + i ∧ Grow W.names nm)
    ⟨kvs, W.names, _, _, _, rfl, sT.off, D.same sT, (upd_ne (ne_of_none gdn0 ntn)).trans gdn0, tupOf upd_same, Paired.mapP hk0 fun _ _ z => ntr_st (stay_new ntn) z, sl_nodup ok.names.1, ok.names.2.1, Nat.le_refl _, Grow.refl _⟩
    (fun i σ G _ z => ?_) (fun i x σ G hx z => ?_) (fun σ G z => ?_)
  · obtain ⟨_, _, _, _, _, _, _, _, _, z, _⟩ := z
    exact z
  · obtain ⟨kvs, nm, t3, t4, t5, rfl, o3, D3, gd, gt, hnm, nd, good, len, gr⟩ := z
    obtain ⟨word, hw, rfl⟩ : ∃ u, wsN[i]? = some u ∧ x = V.str u := by
      rw [List.getElem?_map] at hx
      obtain ⟨u, h, e⟩ := Option.map_eq_some_iff.mp hx
      exact ⟨u, h, e.symm⟩
    have hi : i < wsN.length := (List.getElem?_eq_some_iff.mp hw).1
    have hi : i < 3 := hi
    have isw := wordsN word (List.mem_of_getElem? hw)
    have lkv := hnm.length
    -- the old things
    refine ⟨.ref dn, rfl, dn, rfl, .inl ⟨kvs, .inl gd⟩, .str word, rfl, Nat.zero_le _, fun z nz => ?_⟩
    have gz : (upd G z (.tup [])) dn = some (.dK kvs) := (upd_ne (ne_of_none gd nz)).trans gd
    obtain ⟨old, hold, y, hy, hyS⟩ : ∃ old : List Int, (look nm word).getD [] = old ∧ ∃ y : Addr, (valV kvs (.inr word)).getD (.ref z) = .ref y ∧ SqT K (upd G z (.tup [])) y (old.map V.int) := by
      rcases ent_look hnm word with ⟨e1, e2⟩ | ⟨t, xs, e1, e2, ht⟩
      · exact ⟨[], by rw [e2]; rfl, z, by rw [e1]; rfl, tupOf upd_same⟩
      · exact ⟨xs, by rw [e2]; rfl, t, by rw [e1]; rfl, (stay_new nz).tup ht⟩
    have oldg : old.Pairwise (· < ·) ∧ ∀ x ∈ old, 0 ≤ x ∧ x < W.many := by
      rw [← hold]
      cases hl : look nm word with
      | none => exact ⟨List.Pairwise.nil, fun x hx => nomatch hx⟩
      | some xs =>
        have := (good _ (look_mem hl)).2
        exact ⟨this.2.1, this.2.2⟩
    have oldl : old.length ≤ 6 := by
      have := asc_len old 0 W.many oldg.1 oldg.2
      omega
    refine ⟨_, DGet.k (k := .inr word) gz, ?_⟩
    rw [hy]
    refine ⟨y, _, rfl, .inr hyS, fun l2 nl2 => ?_⟩
    have sZ := same_up (o := .tup []) nz
    have s3 := same_add sZ (o := .lst (old.map V.int)) nl2
    have D4 := D3.same s3
    have gl2 : (upd (upd G z (.tup [])) l2 (.lst (old.map V.int))) l2 = some (.lst (old.map V.int)) := upd_same
    have nl2G : G l2 = none := sZ.free nl2
    generalize upd (upd G z (.tup [])) l2 (.lst (old.map V.int)) = G4 at s3 D4 gl2 ⊢
    obtain ⟨l2d, l2l⟩ := D3.off nl2G
    -- the new ones
    refine ⟨.ref a1, rfl, a1, _, 0, .int W.many, rfl, rfl, ((o3.trans s3.off).stay D).tup ha, atI_nat (j := 0) rfl, W.many, rfl, by omega, by omega, fun D' nD => ?_⟩
    obtain ⟨D'd, D'l⟩ := D4.off nD
    refine lc_range (lo := 0) (n := W.many.toNat) (fun i X => ∃ xs : List Int, X D' = some (.lst (xs.map V.int)) ∧ Off d l G4 X ∧ Deck X d l ∧ (∀ x ∈ xs, 0 ≤ x ∧ x < (i : Int)) ∧ xs.length ≤ i)
      ⟨[], upd_same, off_new nD, D4.new nD, (fun x hx => nomatch hx), Nat.zero_le _⟩ (fun i X hi z => ?_) (fun X z => ?_)
    · obtain ⟨xs, gX, oX, DX, bnd, len⟩ := z
      refine ⟨rfl, .ref d, rfl, d, l, 4, rfl, DX, by omega, by omega, fun j X2 j0 j1 o5 D5 => ⟨rfl, _, rfl, ite2 (fun _ => ?_) (fun _ => ?_)⟩⟩
      · refine ⟨_, rfl, _, o5 _ _ D'd D'l gX, ?_, xs ++ [0 + (i : Int)], ?_, (oX.trans o5).mut nD, D5.mut D'd D'l, fun x hx => ?_, ?_⟩
        · rw [List.length_map]
          exact Nat.lt_of_le_of_lt len (Nat.lt_of_lt_of_le (show i < 100 by omega) (by decide))
        · rw [upd_same, List.map_append] <;> rfl
        · rcases List.mem_append.mp hx with hx | hx
          · have := bnd x hx
            omega
          · rw [List.mem_singleton.mp hx]
            omega
        · rw [List.length_append]
          show xs.length + 1 ≤ i + 1
          omega
      · exact ⟨xs, o5 _ _ D'd D'l gX, oX.trans o5, D5, fun x hx => by have := bnd x hx; omega, by omega⟩
    obtain ⟨xs, gX, oX, DX, bnd, lenx⟩ := z
    -- sorted(set(..))
    refine ⟨l2, D', _, _, rfl, rfl, oX _ _ l2d l2l gl2, gX, by rw [List.length_map, List.length_map]; exact Nat.le_trans (show _ ≤ 100 by omega) (by decide), fun r nr => ?_⟩
    rw [← List.map_append]
    have sA := same_up (o := .lst ((old ++ xs).map V.int)) nr
    refine ⟨r, old ++ xs, rfl, .inl (lst_of upd_same), by rw [List.length_append]; omega, fun a c hc na => ?_⟩
    have lox : (old ++ xs).length ≤ 12 := by rw [List.length_append]; omega
    generalize hS : SetO (cxOf CX0 P w K mg base ["deck", "world", "names", "name", "things", "x"] "_law_more_names" (defScope sLawMoreNames) f cdv A outer s H E).nox.w a (fun j => decide (j ∈ old ++ xs)) c = So
    have sB := same_add sA (o := So) na
    refine ⟨a, fun j => decide (j ∈ old ++ xs), c, rfl, upd_same.trans (congrArg some hS.symm), by omega, fun zs p asc mem lz np => ?_⟩
    have sC := same_add sB (o := .lst (zs.map V.int)) np
    have gp : (upd (upd (upd X r (.lst ((old ++ xs).map V.int))) a So) p (.lst (zs.map V.int))) p = some (.lst (zs.map V.int)) := upd_same
    generalize upd (upd (upd X r (.lst ((old ++ xs).map V.int))) a So) p (.lst (zs.map V.int)) = Y at sC gp ⊢
    have memz : ∀ k : Int, k ∈ zs ↔ k ∈ old ++ xs := fun k => by rw [mem k, decide_eq_true_eq]
    have zr : ∀ k ∈ zs, 0 ≤ k ∧ k < W.many := fun k hk => by
      rcases List.mem_append.mp ((memz k).mp hk) with h | h
      · exact oldg.2 k h
      · have := bnd k h
        omega
    have oGY := (s3.off.trans oX).trans sC.off
    have oHY := o3.trans oGY
    have DY := DX.same sC
    have gdY : Y dn = some (.dK kvs) := oGY _ _ dnd dnl gd
    have gtY := oGY.tup (K := K) D3 gt
    have hnmY := Paired.mapP hnm fun _ _ z => ntr_st (oGY.stay D3) z
    clear oX DX sC gX nr na np sA sB
    -- if things != []
    refine ⟨.ref p, rfl, Nat.zero_le _, fun u nu => ⟨.list (zs.map PyData.int), .list [], .lst (lst_of ((upd_ne (ne_of_none gp nu)).trans gp)) (dp_ints zs), .lst (lst_of upd_same) .nil, shaped_ints zs, shaped_nil, _, rfl, ?_⟩⟩
    rw [lint_ne]
    have sU := same_up (o := .lst []) nu
    cases hz : zs with
    | nil =>
      exact iteF ⟨kvs, nm, _, _, _, rfl, oHY.trans sU.off, DY.same sU, sU _ _ gdY, (Tl.Same.stay sU).tup gtY, Paired.mapP hnmY fun _ _ z => ntr_st (Tl.Same.stay sU) z, nd, good, by omega, gr⟩
    | cons z0 zt =>
      rw [← hz, show (!zs.isEmpty) = true by rw [hz]; rfl]
      refine iteT ⟨.ref p, rfl, p, _, rfl, .inl ⟨lst_of (sU _ _ gp), fun tp ntp => ⟨.ref dn, rfl, .str word, rfl, ?_⟩⟩⟩
      have sV := same_add sU (o := .tup (zs.map V.int)) ntp
      have gdV := sV _ _ gdY
      refine ⟨dn, _, rfl, DPut.k (k := .inr word) gdV ?_, ?_⟩
      · rw [lkv]
        exact Nat.lt_of_le_of_lt (show nm.length ≤ 50 by omega) (by decide)
      have stm : Stay (upd (upd Y u (.lst [])) tp (.tup (zs.map V.int))) (upd (upd (upd Y u (.lst [])) tp (.tup (zs.map V.int))) dn (.dK (putK kvs (.inr word) (.ref tp)))) := stay_mut (by rw [gdV]; trivial)
      have st := (Tl.Same.stay sV).trans stm
      refine ⟨putK kvs (.inr word) (.ref tp), putN nm word zs, _, _, _, rfl, (oHY.trans sV.off).mut ndH, (DY.same sV).mut dnd dnl, upd_same, st.tup gtY, ?_, putN_nodup nd _ _, fun e he => ?_, ?_, gr.trans (grow_put nd fun i hi => ?_)⟩
      · exact ent_put (Paired.mapP hnmY fun _ _ z => ntr_st st z) (tupOf (stm _ _ upd_same (.inl ⟨_, rfl⟩)))
      · rcases putN_mem he with he | rfl
        · exact good e he
        · exact ⟨isw, by rw [hz]; exact List.cons_ne_nil _ _, asc, zr⟩
      · have := putN_len nm word zs
        omega
      · rw [hold] at hi
        exact (memz i).mpr (List.mem_append_left _ hi)
  · obtain ⟨kvs, nm, t3, t4, t5, rfl, o3, D3, gd, gt, hnm, nd, good, len, gr⟩ := z
    have l3 : nm.length ≤ 43 := by
      have : (wsN.map V.str).length = 3 := rfl
      omega
    have hWG := (o3.stay D).tup ha
    refine ⟨.ref a1, rfl, a1, _, 0, .int W.many, rfl, rfl, hWG, atI_nat (j := 0) rfl, ?_⟩
    refine ⟨.ref dn, rfl, ?_, dn, kvs, rfl, rfl, gd, fun vw nvw => ?_⟩
    · exact .inr (.inr (.inl ⟨rfl, .inl ⟨_, gd⟩⟩))
    have s1 := same_up (o := L2.DX.itemsO vw dn) nvw
    refine ⟨vw, dn, kvs, nm.map nmD, Value.type "str", rfl, upd_same, s1 _ _ gd, ent_data (Paired.mapP hnm fun _ _ z => ntr_st (Tl.Same.stay s1) z), cmps_rows _ _ (fun a ha b hb => by rw [cmpb]; exact cmp_ints _ _) (fun e he => ⟨?_, by rw [PyData.plain]; exact plain_ints _⟩), by decide, fun dd hdd => ?_, fun G2 ll ys s12 nll gll hys => ?_⟩
    · rw [PyData.plain]
    · obtain ⟨e, _, rfl⟩ := List.mem_map.mp hdd
      have := depth_ints e.2
      show (PyData.tuple [.str e.1, .tuple (e.2.map PyData.int)]).depth ≤ 60
      simp only [PyData.depth, PyData.depthAll]
      omega
    obtain ⟨nm', e', pm, srt⟩ := srt_rows (fun e : Str × List Int => e.1) (fun e => .tuple (e.2.map PyData.int)) nd
    have hys : Dts K G2 ys (nm'.map nmD) := by
      rw [← e']
      exact hys
    obtain ⟨qs, rfl, hqs⟩ := inv_names hys
    refine ⟨ll, _, rfl, lst_of gll, fun c oc nc noc => ?_⟩
    have s3 := s1.trans s12
    have s4 := same_add s3 (o := .frz oc (.tup (qs.map V.ref))) nc
    refine ⟨.ref a1, rfl, a1, _, 2, .ref r1, rfl, rfl, (Tl.Same.stay s4).tup hWG, atI_nat (j := 2) rfl, by show 3 ≤ sizeLine; decide, fun t nt => ?_⟩
    have s5 := same_add s4 (o := .tup [.int W.many, .ref c, .ref r1]) nt
    have s25 : L2.Same G2 (upd (upd G2 c (.frz oc (.tup (qs.map V.ref)))) t (.tup [.int W.many, .ref c, .ref r1])) := same_add (same_up nc) nt
    refine q _ ⟨W.many, nm', W.roles⟩ _ ⟨t, c, r1, rfl, tupOf upd_same, ⟨qs, ⟨oc, (upd_ne (ne_of_none (o := .frz oc (.tup (qs.map V.ref))) upd_same nt)).trans upd_same, noc⟩, Paired.mapP hqs fun _ _ z => nme_st (Tl.Same.stay s25) z⟩, roles_st ((o3.stay D).trans (Tl.Same.stay s5)) hR⟩ ?_ rfl rfl ?_ (o3.trans s5.off) (D3.same s5)
    · refine ⟨ok.many, ⟨srt, fun e he => good e (pm.mem_iff.mp he), ?_⟩, ok.roles⟩
      show nm'.length ≤ 50
      rw [pm.length_eq]
      omega
    · intro x xs hx
      obtain ⟨ys, h1, h2⟩ := gr x xs hx
      exact ⟨ys, pm.mem_iff.mpr h1, h2⟩
end
end K24
set_option Elab.async false
set_option linter.all false
set_option autoImplicit false
set_option maxRecDepth 100000
set_option maxHeartbeats 4000000
namespace K24
open PySem PySem.Spec PyProof.Rows L2 Tl
open C8 (Cal pe_c)
/-- E is what is left in the end -/
structure GrAt (W1 W2 : Wd) (ns rs : List Str) (k : Nat) (E : List (Int × Int)) : Prop where
  fx : FixAt W1 W2 ns rs k
  eq : E = (Pall W1 W2).filter fun p => B W1 W2 ns rs k p.1 p.2
section
variable {W1 W2 W3 : Wd} {ns rs : List Str} {k m n : Nat} {E E' : List (Int × Int)}
theorem GrAt.mem (g : GrAt W1 W2 ns rs k E) {p : Int × Int} : p ∈ E ↔ Inr W1 W2 p ∧ B W1 W2 ns rs k p.1 p.2 = true := by rw [g.eq, List.mem_filter, mem_Pall]
theorem GrAt.uniq (ok1 : WOk W1) (ok2 : WOk W2) (g : GrAt W1 W2 ns rs k E) (g' : GrAt W1 W2 ns rs m E') : E = E' := by
  rw [g.eq, g'.eq]
  exact List.filter_congr fun p hp => g.fx.same ok1 ok2 g'.fx (mem_Pall.mp hp)
theorem len_ok (ok1 : WOk W1) (ok2 : WOk W2) : (Pall W1 W2).length ≤ 36 := by
  have n61 := ok1.many
  have n62 := ok2.many
  rw [len_Pall]
  exact Nat.mul_le_mul (show W1.many.toNat ≤ 6 by omega) (show W2.many.toNat ≤ 6 by omega)
theorem GrAt.len (ok1 : WOk W1) (ok2 : WOk W2) (g : GrAt W1 W2 ns rs k E) : E.length ≤ 36 := by
  rw [g.eq]
  exact Nat.le_trans (List.length_filter_le _ _) (len_ok ok1 ok2)
theorem inr6 (ok1 : WOk W1) (ok2 : WOk W2) {p : Int × Int} (h : Inr W1 W2 p) : (0 ≤ p.1 ∧ p.1 < 6) ∧ 0 ≤ p.2 ∧ p.2 < 6 := by
  have n61 := ok1.many
  have n62 := ok2.many
  obtain ⟨h1, h2⟩ := h
  omega
theorem GrAt.rg (ok1 : WOk W1) (ok2 : WOk W2) (g : GrAt W1 W2 ns rs k E) : ∀ p ∈ E, (0 ≤ p.1 ∧ p.1 < 6) ∧ 0 ≤ p.2 ∧ p.2 < 6 := fun p hp => inr6 ok1 ok2 (g.mem.mp hp).1
theorem gr_its (ok2 : WOk W2) (h : its W2 (ties0 W1 rs) (fit0 W1 W2 ns) (k + 1) = its W2 (ties0 W1 rs) (fit0 W1 W2 ns) k) : GrAt W1 W2 ns rs k (pairsOf (its W2 (ties0 W1 rs) (fit0 W1 W2 ns) k)) :=
  ⟨fix_its h, pairs_eq ok2 k⟩
theorem gr_law (ok1 : WOk W1) (ok2 : WOk W2) (h : lawIt W1 W2 ns rs (Pall W1 W2) (k + 1) = lawIt W1 W2 ns rs (Pall W1 W2) k) : GrAt W1 W2 ns rs k (lawIt W1 W2 ns rs (Pall W1 W2) k) :=
  ⟨fix_law ok1 ok2 h, lawIt_all ok1 ok2 k⟩
theorem gr_none (ok1 : WOk W1) (ok2 : WOk W2) (g : GrAt W1 W2 [] [] k E) : E = Pall W1 W2 := by
  rw [g.eq]
  exact List.filter_eq_self.mpr fun p hp => none_in ok1 ok2 (mem_Pall.mp hp) k
theorem gr_comp_all (ok1 : WOk W1) (ok2 : WOk W2) (ok3 : WOk W3) {E2 : List (Int × Int)} (g : GrAt W1 W2 ns rs k E) (g' : GrAt W2 W3 ns rs m E2) {x y z : Int} (h1 : (x, y) ∈ E) (h2 : (y, z) ∈ E2) (t : Nat) : B W1 W3 ns rs t x z = true :=
  comp_in ok1 ok2 ok3 g.fx g'.fx (g.mem.mp h1).1 (g.mem.mp h1).2 (g'.mem.mp h2).1 (g'.mem.mp h2).2 t
theorem gr_comp (ok1 : WOk W1) (ok2 : WOk W2) (ok3 : WOk W3) {E2 E3 : List (Int × Int)} (g : GrAt W1 W2 ns rs k E) (g' : GrAt W2 W3 ns rs m E2) (g3 : GrAt W1 W3 ns rs n E3) {x y z : Int} (h1 : (x, y) ∈ E) (h2 : (y, z) ∈ E2) : (x, z) ∈ E3 :=
  g3.mem.mpr ⟨⟨(g.mem.mp h1).1.1, (g'.mem.mp h2).1.2⟩, gr_comp_all ok1 ok2 ok3 g g' h1 h2 n⟩
theorem gr_less {V1 V2 : Wd} {ns' rs' : List Str} {E2 : List (Int × Int)} (ok1 : WOk W1) (ok2 : WOk W2) (kk1 : WOk V1) (kk2 : WOk V2) (m1 : V1.many = W1.many) (m2 : V2.many = W2.many)
    (hn : ∀ x n, n ∈ nmO V1 x → n ∈ ns' → n ∈ nmO W1 x ∧ n ∈ ns) (hn2 : ∀ y n, n ∈ nmO W2 y → n ∈ nmO V2 y)
    (ht : ∀ r ∈ rs', r ∈ rs ∧ ∀ x far, far ∈ tied V1 r x → far ∈ tied W1 r x) (ht2 : ∀ r y it, it ∈ tied W2 r y → it ∈ tied V2 r y)
    (g : GrAt W1 W2 ns rs k E) (g2 : GrAt V1 V2 ns' rs' m E2) {p : Int × Int} (hp : p ∈ E) : p ∈ E2 := by
  obtain ⟨h1, h2⟩ := g.mem.mp hp
  refine g2.mem.mpr ⟨?_, less_in ok1 ok2 kk1 kk2 m1 m2 hn hn2 ht ht2 g.fx h1 h2 m⟩
  unfold Inr at h1 ⊢
  rw [m1, m2]
  exact h1
end
/-! shown -/
theorem shows3 {e1 e2 e3 : List (Int × Int)} (h1 : ∀ e ∈ e1, (0 ≤ e.1 ∧ e.1 < 6) ∧ 0 ≤ e.2 ∧ e.2 < 6) (l1 : e1.length ≤ 36) (h2 : ∀ e ∈ e2, (0 ≤ e.1 ∧ e.1 < 6) ∧ 0 ≤ e.2 ∧ e.2 < 6) (l2 : e2.length ≤ 36)
    (h3 : ∀ e ∈ e3, (0 ≤ e.1 ∧ e.1 < 6) ∧ 0 ≤ e.2 ∧ e.2 < 6) (l3 : e3.length ≤ 36) : Shows (.tuple [.tuple (e1.map prD), .tuple (e2.map prD), .tuple (e3.map prD)]) := by
  obtain ⟨a1, a2, a3, a4⟩ := prs_ok e1 h1
  obtain ⟨b1, b2, b3, b4⟩ := prs_ok e2 h2
  obtain ⟨c1, c2, c3, c4⟩ := prs_ok e3 h3
  have d1 := depth_prs e1
  have d2 := depth_prs e2
  have d3 := depth_prs e3
  refine ⟨?_, ?_, ?_, ?_⟩
  · simp [PyData.showable, PyData.showableAll, a1, b1, c1]
  · simp [PyData.hasDict, PyData.hasDictAll, a3, b3, c3]
  · simp only [PyData.depth, PyData.depthAll]
    omega
  · have := PyData.shown_le_bulk 8 (Nat.le_refl 8) (.tuple [.tuple (e1.map prD), .tuple (e2.map prD), .tuple (e3.map prD)]) (by simp [PyData.leavesShort, PyData.leavesShortAll, a2, b2, c2])
    simp only [PyData.bulk, PyData.bulkAll] at this
    rw [sizeLine_eq]
    omega
theorem GrAt.shows {W1 W2 : Wd} {ns rs : List Str} {k : Nat} {E : List (Int × Int)} (ok1 : WOk W1) (ok2 : WOk W2) (g : GrAt W1 W2 ns rs k E) : Shows (.tuple (E.map prD)) := shows_prs (g.rg ok1 ok2) (g.len ok1 ok2)
theorem dp_prs {K : PySem.W.Frag} {H : Hp} {t : Addr} {es : List (Int × Int)} (h : Prs K H t es) : Dp K H (.ref t) (.tuple (es.map prD)) := by
  obtain ⟨qs, h1, h2⟩ := h
  exact .tup h1 (Dts.dp _ _ (dts_prs h2))
/-- fewer words -/
theorem VocG.sub {ns rs ns' rs' : List Str} (h : VocG ns rs) (a : ns'.Sublist ns) (b : rs'.Sublist rs) : VocG ns' rs' :=
  ⟨⟨Nat.le_trans a.length_le h.n.1, fun x hx => h.n.2.1 x (a.subset hx), h.n.2.2.sublist a⟩, ⟨Nat.le_trans b.length_le h.r.1, fun x hx => h.r.2.1 x (b.subset hx), h.r.2.2.sublist b⟩⟩
def spPickT (K : PySem.W.Frag) : Sp := fun vs H Q _ => ∃ (d l b : Addr) (xs : List V), vs = [.ref d, .ref b] ∧ Deck H d l ∧ SqT K H b xs ∧ xs ≠ [] ∧ xs.length ≤ 100000 ∧
  ∀ (x : V) (H' : Hp), x ∈ xs → Off d l H H' → Deck H' d l → Q x H'
section
variable {P : Program} {w : World} {K : PySem.W.Frag} {mg : Str → Option Value} {base : Heap}
theorem cLawPickT (T : Txt K mg) : Cal P w K mg base 2 "_law_pick" (spPickT K) [] := by
  refine cal_of T.lawPick scLawPick (fun _ _ _ _ _ _ us hl => match us, hl with | [_, _], _ => rfl) (fun vs H Q E h => ?_) (fun f cdv A outer s H vs Q E hr h => ?_)
  · obtain ⟨d, l, b, xs, rfl, _⟩ := h
    rfl
  obtain ⟨d, l, b, xs, rfl, D, sq, ne, len, q⟩ := h
  refine ⟨_, (pss_one (ps_ret (pe_ix ix_both (pv 1) (pe_c (cLawDraw T) hr (by decide) rfl (pa_cons (pv 0) (pa_cons (pe_callB call_len_seq (by rfl) T.len (by decide +kernel) (pa_cons (pv 1) pa_nil)) pa_nil))) (fun _ _ => rfl)))), ?_⟩
  have pos : 0 < xs.length := List.length_pos_iff.mpr ne
  refine ⟨.ref b, rfl, .ref d, rfl, .ref b, rfl, b, xs, rfl, .inr sq, d, l, _, rfl, D, by omega, by omega, fun i H' i0 i1 off D' => ?_⟩
  obtain ⟨x, hx⟩ : ∃ x, xs[i.toNat]? = some x := ⟨xs[i.toNat]'(by omega), List.getElem?_eq_getElem (by omega)⟩
  have fin := q x H' (List.mem_of_getElem? hx) off D'
  exact .inr ⟨b, xs, i, x, rfl, rfl, (off.stay D).tup sq, at_of (j := i.toNat) (by omega) hx, fin⟩
end
end K24
set_option Elab.async false
set_option linter.all false
set_option autoImplicit false
set_option maxRecDepth 100000
set_option maxHeartbeats 8000000
namespace K24
open PySem PySem.Spec PyProof.Rows L2 Tl
open C8 (Cal pe_c)
abbrev nLaw : List Str := ["script", "deck", "turn", "one", "two", "three", "words", "near", "far", "both", "due", "x", "y", "it", "z", "less", "word", "some", "told", "pair", "every", "other", "more"]
def rTupO (K : PySem.W.Frag) : List V → Hp → VK → Prop := fun xs H Q => ∃ p ys, xs = [.ref p] ∧ ((SqL K H p ys ∧ ∀ l, H l = none → Q (.ref l) (upd H l (.tup ys))) ∨ (SqT K H p ys ∧ Q (.ref p) H))
theorem call_tuple_ofK {X : Cx} {K : PySem.W.Frag} (hK : X.K = K) : CallR X (.type "tuple") (rTupO K) := by
  subst hK
  exact call_tuple_of
section
variable {P : Program} {w : World} {K : PySem.W.Frag} {mg : Str → Option Value} {base : Heap}
def spLaw (K : PySem.W.Frag) : Sp := fun vs H Q _ => ∃ (a : Addr) (ns : List Int), vs = [.ref a] ∧ SqL K H a (ns.map V.int) ∧ ns.length ≤ 63 ∧ ∀ H', Q (.bl true) H'
theorem gLaw (T : Txt K mg) {f : Addr} {fd : FuncData} (F : L2.Fun K "law" "law" sLaw f fd) : FnG P w K mg base CX0 42 f fd ["script"] (spLaw K) := by
  refine Tl.Fun.okG F scLaw (fun vs H Q E h => ?_) (fun cdv A outer s H vs Q E quiet hr h => ?_)
  · obtain ⟨a, ns, rfl, _⟩ := h
    rfl
  obtain ⟨a, ns, rfl, ha, n63, q⟩ := h
  have hu64 := hr.units
  have hu := hu_of hr
  have bare : (A.deeper (envOfC "law" (defScope sLaw) s.heap.objs.size f cdv)).guards = some [] := quiet
  refine ⟨_, (pss_cons (ps_set (i := 1) scLaw.nd rfl (.inr rfl) (pe_c (cLawDeck T) hr (by decide) rfl (pa_cons (pv 0) pa_nil)))
 (pss_cons (ps_for PassesOwn.never rfl (pi_range1 rfl T.range (pa_cons pe_int pa_nil)) (pg_name (i := 2) scLaw.nd rfl (.inl rfl))
 (pss_cons (ps_asg (pe_tup (pa_cons (pe_c (cLawWorld T) hr (by decide) rfl (pa_cons (pv 1) (pa_cons pe_int pa_nil))) (pa_cons (pe_c (cLawWorld T) hr (by decide) rfl (pa_cons (pv 1) (pa_cons pe_int pa_nil))) (pa_cons (pe_c (cLawWorld T) hr (by decide) rfl (pa_cons (pv 1) (pa_cons pe_int pa_nil))) (pa_cons (pe_c (cLawVocabulary T) hr (by decide) rfl (pa_cons (pv 1) pa_nil)) pa_nil))))) (pg_tup rfl (pgs_cons (pg_name (i := 3) scLaw.nd rfl (.inr rfl)) (pgs_cons (pg_name (i := 4) scLaw.nd rfl (.inl rfl)) (pgs_cons (pg_name (i := 5) scLaw.nd rfl (.inr rfl)) (pgs_cons (pg_name (i := 6) scLaw.nd rfl (.inr rfl)) pgs_nil))))))
 (pss_cons (ps_asg (pe_tup (pa_cons (pe_c (cGreatest T) hr (by decide) rfl (pa_cons (pv 3) (pa_cons (pv 4) (pa_cons (pv 6) pa_nil)))) (pa_cons (pe_c (cGreatest T) hr (by decide) rfl (pa_cons (pv 4) (pa_cons (pv 5) (pa_cons (pv 6) pa_nil)))) (pa_cons (pe_c (cGreatest T) hr (by decide) rfl (pa_cons (pv 3) (pa_cons (pv 5) (pa_cons (pv 6) pa_nil)))) pa_nil)))) (pg_tup rfl (pgs_cons (pg_name (i := 7) scLaw.nd rfl (.inl rfl)) (pgs_cons (pg_name (i := 8) scLaw.nd rfl (.inl rfl)) (pgs_cons (pg_name (i := 9) scLaw.nd rfl (.inr rfl)) pgs_nil)))))
 (pss_cons (ps_set (i := 10) scLaw.nd rfl (.inl rfl) (pe_tup (pa_cons (pe_c (cLawGreatest T) hr (by decide) rfl (pa_cons (pv 3) (pa_cons (pv 4) (pa_cons (pv 6) pa_nil)))) (pa_cons (pe_c (cLawGreatest T) hr (by decide) rfl (pa_cons (pv 4) (pa_cons (pv 5) (pa_cons (pv 6) pa_nil)))) (pa_cons (pe_c (cLawGreatest T) hr (by decide) rfl (pa_cons (pv 3) (pa_cons (pv 5) (pa_cons (pv 6) pa_nil)))) pa_nil)))))
 (pss_cons (ps_if (pt_cmpR op_ne (pe_callB (cr_repD bare hu64) (by rfl) T.repr (by decide +kernel) (pa_cons (pe_tup (pa_cons (pv 7) (pa_cons (pv 8) (pa_cons (pv 9) pa_nil)))) pa_nil)) (pe_callB (cr_repD bare hu64) (by rfl) T.repr (by decide +kernel) (pa_cons (pv 10) pa_nil)) (nomark _))
 (pss_one (ps_ret pe_bl))
 pss_nil)
 (C8.pss_cut (ps_for PassesOwn.never rfl (pi_tup (pv 7)) (pg_tup rfl (pgs_cons (pg_name (i := 11) scLaw.nd rfl (.inr rfl)) (pgs_cons (pg_name (i := 12) scLaw.nd rfl (.inr rfl)) pgs_nil)))
 (pss_one (ps_if (pt_cmpR (op_neD hu64) (pe_lc (own := [("it", 13), ("z", 14)]) (by rfl) scLaw.nd (pi_tup (pv 8)) (blkOk_by (own := [("it", 13), ("z", 14)]) (N := nLaw) (sc := defScope sLaw) (by decide +kernel)) (fun _ _ _ _ _ => (pg_tupK (K := K) (n := 2) rfl rfl (pgs_cons (pg_name (i := 13) scLaw.nd rfl (.inl rfl)) (pgs_cons (pg_name (i := 14) scLaw.nd rfl (.inl rfl)) pgs_nil)))) (fun _ _ _ _ _ => pts_one (PW.pt (pw_and (pt_cmpR op_eq (pv 13) (pv 12) (nomark _)) (pw_and1 (pt_cmpR (op_notInP (K := K) rfl hu64) (pe_tup (pa_cons (pv 11) (pa_cons (pv 14) pa_nil))) (pv 9) rfl))))) (fun _ _ _ _ _ => (pv 14))) (pe_lst pa_nil) (nomark _))
 (pss_one (ps_ret pe_bl))
 pss_nil)))
 (pss_cons (ps_set (i := 15) scLaw.nd rfl (.inl rfl) (pe_callTy call_tuple_of (by rfl) T.tuple (by decide +kernel) (pa_cons (pe_lc (own := [("some", 17)]) (by rfl) scLaw.nd (pi_tup (pv 6)) (blkOk_by (own := [("some", 17)]) (N := nLaw) (sc := defScope sLaw) (by decide +kernel)) (fun _ _ _ _ _ => (pg_name (i := 17) scLaw.nd rfl (.inl rfl))) (fun _ _ _ _ _ => pts_nil) (fun _ _ _ _ _ => (pe_callTy (call_tuple_ofK (K := K) rfl) (by rfl) T.tuple (by decide +kernel) (pa_cons (pe_lc (own := [("word", 16)]) (by rfl) scLaw.nd (pi_tupK (K := K) rfl (pv 17)) (by exact blkOk_by (own := [("word", 16)]) (N := nLaw) (by rfl)) (fun _ _ _ _ _ => (pg_name (i := 16) scLaw.nd rfl (.inl rfl))) (fun _ _ _ _ _ => pts_one (pt_cmpR op_gt (pe_c (cLawDraw T) hr (by decide) rfl (pa_cons (pv 1) (pa_cons pe_int pa_nil))) pe_int (nomark _))) (fun _ _ _ _ _ => (pv 16))) pa_nil)))) pa_nil)))
 (pss_cons (ps_set (i := 18) scLaw.nd rfl (.inr rfl) (pe_c (cGreatest T) hr (by decide) rfl (pa_cons (pv 3) (pa_cons (pv 4) (pa_cons (pv 15) pa_nil)))))
 (pss_cons (ps_if (PW.pt (pw_or (pt_cmpR (op_neD hu64) (pe_lc (own := [("pair", 19)]) (by rfl) scLaw.nd (pi_tup (pv 7)) (blkOk_by (own := [("pair", 19)]) (N := nLaw) (sc := defScope sLaw) (by decide +kernel)) (fun _ _ _ _ _ => (pg_name (i := 19) scLaw.nd rfl (.inl rfl))) (fun _ _ _ _ _ => pts_one (pt_cmpR (op_notInP (K := K) rfl hu64) (pv 19) (pv 18) rfl)) (fun _ _ _ _ _ => (pv 19))) (pe_lst pa_nil) (nomark _)) (pw_or1 (pt_cmpR op_ne (pe_callB (cr_repD bare hu64) (by rfl) T.repr (by decide +kernel) (pa_cons (pv 18) pa_nil)) (pe_callB (cr_repD bare hu64) (by rfl) T.repr (by decide +kernel) (pa_cons (pe_c (cLawGreatest T) hr (by decide) rfl (pa_cons (pv 3) (pa_cons (pv 4) (pa_cons (pv 15) pa_nil)))) pa_nil)) (nomark _)))))
 (pss_one (ps_ret pe_bl))
 pss_nil)
 (pss_cons (ps_set (i := 20) scLaw.nd rfl (.inl rfl) (pe_lst pa_nil))
 (C8.pss_cut (ps_for PassesOwn.never rfl (pi_range1 rfl T.range (pa_cons (pe_ix ix_tup (pv 3) pe_int (fun _ _ => rfl)) pa_nil)) (pg_name (i := 11) scLaw.nd rfl (.inr rfl))
 (pss_one (ps_expr (pe_bm PySem.F.plainAttrs_list PySem.F.slot_list_extend PySem.F.type_list_extend mt_extend (pv 20) (pa_cons (pe_lc (own := [("y", 12)]) (by rfl) scLaw.nd (pi_range1 rfl T.range (pa_cons (pe_ix ix_tup (pv 4) pe_int (fun _ _ => rfl)) pa_nil)) (blkOk_by (own := [("y", 12)]) (N := nLaw) (sc := defScope sLaw) (by decide +kernel)) (fun _ _ _ _ _ => (pg_name (i := 12) scLaw.nd rfl (.inl rfl))) (fun _ _ _ _ _ => pts_nil) (fun _ _ _ _ _ => (pe_tup (pa_cons (pv 11) (pa_cons (pv 12) pa_nil))))) pa_nil)))))
 (pss_cons (ps_if (pt_cmpR op_ne (pe_callB (cr_repD bare hu64) (by rfl) T.repr (by decide +kernel) (pa_cons (pe_c (cGreatest T) hr (by decide) rfl (pa_cons (pv 3) (pa_cons (pv 4) (pa_cons (pe_tup (pa_cons (pe_tup pa_nil) (pa_cons (pe_tup pa_nil) pa_nil))) pa_nil)))) pa_nil)) (pe_callB (cr_repD bare hu64) (by rfl) T.repr (by decide +kernel) (pa_cons (pe_callTy call_tuple_of (by rfl) T.tuple (by decide +kernel) (pa_cons (pv 20) pa_nil)) pa_nil)) (nomark _))
 (pss_one (ps_ret pe_bl))
 pss_nil)
 (C8.pss_cut (ps_if (pt_cmpR (op_neD hu64) (pv 7) (pe_tup pa_nil) (nomark _))
 (pss_cons (ps_asg (pe_c (cLawPickT T) hr (by decide) rfl (pa_cons (pv 1) (pa_cons (pv 7) pa_nil))) (pg_tup rfl (pgs_cons (pg_name (i := 11) scLaw.nd rfl (.inr rfl)) (pgs_cons (pg_name (i := 12) scLaw.nd rfl (.inr rfl)) pgs_nil))))
 (pss_cons (ps_if (pt_cmpR op_notBl (pe_c (cHolds T) hr (by decide) rfl (pa_cons (pv 3) (pa_cons (pv 11) (pa_cons (pv 4) (pa_cons (pv 12) (pa_cons (pv 15) (pa_cons (pe_tup (pa_cons pe_str (pa_cons (pv 7) pa_nil))) pa_nil))))))) pe_bl (nomark _))
 (pss_one (ps_ret pe_bl))
 pss_nil)
 (pss_one (ps_if (pt_cmpR (op_neD hu64) (pe_lc (own := [("it", 13), ("z", 14)]) (by rfl) scLaw.nd (pi_tup (pv 8)) (blkOk_by (own := [("it", 13), ("z", 14)]) (N := nLaw) (sc := defScope sLaw) (by decide +kernel)) (fun _ _ _ _ _ => (pg_tupK (K := K) (n := 2) rfl rfl (pgs_cons (pg_name (i := 13) scLaw.nd rfl (.inl rfl)) (pgs_cons (pg_name (i := 14) scLaw.nd rfl (.inl rfl)) pgs_nil)))) (fun _ _ _ _ _ => pts_one (PW.pt (pw_and (pt_cmpR op_eq (pv 13) (pv 12) (nomark _)) (pw_and1 (pt_cmpR op_ne (pe_ix (ix_seqK (K := K) rfl) (pe_c (cJudge T) hr (by decide) rfl (pa_cons (pv 3) (pa_cons (pv 11) (pa_cons (pv 5) (pa_cons (pv 14) (pa_cons (pv 6) pa_nil)))))) pe_int (fun _ _ => rfl)) pe_str (nomark _)))))) (fun _ _ _ _ _ => (pv 14))) (pe_lst pa_nil) (nomark _))
 (pss_one (ps_ret pe_bl))
 pss_nil))))
 pss_nil)
 (pss_cons (ps_par (i := 21) (j := 22) rfl scLaw.nd rfl rfl (by decide) rfl rfl (pa_cons (pe_c (cLawFewerTies T) hr (by decide) rfl (pa_cons (pv 1) (pa_cons (pv 3) pa_nil))) (pa_cons (pe_c (cLawMoreNames T) hr (by decide) rfl (pa_cons (pv 1) (pa_cons (pv 4) pa_nil))) pa_nil)) rfl)
 (pss_cons (ps_set (i := 18) scLaw.nd rfl (.inr rfl) (pe_c (cGreatest T) hr (by decide) rfl (pa_cons (pv 21) (pa_cons (pv 22) (pa_cons (pv 6) pa_nil)))))
 (pss_one (ps_if (PW.pt (pw_or (pt_cmpR (op_neD hu64) (pe_lc (own := [("pair", 19)]) (by rfl) scLaw.nd (pi_tup (pv 7)) (blkOk_by (own := [("pair", 19)]) (N := nLaw) (sc := defScope sLaw) (by decide +kernel)) (fun _ _ _ _ _ => (pg_name (i := 19) scLaw.nd rfl (.inl rfl))) (fun _ _ _ _ _ => pts_one (pt_cmpR (op_notInP (K := K) rfl hu64) (pv 19) (pv 18) rfl)) (fun _ _ _ _ _ => (pv 19))) (pe_lst pa_nil) (nomark _)) (pw_or1 (pt_cmpR op_ne (pe_callB (cr_repD bare hu64) (by rfl) T.repr (by decide +kernel) (pa_cons (pv 18) pa_nil)) (pe_callB (cr_repD bare hu64) (by rfl) T.repr (by decide +kernel) (pa_cons (pe_c (cLawGreatest T) hr (by decide) rfl (pa_cons (pv 21) (pa_cons (pv 22) (pa_cons (pv 6) pa_nil)))) pa_nil)) (nomark _)))))
 (pss_one (ps_ret pe_bl))
 pss_nil)))))))))))))))))
 (pss_one (ps_ret pe_bl)))), ?_⟩
  refine ⟨.ref a, rfl, a, ns, rfl, ha, n63, fun d l G0 nd nl s0 D0 => ?_⟩
  refine ⟨4, rfl, by omega, by omega, ?_⟩
  refine for_range (lo := 0) (n := 4) (fun i σ X => (∃ t2 t3 t4 t5 t6 t7 t8 t9 t10 t11 t12 t13 t14 t15 t16 t17 t18 t19 t20 t21 t22 : Option V, σ = [some (.ref a), some (.ref d), t2, t3, t4, t5, t6, t7, t8, t9, t10, t11, t12, t13, t14, t15, t16, t17, t18, t19, t20, t21, t22]) ∧ Deck X d l) ⟨⟨_, _, _, _, _, _, _, _, _, _, _, _, _, _, _, _, _, _, _, _, _, rfl⟩, D0⟩ (fun i σ X hi z => ?_) (fun σ X z => q X)
  obtain ⟨⟨t2, t3, t4, t5, t6, t7, t8, t9, t10, t11, t12, t13, t14, t15, t16, t17, t18, t19, t20, t21, t22, rfl⟩, DX⟩ := z
  rw [show (0 : Int) + (i : Int) = (i : Int) from Int.zero_add _]
  -- one, two, three, words
  refine ⟨.ref d, rfl, d, l, 4, rfl, DX, by omega, by omega, fun v1 W1 X1 hw1 ok1 f1 o1 D1 => ?_⟩
  refine ⟨.ref d, rfl, d, l, 4, rfl, D1, by omega, by omega, fun v2 W2 X2 hw2 ok2 f2 o2 D2 => ?_⟩
  have hw1 := iswd_st (o2.stay D1) hw1
  refine ⟨.ref d, rfl, d, l, 4, rfl, D2, by omega, by omega, fun v3 W3 X3 hw3 ok3 f3 o3 D3 => ?_⟩
  have hw1 := iswd_st (o3.stay D2) hw1
  have hw2 := iswd_st (o3.stay D2) hw2
  refine ⟨.ref d, rfl, d, l, rfl, D3, fun v4 ws rs X4 hvoc o4 D4 => ⟨by show 4 ≤ sizeLine; decide, fun tt ntt => ⟨tt, _, rfl, tupOf upd_same, rfl, v1, [v2, v3, v4], rfl, v2, [v3, v4], rfl, v3, [v4], rfl, v4, [], rfl, rfl, ?_⟩⟩⟩
  obtain ⟨hV, hG⟩ := voc_S hvoc
  have stn : Stay X4 (upd X4 tt (.tup [v1, v2, v3, v4])) := stay_new ntt
  have st4 := (o4.stay D3).trans stn
  have hw1 := iswd_st st4 hw1
  have hw2 := iswd_st st4 hw2
  have hw3 := iswd_st st4 hw3
  have hV := hV.st stn
  have D5 := D4.new (o := .tup [v1, v2, v3, v4]) ntt
  generalize upd X4 tt (.tup [v1, v2, v3, v4]) = X5 at hw1 hw2 hw3 hV D5 ⊢
  clear stn st4 ntt o4 D4 o3 D3 o2 D2 o1 D1 DX hvoc
  have lrs := hG.r.1
  -- near, far, both
  refine ⟨v1, rfl, v2, rfl, v4, rfl, v1, v2, v4, W1, W2, ws, rs, rfl, hw1, ok1, hw2, ok2, hV, hG, fun na X6 k1 s6 hna fx1 => ?_⟩
  have st6 := Tl.Same.stay s6
  refine ⟨v2, rfl, v3, rfl, v4, rfl, v2, v3, v4, W2, W3, ws, rs, rfl, iswd_st st6 hw2, ok2, iswd_st st6 hw3, ok3, hV.st st6, hG, fun fa X7 k2 s7 hfa fx2 => ?_⟩
  have st7 := Tl.Same.stay (s6.trans s7)
  refine ⟨v1, rfl, v3, rfl, v4, rfl, v1, v3, v4, W1, W3, ws, rs, rfl, iswd_st st7 hw1, ok1, iswd_st st7 hw3, ok3, hV.st st7, hG, fun bo X8 k3 s8 hbo fx3 => ?_⟩
  refine ⟨by show 3 ≤ sizeLine; decide, fun tt ntt => ⟨tt, _, rfl, tupOf upd_same, rfl, .ref na, [.ref fa, .ref bo], rfl, .ref fa, [.ref bo], rfl, .ref bo, [], rfl, rfl, ?_⟩⟩
  have g1 := gr_its ok2 fx1
  have g2 := gr_its ok3 fx2
  have g3 := gr_its ok3 fx3
  generalize hE1 : pairsOf (its W2 (ties0 W1 rs) (fit0 W1 W2 ws) k1) = E1 at hna g1
  generalize pairsOf (its W3 (ties0 W2 rs) (fit0 W2 W3 ws) k2) = E2 at hfa g2
  generalize pairsOf (its W3 (ties0 W1 rs) (fit0 W1 W3 ws) k3) = E3 at hbo g3
  have sn := same_up (o := .tup [.ref na, .ref fa, .ref bo]) ntt
  have s9 := ((s6.trans s7).trans s8).trans sn
  have hna := prs_st (Tl.Same.stay ((s7.trans s8).trans sn)) hna
  have hfa := prs_st (Tl.Same.stay (s8.trans sn)) hfa
  have hbo := prs_st (Tl.Same.stay sn) hbo
  have D9 := D5.same s9
  have hw1 := iswd_st (Tl.Same.stay s9) hw1
  have hw2 := iswd_st (Tl.Same.stay s9) hw2
  have hw3 := iswd_st (Tl.Same.stay s9) hw3
  have hV := hV.st (Tl.Same.stay s9)
  generalize upd X8 tt (.tup [.ref na, .ref fa, .ref bo]) = X9 at hna hfa hbo D9 hw1 hw2 hw3 hV ⊢
  clear sn s9 s8 s7 s6 ntt st6 st7 D5 fx2 fx3
  -- due
  refine ⟨v1, rfl, v2, rfl, v4, rfl, v1, v2, v4, W1, W2, ws, rs, rfl, hw1, ok1, hw2, ok2, hV, lrs, fun d1 l1 X6 s6 hd1 fx2 => ?_⟩
  have st6 := Tl.Same.stay s6
  refine ⟨v2, rfl, v3, rfl, v4, rfl, v2, v3, v4, W2, W3, ws, rs, rfl, iswd_st st6 hw2, ok2, iswd_st st6 hw3, ok3, hV.st st6, lrs, fun d2 l2 X7 s7 hd2 fx3 => ?_⟩
  have st7 := Tl.Same.stay (s6.trans s7)
  refine ⟨v1, rfl, v3, rfl, v4, rfl, v1, v3, v4, W1, W3, ws, rs, rfl, iswd_st st7 hw1, ok1, iswd_st st7 hw3, ok3, hV.st st7, lrs, fun d3 l3 X8 s8 hd3 fx4 => ?_⟩
  refine ⟨by show 3 ≤ sizeLine; decide, fun du ndu => ?_⟩
  have e1 := g1.uniq ok1 ok2 (gr_law ok1 ok2 fx2)
  have e2 := g2.uniq ok2 ok3 (gr_law ok2 ok3 fx3)
  have e3 := g3.uniq ok1 ok3 (gr_law ok1 ok3 fx4)
  rw [← e1] at hd1
  rw [← e2] at hd2
  rw [← e3] at hd3
  clear e1 e2 e3 fx2 fx3 fx4
  have sn := same_up (o := .tup [.ref d1, .ref d2, .ref d3]) ndu
  have s9 := ((s6.trans s7).trans s8).trans sn
  have hd1 := prs_st (Tl.Same.stay ((s7.trans s8).trans sn)) hd1
  have hd2 := prs_st (Tl.Same.stay (s8.trans sn)) hd2
  have hd3 := prs_st (Tl.Same.stay sn) hd3
  have gdu : upd X8 du (.tup [.ref d1, .ref d2, .ref d3]) du = some (.tup [.ref d1, .ref d2, .ref d3]) := upd_same
  have D10 := D9.same s9
  have hna := prs_st (Tl.Same.stay s9) hna
  have hfa := prs_st (Tl.Same.stay s9) hfa
  have hbo := prs_st (Tl.Same.stay s9) hbo
  have hw1 := iswd_st (Tl.Same.stay s9) hw1
  have hw2 := iswd_st (Tl.Same.stay s9) hw2
  have hw3 := iswd_st (Tl.Same.stay s9) hw3
  have hV := hV.st (Tl.Same.stay s9)
  generalize upd X8 du (.tup [.ref d1, .ref d2, .ref d3]) = X10 at hna hfa hbo D10 hw1 hw2 hw3 hV hd1 hd2 hd3 gdu ⊢
  clear sn s9 s8 s7 s6 ndu st6 st7 D9
  -- the same
  have sh3 := shows3 (g1.rg ok1 ok2) (g1.len ok1 ok2) (g2.rg ok2 ok3) (g2.len ok2 ok3) (g3.rg ok1 ok3) (g3.len ok1 ok3)
  refine ⟨.ref na, rfl, .ref fa, rfl, .ref bo, rfl, by show 3 ≤ sizeLine; decide, fun u nu => ?_⟩
  have su := same_up (o := .tup [.ref na, .ref fa, .ref bo]) nu
  have dp1 : Dp K (upd X10 u (.tup [.ref na, .ref fa, .ref bo])) (.ref u) (.tuple [.tuple (E1.map prD), .tuple (E2.map prD), .tuple (E3.map prD)]) :=
    .tup (tupOf upd_same) (.cons (dp_prs (prs_st (Tl.Same.stay su) hna)) (.cons (dp_prs (prs_st (Tl.Same.stay su) hfa)) (.cons (dp_prs (prs_st (Tl.Same.stay su) hbo)) .nil)))
  have dp2 : Dp K (upd X10 u (.tup [.ref na, .ref fa, .ref bo])) (.ref du) (.tuple [.tuple (E1.map prD), .tuple (E2.map prD), .tuple (E3.map prD)]) :=
    .tup (tupOf (su _ _ gdu)) (.cons (dp_prs (prs_st (Tl.Same.stay su) hd1)) (.cons (dp_prs (prs_st (Tl.Same.stay su) hd2)) (.cons (dp_prs (prs_st (Tl.Same.stay su) hd3)) .nil)))
  refine ⟨.ref u, _, rfl, dp1, sh3.sh, sh3.nd, sh3.dp, sh3.len, .ref du, rfl, .ref du, _, rfl, dp2, sh3.sh, sh3.nd, sh3.dp, sh3.len, rfl, _, rfl, ?_⟩
  rw [dis]
  refine iteF ?_
  have D11 := D10.same su
  have hna := prs_st (Tl.Same.stay su) hna
  have hfa := prs_st (Tl.Same.stay su) hfa
  have hbo := prs_st (Tl.Same.stay su) hbo
  have hw1 := iswd_st (Tl.Same.stay su) hw1
  have hw2 := iswd_st (Tl.Same.stay su) hw2
  have hw3 := iswd_st (Tl.Same.stay su) hw3
  have hV := hV.st (Tl.Same.stay su)
  generalize upd X10 u (.tup [.ref na, .ref fa, .ref bo]) = X11 at hna hfa hbo D11 hw1 hw2 hw3 hV ⊢
  clear su nu dp1 dp2 D10 hd1 hd2 hd3 gdu sh3
  -- one after another
  refine ⟨fun σ Y => ∃ t11 t12 : Option V, σ = [some (.ref a), some (.ref d), some (.int (i : Int)), some v1, some v2, some v3, some v4, some (.ref na), some (.ref fa), some (.ref bo), some (.ref du), t11, t12, t13, t14, t15, t16, t17, t18, t19, t20, t21, t22] ∧ L2.Same X11 Y, ?_, ?_⟩
  · obtain ⟨qn, sqn, pqn⟩ := id hna
    obtain ⟨qf, sqf, pqf⟩ := id hfa
    obtain ⟨qb, sqb, pqb⟩ := id hbo
    refine ⟨.ref na, rfl, na, rfl, ⟨_, sqn⟩, ?_⟩
    refine for_tup (K := K) (a := na) (xs := qn.map V.ref) (fun j σ Y => ∃ t11 t12 : Option V, σ = [some (.ref a), some (.ref d), some (.int (i : Int)), some v1, some v2, some v3, some v4, some (.ref na), some (.ref fa), some (.ref bo), some (.ref du), t11, t12, t13, t14, t15, t16, t17, t18, t19, t20, t21, t22] ∧ L2.Same X11 Y)
      ⟨_, _, rfl, L2.Same.refl X11⟩ (fun j σ Y _ z => ?_) (fun j y σ Y hy z => ?_) (fun σ Y z => z)
    · obtain ⟨_, _, _, z⟩ := z
      exact (Tl.Same.stay z).tup sqn
    · obtain ⟨t11, t12, rfl, sY⟩ := z
      have stY := Tl.Same.stay sY
      obtain ⟨qa, hq, rfl⟩ : ∃ qa, qn[j]? = some qa ∧ V.ref qa = y := by
        rw [List.getElem?_map] at hy
        exact Option.map_eq_some_iff.mp hy
      obtain ⟨e, he, h1⟩ := getP pqn hq
      have me := List.mem_of_getElem? he
      refine ⟨qa, _, rfl, stY.tup h1, rfl, .int e.1, _, rfl, .int e.2, [], rfl, rfl, ?_⟩
      refine ⟨.ref fa, rfl, fa, rfl, ⟨_, stY.tup sqf⟩, fun Dl nDl => ?_⟩
      refine lc_tup (K := K) (a := fa) (xs := qf.map V.ref) (fun i Z => L2.Same Y Z ∧ Z Dl = some (.lst [])) ⟨same_up nDl, upd_same⟩ (fun i Z _ z => (Tl.Same.stay (sY.trans z.1)).tup sqf) (fun m y Z hy z => ?_) (fun Z z => ?_)
      · obtain ⟨sZ, gZ⟩ := z
        obtain ⟨qc, hqc, rfl⟩ : ∃ qc, qf[m]? = some qc ∧ V.ref qc = y := by
          rw [List.getElem?_map] at hy
          exact Option.map_eq_some_iff.mp hy
        obtain ⟨g, hg, h2⟩ := getP pqf hqc
        have mg2 := List.mem_of_getElem? hg
        have stZ := Tl.Same.stay (sY.trans sZ)
        refine ⟨qc, _, rfl, stZ.tup h2, rfl, .int g.1, _, rfl, .int g.2, [], rfl, rfl, rfl, .int g.1, rfl, .int e.2, rfl, rfl, _, rfl, ?_⟩
        by_cases eq : g.1 = e.2
        · rw [decide_eq_true (congrArg V.int eq)]
          refine iteT ⟨.int e.1, rfl, .int g.2, rfl, (by show 2 ≤ sizeLine; decide), fun q2 nq2 => ?_⟩
          have sq := same_add sZ (o := .tup [.int e.1, .int g.2]) nq2
          have stq := Tl.Same.stay (sY.trans sq)
          have inE : (e.1, g.2) ∈ E3 := gr_comp ok1 ok2 ok3 g1 g2 g3 me (by rw [← eq]; exact mg2)
          refine ⟨.ref bo, rfl, q2, bo, (e.1, g.2), qb, E3, rfl, rfl, tupOf upd_same, .inr (stq.tup sqb), Paired.mapP pqb fun _ _ z => pre_st stq z, _, rfl, ?_⟩
          show (if (!decide ((e.1, g.2) ∈ E3)) = true then _ else _)
          rw [decide_eq_true inE]
          exact iteF ⟨sq, (upd_ne (ne_of_none gZ nq2)).trans gZ⟩
        · rw [decide_eq_false fun z => eq (V.int.inj z)]
          exact iteF ⟨sZ, gZ⟩
      · obtain ⟨sZ, gZ⟩ := z
        refine ⟨Nat.zero_le _, fun v nv => ⟨.list (([] : List Int).map PyData.int), .list [], .lst (lst_of ((upd_ne (ne_of_none gZ nv)).trans gZ)) .nil, .lst (lst_of upd_same) .nil, shaped_nil, shaped_nil, _, rfl, ?_⟩⟩
        rw [lint_ne]
        exact iteF ⟨_, _, rfl, sY.trans (same_add sZ nv)⟩
  rintro σ X12 ⟨t11', t12', rfl, s12⟩
  have st12 := Tl.Same.stay s12
  have D12 := D11.same s12
  have hna := prs_st st12 hna
  have hfa := prs_st st12 hfa
  have hw1 := iswd_st st12 hw1
  have hw2 := iswd_st st12 hw2
  have hw3 := iswd_st st12 hw3
  have hV := hV.st st12
  clear hbo s12 st12 D11
  -- less
  obtain ⟨av, nv4, rv4, ev4, hv1, hv2, hv3⟩ := id hV
  subst ev4
  have hL : ∀ p ∈ [(nv4, ws), (rv4, rs)], SqT K X12 p.1 (p.2.map V.str) ∧ p.2.length ≤ 10 := fun p hp => by
    simp only [List.mem_cons, List.not_mem_nil, or_false] at hp
    rcases hp with rfl | rfl
    · exact ⟨hv2, hG.n.1⟩
    · exact ⟨hv3, hG.r.1⟩
  refine ⟨.ref av, rfl, av, rfl, ⟨_, hv1⟩, fun Do nDo => ?_⟩
  obtain ⟨Dod, Dol⟩ := D12.off nDo
  refine lc_tup (K := K) (a := av) (xs := [(nv4, ws), (rv4, rs)].map fun p => V.ref p.1) (fun i Y => ∃ (us : List Addr) (ls : List (List Str)), Y Do = some (.lst (us.map V.ref)) ∧ Paired (fun u zs => SqT K Y u (zs.map V.str)) us ls ∧ Paired List.Sublist ls (([(nv4, ws), (rv4, rs)].take i).map (·.2)) ∧ Off d l X12 Y ∧ Deck Y d l)
    ⟨[], [], upd_same, .nil, .nil, off_new nDo, D12.new nDo⟩ (fun i Y _ z => ?_) (fun m y Y hy z => ?_) (fun Y z => ?_)
  · obtain ⟨_, _, _, _, _, oY, _⟩ := z
    exact oY.tup D12 hv1
  · obtain ⟨us, ls, gY, hus, hls, oY, DY⟩ := z
    obtain ⟨p, hp, rfl⟩ : ∃ p, [(nv4, ws), (rv4, rs)][m]? = some p ∧ V.ref p.1 = y := by
      rw [List.getElem?_map] at hy
      exact Option.map_eq_some_iff.mp hy
    obtain ⟨sqp, lp⟩ := hL p (List.mem_of_getElem? hp)
    have hm2 : m < 2 := (List.getElem?_eq_some_iff.mp hp).1
    have lus : us.length ≤ 2 := by
      have h1 := hus.length
      have h2 := hls.length
      rw [List.length_map, List.length_take] at h2
      omega
    have sqY : ∀ {Z : Hp}, Off d l Y Z → SqT K Z p.1 (p.2.map V.str) := fun o => (oY.trans o).tup D12 sqp
    refine ⟨rfl, .ref p.1, rfl, p.1, rfl, ⟨_, sqY (Off.refl d l Y)⟩, fun Di nDi => ?_⟩
    obtain ⟨Did, Dil⟩ := DY.off nDi
    have neo : Do ≠ Di := ne_of_none gY nDi
    refine lc_tup (K := K) (a := p.1) (xs := p.2.map V.str) (fun j Z => ∃ zs : List Str, Z Di = some (.lst (zs.map V.str)) ∧ zs.Sublist (p.2.take j) ∧ Off d l Y Z ∧ Deck Z d l) ⟨[], upd_same, .slnil, off_new nDi, DY.new nDi⟩ (fun j Z _ z => ?_) (fun j y Z hy z => ?_) (fun Z z => ?_)
    · obtain ⟨_, _, _, oZ, _⟩ := z
      exact sqY oZ
    · obtain ⟨zs, gZ, szs, oZ, DZ⟩ := z
      obtain ⟨x, hx, rfl⟩ : ∃ x, p.2[j]? = some x ∧ V.str x = y := by
        rw [List.getElem?_map] at hy
        exact Option.map_eq_some_iff.mp hy
      have hT : p.2.take (j + 1) = p.2.take j ++ [x] := by rw [List.take_add_one, hx]; rfl
      refine ⟨rfl, .ref d, rfl, d, l, 3, rfl, DZ, by omega, by omega, fun c Z2 c0 c1 o5 D5 => ⟨_, _, rfl, rfl, _, rfl, ite2 (fun _ => ?_) (fun _ => ?_)⟩⟩
      · refine ⟨.str x, rfl, _, o5 _ _ Did Dil gZ, ?_, zs ++ [x], ?_, ?_, (oZ.trans o5).mut nDi, D5.mut Did Dil⟩
        · have h1 := szs.length_le
          rw [List.length_take] at h1
          rw [List.length_map]
          exact Nat.lt_of_le_of_lt (show zs.length ≤ 10 by omega) (by decide)
        · rw [upd_same, List.map_append]
          rfl
        · rw [hT]
          exact szs.append (List.Sublist.refl _)
      · refine ⟨zs, o5 _ _ Did Dil gZ, ?_, oZ.trans o5, D5⟩
        rw [hT]
        exact szs.trans (List.sublist_append_left _ _)
    · obtain ⟨zs, gZ, szs, oZ, DZ⟩ := z
      rw [List.take_of_length_le (by rw [List.length_map]; exact Nat.le_refl _)] at szs
      refine ⟨Di, _, rfl, .inl ⟨lst_of gZ, fun tp ntp => ?_⟩⟩
      have oT := oZ.trans (off_new (o := .tup (zs.map V.str)) ntp)
      have DT := DZ.new (o := .tup (zs.map V.str)) ntp
      have gT : upd Z tp (.tup (zs.map V.str)) Do = some (.lst (us.map V.ref)) := oT _ _ Dod Dol gY
      have stm : Stay (upd Z tp (.tup (zs.map V.str))) (upd (upd Z tp (.tup (zs.map V.str))) Do (.lst (us.map V.ref ++ [.ref tp]))) := stay_mut (by rw [gT]; trivial)
      refine ⟨_, gT, ?_, us ++ [tp], ls ++ [zs], ?_, ?_, ?_, (oY.trans oT).mut nDo, DT.mut Dod Dol⟩
      · rw [List.length_map]
        exact Nat.lt_of_le_of_lt lus (by decide)
      · rw [upd_same, List.map_append]
        rfl
      · exact snoc (Paired.mapP hus fun _ _ z => stm.tup ((oT.stay DY).tup z)) (tupOf (stm _ _ upd_same (.inl ⟨_, rfl⟩)))
      · rw [List.take_add_one, hp]
        show Paired List.Sublist (ls ++ [zs]) ((([(nv4, ws), (rv4, rs)].take m) ++ [p]).map (·.2))
        rw [List.map_append]
        exact snoc hls szs
  obtain ⟨us, ls, gY, hus, hls, oY, DY⟩ := z
  obtain ⟨u1, u2, ws', rs', rfl, hu1, hu2, sub1, sub2⟩ : ∃ (u1 u2 : Addr) (ws' rs' : List Str), us = [u1, u2] ∧ SqT K Y u1 (ws'.map V.str) ∧ SqT K Y u2 (rs'.map V.str) ∧ ws'.Sublist ws ∧ rs'.Sublist rs := by
    have hls : Paired List.Sublist ls [ws, rs] := hls
    cases hls with
    | cons b1 b2 =>
      cases b2 with
      | cons b3 b4 =>
        cases b4
        cases hus with
        | cons c1 c2 =>
          cases c2 with
          | cons c3 c4 =>
            cases c4
            exact ⟨_, _, _, _, rfl, c1, c3, b1, b3⟩
  refine ⟨Do, _, rfl, .inl ⟨lst_of gY, fun le nle => ?_⟩⟩
  have snl : Stay Y (upd Y le (.tup ([u1, u2].map V.ref))) := stay_new nle
  have stA := (oY.stay D12).trans snl
  have hVl : VocS K (upd Y le (.tup ([u1, u2].map V.ref))) (.ref le) ws' rs' := ⟨le, u1, u2, rfl, tupOf upd_same, snl.tup hu1, snl.tup hu2⟩
  have hGl := hG.sub sub1 sub2
  have lrs' := hGl.r.1
  have hna := prs_st stA hna
  have hfa := prs_st stA hfa
  have hw1 := iswd_st stA hw1
  have hw2 := iswd_st stA hw2
  have hw3 := iswd_st stA hw3
  have hV := hV.st stA
  have D13 := DY.new (o := .tup ([u1, u2].map V.ref)) nle
  generalize upd Y le (.tup ([u1, u2].map V.ref)) = X13 at hVl hna hfa hw1 hw2 hw3 hV D13 ⊢
  clear stA snl nle oY DY hus hls hu1 hu2 gY hL hv1 hv2 hv3 nDo Dod Dol D12
  -- told, for fewer words
  refine ⟨v1, rfl, v2, rfl, .ref le, rfl, v1, v2, .ref le, W1, W2, ws', rs', rfl, hw1, ok1, hw2, ok2, hVl, hGl, fun to X14 k4 s14 hto fx4 => ?_⟩
  have g4 := gr_its ok2 fx4
  generalize pairsOf (its W2 (ties0 W1 rs') (fit0 W1 W2 ws') k4) = E4 at hto g4
  have st14 := Tl.Same.stay s14
  have hna := prs_st st14 hna
  have hfa := prs_st st14 hfa
  have hw1 := iswd_st st14 hw1
  have hw2 := iswd_st st14 hw2
  have hw3 := iswd_st st14 hw3
  have hV := hV.st st14
  have hVl := hVl.st st14
  have D14 := D13.same s14
  clear st14 s14 D13 fx4
  have sub14 : ∀ p ∈ E1, p ∈ E4 := fun p hp => gr_less ok1 ok2 ok1 ok2 rfl rfl (fun x n h1 h2 => ⟨h1, sub1.subset h2⟩) (fun _ _ h => h) (fun r hr => ⟨sub2.subset hr, fun _ _ h => h⟩) (fun _ _ _ h => h) g1 g4 hp
  have sh4 := g4.shows ok1 ok2
  -- no pair is lost
  obtain ⟨qn, sqn, pqn⟩ := id hna
  obtain ⟨qt, sqt, pqt⟩ := id hto
  refine ⟨.ref na, rfl, na, rfl, ⟨_, sqn⟩, fun Dl nDl => ?_⟩
  refine lc_tup (K := K) (a := na) (xs := qn.map V.ref) (fun i Z => L2.Same X14 Z ∧ Z Dl = some (.lst [])) ⟨same_up nDl, upd_same⟩ (fun i Z _ z => (Tl.Same.stay z.1).tup sqn) (fun m y Z hy z => ?_) (fun Z z => ?_)
  · obtain ⟨sZ, gZ⟩ := z
    obtain ⟨qa, hq, rfl⟩ : ∃ qa, qn[m]? = some qa ∧ V.ref qa = y := by
      rw [List.getElem?_map] at hy
      exact Option.map_eq_some_iff.mp hy
    obtain ⟨e, he, h1⟩ := getP pqn hq
    have stZ := Tl.Same.stay sZ
    refine ⟨rfl, .ref qa, rfl, .ref to, rfl, qa, to, e, qt, E4, rfl, rfl, pre_st stZ h1, .inr (stZ.tup sqt), Paired.mapP pqt fun _ _ z => pre_st stZ z, _, rfl, ?_⟩
    show (if (!decide (e ∈ E4)) = true then _ else _)
    rw [decide_eq_true (sub14 e (List.mem_of_getElem? he))]
    exact iteF ⟨sZ, gZ⟩
  obtain ⟨sZ, gZ⟩ := z
  refine ⟨Nat.zero_le _, fun v nv => ⟨.list (([] : List Int).map PyData.int), .list [], .lst (lst_of ((upd_ne (ne_of_none gZ nv)).trans gZ)) .nil, .lst (lst_of upd_same) .nil, shaped_nil, shaped_nil, _, rfl, ?_⟩⟩
  rw [lint_ne]
  have s15 := same_add sZ (o := .lst []) nv
  have st15 := Tl.Same.stay s15
  refine iteF ⟨.ref to, rfl, .ref to, _, rfl, dp_prs (prs_st st15 hto), sh4.sh, sh4.nd, sh4.dp, sh4.len, v1, rfl, v2, rfl, .ref le, rfl, v1, v2, .ref le, W1, W2, ws', rs', rfl, iswd_st st15 hw1, ok1, iswd_st st15 hw2, ok2, hVl.st st15, lrs', fun t5 l5 X16 s16 ht5 fx5 => ?_⟩
  rw [← g4.uniq ok1 ok2 (gr_law ok1 ok2 fx5)] at ht5
  refine ⟨.ref t5, _, rfl, dp_prs ht5, sh4.sh, sh4.nd, sh4.dp, sh4.len, rfl, _, rfl, ?_⟩
  rw [dis]
  refine iteF ?_
  have s17 := s15.trans s16
  have st17 := Tl.Same.stay s17
  have hna := prs_st st17 hna
  have hfa := prs_st st17 hfa
  have hw1 := iswd_st st17 hw1
  have hw2 := iswd_st st17 hw2
  have hw3 := iswd_st st17 hw3
  have hV := hV.st st17
  have hVl := hVl.st st17
  have D17 := D14.same s17
  clear sqn pqn sqt pqt qn qt s17 st17 s16 s15 st15 nv gZ sZ nDl hto ht5 D14 sh4
  -- every
  refine ⟨Nat.zero_le _, fun ev nev => ?_⟩
  have sE := same_up (o := .lst []) nev
  refine ⟨fun σ Y => ∃ t11 t12 : Option V, σ = [some (.ref a), some (.ref d), some (.int (i : Int)), some v1, some v2, some v3, some (.ref av), some (.ref na), some (.ref fa), some (.ref bo), some (.ref du), t11, t12, t13, t14, some (.ref le), t16, t17, some (.ref to), t19, some (.ref ev), t21, t22] ∧ L2.Same X16 Y ∧ PrL K Y ev (Pall W1 W2), ?_, ?_⟩
  · obtain ⟨a1, n1, r1, e1, ha1, _⟩ := id hw1
    obtain ⟨a2, n2, r2, e2, ha2, _⟩ := id hw2
    have n61 := ok1.many
    have n62 := ok2.many
    rw [e1, e2]
    refine ⟨.ref a1, rfl, a1, _, 0, .int W1.many, rfl, rfl, (Tl.Same.stay sE).tup ha1, atI_nat (j := 0) rfl, W1.many, rfl, by omega, by omega, ?_⟩
    refine for_range (lo := 0) (n := W1.many.toNat) (fun m σ X => ∃ t11 t12, σ = [some (.ref a), some (.ref d), some (.int (i : Int)), some (.ref a1), some (.ref a2), some v3, some (.ref av), some (.ref na), some (.ref fa), some (.ref bo), some (.ref du), t11, t12, t13, t14, some (.ref le), t16, t17, some (.ref to), t19, some (.ref ev), t21, t22] ∧ L2.Same X16 X ∧ PrL K X ev (Pfst W1 W2 m)) ⟨_, _, rfl, sE, [], upd_same, .nil⟩ (fun m σ X hi z => ?_) (fun σ X z => ?_)
    · obtain ⟨t11, t12, rfl, sX, hp⟩ := z
      rw [show (0 : Int) + (m : Int) = (m : Int) from Int.zero_add _]
      obtain ⟨ks, gp, hks⟩ := id hp
      have stX := Tl.Same.stay sX
      refine ⟨.ref ev, rfl, .inl ⟨rfl, _, lst_of gp⟩, .ref a2, rfl, a2, _, 0, .int W2.many, rfl, rfl, stX.tup ha2, atI_nat (j := 0) rfl, W2.many, rfl, by omega, by omega, fun D nD => ?_⟩
      refine lc_range (lo := 0) (n := W2.many.toNat) (fun j Y => L2.Same X Y ∧ PrL K Y D (((rgI W2.many).take j).map fun y => ((m : Int), y))) ⟨same_up nD, [], upd_same, .nil⟩ (fun j Y hj z => ?_) (fun Y z => ?_)
      · obtain ⟨sY, hD⟩ := z
        rw [show (0 : Int) + (j : Int) = (j : Int) from Int.zero_add _]
        refine ⟨rfl, .int (m : Int), rfl, .int (j : Int), rfl, (by show 2 ≤ sizeLine; decide), fun q2 nq2 => ?_⟩
        obtain ⟨ks2, gks, lks, pks⟩ := hD.put (e := ((m : Int), (j : Int))) nq2
        refine ⟨_, gks, ?_, same_mut (same_add sY nq2) nD, ?_⟩
        · rw [List.length_map, lks, List.length_map, List.length_take]
          exact Nat.lt_of_le_of_lt (show min j _ ≤ 6 by omega) (by decide)
        · rw [rgI_take hj, List.map_append]
          exact pks
      · obtain ⟨sY, ks2, gD, hks2⟩ := z
        rw [rgI_full] at hks2
        refine ⟨ev, D, _, _, rfl, rfl, sY _ _ gp, gD, ?_, some (.int (m : Int)), _, rfl, same_mut (sX.trans sY) nev, ks ++ ks2, ?_, ?_⟩
        · rw [List.length_map, List.length_map, Paired.length hks, Paired.length hks2, List.length_map, rgI_len]
          have h1 := Pfst_len W1 W2 m
          have h2 : m * W2.many.toNat ≤ 6 * 6 := Nat.mul_le_mul (by omega) (by omega)
          exact Nat.le_trans (show _ ≤ 42 by omega) (by decide)
        · rw [upd_same, List.map_append]
        · have st2 : Stay Y (upd Y ev (.lst (ks.map V.ref ++ ks2.map V.ref))) := stay_mut (by rw [sY _ _ gp]; trivial)
          have st1 := (Tl.Same.stay sY).trans st2
          have : Pfst W1 W2 (m + 1) = Pfst W1 W2 m ++ (rgI W2.many).map fun y => ((m : Int), y) := by
            unfold Pfst
            rw [rgI_take hi, List.flatMap_append, List.flatMap_cons, List.flatMap_nil, List.append_nil]
          rw [this]
          exact joinP (Paired.mapP hks fun _ _ z => pre_st st1 z) (Paired.mapP hks2 fun _ _ z => pre_st st2 z)
    · obtain ⟨t11, t12, rfl, sX, hp⟩ := z
      have eP : Pfst W1 W2 W1.many.toNat = Pall W1 W2 := by
        unfold Pfst Pall
        rw [rgI_full]
      rw [eP] at hp
      exact ⟨_, _, rfl, sX, hp⟩
  rintro σ X18 ⟨t11, t12, rfl, s18, hev⟩
  have st18 := Tl.Same.stay s18
  have shP : Shows (.tuple ((Pall W1 W2).map prD)) := shows_prs (fun e he => inr6 ok1 ok2 (mem_Pall.mp he)) (len_ok ok1 ok2)
  refine ⟨v1, rfl, v2, rfl, Nat.zero_le _, fun p1 np1 => ⟨Nat.zero_le _, fun p2 np2 => ⟨by show 2 ≤ sizeLine; decide, fun p3 np3 => ?_⟩⟩⟩
  have sp1 := same_up (o := .tup []) np1
  have sp2 := same_up (o := .tup []) np2
  have sp3 := same_up (o := .tup [.ref p1, .ref p2]) np3
  have s19 := ((s18.trans sp1).trans sp2).trans sp3
  have st19 := Tl.Same.stay s19
  refine ⟨v1, v2, .ref p3, W1, W2, [], [], rfl, iswd_st st19 hw1, ok1, iswd_st st19 hw2, ok2, ⟨p3, p1, p2, rfl, tupOf upd_same, tupOf ((sp2.trans sp3) _ _ upd_same), tupOf (sp3 _ _ upd_same)⟩, ⟨⟨Nat.zero_le _, (fun x hx => nomatch hx), .nil⟩, ⟨Nat.zero_le _, (fun x hx => nomatch hx), .nil⟩⟩, fun t6 X20 k6 s20 ht6 fx6 => ?_⟩
  rw [gr_none ok1 ok2 (gr_its ok2 fx6)] at ht6
  obtain ⟨ke, gev, pev⟩ := hev
  have s1820 := ((sp1.trans sp2).trans sp3).trans s20
  refine ⟨.ref t6, _, rfl, dp_prs ht6, shP.sh, shP.nd, shP.dp, shP.len, .ref ev, rfl, ev, _, rfl, .inl ⟨lst_of (s1820 _ _ gev), fun tp ntp => ?_⟩⟩
  have sn := same_up (o := .tup (ke.map V.ref)) ntp
  refine ⟨.ref tp, _, rfl, dp_prs ⟨ke, tupOf upd_same, Paired.mapP pev fun _ _ z => pre_st (Tl.Same.stay (s1820.trans sn)) z⟩, shP.sh, shP.nd, shP.dp, shP.len, rfl, _, rfl, ?_⟩
  rw [dis]
  refine iteF ?_
  have s21 := (s18.trans s1820).trans sn
  have st21 := Tl.Same.stay s21
  have hna := prs_st st21 hna
  have hfa := prs_st st21 hfa
  have hw1 := iswd_st st21 hw1
  have hw2 := iswd_st st21 hw2
  have hw3 := iswd_st st21 hw3
  have hV := hV.st st21
  have hVl := hVl.st st21
  have D21 := D17.same s21
  generalize upd X20 tp (.tup (ke.map V.ref)) = X21 at hna hfa hw1 hw2 hw3 hV hVl D21 ⊢
  clear s21 st21 sn ntp s1820 pev gev ht6 s20 s19 st19 sp1 sp2 sp3 np1 np2 np3 shP s18 st18 sE nev D17 fx6
  -- one pair of near
  refine ⟨fun σ Y => ∃ t11 t12 : Option V, σ = [some (.ref a), some (.ref d), some (.int (i : Int)), some v1, some v2, some v3, some (.ref av), some (.ref na), some (.ref fa), some (.ref bo), some (.ref du), t11, t12, t13, t14, some (.ref le), t16, t17, some (.ref to), t19, some (.ref ev), t21, t22] ∧ Off d l X21 Y ∧ Deck Y d l, ?_, ?_⟩
  · refine ⟨.ref na, rfl, Nat.zero_le _, fun u nu => ⟨.tuple (E1.map prD), .tuple [], dp_prs (prs_st (stay_new nu) hna), .tup (tupOf upd_same) .nil, shaped_tprs E1, shaped_tnil, _, rfl, ?_⟩⟩
    rw [tpr_ne]
    have su := same_up (o := .tup []) nu
    have D22 := D21.same su
    have hna := prs_st (Tl.Same.stay su) hna
    have hfa := prs_st (Tl.Same.stay su) hfa
    have hw1 := iswd_st (Tl.Same.stay su) hw1
    have hw2 := iswd_st (Tl.Same.stay su) hw2
    have hw3 := iswd_st (Tl.Same.stay su) hw3
    have hV := hV.st (Tl.Same.stay su)
    have hVl := hVl.st (Tl.Same.stay su)
    have oU := su.off (d := d) (l := l)
    generalize upd X21 u (.tup []) = X22 at D22 hna hfa hw1 hw2 hw3 hV hVl oU ⊢
    by_cases hemp : E1 = []
    · rw [hemp]
      exact iteF ⟨_, _, rfl, oU, D22⟩
    have hne : (!E1.isEmpty) = true := by
      cases E1 with
      | nil => exact absurd rfl hemp
      | cons _ _ => rfl
    rw [hne]
    obtain ⟨qn, sqn, pqn⟩ := id hna
    have lqn := pqn.length
    have l36 := g1.len ok1 ok2
    have qne : qn.map V.ref ≠ [] := fun z => by
      rw [List.map_eq_nil_iff] at z
      rw [z] at lqn
      exact hemp (List.length_eq_zero_iff.mp lqn.symm)
    refine iteT ⟨.ref d, rfl, .ref na, rfl, d, l, na, qn.map V.ref, rfl, D22, sqn, qne, by rw [List.length_map]; omega, fun x X23 hx o23 D23 => ?_⟩
    obtain ⟨qa, hqa, rfl⟩ := List.mem_map.mp hx
    obtain ⟨e, me, hpe⟩ := memP pqn hqa
    have st23 := o23.stay D22
    refine ⟨qa, _, rfl, st23.tup hpe, rfl, .int e.1, _, rfl, .int e.2, [], rfl, rfl, ?_⟩
    have hna := prs_st st23 hna
    have hfa := prs_st st23 hfa
    have hw1 := iswd_st st23 hw1
    have hw2 := iswd_st st23 hw2
    have hw3 := iswd_st st23 hw3
    have hV := hV.st st23
    have hVl := hVl.st st23
    clear hpe sqn pqn lqn qne hx hqa
    have inr1 := (g1.mem.mp me).1
    -- simulated_holds
    refine ⟨v1, rfl, .int e.1, rfl, v2, rfl, .int e.2, rfl, .ref le, rfl, .ref na, rfl, by show 2 ≤ sizeLine; decide, fun th nth => ?_⟩
    have sth := same_up (o := .tup [.str "simulated", .ref na]) nth
    have stt := Tl.Same.stay sth
    have fo1 := its_ok (W := W2) (fit0_ok ok1 ok2 ws rs) k1
    have fo2 := fit0_ok ok1 ok2 ws' rs'
    have lF : (its W2 (ties0 W1 rs) (fit0 W1 W2 ws) k1).length = (fit0 W1 W2 ws').length := by rw [its_len, l_fit, l_fit]
    refine ⟨v1, v2, .ref le, e.1, e.2, th, na, W1, W2, ws', rs', its W2 (ties0 W1 rs) (fit0 W1 W2 ws) k1, rfl, iswd_st stt hw1, ok1, iswd_st stt hw2, ok2, hVl.st stt, hGl, inr1.1, inr1.2, tupOf upd_same, by rw [hE1]; exact prs_st stt hna, by rw [hE1]; exact me, ⟨fo1.lt, lF.trans fo2.len, fo1.six, fun row hr e he => by have := fo2.rows row hr e he; rw [lF]; exact this⟩, lF,
      mat_less fx1 (fun x _ e he => ties_less (fun r hr => sub2.subset hr) x e he), fun x hx => within_less (fun n hn => sub1.subset hn) k1 (by rw [its_len, l_fit] at hx; exact hx), fun e he => by rw [hE1] at he; exact (g1.mem.mp he).1, fun X24 s24 => ⟨true, true, rfl, rfl, _, rfl, iteF ?_⟩⟩
    have s25 := sth.trans s24
    have st25 := Tl.Same.stay s25
    have hfa := prs_st st25 hfa
    have hw1 := iswd_st st25 hw1
    have hw3 := iswd_st st25 hw3
    have hV := hV.st st25
    -- judge_simulated
    obtain ⟨qf, sqf, pqf⟩ := id hfa
    refine ⟨.ref fa, rfl, fa, rfl, ⟨_, sqf⟩, fun Dl nDl => ?_⟩
    refine lc_tup (K := K) (a := fa) (xs := qf.map V.ref) (fun i Z => L2.Same X24 Z ∧ Z Dl = some (.lst [])) ⟨same_up nDl, upd_same⟩ (fun i Z _ z => (Tl.Same.stay z.1).tup sqf) (fun m y Z hy z => ?_) (fun Z z => ?_)
    · obtain ⟨sZ, gZ⟩ := z
      obtain ⟨qc, hqc, rfl⟩ : ∃ qc, qf[m]? = some qc ∧ V.ref qc = y := by
        rw [List.getElem?_map] at hy
        exact Option.map_eq_some_iff.mp hy
      obtain ⟨g, hg, h2⟩ := getP pqf hqc
      have mg2 := List.mem_of_getElem? hg
      have stZ := Tl.Same.stay sZ
      refine ⟨qc, _, rfl, stZ.tup h2, rfl, .int g.1, _, rfl, .int g.2, [], rfl, rfl, rfl, .int g.1, rfl, .int e.2, rfl, rfl, _, rfl, ?_⟩
      by_cases eq : g.1 = e.2
      · rw [decide_eq_true (congrArg V.int eq)]
        have inr2 := (g2.mem.mp mg2).1
        refine iteT ⟨v1, rfl, .int e.1, rfl, v3, rfl, .int g.2, rfl, .ref av, rfl, v1, v3, .ref av, e.1, g.2, W1, W3, ws, rs, rfl, iswd_st stZ hw1, ok1, iswd_st stZ hw3, ok3, hV.st stZ, hG, inr1.1, inr2.2, fun t => gr_comp_all ok1 ok2 ok3 g1 g2 me (by rw [← eq]; exact mg2) t, fun pj tj Z2 sj gj => ?_⟩
        refine .inr ⟨pj, _, 0, .str "simulated", rfl, rfl, tupOf gj, atI_nat (j := 0) rfl, rfl, _, rfl, ?_⟩
        rw [dis]
        exact iteF ⟨sZ.trans sj, sj _ _ gZ⟩
      · rw [decide_eq_false fun z => eq (V.int.inj z)]
        exact iteF ⟨sZ, gZ⟩
    · obtain ⟨sZ, gZ⟩ := z
      refine ⟨Nat.zero_le _, fun v nv => ⟨.list (([] : List Int).map PyData.int), .list [], .lst (lst_of ((upd_ne (ne_of_none gZ nv)).trans gZ)) .nil, .lst (lst_of upd_same) .nil, shaped_nil, shaped_nil, _, rfl, ?_⟩⟩
      rw [lint_ne]
      have sL := (s25.trans sZ).trans (same_up (o := .lst []) nv)
      exact iteF ⟨_, _, rfl, (oU.trans o23).trans sL.off, D23.same sL⟩
  rintro σ X22 ⟨t11', t12', rfl, o22, D22⟩
  have st22 := o22.stay D21
  have hna := prs_st st22 hna
  have hw1 := iswd_st st22 hw1
  have hw2 := iswd_st st22 hw2
  have hV := hV.st st22
  clear hfa hw3 hVl o22 st22 D21
  -- fewer ties, more names
  refine ⟨.ref d, rfl, v1, rfl, d, l, v1, W1, rfl, D22, hw1, ok1, fun v5 V1 X23 hv5 kk1 m1 nn1 td1 o23 D23 => ?_⟩
  refine ⟨.ref d, rfl, v2, rfl, d, l, v2, W2, rfl, D23, iswd_st (o23.stay D22) hw2, ok2, f2, fun v6 V2 X24 hv6 kk2 m2 rr2 gr2 o24 D24 => ⟨v5, v6, rfl, ?_⟩⟩
  have st24 := (o23.stay D22).trans (o24.stay D23)
  have hna := prs_st st24 hna
  have hV := hV.st st24
  have hv5 := iswd_st (o24.stay D23) hv5
  refine ⟨v5, rfl, v6, rfl, .ref av, rfl, v5, v6, .ref av, V1, V2, ws, rs, rfl, hv5, kk1, hv6, kk2, hV, hG, fun tm X25 k7 s25 htm fx7 => ?_⟩
  have g7 := gr_its kk2 fx7
  generalize pairsOf (its V2 (ties0 V1 rs) (fit0 V1 V2 ws) k7) = E7 at htm g7
  have nmE : ∀ x, nmO V1 x = nmO W1 x := fun x => by unfold nmO; rw [nn1]
  have tdE : ∀ r y, tied V2 r y = tied W2 r y := fun r y => by unfold tied lookR; rw [rr2]
  have sub17 : ∀ p ∈ E1, p ∈ E7 := fun p hp => gr_less ok1 ok2 kk1 kk2 m1 m2 (fun x n h1 h2 => ⟨by rw [← nmE]; exact h1, h2⟩) (fun y n h => grow_nmO ok2 kk2 gr2 h) (fun r hr => ⟨hr, fun x far h => td1 r x far h⟩) (fun r y it h => by rw [tdE]; exact h) g1 g7 hp
  have sh7 := g7.shows kk1 kk2
  have st25 := Tl.Same.stay s25
  have D25 := D24.same s25
  have hna := prs_st st25 hna
  have hV := hV.st st25
  have hv5 := iswd_st st25 hv5
  have hv6 := iswd_st st25 hv6
  obtain ⟨qn, sqn, pqn⟩ := id hna
  obtain ⟨qt, sqt, pqt⟩ := id htm
  refine ⟨.ref na, rfl, na, rfl, ⟨_, sqn⟩, fun Dl nDl => ?_⟩
  refine lc_tup (K := K) (a := na) (xs := qn.map V.ref) (fun i Z => L2.Same X25 Z ∧ Z Dl = some (.lst [])) ⟨same_up nDl, upd_same⟩ (fun i Z _ z => (Tl.Same.stay z.1).tup sqn) (fun m y Z hy z => ?_) (fun Z z => ?_)
  · obtain ⟨sZ, gZ⟩ := z
    obtain ⟨qa, hq, rfl⟩ : ∃ qa, qn[m]? = some qa ∧ V.ref qa = y := by
      rw [List.getElem?_map] at hy
      exact Option.map_eq_some_iff.mp hy
    obtain ⟨e, he, h1⟩ := getP pqn hq
    have stZ := Tl.Same.stay sZ
    refine ⟨rfl, .ref qa, rfl, .ref tm, rfl, qa, tm, e, qt, E7, rfl, rfl, pre_st stZ h1, .inr (stZ.tup sqt), Paired.mapP pqt fun _ _ z => pre_st stZ z, _, rfl, ?_⟩
    show (if (!decide (e ∈ E7)) = true then _ else _)
    rw [decide_eq_true (sub17 e (List.mem_of_getElem? he))]
    exact iteF ⟨sZ, gZ⟩
  obtain ⟨sZ, gZ⟩ := z
  refine ⟨Nat.zero_le _, fun v nv => ⟨.list (([] : List Int).map PyData.int), .list [], .lst (lst_of ((upd_ne (ne_of_none gZ nv)).trans gZ)) .nil, .lst (lst_of upd_same) .nil, shaped_nil, shaped_nil, _, rfl, ?_⟩⟩
  rw [lint_ne]
  have s26 := same_add sZ (o := .lst []) nv
  have st26 := Tl.Same.stay s26
  refine iteF ⟨.ref tm, rfl, .ref tm, _, rfl, dp_prs (prs_st st26 htm), sh7.sh, sh7.nd, sh7.dp, sh7.len, v5, rfl, v6, rfl, .ref av, rfl, v5, v6, .ref av, V1, V2, ws, rs, rfl, iswd_st st26 hv5, kk1, iswd_st st26 hv6, kk2, hV.st st26, lrs, fun t8 l8 X27 s27 ht8 fx8 => ?_⟩
  rw [← g7.uniq kk1 kk2 (gr_law kk1 kk2 fx8)] at ht8
  refine ⟨.ref t8, _, rfl, dp_prs ht8, sh7.sh, sh7.nd, sh7.dp, sh7.len, rfl, _, rfl, ?_⟩
  rw [dis]
  exact iteF ⟨⟨_, _, _, _, _, _, _, _, _, _, _, _, _, _, _, _, _, _, _, _, _, rfl⟩, D25.same (s26.trans s27)⟩
end
end K24
set_option Elab.async false
set_option linter.all false
set_option autoImplicit false
set_option maxRecDepth 100000
set_option maxHeartbeats 4000000
namespace K24
open PySem PySem.Spec PyProof.Rows L2 Tl
theorem dAt {K : PySem.W.Frag} {h : Heap} {mg : Str → Option Value} {x : Str} {st : Stmt} {f : Addr} {od an : Option Addr} {osl : Array (Option Value)} {oc kV doc pm cdv ct : Value} (X : K.In h) (G : h.Ns mainGlobals mg)
    (a : PySem.W.nsIn K mainGlobals x = some (some (.ref f))) (l : K.lookup f = some ⟨oc, od, .func (PySem.W.fnOf x x (defArgs st) (defBody st) (defScope st) .none kV doc pm an cdv ct), osl⟩) (c : PySem.W.codeIn K cdv x = true) (k : PySem.W.keepIn K (.ref f) = true) : DefAt K mg x st :=
  ⟨f, _, fun_mk l c k, PySem.W.mg_of X G a⟩
theorem iAt {K : PySem.W.Frag} {h : Heap} {mg : Str → Option Value} {x : Str} {i : Int} {t : Tok} (X : K.In h) (G : h.Ns mainGlobals mg) (a : PySem.W.nsIn K mainGlobals x = some (some (.int i t))) : ∃ t, mg x = some (.int i t) := ⟨t, PySem.W.mg_of X G a⟩
theorem nwAt {K : PySem.W.Frag} {h : Heap} {mg : Str → Option Value} {a : Addr} {dd : Option Addr} {n : Nat} {sl : Array (Option Value)} {t1 t2 t3 t4 t5 t6 : Tok} (X : K.In h) (G : h.Ns mainGlobals mg)
    (e : PySem.W.nsIn K mainGlobals "NO_WORDS" = some (some (.ref a))) (l : K.lookup a = some ⟨.type "tuple", dd, .seq #[.str "all" t1, .str "none" t2, .str "some" t3, .str "and" t4, .str "each" t5, .str "is" t6] n, sl⟩) :
    ∃ a, mg "NO_WORDS" = some (.ref a) ∧ ∀ H, SqT K H a [.str "all", .str "none", .str "some", .str "and", .str "each", .str "is"] :=
  ⟨a, PySem.W.mg_of X G e, fun H => .inr ⟨_, _, n, l, rfl, rfl, (by show 6 ≤ sizeLine; decide), .cons ⟨_, rfl⟩ (.cons ⟨_, rfl⟩ (.cons ⟨_, rfl⟩ (.cons ⟨_, rfl⟩ (.cons ⟨_, rfl⟩ (.cons ⟨_, rfl⟩ .nil)))))⟩⟩
theorem fin {P : Program} {w : World} {K : PySem.W.Frag} {mg : Str → Option Value} {fa : Addr} (T : Txt K mg) (hfa : mg "law" = some (.ref fa)) :
    ∃ fd : FuncData, (∀ (s : Shared) (u : Value), BindsTo s fd ⟨[u], []⟩ [("script", u)]) ∧ ∀ base : Heap, K.In base → base.Ns mainGlobals mg → FnG P w K mg base CX0 42 fa fd ["script"] (spLaw K) := by
  obtain ⟨f, fd, F, hm⟩ := T.law.ex
  cases hfa.symm.trans hm
  refine ⟨fd, fun s u => ?_, fun base _ _ => gLaw T F⟩
  obtain ⟨oc, od, kV, doc, pm, an, cdv, ct, osl, rfl, lk, hcd⟩ := F.ex
  exact .of_eq rfl
theorem walk {l : PySem.W.OpenLaw} {q : Program} {loose : List Str} {XP : (Str → Option Value) → Heap → Prop} {YP : World → Heap → Prop} {d : DefRec} {K : Params → PySem.W.Frag} (hn : l.most = some 63) (hdf : d.params.defaults = [])
    (hY : ∀ (w : World) (h : Heap), YP w h → (K w.params).In h) (hd : d.name = "law")
    (F : ∀ (w : World) (mg : Str → Option Value) (h : Heap), (K w.params).In h → h.Ns mainGlobals mg → Txt (K w.params) mg) :
    PySem.W.WalkO q loose XP YP l.row.toRowW d [] (fun f vs => PySem.call f vs) :=
  Tl.walkG (n := 63) (k := 42) (x := "script") (sp := fun w => spLaw (K w.params)) hn (by decide) hdf ⟨rfl, by decide, by decide⟩ hY (fun w mg fa h KX G hmg => fin (F w mg h KX G) (by rw [hd] at hmg; exact hmg)) (fun _ _ a ns hl _ _ hS => ⟨a, ns, rfl, hS, hl, fun _ => rfl⟩)
theorem kAt {K : PySem.W.Frag} {h : Heap} {mg : Str → Option Value} {x qual : Str} {st : Stmt} {C f : Addr} {od an : Option Addr} {osl : Array (Option Value)} {oc kV doc pm cdv ct : Value} (X : K.In h) (G : h.Ns mainGlobals mg)
    (aC : PySem.W.nsIn K mainGlobals x = some (some (.ref C))) (a1 : PySem.W.findIn K (.ref C) "__init__" = some (some (.ref f))) (i1 : PySem.W.isFn K (.ref f) = true) (l1 : K.lookup f = some ⟨oc, od, .func (PySem.W.fnOf "__init__" qual (defArgs st) (defBody st) (defScope st) .none kV doc pm an cdv ct), osl⟩)
    (c1 : PySem.W.codeIn K cdv qual = true) (k1 : PySem.W.keepIn K (.ref f) = true) (mk : PySem.W.makesIn K C = true) (kc : PySem.W.keepIn K (.ref C) = true) : KAt K mg x qual C st :=
  ⟨⟨f, _, fun_mk l1 c1 k1, ⟨mk, a1, i1, kc⟩⟩, PySem.W.mg_of X G aC⟩
theorem mAt {K : PySem.W.Frag} {m qual : Str} {st : Stmt} {C f : Addr} {od an : Option Addr} {osl : Array (Option Value)} {oc kV doc pm cdv ct : Value}
    (pg : PySem.W.plainGet K C Str.empty = true) (hd : PySem.W.hasDictIn K C = true) (po : PySem.W.plainOver K C = true) (sa : PySem.W.findIn K (.ref C) "__setattr__" = some (some (.builtin "object.__setattr__")))
    (a : PySem.W.findIn K (.ref C) m = some (some (.ref f))) (i : PySem.W.isFn K (.ref f) = true) (l : K.lookup f = some ⟨oc, od, .func (PySem.W.fnOf m qual (defArgs st) (defBody st) (defScope st) .none kV doc pm an cdv ct), osl⟩) (c : PySem.W.codeIn K cdv qual = true) (k : PySem.W.keepIn K (.ref f) = true) : MAt K C m qual st :=
  ⟨⟨f, _, fun_mk l c k, ⟨a, i, k⟩⟩, ⟨pg, hd, po, sa⟩⟩
theorem rAt {K : PySem.W.Frag} {h : Heap} {mg : Str → Option Value} {x m qual : Str} {st : Stmt} {C f : Addr} {od an : Option Addr} {osl : Array (Option Value)} {oc kV doc pm cdv ct : Value} (X : K.In h) (G : h.Ns mainGlobals mg)
    (aC : PySem.W.nsIn K mainGlobals x = some (some (.ref C))) (ga : PySem.W.specialIn K (.ref C) "__getattribute__" = some (some (.builtin "type.__getattribute__"))) (rd : PySem.W.readsIn K C (.type "type") = true) (at_ : PySem.W.findCls K (.ref C) (.type "type") m = some (.val (.ref f)))
    (l : K.lookup f = some ⟨oc, od, .func (PySem.W.fnOf m qual (defArgs st) (defBody st) (defScope st) .none kV doc pm an cdv ct), osl⟩) (c : PySem.W.codeIn K cdv qual = true) (k : PySem.W.keepIn K (.ref f) = true) : RAt K mg x m qual C st :=
  ⟨⟨f, _, .type "type", fun_mk l c k, ⟨rd, ga⟩, ⟨at_, rfl⟩⟩, PySem.W.mg_of X G aC⟩
theorem nAt {K : PySem.W.Frag} {C : Addr} {x : Str} (h : PySem.W.findIn K (.ref C) x = some none) : NoAttr K C x := h
end K24
open PySem PySem.W PyProof.Rows in
set_option maxRecDepth 100000 in
set_option maxHeartbeats 0 in
theorem PySem.Challenge.cw_tellalike_k24_whole_simulations_one_afte_holds : PySem.Challenge.rw_tellalike_k24_whole_simulations_one_afte.Holds := by
  w_on; o_law; k_head; (case hw => w_witness2)
  k_fill
  refine K24.walk (l := PySem.Challenge.rw_tellalike_k24_whole_simulations_one_afte) rfl rfl (fun w h Y => PySem.W.kIn_of Y) rfl ?F
  case F =>
    intro w mg h KX G
    refine' K24.Txt.mk (PySem.W.mg_none_of KX G ?n_all)
      (PySem.W.mg_none_of KX G ?n_bool)
      (PySem.W.mg_none_of KX G ?n_dict)
      (PySem.W.mg_none_of KX G ?n_enumerate)
      (PySem.W.mg_none_of KX G ?n_int)
      (PySem.W.mg_none_of KX G ?n_isinstance)
      (PySem.W.mg_none_of KX G ?n_len)
      (PySem.W.mg_none_of KX G ?n_list)
      (PySem.W.mg_none_of KX G ?n_max)
      (PySem.W.mg_none_of KX G ?n_range)
      (PySem.W.mg_none_of KX G ?n_repr)
      (PySem.W.mg_none_of KX G ?n_set)
      (PySem.W.mg_none_of KX G ?n_sorted)
      (PySem.W.mg_none_of KX G ?n_str)
      (PySem.W.mg_none_of KX G ?n_sum)
      (PySem.W.mg_none_of KX G ?n_tuple)
      (PySem.W.mg_none_of KX G ?n_zip)
      (K24.dAt (st := K24.sBits) KX G ?a_bits ?l_bits ?c_bits ?k_bits)
      (K24.dAt (st := K24.sIsWithin) KX G ?a_isWithin ?l_isWithin ?c_isWithin ?k_isWithin)
      (K24.dAt (st := K24.sIsInteger) KX G ?a_isInteger ?l_isInteger ?c_isInteger ?k_isInteger)
      (K24.dAt (st := K24.sIsPair) KX G ?a_isPair ?l_isPair ?c_isPair ?k_isPair)
      (K24.dAt (st := K24.sIsAscending) KX G ?a_isAscending ?l_isAscending ?c_isAscending ?k_isAscending)
      (K24.dAt (st := K24.sIsWord) KX G ?a_isWord ?l_isWord ?c_isWord ?k_isWord)
      (K24.dAt (st := K24.sIsConcept) KX G ?a_isConcept ?l_isConcept ?c_isConcept ?k_isConcept)
      (K24.dAt (st := K24.sIsVocabulary) KX G ?a_isVocabulary ?l_isVocabulary ?c_isVocabulary ?k_isVocabulary)
      (K24.dAt (st := K24.sIsIn) KX G ?a_isIn ?l_isIn ?c_isIn ?k_isIn)
      (K24.dAt (st := K24.sCheckConcept) KX G ?a_checkConcept ?l_checkConcept ?c_checkConcept ?k_checkConcept)
      (K24.dAt (st := K24.sCheckVocabulary) KX G ?a_checkVocabulary ?l_checkVocabulary ?c_checkVocabulary ?k_checkVocabulary)
      (K24.dAt (st := K24.sBottomUp) KX G ?a_bottomUp ?l_bottomUp ?c_bottomUp ?k_bottomUp)
      (K24.dAt (st := K24.sInner) KX G ?a_inner ?l_inner ?c_inner ?k_inner)
      (K24.dAt (st := K24.sIsLetter) KX G ?a_isLetter ?l_isLetter ?c_isLetter ?k_isLetter)
      (K24.dAt (st := K24.sAreWords) KX G ?a_areWords ?l_areWords ?c_areWords ?k_areWords)
      (K24.dAt (st := K24.sWordsOf) KX G ?a_wordsOf ?l_wordsOf ?c_wordsOf ?k_wordsOf)
      (K24.dAt (st := K24.sIsLean) KX G ?a_isLean ?l_isLean ?c_isLean ?k_isLean)
      (K24.dAt (st := K24.sMadeLean) KX G ?a_madeLean ?l_madeLean ?c_madeLean ?k_madeLean)
      (K24.dAt (st := K24.sMark) KX G ?a_mark ?l_mark ?c_mark ?k_mark)
      (K24.dAt (st := K24.sMatched) KX G ?a_matched ?l_matched ?c_matched ?k_matched)
      (K24.dAt (st := K24.sRoundsOf) KX G ?a_roundsOf ?l_roundsOf ?c_roundsOf ?k_roundsOf)
      (K24.dAt (st := K24.sIsWorld) KX G ?a_isWorld ?l_isWorld ?c_isWorld ?k_isWorld)
      (K24.dAt (st := K24.sThingsIn) KX G ?a_thingsIn ?l_thingsIn ?c_thingsIn ?k_thingsIn)
      (K24.dAt (st := K24.sCheckWorld) KX G ?a_checkWorld ?l_checkWorld ?c_checkWorld ?k_checkWorld)
      (K24.dAt (st := K24.sIsListing) KX G ?a_isListing ?l_isListing ?c_isListing ?k_isListing)
      (K24.dAt (st := K24.sAreItems) KX G ?a_areItems ?l_areItems ?c_areItems ?k_areItems)
      (K24.dAt (st := K24.sIsThing) KX G ?a_isThing ?l_isThing ?c_isThing ?k_isThing)
      (K24.dAt (st := K24.sIsTie) KX G ?a_isTie ?l_isTie ?c_isTie ?k_isTie)
      (K24.dAt (st := K24.sMembers) KX G ?a_members ?l_members ?c_members ?k_members)
      (K24.dAt (st := K24.sInBoth) KX G ?a_inBoth ?l_inBoth ?c_inBoth ?k_inBoth)
      (K24.dAt (st := K24.sTiedInto) KX G ?a_tiedInto ?l_tiedInto ?c_tiedInto ?k_tiedInto)
      (K24.dAt (st := K24.sGreatest) KX G ?a_greatest ?l_greatest ?c_greatest ?k_greatest)
      (K24.dAt (st := K24.sJudgeSimulated) KX G ?a_judgeSimulated ?l_judgeSimulated ?c_judgeSimulated ?k_judgeSimulated)
      (K24.dAt (st := K24.sSimulatedHolds) KX G ?a_simulatedHolds ?l_simulatedHolds ?c_simulatedHolds ?k_simulatedHolds)
      (K24.dAt (st := K24.sCheck) KX G ?a_check ?l_check ?c_check ?k_check)
      (K24.dAt (st := K24.sCheckThing) KX G ?a_checkThing ?l_checkThing ?c_checkThing ?k_checkThing)
      (K24.dAt (st := K24.sIsBelow) KX G ?a_isBelow ?l_isBelow ?c_isBelow ?k_isBelow)
      (K24.dAt (st := K24.sArePairs) KX G ?a_arePairs ?l_arePairs ?c_arePairs ?k_arePairs)
      (K24.dAt (st := K24.sIsSimulation) KX G ?a_isSimulation ?l_isSimulation ?c_isSimulation ?k_isSimulation)
      (K24.dAt (st := K24.sLawDeck) KX G ?a_lawDeck ?l_lawDeck ?c_lawDeck ?k_lawDeck)
      (K24.dAt (st := K24.sLawDraw) KX G ?a_lawDraw ?l_lawDraw ?c_lawDraw ?k_lawDraw)
      (K24.dAt (st := K24.sLawPick) KX G ?a_lawPick ?l_lawPick ?c_lawPick ?k_lawPick)
      (K24.dAt (st := K24.sLawShuffled) KX G ?a_lawShuffled ?l_lawShuffled ?c_lawShuffled ?k_lawShuffled)
      (K24.dAt (st := K24.sLawWorld) KX G ?a_lawWorld ?l_lawWorld ?c_lawWorld ?k_lawWorld)
      (K24.dAt (st := K24.sLawVocabulary) KX G ?a_lawVocabulary ?l_lawVocabulary ?c_lawVocabulary ?k_lawVocabulary)
      (K24.dAt (st := K24.sLawNamesOf) KX G ?a_lawNamesOf ?l_lawNamesOf ?c_lawNamesOf ?k_lawNamesOf)
      (K24.dAt (st := K24.sLawTied) KX G ?a_lawTied ?l_lawTied ?c_lawTied ?k_lawTied)
      (K24.dAt (st := K24.sLawPruned) KX G ?a_lawPruned ?l_lawPruned ?c_lawPruned ?k_lawPruned)
      (K24.dAt (st := K24.sLawGreatest) KX G ?a_lawGreatest ?l_lawGreatest ?c_lawGreatest ?k_lawGreatest)
      (K24.dAt (st := K24.sLawFewerTies) KX G ?a_lawFewerTies ?l_lawFewerTies ?c_lawFewerTies ?k_lawFewerTies)
      (K24.dAt (st := K24.sLawMoreNames) KX G ?a_lawMoreNames ?l_lawMoreNames ?c_lawMoreNames ?k_lawMoreNames)
      (K24.dAt (st := K24.sLaw) KX G ?a_law ?l_law ?c_law ?k_law)
      (K24.iAt KX G ?i_longest_word)
      (K24.nwAt KX G ?w_no_words ?v_no_words)
      (K24.iAt KX G ?i_most_things)
      (K24.iAt KX G ?i_most_rounds)
      ⟨_, _, _, K24.TxC.mk (K24.kAt (st := K24.sModelInit) KX G ?ka_kModel ?kb_kModel ?kc_kModel ?kd_kModel ?ke_kModel ?kf_kModel ?kg_kModel ?kh_kModel)
        (K24.kAt (st := K24.sLookInit) KX G ?ka_kLook ?kb_kLook ?kc_kLook ?kd_kLook ?ke_kLook ?kf_kLook ?kg_kLook ?kh_kLook)
        (K24.mAt (st := K24.sTiesBefore) ?ma_mModel_before ?mb_mModel_before ?mc_mModel_before ?md_mModel_before ?me_mModel_before ?mf_mModel_before ?mg_mModel_before ?mh_mModel_before ?mi_mModel_before)
        (K24.mAt (st := K24.sModelHaving) ?ma_mModel_having ?mb_mModel_having ?mc_mModel_having ?md_mModel_having ?me_mModel_having ?mf_mModel_having ?mg_mModel_having ?mh_mModel_having ?mi_mModel_having)
        (K24.mAt (st := K24.sLookPairs) ?ma_mLook_pairs ?mb_mLook_pairs ?mc_mLook_pairs ?md_mLook_pairs ?me_mLook_pairs ?mf_mLook_pairs ?mg_mLook_pairs ?mh_mLook_pairs ?mi_mLook_pairs)
        (K24.mAt (st := K24.sLookRoundOf) ?ma_mLook_round_of ?mb_mLook_round_of ?mc_mLook_round_of ?md_mLook_round_of ?me_mLook_round_of ?mf_mLook_round_of ?mg_mLook_round_of ?mh_mLook_round_of ?mi_mLook_round_of)
        (K24.mAt (st := K24.sLookWithNames) ?ma_mLookU_with_names ?mb_mLookU_with_names ?mc_mLookU_with_names ?md_mLookU_with_names ?me_mLookU_with_names ?mf_mLookU_with_names ?mg_mLookU_with_names ?mh_mLookU_with_names ?mi_mLookU_with_names)
        (K24.rAt (st := K24.sTiesInit) KX G ?ra_rTiesU__initU_ ?rb_rTiesU__initU_ ?rc_rTiesU__initU_ ?rd_rTiesU__initU_ ?re_rTiesU__initU_ ?rf_rTiesU__initU_ ?rg_rTiesU__initU_)
        (K24.nAt ?o_nModelU_after)
        (K24.nAt ?o_nModel_everything)
        (K24.nAt ?o_nModelU_having)
        (K24.nAt ?o_nLook_second)
        (K24.nAt ?o_nLookU_names)
        (K24.nAt ?o_nLook_ties)
        (K24.nAt ?o_nLook_fits)
        (K24.nAt ?o_nLook_rounds)⟩
    (case n_all => k_is)
    (case n_bool => k_is)
    (case n_dict => k_is)
    (case n_enumerate => k_is)
    (case n_int => k_is)
    (case n_isinstance => k_is)
    (case n_len => k_is)
    (case n_list => k_is)
    (case n_max => k_is)
    (case n_range => k_is)
    (case n_repr => k_is)
    (case n_set => k_is)
    (case n_sorted => k_is)
    (case n_str => k_is)
    (case n_sum => k_is)
    (case n_tuple => k_is)
    (case n_zip => k_is)
    (case a_bits => k_is); (case l_bits => k_is); (case c_bits => k_is); (case k_bits => k_is)
    (case a_isWithin => k_is); (case l_isWithin => k_is); (case c_isWithin => k_is); (case k_isWithin => k_is)
    (case a_isInteger => k_is); (case l_isInteger => k_is); (case c_isInteger => k_is); (case k_isInteger => k_is)
    (case a_isPair => k_is); (case l_isPair => k_is); (case c_isPair => k_is); (case k_isPair => k_is)
    (case a_isAscending => k_is); (case l_isAscending => k_is); (case c_isAscending => k_is); (case k_isAscending => k_is)
    (case a_isWord => k_is); (case l_isWord => k_is); (case c_isWord => k_is); (case k_isWord => k_is)
    (case a_isConcept => k_is); (case l_isConcept => k_is); (case c_isConcept => k_is); (case k_isConcept => k_is)
    (case a_isVocabulary => k_is); (case l_isVocabulary => k_is); (case c_isVocabulary => k_is); (case k_isVocabulary => k_is)
    (case a_isIn => k_is); (case l_isIn => k_is); (case c_isIn => k_is); (case k_isIn => k_is)
    (case a_checkConcept => k_is); (case l_checkConcept => k_is); (case c_checkConcept => k_is); (case k_checkConcept => k_is)
    (case a_checkVocabulary => k_is); (case l_checkVocabulary => k_is); (case c_checkVocabulary => k_is); (case k_checkVocabulary => k_is)
    (case a_bottomUp => k_is); (case l_bottomUp => k_is); (case c_bottomUp => k_is); (case k_bottomUp => k_is)
    (case a_inner => k_is); (case l_inner => k_is); (case c_inner => k_is); (case k_inner => k_is)
    (case a_isLetter => k_is); (case l_isLetter => k_is); (case c_isLetter => k_is); (case k_isLetter => k_is)
    (case a_areWords => k_is); (case l_areWords => k_is); (case c_areWords => k_is); (case k_areWords => k_is)
    (case a_wordsOf => k_is); (case l_wordsOf => k_is); (case c_wordsOf => k_is); (case k_wordsOf => k_is)
    (case a_isLean => k_is); (case l_isLean => k_is); (case c_isLean => k_is); (case k_isLean => k_is)
    (case a_madeLean => k_is); (case l_madeLean => k_is); (case c_madeLean => k_is); (case k_madeLean => k_is)
    (case a_mark => k_is); (case l_mark => k_is); (case c_mark => k_is); (case k_mark => k_is)
    (case a_matched => k_is); (case l_matched => k_is); (case c_matched => k_is); (case k_matched => k_is)
    (case a_roundsOf => k_is); (case l_roundsOf => k_is); (case c_roundsOf => k_is); (case k_roundsOf => k_is)
    (case a_isWorld => k_is); (case l_isWorld => k_is); (case c_isWorld => k_is); (case k_isWorld => k_is)
    (case a_thingsIn => k_is); (case l_thingsIn => k_is); (case c_thingsIn => k_is); (case k_thingsIn => k_is)
    (case a_checkWorld => k_is); (case l_checkWorld => k_is); (case c_checkWorld => k_is); (case k_checkWorld => k_is)
    (case a_isListing => k_is); (case l_isListing => k_is); (case c_isListing => k_is); (case k_isListing => k_is)
    (case a_areItems => k_is); (case l_areItems => k_is); (case c_areItems => k_is); (case k_areItems => k_is)
    (case a_isThing => k_is); (case l_isThing => k_is); (case c_isThing => k_is); (case k_isThing => k_is)
    (case a_isTie => k_is); (case l_isTie => k_is); (case c_isTie => k_is); (case k_isTie => k_is)
    (case a_members => k_is); (case l_members => k_is); (case c_members => k_is); (case k_members => k_is)
    (case a_inBoth => k_is); (case l_inBoth => k_is); (case c_inBoth => k_is); (case k_inBoth => k_is)
    (case a_tiedInto => k_is); (case l_tiedInto => k_is); (case c_tiedInto => k_is); (case k_tiedInto => k_is)
    (case a_greatest => k_is); (case l_greatest => k_is); (case c_greatest => k_is); (case k_greatest => k_is)
    (case a_judgeSimulated => k_is); (case l_judgeSimulated => k_is); (case c_judgeSimulated => k_is); (case k_judgeSimulated => k_is)
    (case a_simulatedHolds => k_is); (case l_simulatedHolds => k_is); (case c_simulatedHolds => k_is); (case k_simulatedHolds => k_is)
    (case a_check => k_is); (case l_check => k_is); (case c_check => k_is); (case k_check => k_is)
    (case a_checkThing => k_is); (case l_checkThing => k_is); (case c_checkThing => k_is); (case k_checkThing => k_is)
    (case a_isBelow => k_is); (case l_isBelow => k_is); (case c_isBelow => k_is); (case k_isBelow => k_is)
    (case a_arePairs => k_is); (case l_arePairs => k_is); (case c_arePairs => k_is); (case k_arePairs => k_is)
    (case a_isSimulation => k_is); (case l_isSimulation => k_is); (case c_isSimulation => k_is); (case k_isSimulation => k_is)
    (case a_lawDeck => k_is); (case l_lawDeck => k_is); (case c_lawDeck => k_is); (case k_lawDeck => k_is)
    (case a_lawDraw => k_is); (case l_lawDraw => k_is); (case c_lawDraw => k_is); (case k_lawDraw => k_is)
    (case a_lawPick => k_is); (case l_lawPick => k_is); (case c_lawPick => k_is); (case k_lawPick => k_is)
    (case a_lawShuffled => k_is); (case l_lawShuffled => k_is); (case c_lawShuffled => k_is); (case k_lawShuffled => k_is)
    (case a_lawWorld => k_is); (case l_lawWorld => k_is); (case c_lawWorld => k_is); (case k_lawWorld => k_is)
    (case a_lawVocabulary => k_is); (case l_lawVocabulary => k_is); (case c_lawVocabulary => k_is); (case k_lawVocabulary => k_is)
    (case a_lawNamesOf => k_is); (case l_lawNamesOf => k_is); (case c_lawNamesOf => k_is); (case k_lawNamesOf => k_is)
    (case a_lawTied => k_is); (case l_lawTied => k_is); (case c_lawTied => k_is); (case k_lawTied => k_is)
    (case a_lawPruned => k_is); (case l_lawPruned => k_is); (case c_lawPruned => k_is); (case k_lawPruned => k_is)
    (case a_lawGreatest => k_is); (case l_lawGreatest => k_is); (case c_lawGreatest => k_is); (case k_lawGreatest => k_is)
    (case a_lawFewerTies => k_is); (case l_lawFewerTies => k_is); (case c_lawFewerTies => k_is); (case k_lawFewerTies => k_is)
    (case a_lawMoreNames => k_is); (case l_lawMoreNames => k_is); (case c_lawMoreNames => k_is); (case k_lawMoreNames => k_is)
    (case a_law => k_is); (case l_law => k_is); (case c_law => k_is); (case k_law => k_is)
    (case i_longest_word => k_is)
    (case w_no_words => k_is); (case v_no_words => k_is)
    (case i_most_things => k_is)
    (case i_most_rounds => k_is)
    (case ka_kModel => k_is); (case kb_kModel => k_is); (case kc_kModel => k_is); (case kd_kModel => k_is); (case ke_kModel => k_is); (case kf_kModel => k_is); (case kg_kModel => k_is); (case kh_kModel => k_is)
    (case ka_kLook => k_is); (case kb_kLook => k_is); (case kc_kLook => k_is); (case kd_kLook => k_is); (case ke_kLook => k_is); (case kf_kLook => k_is); (case kg_kLook => k_is); (case kh_kLook => k_is)
    (case ma_mModel_before => k_is); (case mb_mModel_before => k_is); (case mc_mModel_before => k_is); (case md_mModel_before => k_is); (case me_mModel_before => k_is); (case mf_mModel_before => k_is); (case mg_mModel_before => k_is); (case mh_mModel_before => k_is); (case mi_mModel_before => k_is)
    (case ma_mModel_having => k_is); (case mb_mModel_having => k_is); (case mc_mModel_having => k_is); (case md_mModel_having => k_is); (case me_mModel_having => k_is); (case mf_mModel_having => k_is); (case mg_mModel_having => k_is); (case mh_mModel_having => k_is); (case mi_mModel_having => k_is)
    (case ma_mLook_pairs => k_is); (case mb_mLook_pairs => k_is); (case mc_mLook_pairs => k_is); (case md_mLook_pairs => k_is); (case me_mLook_pairs => k_is); (case mf_mLook_pairs => k_is); (case mg_mLook_pairs => k_is); (case mh_mLook_pairs => k_is); (case mi_mLook_pairs => k_is)
    (case ma_mLook_round_of => k_is); (case mb_mLook_round_of => k_is); (case mc_mLook_round_of => k_is); (case md_mLook_round_of => k_is); (case me_mLook_round_of => k_is); (case mf_mLook_round_of => k_is); (case mg_mLook_round_of => k_is); (case mh_mLook_round_of => k_is); (case mi_mLook_round_of => k_is)
    (case ma_mLookU_with_names => k_is); (case mb_mLookU_with_names => k_is); (case mc_mLookU_with_names => k_is); (case md_mLookU_with_names => k_is); (case me_mLookU_with_names => k_is); (case mf_mLookU_with_names => k_is); (case mg_mLookU_with_names => k_is); (case mh_mLookU_with_names => k_is); (case mi_mLookU_with_names => k_is)
    (case ra_rTiesU__initU_ => k_is); (case rb_rTiesU__initU_ => k_is); (case rc_rTiesU__initU_ => k_is); (case rd_rTiesU__initU_ => k_is); (case re_rTiesU__initU_ => k_is); (case rf_rTiesU__initU_ => k_is); (case rg_rTiesU__initU_ => k_is)
    (case o_nModelU_after => k_is)
    (case o_nModel_everything => k_is)
    (case o_nModelU_having => k_is)
    (case o_nLook_second => k_is)
    (case o_nLookU_names => k_is)
    (case o_nLook_ties => k_is)
    (case o_nLook_fits => k_is)
    (case o_nLook_rounds => k_is)
