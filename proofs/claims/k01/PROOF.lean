import PyProof.Rows.All
import Wide.All
import OpenK.AllK
import Wide.FinOn
import HandS.ForMost
import HandS.SetFor
import HandS.Strs
import HandS.SetBool
import HandS.More
import HandS.Defaults
import HandS.Conv
import HandS.TupAny
import HandS.SortInts
import HandS.IsInst
import HandS.CallLocal
import HandS.Wide
import HandS.EndBits
import HandS.Flow
import HandS.Style
import HandS.Codes
import KE.KDictPairs
import PySem.Challenge.RW_tellalike_k01_any_values_as_words_concep
import PyProof.Draws
import PyProof.EnumMake
import PyProof.EnumFor
import PyProof.Rows.MinMaxN
import KE.KRevSl
import PyProof.StrOps2
import PyProof.Rows.EqBoolInt
import PyProof.Rows.IntBool
import PyProof.CallStr
import PyProof.Rows.ReprOcc
import HandS.TupSets
import KE.KEqDeep
import HandS.TryOnly
import PyProof.EqKinds
set_option Elab.async false
set_option linter.all false
set_option maxRecDepth 100000
/-! my own rules over the layer: extend by a tuple, set of ints, repr of data, dict of a tuple of pairs -/
namespace Tl
open PySem PySem.Spec PyProof.Rows L2
section
variable {X : Cx}
/-! ### list.extend(tuple) -/
def rExtT (K : PySem.W.Frag) : V → List V → Hp → VK → Prop := fun x vs H Q => ∃ (l b : Addr) (xs zs : List V),
  x = V.ref l ∧ vs = [V.ref b] ∧ H l = some (.lst xs) ∧ SqT K H b zs ∧ xs.length + zs.length ≤ sizeLine ∧
    Q V.non (upd H l (.lst (xs ++ zs)))
theorem meets_extT {l b : Addr} {own its : Array Value} {n : Nat} (sz : own.size + its.size ≤ sizeLine) :
    Meets (Builtin.«list.extend» ⟨[.ref l, .ref b], []⟩) (fun _ R s =>
      s.heap.get? l = some { cls := .type "list", data := .seq own n } ∧ PyProof.Rows.IsTup s.heap b its ∧
        R (.ok (.ret Value.none)) { s with heap := s.heap.update l (Obj.mapSeq fun z => z ++ its) }) := by
  intro prog w A R s ⟨g1, ⟨o, g2, g3, m, g4⟩, fin⟩
  show wpAny _ A.in1 (Builtin.List.listExtendWith (.ref l) (.ref b) .none) _ _ s
  unfold Builtin.List.listExtendWith
  refine wpAny_bind (wpAny_typeOf (T := "tuple") ⟨o, g2, g3⟩ ?_)
  have yes : (Builtin.List.listSameRef (.ref l) (.ref b) || Value.type "tuple" == Value.type "list" || Value.type "tuple" == Value.type "tuple") = true := by simp
  simp only [yes, if_true]
  refine wpAny_bind ?_
  unfold Builtin.List.listItems
  refine wpAny_bind (wpAny_seqItems g2 g4 (wpAny_pure ?_))
  refine wpAny_bind ?_
  refine wpAny_bind (wpAny_seqItems g1 rfl (wpAny_pure ?_))
  have nl : (!own.isEmpty && Builtin.List.listTooLong (own.size + its.size)) = false := by
    rw [notLongL sz, Bool.and_false]
  simp only [nl, Bool.false_eq_true, if_false]
  show wpAny _ A.in1 (updateSeq l (fun z => z ++ its) >>= fun _ => ret Value.none) _ _ s
  refine wpAny_bind (wpAny_updateSeq g1 rfl ?_ (by omega) (by rw [Array.size_append]; omega))
  exact wpAny_pure fin
theorem mt_extT : MtM X "list.extend" (rExtT X.K) := by
  intro pins s σ H x vs v us Q I rx rv ⟨l, b, xs, zs, e1, e2, h1, h2, h3, q⟩
  subst e1 e2
  cases rx
  obtain ⟨u, e3, ru⟩ := rv.one
  subst e3
  cases ru
  obtain ⟨k1, own, n, r1, l1, g1⟩ := I.lstM h1
  obtain ⟨its, r2, g2, l2⟩ := I.tuple h2
  have k2 := r2.length
  refine call_meets PySem.F.slot_list_extend ⟨_, g1, rfl⟩ PySem.F.entry_list_extend (PySem.F.args_list_extend_2 _ _)
    (meets_extT (its := its.toArray) (by rw [List.size_toArray, List.size_toArray]; omega)) ⟨g1, g2, ?_⟩
  refine ⟨.non, _, I.lset (its' := own ++ its) h1 g1 (by simp) (r1.append r2) ?_, rfl, q⟩
  rw [List.length_append]
  omega
end
end Tl
set_option Elab.async false
set_option linter.all false
set_option maxRecDepth 100000
/-! set(l), l a list of ints; set(t); the rule for both -/
namespace Tl
open PySem PySem.Spec PyProof.Rows L2
/-- the object that a new set begins as -/
abbrev nu (w : World) : Obj := { cls := .type "set", dict := none, data := .set #[] 0 (.fresh 0 0 (!w.params.followText "set-order")) }
section
variable {P : Program} {w : World} {A : Around} {E : Value → Shared → Prop} {s : Shared}
set_option maxHeartbeats 3200000 in
theorem set_list_ints {l : Addr} {vs : Array Value} (ns : List Int) {Q : Value → Shared → Prop} (calm : A.handled = none) (at_ : s.heap.IsList l vs)
    (are : IntsAre vs.toList ns) (few : ns.length + 1 < scanBound)
    (go : ∀ (h' : Heap) (tk c : Nat), SetR w h' s.heap.objs.size (fun j => decide (j ∈ ns)) c → c ≤ ns.length →
      (∀ b o, s.heap.get? b = some o → h'.get? b = some o) → Q (.ref s.heap.objs.size) { s with heap := h', toks := tk }) :
    wpAny (model P w) A (call (.type "set") [.ref l]) Q E s := by
  have same : vs.size = ns.length := (Array.length_toList (xs := vs)).symm.trans (IntsAre.length are)
  obtain ⟨c0, tl0, mro0⟩ := F.called_set.mro
  have f1 := F.called_set.made
  have f2 := F.called_set.sub
  refine wpAny_call (codeAny_of_tree ?_)
  show wpAny _ _ (callAny (.type "set") _) _ _ _
  refine wpAny_pure ⟨Code.quiet_builtin _ (by decide +kernel), codeAny_builtin F.entry_type_call ?_⟩
  rw [Around.under_plain (weight_type_call_type "set" [.ref l] []) rfl]
  have f3 := F.called_set.notType
  have f4 := F.called_set.canCreate
  have f5 := F.typeCall_set_1 (.ref l)
  repeat (any_goals (first | assumption | wp_step))
  -- the new set
  refine codeAny_mono (code_set_led1 (.ref l) (E := E) (Q₁ := fun x t => x = .ref s.heap.objs.size ∧ t = { s with heap := s.heap.push (nu w) }) ⟨rfl, rfl⟩) fun r t hr => ?_
  match r, hr with
  | .error _, hr => exact hr
  | .ok .next, hr => exact hr.elim
  | .ok .brk, hr => exact hr.elim
  | .ok .cont, hr => exact hr.elim
  | .ok (.ret x), hr =>
    obtain ⟨e1, e2⟩ := hr
    subst e1 e2
    have g0 : (s.heap.push (nu w)).get? s.heap.objs.size = some (nu w) := Heap.get?_push_size _ rfl
    have ty0 : Shared.TypeIs { s with heap := s.heap.push (nu w) } (.ref s.heap.objs.size) "set" := ⟨_, g0, rfl⟩
    have f6 := F.called_set.init.lookup
    have f7 := F.called_set.init.bind (.ref s.heap.objs.size)
    repeat (any_goals (first | assumption | wp_step))
    -- it is filled
    refine codeAny_mono (codeAny_call_builtin (R := wants (fun r t => r = .none ∧ ∃ h' tk c, t = { s with heap := h', toks := tk } ∧ SetR w h' s.heap.objs.size (fun j => decide (j ∈ ns)) c ∧ c ≤ ns.length ∧
        ∀ b o, s.heap.get? b = some o → h'.get? b = some o) E) F.called_set.init.plain F.entry_set_init (check_set_init_1 ty0 ?_)) fun r t ht => ?_
    · obtain ⟨⟨oc, od, odt, osl⟩, ho, hoc, n, hod⟩ := at_
      simp only at hoc hod
      subst hoc hod
      have ho1 : (s.heap.push (nu w)).get? l = some { cls := .type "list", dict := od, data := .seq vs n, slots := osl } := Heap.get?_push_of_some _ ho
      have f8 := F.sub_list_set
      have f9 := F.sub_list_frozenset
      have f10 : (Value.type "list" == Value.type "dict") = false := by decide
      have isl : (s.heap.push (nu w)).IsList l vs := ⟨_, ho1, rfl, n, rfl⟩
      unfold Builtin.«set.__init__» noKeywords Builtin.Frozenset.updateFrom
      generalize hit : pyIter = it
      wp_walk
      subst hit
      refine wpAny_pyIter_list isl ?_
      refine wpAny_bind (wpAny_runValue ?_)
      have low : l < s.heap.objs.size := Heap.lt_size ho
      have calm3 : A.in1.in1.in1.handled = none := by simp [calm]
      have ne1 : l ≠ (s.heap.push (nu w)).objs.size := by
        rw [Heap.size_push]
        exact Nat.ne_of_lt (Nat.lt_succ_of_lt low)
      have off : s.heap.objs.size ∉ [(s.heap.push (nu w)).objs.size, l] := by
        intro hm
        rw [Heap.size_push] at hm
        rcases List.mem_cons.mp hm with q | hm
        · exact absurd q (Nat.ne_of_lt (Nat.lt_succ_self _))
        · exact absurd (List.mem_singleton.mp hm) (Nat.ne_of_gt low)
      refine set_update_ints ((Walks.list calm3 _ l ne1 vs).toS) s.heap.objs.size off ns same few (fun i v hv => ?_) (vs.size - 0) 0 _ (by omega) (Nat.zero_le _)
        ⟨⟨_, Heap.get?_push_size _ rfl, rfl, rfl⟩, isl.push _⟩ ⟨0, Nat.le_refl 0, setR_new_at (Heap.get?_push_of_some _ g0)⟩ fun t' c moved le set' => ?_
      · have hi : i < ns.length := same ▸ (Array.getElem?_eq_some_iff.mp hv).1
        obtain ⟨t, e⟩ := PyProof.Rows.IntsAre.int_at are i v (by rw [Array.getElem?_toList]; exact hv)
        refine ⟨ns[i], t, List.getElem?_eq_getElem hi, ?_⟩
        rw [e, List.getD_eq_getElem?_getD, List.getElem?_eq_getElem hi] <;> rfl
      · obtain ⟨h', g2, d', tk', os'⟩ := t'
        obtain rfl : g2 = s.gens := moved.gens
        obtain rfl : d' = s.drawn := moved.drawn
        obtain rfl : os' = s.os := moved.os
        show wpAny _ _ _ _ _ _
        refine wpAny_pure ?_
        show wpAny _ _ (ret Value.none) _ _ _
        refine wpAny_pure ⟨rfl, h', tk', c, rfl, set', by omega, fun b o e => ?_⟩
        have lb : b < s.heap.objs.size := Heap.lt_size e
        refine moved.heap b o (fun hm => ?_) (Heap.get?_push_of_some _ (Heap.get?_push_of_some _ e))
        rcases List.mem_cons.mp hm with q | hm
        · exact absurd q (Nat.ne_of_lt lb)
        · have q := List.mem_singleton.mp hm
          have q2 : b = s.heap.objs.size + 1 := q.trans (Heap.size_push ..)
          rw [q2] at lb
          exact absurd lb (Nat.not_lt.mpr (Nat.le_succ _))
    · match r, ht with
      | .error _, ht => exact ht
      | .ok .next, ht => exact ht.elim
      | .ok .brk, ht => exact ht.elim
      | .ok .cont, ht => exact ht.elim
      | .ok (.ret x), ht =>
        obtain ⟨rfl, h', tk, c, rfl, set', le, keep⟩ := ht
        repeat (any_goals (first | assumption | wp_step))
        exact go _ _ _ set' le keep
end
section
variable {X : Cx}
/-- set(x), x a list or a tuple of ints -/
def rSetI (K : PySem.W.Frag) (w : World) : List V → Hp → VK → Prop := fun vs H Q => ∃ (p : Addr) (ns : List Int), vs = [V.ref p] ∧
  (SqL K H p (ns.map V.int) ∨ SqT K H p (ns.map V.int)) ∧ ns.length ≤ 1000 ∧
    ∀ (a : Addr) (c : Nat), c ≤ ns.length → H a = none → Q (V.ref a) (upd H a (SetO w a (fun j => decide (j ∈ ns)) c))
theorem cr_setI (calm : X.calm = true) : CallR X (.type "set") (rSetI X.K X.w) := by
  intro pins s σ H xs us Q I r ⟨p, ns, e, sq, few, q⟩
  subst e
  rw [Vals.ref1 r]
  have bound : ns.length + 1 < scanBound := Nat.lt_of_le_of_lt (Nat.add_le_add_right few 1) (by decide)
  have done : ∀ (h' : Heap) (tk c : Nat), SetR X.w h' s.heap.objs.size (fun j => decide (j ∈ ns)) c → c ≤ ns.length → (∀ b o, s.heap.get? b = some o → h'.get? b = some o) →
      EP X pins σ Q (.ref s.heap.objs.size) { s with heap := h', toks := tk } := fun h' tk c R le k =>
    ⟨.ref s.heap.objs.size, _, I.laid k (Nat.le_refl _) (setO_new R), rfl, q _ c le (I.hok.fresh (Nat.le_refl _))⟩
  rcases sq with sq | sq
  · obtain ⟨its, rv, ⟨o, n, ho, hc, hd, hdat⟩, _⟩ := I.list sq
    exact set_list_ints ns (I.ok.hd calm) ⟨o, ho, hc, n, hdat⟩ (ints_of_vals rv) bound done
  · obtain ⟨its, rv, ⟨o, ho, hc, n, hdat⟩, _⟩ := I.tuple sq
    exact call_set_tupI ns (I.ok.hd calm) ⟨o, ho, hc, n, hdat⟩ (ints_of_vals rv) bound done
end
end Tl
set_option Elab.async false
set_option linter.all false
set_option maxRecDepth 100000
set_option maxHeartbeats 2000000
/-! repr of data, dict(t) of a tuple of pairs, {e for x in xs if ..} with any add -/
namespace Tl
open PySem PySem.Spec PyProof.Rows L2
section
variable {X : Cx}
/-! ### repr -/
def rRepD (K : PySem.W.Frag) : List V → Hp → VK → Prop := fun xs H Q => ∃ (v : V) (d : PyData), xs = [v] ∧ Dp K H v d ∧ d.showable = true ∧
  d.hasDict = false ∧ d.depth ≤ 60 ∧ d.shown.length ≤ sizeLine ∧ Q (.str d.shown) H
theorem cr_repD (bare : X.A.guards = some []) (hu : X.A.units + 64 < cLine) : CallR X (.builtin "repr") (rRepD X.K) := by
  intro pins s σ H xs us Q I r ⟨v, d, e, hd, h1, h2, h3, h4, q⟩
  subst e
  obtain ⟨u, e, ru⟩ := r.one
  subst e
  obtain ⟨as, rd⟩ := Dp.reads I d v u hd ru
  cases hd with
  | non =>
    cases ru
    exact PySem.P.repr_of_none ⟨.str _, H, I.tok _, ⟨_, rfl⟩, q⟩
  | bl b =>
    cases ru
    exact PySem.P.repr_of_bool ⟨.str _, H, I.tok _, ⟨_, rfl⟩, q⟩
  | int i =>
    obtain ⟨t, rfl⟩ := ru
    exact PySem.P.repr_of_int (by simpa [PyData.showable] using h1) ⟨.str _, H, I.tok _, ⟨_, rfl⟩, q⟩
  | str x =>
    obtain ⟨t, rfl⟩ := ru
    exact PySem.P.repr_of_str ⟨.str _, H, I.tok _, ⟨_, rfl⟩, q⟩ h4
  | lst _ _ =>
    cases ru
    exact repr_of_reads' rd h1 (fun z => by rw [h2] at z; cases z) bare (by omega) (fun _ _ z => z) (fun h' u tk k => ⟨.str _, H, I.kept k, ⟨_, rfl⟩, q⟩) h4
  | tup _ _ =>
    cases ru
    exact repr_of_reads' rd h1 (fun z => by rw [h2] at z; cases z) bare (by omega) (fun _ _ z => z) (fun h' u tk k => ⟨.str _, H, I.kept k, ⟨_, rfl⟩, q⟩) h4
/-! ### tuple(l), told with its object: it has no dict of its own -/
def rTupF (K : PySem.W.Frag) : List V → Hp → VK → Prop := fun xs H Q => ∃ (p : Addr) (ys : List V), xs = [V.ref p] ∧ SqL K H p ys ∧
  ∀ (l : Addr) (o : Obj), H l = none → o.dict = none → Q (V.ref l) (upd H l (.frz o (.tup ys)))
theorem cr_tupF : CallR X (.type "tuple") (rTupF X.K) := by
  intro pins s σ H xs us Q I r ⟨p, ys, e, sq, q⟩
  subst e
  rw [Vals.ref1 r]
  obtain ⟨its, rv, pl, sz⟩ := I.list sq
  have hl := rv.length
  refine call_tuple_list pl.isList (fun h' kp => ?_) (by rw [List.size_toArray]; omega)
  have J : Inv X pins σ H { s with heap := h' } := I.kept (t' := s.toks) kp
  refine ⟨.ref h'.objs.size, _, J.laid (t' := s.toks) (o := .frz { cls := .type "tuple", data := .seq its.toArray } (.tup ys)) (fun b o e => Heap.get?_push_of_some _ e) (Nat.le_refl _) ?_, rfl, q _ _ (J.hok.fresh (Nat.le_refl _)) rfl⟩
  exact ⟨Heap.get?_push_size _ rfl, sz, its, rv, IsTup.new _ _⟩
/-! ### dict(t), t a tuple of pairs -/
def rDctT (K : PySem.W.Frag) : List V → Hp → VK → Prop := fun xs H Q => ∃ (a : Addr) (o : Obj) (ps : List Addr) (kvs : List (Key × V)), xs = [V.ref a] ∧ H a = some (.frz o (.tup (ps.map V.ref))) ∧ o.dict = none ∧
  Paired (fun p kv => SqT K H p [kV kv.1, kv.2]) ps kvs ∧ ∀ p, H p = none → Q (V.ref p) (upd H p (.dK (mergeK [] kvs)))
theorem cr_dctT (calm : X.calm = true) : CallR X (.type "dict") (rDctT X.K) := by
  intro pins s σ H xs us Q I r ⟨a, o, ps, kvs, e, ha, nod, prd, q⟩
  subst e
  rw [Vals.ref1 r]
  obtain ⟨ho, sz, its, rv, o2, ho2, hc, n, hdat⟩ := I.hok a _ ha
  obtain rfl : o = o2 := Option.some.inj (ho.symm.trans ho2)
  have ei := refs_at rv
  subst ei
  rw [List.length_map] at sz
  obtain ⟨prs, rel, hl, hp⟩ := pairs_of I prd
  -- each pair's key as a value
  have keys : ∀ j : Nat, ∃ u : Value, ∀ q : Key × Value, prs[j]? = some q → ∃ b, ps[j]? = some b ∧ IsTup s.heap b #[u, q.2] ∧ keyIs q.1 u = true := fun j => by
    cases e : prs[j]? with
    | none => exact ⟨.none, fun q z => by cases z⟩
    | some q0 =>
      obtain ⟨b, u, e1, e2, e3⟩ := hp j q0 e
      exact ⟨u, fun q z => by cases z; exact ⟨b, e1, e2, e3⟩⟩
  obtain ⟨ku, hku⟩ := Classical.axiomOfChoice keys
  let pv2 : List (Value × Value) := prs.mapIdx fun j q => (ku j, q.2)
  have at2 : ∀ (j : Nat) (k v : Value), pv2[j]? = some (k, v) → ∃ q, prs[j]? = some q ∧ k = ku j ∧ v = q.2 := fun j k v e => by
    rw [List.getElem?_mapIdx] at e
    cases e2 : prs[j]? with
    | none => rw [e2] at e; cases e
    | some q =>
      rw [e2] at e
      cases e
      exact ⟨q, rfl, rfl, rfl⟩
  have len2 : pv2.length = ps.length := by rw [List.length_mapIdx, hl]
  refine PySem.call_dict_pairs (knd := mixKind X.prog X.w) (kvs := prs) (PySem.PairArg.tuple a _ (fun j => ps.getD j 0) pv2) (I.ok.hd calm)
    ⟨⟨o, n, ho, hc, nod, hdat⟩, by rw [List.size_toArray, List.length_map, len2], fun j k v e => ?_⟩ ⟨by rw [len2, hl], fun j k v e => ?_⟩ (by rw [len2]; exact sz) fun h' tk hd' k => ?_
  · obtain ⟨q, e1, rfl, rfl⟩ := at2 j k v e
    obtain ⟨b, e2, e3, _⟩ := hku j q e1
    refine ⟨by simp [e2], .inl ?_⟩
    have eb : ps.getD j 0 = b := by rw [List.getD_eq_getElem?_getD, e2] <;> rfl
    show IsTup s.heap (ps.getD j 0) _
    rw [eb]
    exact e3
  · obtain ⟨q, e1, rfl, rfl⟩ := at2 j k v e
    obtain ⟨b, e2, e3, e4⟩ := hku j q e1
    exact ⟨q.1, e1, e4⟩
  · have hm : (s.heap.objs.size == sysModules) = false := beq_eq_false_iff_ne.mpr (Nat.ne_of_gt I.big)
    have hlen : (mergeK [] kvs).length ≤ sizeLine := by
      have z := length_mergeK kvs []
      rw [List.length_nil, Nat.zero_add, rel.length, hl] at z
      exact Nat.le_trans z sz
    exact ⟨.ref s.heap.objs.size, _, I.laid (t' := tk) (o := .dK (mergeK [] kvs)) (fun b o e => k b o (by simp) e) (Nat.le_refl _) ⟨hlen, hm, merged [] prs, KV.merge rel .nil, hd'⟩, rfl, q _ (I.hok.fresh (Nat.le_refl _))⟩
end
end Tl
set_option Elab.async false
set_option linter.all false
set_option maxRecDepth 100000
set_option maxHeartbeats 2000000
/-! {e for x in xs if ..}: o0 is what the new set is tracked as, add the rule of set.add that its turns take -/
namespace Tl
open PySem PySem.Spec PyProof.Rows L2
abbrev AddR := V → List V → Hp → VK → Prop
def tSet (o0 : Addr → HO) (add : AddR) (wi : TI) (g : TG) (tt : TT) (te : TE) (vs : List Nat) : TE := fun σ H Q => wi σ H fun J H1 =>
  ∀ D, H1 D = none → ∃ W : Nat → Nat → Hp → Prop, (∃ m, W 0 m (upd H1 D (o0 D))) ∧ ∀ i m G, W i m G →
    (J.stop i G ∧ Q (V.ref D) G) ∨ (J.go i G ∧ ∃ Nx : Hp → Prop, (∀ G', Nx G' → ∃ k, k < m ∧ W (i + 1) k G') ∧
      ∀ x G', J.yld i G x G' → g x (wipe σ vs) G' fun σ2 G2 => wipe σ2 vs = wipe σ vs ∧ tt σ2 G2 fun b G3 =>
        if b = true then te σ2 G3 fun y G4 => add (V.ref D) [y] G4 fun _ G5 => Nx G5 else Nx G3)
section
variable {X : Cx}
theorem pe_set {elt tg iter : Expr} {ifs : List Expr} {scope : Scope} {own : List (Str × Nat)} {pos : Pos} {wi : TI} {g : TG} {tt : TT} {te : TE} {o0 : Addr → HO} {add : AddR}
    (calm : X.calm = true) (nd : X.N.Nodup) (hi : PI X tg iter wi) (ok : BlkOk X.N X.env.scope scope own)
    (begins : ∀ (H : Hp) (h : Heap), ObjOk X.prog X.w H (h.push (nu X.w)) h.objs.size (o0 h.objs.size))
    (adds : ∀ Y : Cx, Y.prog = X.prog → Y.w = X.w → Y.K = X.K → MtR Y "set.add" add)
    (hg : ∀ (s : Shared) (H : Hp) (C : Addr) (cl : List (Str × Addr)) (fp : List Addr), PG (X.blk s H scope (compEnvC scope cl C X.env) fp) tg g)
    (ht : ∀ (s : Shared) (H : Hp) (C : Addr) (cl : List (Str × Addr)) (fp : List Addr), PTs (X.blk s H scope (compEnvC scope cl C X.env) fp) ifs tt)
    (he : ∀ (s : Shared) (H : Hp) (C : Addr) (cl : List (Str × Addr)) (fp : List Addr), PE (X.blk s H scope (compEnvC scope cl C X.env) fp) elt te)
    (once : ∀ x, foldedSetIterable iter X.env x = pure x := by intro _; rfl) :
    PE X (.SetComp elt [⟨tg, iter, ifs, 0⟩] scope pos) (tSet o0 add wi g tt te (own.map (·.2))) := by
  refine ⟨fun pins s σ H Q I h => ?_⟩
  rw [PpSet.eval_SetComp]
  refine wpAny_comprehension_free (use := none) rfl once (closure_ok fun y hy z => (ok.free y hy z).elim (fun k => I.ok.has _ (.inl k)) fun k => I.ok.has _ (.inr k)) ok.kind (fun y hy z => by rw [ok.uniq y hy, z])
    (thn (hi.run pins s σ H _ I h) fun xv s1 hx => thn hx fun itv s2 h2 => ?_)
  obtain ⟨it, fp, tn, J, H2, e, I2, T, st2, f2, q⟩ := h2
  subst e
  refine PpSet.newSet_ok (newEnv_comp ?_)
  -- the new set, at D
  generalize hD : s2.heap.objs.size = D
  have free : H2 D = none := I2.hok.fresh (Nat.le_of_eq hD)
  obtain ⟨W, ⟨m0, w0⟩, turn⟩ := q D free
  generalize hs3 : ({ s2 with heap := s2.heap.push (nu X.w) } : Shared) = s3
  have hp3 : s3.heap = s2.heap.push (nu X.w) := by rw [← hs3]
  have old3 : ∀ b o, s2.heap.get? b = some o → s3.heap.get? b = some o := fun b o z => by
    rw [hp3]
    exact Heap.get?_push_of_some _ z
  generalize hH3 : upd H2 D (o0 D) = H3 at w0
  have I3 : L2.Inv X pins σ H3 s3 := by
    rw [← hs3, ← hH3]
    refine I2.laid (t' := s2.toks) (fun b o z => Heap.get?_push_of_some _ z) (Nat.le_of_eq hD) ?_
    rw [← hD]
    exact begins _ _
  have f3 : ∀ b ∈ fp, FpOk X pins H3 b ∧ b < s3.heap.objs.size := fun b hb => by
    obtain ⟨o, eo, _⟩ := T.obj _ _ st2 b hb
    have lt : b < s2.heap.objs.size := Heap.lt_size eo
    refine ⟨⟨?_, (f2 b hb).2⟩, Heap.lt_size (old3 _ _ eo)⟩
    rw [← hH3, upd_ne (by rw [← hD]; exact Nat.ne_of_lt lt)]
    exact (f2 b hb).1
  have st3 : tn 0 s3.heap := T.keep _ _ _ st2 fun b _ o z => old3 b o z
  have I4 := block_start I3 ok nd f3
  -- its own frame, at C
  generalize hcl : cellsFrom (s3.heap.objs.size + 1) scope.names (cloFrom X.env.cells scope.names []) = cl at I4
  generalize hC : s3.heap.objs.size = C at I4 f3 hcl
  have free3 : ∀ b ∈ fp, H3 b = none := fun b hb => (f3 b hb).1.1
  show codeAny _ _ (.compStart (.SetComp elt [⟨tg, iter, ifs, 0⟩] scope pos) 0 (.ref it) (.ref D) (compEnvC scope cl C X.env))
    (compPost (model X.prog X.w) X.A X.xe none _ (.ref D) C) _
  have pg := hg s3 H3 C cl fp
  have pt := ht s3 H3 C cl fp
  have pe := he s3 H3 C cl fp
  have ad := adds (X.blk s3 H3 scope (compEnvC scope cl C X.env) fp) rfl rfl rfl
  generalize hcx : compEnvC scope cl C X.env = ce at I4 pg pt pe ad ⊢
  have locC : ce.locals = C := by rw [← hcx] <;> rfl
  generalize hs4 : ({ s3 with heap := pushCells (s3.heap.push { cls := .type "dict", data := .dict #[] }) scope.names } : Shared) = s4 at I4 ⊢
  have st4 : tn 0 s4.heap := T.keep _ _ _ st3 fun b _ o z => by
    rw [← hs4]
    exact pushCells_keeps _ _ _ _ (Heap.get?_push_of_some _ z)
  have calmB : (X.blk s3 H3 scope ce fp).calm = true := calm
  have fpB : ∀ {τ : L2.St} {G : Hp} {t : Shared}, L2.Inv (X.blk s3 H3 scope ce fp) [] τ G t → (∀ b ∈ fp, G b = none) → ∀ b ∈ fp, FpOk (X.blk s3 H3 scope ce fp) [] G b := fun {τ G t} IB z b hb =>
    ⟨z b hb, (IB.ok.exf b hb).1, IB.ok.exfs b hb, .inl hb, fun x c z2 => (IB.ok.exf b hb).2 x c z2, fun p hp => by cases hp⟩
  have loop : codeAny (model X.prog X.w) X.A (.compLoop (.SetComp elt [⟨tg, iter, ifs, 0⟩] scope pos) 0 (.ref it) (.ref D) ce)
      (compPost (model X.prog X.w) X.A X.xe none (EP X pins σ Q) (.ref D) C) s4 := by
    refine PpSet.compLoopS_any (fun n t => ∃ i G, L2.Inv (X.blk s3 H3 scope ce fp) [] (wipe σ (own.map (·.2))) G t ∧ tn i t.heap ∧ (∀ b ∈ fp, G b = none) ∧ W i n G) ?_ m0 ⟨0, H3, I4, st4, free3, w0⟩
    rintro n s5 ⟨i, H5, I5, st5, free5, w5⟩
    rcases turn i n H5 w5 with ⟨stop, fin⟩ | ⟨go, Nx, less, step⟩
    · refine thnF (T.done (X.blk s3 H3 scope ce fp) rfl rfl rfl calmB i [] s5 _ H5 (fun _ _ => False) I5 (fpB I5 free5) st5 stop) fun r s6 ⟨hr, I6⟩ => ?_
      subst hr
      have I7 : L2.Inv X pins σ H5 s6 := I3.call' (ch := fp) I6.os I6.base I6.hok I6.bare fun b hb => ⟨(f3 b hb).1.2.2.2.1, (f3 b hb).1.2.1, (f3 b hb).1.2.2.2.2.1, (f3 b hb).1.2.2.2.2.2⟩
      have nC : H5 C = none := by
        have z : H5 ce.locals = none := I6.free
        rwa [locC] at z
      obtain ⟨m, hn, _⟩ := I6.loc
      have hn : s6.heap.Ns ce.locals m := hn
      rw [locC] at hn
      obtain ⟨z0, z1, z2, z3, z4, z5⟩ := I3.fpOk (Nat.le_of_eq hC) nC
      exact ⟨m, hn, fun h' sb => ⟨.ref D, H5, I7.turned (t' := s6.toks) (fun b o hb z => (sb.2 b hb).trans z) z0 z1 z3 z4 z5, rfl, fin⟩⟩
    · refine thnF (T.item (X.blk s3 H3 scope ce fp) rfl rfl rfl calmB i [] s5 _ H5 (fun _ _ => False) I5 (fpB I5 free5) st5 go) fun r s6 ⟨u, hr, h6⟩ => ?_
      subst hr
      refine thnF h6 fun _ s7 ⟨x, H7, I7, r7, y7, st7, free7⟩ => ?_
      refine thnF (pg.run _ s7 _ H7 x u _ (I7.pinned (fpB I7 free7) (T.obj _ _ st7)) r7 (step x H7 y7)) fun _ s8 ⟨σ8, H8, I8, same8, q8⟩ => ?_
      refine thnF (pt.run _ s8 σ8 H8 _ I8 q8) fun b s9 ⟨H9, I9, q9⟩ => ?_
      have back : ∀ {t : Shared} {G : Hp}, L2.Inv (X.blk s3 H3 scope ce fp) ([] ++ pinsAt fp s7.heap) σ8 G t → Nx G →
          ∃ k, k < n ∧ ∃ i G, L2.Inv (X.blk s3 H3 scope ce fp) [] (wipe σ (own.map (·.2))) G t ∧ tn i t.heap ∧ (∀ b ∈ fp, G b = none) ∧ W i k G := fun {t G} IG nx => by
        obtain ⟨k, hk, wk⟩ := less G nx
        have kept : ∀ b ∈ fp, ∀ o, s7.heap.get? b = some o → t.heap.get? b = some o ∧ G b = none := fun b hb o z =>
          have w := IG.pin (b, o) (List.mem_append_right _ (List.mem_append_right _ (mem_pinsAt hb z)))
          ⟨w.1, w.2.1⟩
        refine ⟨k, hk, i + 1, G, (IG.unpinned (pins := [])).weak (by rw [← same8, wipe_length]) (fun j v z => ?_), T.keep _ _ _ st7 fun b hb o z => (kept b hb o z).1, fun b hb => ?_, wk⟩
        · rw [← same8] at z
          exact (wipe_some z).1
        · obtain ⟨o, z, _⟩ := T.obj _ _ st7 b hb
          exact (kept b hb o z).2
      cases b with
      | false =>
        simp only [Bool.false_eq_true, if_false] at q9 ⊢
        exact back I9 q9
      | true =>
        simp only [if_true] at q9 ⊢
        refine thnF (pe.run _ s9 σ8 H9 _ I9 q9) fun z s10 ⟨yv, H10, I10, r10, qa⟩ => ?_
        exact thnF (ad _ s10 σ8 H10 (.ref D) [yv] (.ref D) [z] _ I10 rfl (.cons r10 .nil) qa) fun _ s11 ⟨_, H11, I11, _, nx⟩ => back I11 nx
  exact PpSet.codeAny_compStart_set loop (T.self X.A 0 _ _ _ st4 loop)
end
end Tl
set_option Elab.async false
set_option linter.all false
set_option maxRecDepth 100000
set_option maxHeartbeats 2000000
/-! a def's promise where no repr is under way around it (FnG), and the end of a row over such a promise -/
namespace Tl
open PySem PySem.Spec PyProof.Rows L2
/-- no repr is under way -/
def Quiet (A : Around) : Prop := A.guards = some []
structure FnG (P : Program) (w : World) (K : PySem.W.Frag) (mg : Str → Option Value) (base : Heap) (CX : CXT) (k : Nat) (f : Addr) (fd : FuncData) (ps : List Str) (sp : Sp) : Prop where
  many : ∀ vs H Q E, sp vs H Q E → vs.length = ps.length
  runs : ∀ (A : Around) (outer : List Env) (s : Shared) (H : Hp) (args : Args) (us : List Value) (vs : List V) (Q : VK) (E : XK), Quiet A → Room k A → Env0 P w K mg base A outer s H →
    BindsTo s fd args (ps.zip us) → Vals vs us → sp vs H Q E → codeAny (model P w) A (.call (.ref f) args) (CR CX outer P w H s Q E) s
section
variable {P : Program} {w : World} {K : PySem.W.Frag} {mg : Str → Option Value} {base : Heap}
theorem Fun.okG {x qual : Str} {st : Stmt} {f : Addr} {fd : FuncData} {N ps : List Str} {k : Nat} {sp : Sp} (F : L2.Fun K x qual st f fd) (S : FnScope N ps (defScope st)) (many : ∀ vs H Q E, sp vs H Q E → vs.length = ps.length)
    (body : ∀ (cdv : Value) (A : Around) (outer : List Env) (s : Shared) (H : Hp) (vs : List V) (Q : VK) (E : XK), Quiet A → Room k (A.deeper (envOfC qual (defScope st) s.heap.objs.size f cdv)) → sp vs H Q E →
      ∃ t, PSs (cxOf CX0 P w K mg base N qual (defScope st) f cdv A outer s H E).nox (defBody st) t ∧ t { nx := fun _ H' => Q .non H', rt := Q } (start N vs) H) :
    FnG P w K mg base CX0 (k + 1) f fd ps sp := by
  obtain ⟨oc, od, kV, doc, pm, an, cdv, ct, osl, e, lk, hcd⟩ := F.ex
  subst e
  refine ⟨many, fun A outer s H args us vs Q E quiet hr e0 hb r hsp => ?_⟩
  obtain ⟨t, ht, hq⟩ := body cdv A outer s H vs Q E quiet (hr.deeper _) hsp
  have old : ∀ b o, base.get? b = some o → s.heap.get? b = some o := fun b o z => (e0.bs b o z).1
  have KX : K.In s.heap := e0.mod.kin.keeps old
  have kinds : ∀ y ∈ ps.zip us, (defScope st).names.lookup y.1 = some .local ∨ ((defScope st).names.lookup y.1 = some .cell ∧ ((cellsFrom (s.heap.objs.size + 1) (defScope st).names []).lookup y.1).isSome = true) := by
    intro y hy
    refine (S.par y.1 (List.of_mem_zip hy).1).imp id fun z => ⟨z, ?_⟩
    exact PySem.W.cellsFrom_some _ _ _ (.inl z)
  refine codeAny_call_function hr.depth (KX _ _ lk) rfl S.co S.gen rfl (PySem.W.codeRec_of KX hcd) (hb _ _ _ _ ?_)
  refine wpAny_newFunctionEnv_cells S.kind kinds fun env he s1 inside => ?_
  subst he
  refine ⟨e0.mod.nolimit.keeps fun b o z => inside.toInCall.keep b o (old b o z), codeAny_func ?_⟩
  have I := inv_start (CX := CX0) (E := E) S hr.hd e0 (many _ _ _ _ hsp) r inside
  refine wpAny_mono (ht.nox.run [] s1 (start N vs) H _ I hq) (fun fl s' hs => ?_) fun e s' hs => hs
  match fl, hs with
  | .ret u, ⟨v, σ', H', J, rv, q⟩ => exact ⟨v, H', J.os, J.bare, J.base, J.hok, rv, q⟩
  | .next, ⟨σ', H', J, q⟩ => exact ⟨V.non, H', J.os, J.bare, J.base, J.hok, rfl, q⟩
  | .brk, ⟨_, _, _, q⟩ => exact q.elim
  | .cont, ⟨_, _, _, q⟩ => exact q.elim
end
/-- the law's def is called by the row -/
theorem law_callG {P : Program} {w : World} {K : PySem.W.Frag} {mg mb : Str → Option Value} {k : Nat} {fa a : Addr} {fd : FuncData} {x : Str} {sp : Sp} {s₁ : Shared} {vs : List Value} {ns : List Int}
    (KX : K.In s₁.heap) (nsG : s₁.heap.Ns mainGlobals mg) (nsB : s₁.heap.Ns builtinsNs mb) (same : ∀ x : Str, x ≠ "__name__" → mb x = bootBuiltins x) (lim : s₁.heap.NoLimit) (gens : s₁.gens = #[])
    (ha : s₁.heap.get? a = some { cls := .type "list", data := .seq vs.toArray }) (are : IntsAre vs ns) (few : ns.length ≤ sizeLine) (hr : Room k callerA)
    (F : ∀ base : Heap, K.In base → base.Ns mainGlobals mg → FnG P w K mg base CX0 k fa fd [x] sp) (binds : ∀ (s : Shared) (u : Value), BindsTo s fd ⟨[u], []⟩ [(x, u)])
    (hsp : ∀ H : Hp, Only H → SqL K H a (ns.map V.int) → sp [.ref a] H (fun v _ => v = .bl true) fun _ _ _ => False) :
    codeAny (model P w) callerA (.call (.ref fa) ⟨[.ref a], []⟩) (fun r s' => r = .ok (.ret (.bool true)) ∧ OldK s₁.heap s'.heap ∧ s'.os = s₁.os ∧ AllBare s'.gens) s₁ := by
  have rv := vals_ints are
  have from_ : ∀ H : Hp, Only H → SqL K H a (ns.map V.int) → HOk P w H s₁.heap → (∀ b, H b ≠ none → b = a ∧ K.lookup a = none) →
      codeAny (model P w) callerA (.call (.ref fa) ⟨[.ref a], []⟩) (fun r s' => r = .ok (.ret (.bool true)) ∧ OldK s₁.heap s'.heap ∧ s'.os = s₁.os ∧ AllBare s'.gens) s₁ := fun H only sq hok track => by
    have off : ∀ b, b ≠ a → H b = none := fun b z => Classical.byContradiction fun q => z (track b q).1
    have dicts : ∀ {b : Addr} {o : Obj} {es : Array DictEntry} {ep : Nat}, s₁.heap.get? b = some o → o.data = .dict es ep → H b = none := fun {b o es ep} e d => by
      refine off b fun z => ?_
      subst z
      rw [ha] at e
      cases e
      cases (show Data.seq vs.toArray _ = Data.dict es ep from d)
    have spaces : ∀ {b : Addr} {m : Str → Option Value}, s₁.heap.Ns b m → (hidT s₁.heap H).Ns b m := fun {b m} ⟨o, es, ep, e, d, r⟩ => ⟨o, es, ep, hidT_get e (dicts e d), d, r⟩
    have KB : K.In (hidT s₁.heap H) := fun b o e => hidT_get (KX b o e) (Classical.byContradiction fun q => by
      obtain ⟨e1, e2⟩ := track b q
      rw [e1, e2] at e
      cases e)
    have e0 : Env0 P w K mg (hidT s₁.heap H) callerA [] s₁ H := by
      refine ⟨rfl, ⟨KB, spaces nsG, ⟨mb, spaces nsB, same⟩, ?_⟩, fun b o e => of_hidT e, Nat.le_of_eq (hidT_size _ _), trivial, fun b hb => absurd (show b ∈ ([] : List Addr) from hb) (by simp), hok, .of_eq gens⟩
      obtain ⟨mc, h1, h2⟩ := lim
      exact ⟨mc, spaces h1, h2⟩
    refine codeAny_mono ((F _ KB (spaces nsG)).runs callerA [] s₁ H ⟨[.ref a], []⟩ [.ref a] [.ref a] _ _ rfl hr e0 (binds s₁ (.ref a)) (.cons rfl .nil) (hsp H only sq)) fun r s' h => ?_
    match r, h with
    | .error e, h => exact False.elim h
    | .ok .next, h => exact False.elim h
    | .ok .brk, h => exact False.elim h
    | .ok .cont, h => exact False.elim h
    | .ok (.ret u), ⟨v, H', os, bare, un, hok', rvu, q⟩ =>
      obtain rfl : v = .bl true := q
      obtain rfl : u = Value.bool true := rvu
      refine ⟨rfl, OldK.of_keep fun b o e => ?_, os, bare⟩
      rcases only b with z | ⟨ob, xs, z⟩
      · exact un.keep b o e z (fun y => absurd (show b ∈ ([] : List Addr) from y) (by simp)) (by simp)
      · have e1 := (hok b _ z).1
        rw [e] at e1
        cases e1
        exact (hok' b _ (un.frzs b _ _ z)).1
  cases hk : K.lookup a with
  | some o =>
    obtain rfl : _ = o := Option.some.inj (ha.symm.trans (KX a o hk))
    refine from_ (fun _ => none) (fun _ => .inl rfl) (.inr ⟨_, vs.toArray, _, hk, rfl, rfl, rfl, ?_, by simpa using rv⟩) (fun b u z => nomatch z) fun b z => absurd rfl z
    rw [List.size_toArray, are.length]
    exact few
  | none =>
    let S : HO := .frz { cls := .type "list", data := .seq vs.toArray } (.lst (ns.map V.int))
    refine from_ (upd (fun _ => none) a S) (fun b => ?_) (.inl (.inr ⟨_, upd_same⟩)) (fun b u z => ?_) fun b z => ⟨Classical.byContradiction fun y => z (upd_ne y), hk⟩
    · by_cases y : b = a
      · subst y
        exact .inr ⟨_, _, upd_same⟩
      · exact .inl (upd_ne y)
    · by_cases y : b = a
      · subst y
        rw [upd_same] at z
        cases z
        exact ⟨ha, by rw [List.length_map]; exact few, vs, _, rv, ha⟩
      · rw [upd_ne y] at z
        cases z
/-- the end of a row -/
theorem walkG {l : PySem.W.OpenLaw} {n k : Nat} {q : Program} {loose : List Str} {XP : (Str → Option Value) → Heap → Prop} {YP : World → Heap → Prop} {d : DefRec} {K : Params → PySem.W.Frag} {sp : World → Sp} {x : Str}
    (most : l.most = some n) (few : n ≤ sizeLine) (hdf : d.params.defaults = []) (hr : Room k callerA) (hY : ∀ (w : World) (h : Heap), YP w h → (K w.params).In h)
    (F : ∀ (w : World) (mg : Str → Option Value) (fa : Addr) (h : Heap), (K w.params).In h → h.Ns mainGlobals mg → mg d.name = some (.ref fa) →
      ∃ fd : FuncData, (∀ (s : Shared) (u : Value), BindsTo s fd ⟨[u], []⟩ [(x, u)]) ∧ ∀ base : Heap, (K w.params).In base → base.Ns mainGlobals mg → FnG l.prog w (K w.params) mg base CX0 k fa fd [x] (sp w))
    (hsp : ∀ (w : World) (H : Hp) (a : Addr) (ns : List Int), ns.length ≤ n → (∀ z ∈ ns, Builtin.Int.intBits z ≤ 1048576) → Only H → SqL (K w.params) H a (ns.map V.int) → sp w [.ref a] H (fun v _ => v = .bl true) fun _ _ _ => False) :
    PySem.W.WalkO q loose XP YP l.row.toRowW d [] (fun f vs => PySem.call f vs) := by
  refine Att.attach_callB most hdf fun w s₀ s₁ mg mb fa o pm cd doc a vs ns G Y ho hd hcd hmg hobj are len bits hg => ?_
  obtain ⟨fd, hb, hF⟩ := F w mg fa _ (hY w _ Y) G.T.g hmg
  exact law_callG (hY w _ Y) G.T.g G.T.b G.T.builtins G.T.nolimit hg hobj are (Nat.le_trans len few) hr hF hb fun H only sq => hsp w H a ns len bits only sq
end Tl
set_option Elab.async false
set_option linter.all false
set_option maxRecDepth 100000
set_option maxHeartbeats 1000000
/-! defs by their names; data of tuples; what stays of a heap -/
namespace Tl
open PySem PySem.Spec PyProof.Rows L2
open C8 (Cal pe_c)
/-! ### a def of the text under its name -/
structure DefAt (K : PySem.W.Frag) (mg : Str → Option Value) (x : Str) (st : Stmt) : Prop where
  ex : ∃ (f : Addr) (fd : FuncData), L2.Fun K x x st f fd ∧ mg x = some (.ref f)
section
variable {P : Program} {w : World} {K : PySem.W.Frag} {mg : Str → Option Value} {base : Heap}
abbrev BindH (x : Str) (st : Stmt) (ps : List Str) : Prop := ∀ (kV doc pm : Value) (an : Option Addr) (cdv ct : Value) (us : List Value), us.length = ps.length →
  bindArgs (PySem.W.fnOf x x (defArgs st) (defBody st) (defScope st) .none kV doc pm an cdv ct) ⟨us, []⟩ = pure (ps.zip us)
theorem cal_of {x : Str} {st : Stmt} {N ps : List Str} {k : Nat} {sp : Sp} (D : DefAt K mg x st) (S : FnScope N ps (defScope st)) (hb : BindH x st ps) (len : ∀ vs H Q E, sp vs H Q E → vs.length = ps.length)
    (body : ∀ (f : Addr) (cdv : Value) (A : Around) (outer : List Env) (s : Shared) (H : Hp) (vs : List V) (Q : VK) (E : XK), Room k (A.deeper (envOfC x (defScope st) s.heap.objs.size f cdv)) → sp vs H Q E →
      ∃ t, PSs (cxOf CX0 P w K mg base N x (defScope st) f cdv A outer s H E).nox (defBody st) t ∧ t { nx := fun _ H' => Q .non H', rt := Q } (start N vs) H) : Cal P w K mg base (k + 1) x sp [] := by
  obtain ⟨f, fd, F, hm⟩ := D.ex
  exact ⟨f, fd, ps, [], F.ok S len (fun cdv A outer s H vs Q E hr h => body f cdv A outer s H vs Q E hr h), hm, F.kp, F.binds hb, .nil⟩
/-- a def at one more call deep: a step of an induction -/
theorem calUp {x : Str} {k j : Nat} {sp : Sp} (c : Cal P w K mg base k x sp []) (h : k ≤ j) : Cal P w K mg base j x sp [] := by
  obtain ⟨f, fd, ps, ds, F, hm, kp, b, d⟩ := c.ex
  exact ⟨f, fd, ps, ds, F.mono h, hm, kp, b, d⟩
theorem calWeak {x : Str} {k : Nat} {sp sp' : Sp} (c : Cal P w K mg base k x sp []) (h : ∀ vs H Q E, sp' vs H Q E → sp vs H Q E) : Cal P w K mg base k x sp' [] := by
  obtain ⟨f, fd, ps, ds, F, hm, kp, b, d⟩ := c.ex
  exact ⟨f, fd, ps, ds, F.imp h, hm, kp, b, d⟩
end
/-! ### what stays -/
/-- tuples and known objects stay -/
def Stay (H H' : Hp) : Prop := ∀ a o, H a = some o → ((∃ xs, o = .tup xs) ∨ ∃ ob u, o = .frz ob u) → H' a = some o
theorem Stay.refl (H : Hp) : Stay H H := fun _ _ h _ => h
theorem Stay.trans {H H1 H2 : Hp} (a : Stay H H1) (b : Stay H1 H2) : Stay H H2 := fun x o h k => b x o (a x o h k) k
theorem Same.stay {H H' : Hp} (e : Same H H') : Stay H H' := fun a o h _ => e a o h
theorem stay_new {H : Hp} {p : Addr} {o : HO} (h : H p = none) : Stay H (upd H p o) := fun a u e _ => by
  rw [upd_ne (ne_of_none e h)]
  exact e
/-- a list or a dict is changed -/
theorem stay_mut {H : Hp} {p : Addr} {o : HO} (h : Mut (H p)) : Stay H (upd H p o) := fun a u e k => by
  have ne : a ≠ p := fun z => by
    subst z
    rw [e] at h
    rcases k with ⟨xs, rfl⟩ | ⟨ob, u, rfl⟩ <;> exact h
  rw [upd_ne ne]
  exact e
theorem Stay.rd {H H' : Hp} {a : Addr} {xs : List V} (e : Stay H H') (h : Rd H a (.tup xs)) : Rd H' a (.tup xs) := by
  rcases h with h | ⟨o, h⟩
  · exact .inl (e a _ h (.inl ⟨xs, rfl⟩))
  · exact .inr ⟨o, e a _ h (.inr ⟨_, _, rfl⟩)⟩
theorem Stay.tup {K : PySem.W.Frag} {H H' : Hp} {a : Addr} {xs : List V} (e : Stay H H') (h : SqT K H a xs) : SqT K H' a xs := h.imp (fun h => e.rd h) id
theorem Stay.frz {H H' : Hp} {a : Addr} {o : Obj} {u : HO} (e : Stay H H') (h : H a = some (.frz o u)) : H' a = some (.frz o u) := e a _ h (.inr ⟨_, _, rfl⟩)
theorem tupOf {K : PySem.W.Frag} {H : Hp} {a : Addr} {xs : List V} (h : H a = some (.tup xs)) : SqT K H a xs := .inl (.inl h)
/-! ### data of tuples alone -/
mutual
inductive Dt (K : PySem.W.Frag) (H : Hp) : V → PyData → Prop
  | non : Dt K H .non .none
  | bl (b : Bool) : Dt K H (.bl b) (.bool b)
  | int (i : Int) : Dt K H (.int i) (.int i)
  | str (x : Str) : Dt K H (.str x) (.str x)
  | tup {a : Addr} {xs : List V} {ds : List PyData} : SqT K H a xs → Dts K H xs ds → Dt K H (.ref a) (.tuple ds)
inductive Dts (K : PySem.W.Frag) (H : Hp) : List V → List PyData → Prop
  | nil : Dts K H [] []
  | cons {v : V} {vs : List V} {d : PyData} {ds : List PyData} : Dt K H v d → Dts K H vs ds → Dts K H (v :: vs) (d :: ds)
end
section
variable {K : PySem.W.Frag} {H H' : Hp}
mutual
theorem Dt.stay (e : Stay H H') : ∀ (d : PyData) (v : V), Dt K H v d → Dt K H' v d
  | .none, _, h => by cases h; exact .non
  | .bool _, _, h => by cases h; exact .bl _
  | .int _, _, h => by cases h; exact .int _
  | .str _, _, h => by cases h; exact .str _
  | .list _, _, h => by cases h
  | .tuple ds, _, h => by
    cases h with
    | tup h1 h2 => exact .tup (e.tup h1) (Dts.stay e ds _ h2)
  | .dict _, _, h => by cases h
theorem Dts.stay (e : Stay H H') : ∀ (ds : List PyData) (vs : List V), Dts K H vs ds → Dts K H' vs ds
  | [], _, h => by cases h; exact .nil
  | d :: ds, _, h => by
    cases h with
    | cons h1 h2 => exact .cons (Dt.stay e d _ h1) (Dts.stay e ds _ h2)
end
mutual
theorem Dt.dp : ∀ (d : PyData) (v : V), Dt K H v d → Dp K H v d
  | .none, _, h => by cases h; exact .non
  | .bool _, _, h => by cases h; exact .bl _
  | .int _, _, h => by cases h; exact .int _
  | .str _, _, h => by cases h; exact .str _
  | .list _, _, h => by cases h
  | .tuple ds, _, h => by
    cases h with
    | tup h1 h2 => exact .tup h1 (Dts.dp ds _ h2)
  | .dict _, _, h => by cases h
theorem Dts.dp : ∀ (ds : List PyData) (vs : List V), Dts K H vs ds → DpAll K H vs ds
  | [], _, h => by cases h; exact .nil
  | d :: ds, _, h => by
    cases h with
    | cons h1 h2 => exact .cons (Dt.dp d _ h1) (Dts.dp ds _ h2)
end
theorem Dt.st {v : V} {d : PyData} (h : Dt K H v d) (e : Stay H H') : Dt K H' v d := Dt.stay e d v h
theorem Dt.p {v : V} {d : PyData} (h : Dt K H v d) : Dp K H v d := Dt.dp d v h
theorem dp_ints : ∀ ns : List Int, DpAll K H (ns.map V.int) (ns.map PyData.int)
  | [] => .nil
  | n :: ns => .cons (.int n) (dp_ints ns)
theorem dp_strs : ∀ ns : List Str, DpAll K H (ns.map V.str) (ns.map PyData.str)
  | [] => .nil
  | n :: ns => .cons (.str n) (dp_strs ns)
theorem eqv_nil : ∀ ds : List PyData, PyData.eqvAll ds [] = ds.isEmpty
  | [] => by simp [PyData.eqvAll]
  | _ :: _ => by simp [PyData.eqvAll]
end
/-! ### concepts -/
inductive C where
  | all | non | word (w : Str) | some (r : Str) (c : C) | and (a b : C)
def C.d : C → PyData
  | .all => .tuple [.str "all"]
  | .non => .tuple [.str "none"]
  | .word w => .tuple [.str "word", .str w]
  | .some r c => .tuple [.str "some", .str r, c.d]
  | .and a b => .tuple [.str "and", a.d, b.d]
abbrev Con (K : PySem.W.Frag) (H : Hp) (v : V) (c : C) : Prop := Dt K H v c.d
section
variable {K : PySem.W.Frag} {H H' : Hp} {v : V}
theorem con_all (h : Con K H v .all) : ∃ a, v = .ref a ∧ SqT K H a [.str "all"] := by
  cases h with
  | tup h1 h2 => cases h2 with
    | cons g1 g2 => cases g1; cases g2; exact ⟨_, rfl, h1⟩
theorem con_non (h : Con K H v .non) : ∃ a, v = .ref a ∧ SqT K H a [.str "none"] := by
  cases h with
  | tup h1 h2 => cases h2 with
    | cons g1 g2 => cases g1; cases g2; exact ⟨_, rfl, h1⟩
theorem con_word {x : Str} (h : Con K H v (.word x)) : ∃ a, v = .ref a ∧ SqT K H a [.str "word", .str x] := by
  cases h with
  | tup h1 h2 => cases h2 with
    | cons g1 g2 => cases g1; cases g2 with
      | cons g3 g4 => cases g3; cases g4; exact ⟨_, rfl, h1⟩
theorem con_some {r : Str} {c : C} (h : Con K H v (.some r c)) : ∃ a u, v = .ref a ∧ SqT K H a [.str "some", .str r, u] ∧ Con K H u c := by
  cases h with
  | tup h1 h2 => cases h2 with
    | cons g1 g2 => cases g1; cases g2 with
      | cons g3 g4 => cases g3; cases g4 with
        | cons g5 g6 => cases g6; exact ⟨_, _, rfl, h1, g5⟩
theorem con_and {a b : C} (h : Con K H v (.and a b)) : ∃ p u y, v = .ref p ∧ SqT K H p [.str "and", u, y] ∧ Con K H u a ∧ Con K H y b := by
  cases h with
  | tup h1 h2 => cases h2 with
    | cons g1 g2 => cases g1; cases g2 with
      | cons g3 g4 => cases g4 with
        | cons g5 g6 => cases g6; exact ⟨_, _, _, rfl, h1, g3, g5⟩
theorem con_ref {c : C} (h : Con K H v c) : ∃ a xs, v = .ref a ∧ SqT K H a xs := by
  cases c with
  | all => obtain ⟨a, e, h⟩ := con_all h; exact ⟨a, _, e, h⟩
  | non => obtain ⟨a, e, h⟩ := con_non h; exact ⟨a, _, e, h⟩
  | word x => obtain ⟨a, e, h⟩ := con_word h; exact ⟨a, _, e, h⟩
  | some r c => obtain ⟨a, u, e, h, _⟩ := con_some h; exact ⟨a, _, e, h⟩
  | and x y => obtain ⟨a, _, _, e, h, _⟩ := con_and h; exact ⟨a, _, e, h⟩
theorem mk_all {a : Addr} (h : SqT K H a [.str "all"]) : Con K H (.ref a) .all := .tup h (.cons (.str _) .nil)
theorem mk_non {a : Addr} (h : SqT K H a [.str "none"]) : Con K H (.ref a) .non := .tup h (.cons (.str _) .nil)
theorem mk_word {a : Addr} {x : Str} (h : SqT K H a [.str "word", .str x]) : Con K H (.ref a) (.word x) := .tup h (.cons (.str _) (.cons (.str _) .nil))
theorem mk_some {a : Addr} {r : Str} {u : V} {c : C} (h : SqT K H a [.str "some", .str r, u]) (hc : Con K H u c) : Con K H (.ref a) (.some r c) := .tup h (.cons (.str _) (.cons (.str _) (.cons hc .nil)))
theorem mk_and {a : Addr} {u y : V} {c e : C} (h : SqT K H a [.str "and", u, y]) (hc : Con K H u c) (he : Con K H y e) : Con K H (.ref a) (.and c e) := .tup h (.cons (.str _) (.cons hc (.cons he .nil)))
end
end Tl
set_option Elab.async false
set_option linter.all false
set_option maxRecDepth 100000
set_option maxHeartbeats 1000000
/-! comprehensions and loops over any walked thing of n turns -/
namespace Tl
open PySem PySem.Spec PyProof.Rows L2
theorem lc_it {J : It} {n : Nat} {g : TG} {tt : TT} {te : TE} {vs : List Nat} {σ : L2.St} {H1 : Hp} {D : Addr} {Qd : Hp → Prop} (Pv : Nat → Hp → Prop) (h0 : Pv 0 (upd H1 D (.lst [])))
    (hgo : ∀ i G, i < n → Pv i G → J.go i G) (hst : ∀ G, Pv n G → J.stop n G)
    (hs : ∀ i x G G1, i < n → Pv i G → J.yld i G x G1 → g x (wipe σ vs) G1 fun σ2 G2 => wipe σ2 vs = wipe σ vs ∧ tt σ2 G2 fun b G3 =>
      if b = true then te σ2 G3 fun y G4 => ∃ acc, G4 D = some (.lst acc) ∧ acc.length < sizeLine ∧ Pv (i + 1) (upd G4 D (.lst (acc ++ [y]))) else Pv (i + 1) G3) (hd : ∀ G, Pv n G → Qd G) :
    ∃ W : Nat → Nat → Hp → Prop, (∃ m, W 0 m (upd H1 D (.lst []))) ∧ ∀ i m G, W i m G →
      (J.stop i G ∧ Qd G) ∨ (J.go i G ∧ ∃ Nx : Hp → Prop, (∀ G', Nx G' → ∃ m', m' < m ∧ W (i + 1) m' G') ∧ ∀ x G', J.yld i G x G' → g x (wipe σ vs) G' fun σ2 G2 => wipe σ2 vs = wipe σ vs ∧ tt σ2 G2 fun b G3 =>
        if b = true then te σ2 G3 fun y G4 => ∃ acc, G4 D = some (.lst acc) ∧ acc.length < sizeLine ∧ Nx (upd G4 D (.lst (acc ++ [y]))) else Nx G3) := by
  refine ⟨fun i m G => m + i = n ∧ Pv i G, ⟨n, rfl, h0⟩, fun i m G ⟨e, p⟩ => ?_⟩
  cases m with
  | zero =>
    obtain rfl : i = n := by omega
    exact .inl ⟨hst G p, hd G p⟩
  | succ m => exact .inr ⟨hgo i G (by omega) p, Pv (i + 1), fun G' p' => ⟨m, Nat.lt_succ_self m, by omega, p'⟩, fun x G' y => hs i x G G' (by omega) p y⟩
theorem set_it {o0 : Addr → HO} {add : AddR} {J : It} {n : Nat} {g : TG} {tt : TT} {te : TE} {vs : List Nat} {σ : L2.St} {H1 : Hp} {D : Addr} {Qd : Hp → Prop} (Pv : Nat → Hp → Prop) (h0 : Pv 0 (upd H1 D (o0 D)))
    (hgo : ∀ i G, i < n → Pv i G → J.go i G) (hst : ∀ G, Pv n G → J.stop n G)
    (hs : ∀ i x G G1, i < n → Pv i G → J.yld i G x G1 → g x (wipe σ vs) G1 fun σ2 G2 => wipe σ2 vs = wipe σ vs ∧ tt σ2 G2 fun b G3 =>
      if b = true then te σ2 G3 fun y G4 => add (V.ref D) [y] G4 fun _ G5 => Pv (i + 1) G5 else Pv (i + 1) G3) (hd : ∀ G, Pv n G → Qd G) :
    ∃ W : Nat → Nat → Hp → Prop, (∃ m, W 0 m (upd H1 D (o0 D))) ∧ ∀ i m G, W i m G →
      (J.stop i G ∧ Qd G) ∨ (J.go i G ∧ ∃ Nx : Hp → Prop, (∀ G', Nx G' → ∃ m', m' < m ∧ W (i + 1) m' G') ∧ ∀ x G', J.yld i G x G' → g x (wipe σ vs) G' fun σ2 G2 => wipe σ2 vs = wipe σ vs ∧ tt σ2 G2 fun b G3 =>
        if b = true then te σ2 G3 fun y G4 => add (V.ref D) [y] G4 fun _ G5 => Nx G5 else Nx G3) := by
  refine ⟨fun i m G => m + i = n ∧ Pv i G, ⟨n, rfl, h0⟩, fun i m G ⟨e, p⟩ => ?_⟩
  cases m with
  | zero =>
    obtain rfl : i = n := by omega
    exact .inl ⟨hst G p, hd G p⟩
  | succ m => exact .inr ⟨hgo i G (by omega) p, Pv (i + 1), fun G' p' => ⟨m, Nat.lt_succ_self m, by omega, p'⟩, fun x G' y => hs i x G G' (by omega) p y⟩
theorem seq_off {K : PySem.W.Frag} {H H' : Hp} {a : Addr} {xs : List V} (k : ∀ o, H a = some o → H' a = some o) (h : SqL K H a xs) : SqL K H' a xs := by
  rcases h with (h | ⟨o, h⟩) | h
  · exact .inl (.inl (k _ h))
  · exact .inl (.inr ⟨o, k _ h⟩)
  · exact .inr h
theorem same_add {H H' : Hp} {p : Addr} {o : HO} (e : L2.Same H H') (h : H' p = none) : L2.Same H (upd H' p o) := fun b u k => by
  rw [upd_ne (ne_of_none (e _ _ k) h)]
  exact e _ _ k
/-- a thing that H did not know changes -/
theorem same_mut {H H' : Hp} {p : Addr} {o : HO} (e : L2.Same H H') (h : H p = none) : L2.Same H (upd H' p o) := fun b u k => by
  rw [upd_ne (ne_of_none k h)]
  exact e _ _ k
theorem same_up {H : Hp} {p : Addr} {o : HO} (h : H p = none) : L2.Same H (upd H p o) := same_add (L2.Same.refl H) h
theorem lst_of {K : PySem.W.Frag} {H : Hp} {a : Addr} {xs : List V} (h : H a = some (.lst xs)) : SqL K H a xs := .inl (.inl h)
section
variable {X : Cx} {K : PySem.W.Frag}
theorem op_inK (h : X.K = K) : OpR X (compareOp .In) (rIn K false) := by
  subst h
  exact op_in_seq
theorem op_notinK (h : X.K = K) : OpR X (compareOp .NotIn) (rIn K true) := by
  subst h
  exact op_notIn_seq
theorem pg_tupK {es : List Expr} {k : Nat} {pos : Pos} {t : TGs} {n : Nat} (hK : X.K = K) (hc : X.calm = true) (h : PGs X es t)
    (hn : (assignEach es X.env).length = n := by rfl) (hst : (assignEach es X.env).findIdx? (·.1) = none := by rfl) : PG X (.Tuple es k pos) (gTup K n t) := by
  subst hK
  exact pg_tup hc h hn hst
end
end Tl
set_option Elab.async false
set_option linter.all false
set_option maxRecDepth 100000
set_option maxHeartbeats 2000000
/-! the text by its places -/
namespace K01
open PySem PySem.Spec PyProof.Rows L2 Tl
def topS (i : Nat) : Stmt := PySem.Challenge.pw_tellalike_k01_any_values_as_words_concep.main.body.getD i (.Pass ⟨0, 0, 0, 0⟩)
abbrev sIsPair : Stmt := topS 1
theorem scIsPair : FnScope ["thing"] ["thing"] (defScope sIsPair) := ⟨rfl, rfl, rfl, by decide +kernel, rfl, by decide +kernel, by decide +kernel⟩
abbrev sIsAscending : Stmt := topS 2
theorem scIsAscending : FnScope ["items", "k"] ["items"] (defScope sIsAscending) := ⟨rfl, rfl, rfl, by decide +kernel, rfl, by decide +kernel, by decide +kernel⟩
abbrev sIsWord : Stmt := topS 6
theorem scIsWord : FnScope ["thing", "sign"] ["thing"] (defScope sIsWord) := ⟨rfl, rfl, rfl, by decide +kernel, rfl, by decide +kernel, by decide +kernel⟩
abbrev sIsConcept : Stmt := topS 7
theorem scIsConcept : FnScope ["thing", "todo", "needed"] ["thing"] (defScope sIsConcept) := ⟨rfl, rfl, rfl, by decide +kernel, rfl, by decide +kernel, by decide +kernel⟩
abbrev sIsBook : Stmt := topS 8
theorem scIsBook : FnScope ["thing", "axiom"] ["thing"] (defScope sIsBook) := ⟨rfl, rfl, rfl, by decide +kernel, rfl, by decide +kernel, by decide +kernel⟩
abbrev sIsVocabulary : Stmt := topS 9
theorem scIsVocabulary : FnScope ["thing"] ["thing"] (defScope sIsVocabulary) := ⟨rfl, rfl, rfl, by decide +kernel, rfl, by decide +kernel, by decide +kernel⟩
abbrev sInner : Stmt := topS 10
theorem scInner : FnScope ["thing"] ["thing"] (defScope sInner) := ⟨rfl, rfl, rfl, by decide +kernel, rfl, by decide +kernel, by decide +kernel⟩
abbrev sIsLetter : Stmt := topS 11
theorem scIsLetter : FnScope ["sign"] ["sign"] (defScope sIsLetter) := ⟨rfl, rfl, rfl, by decide +kernel, rfl, by decide +kernel, by decide +kernel⟩
abbrev sAreWords : Stmt := topS 12
theorem scAreWords : FnScope ["thing", "word"] ["thing"] (defScope sAreWords) := ⟨rfl, rfl, rfl, by decide +kernel, rfl, by decide +kernel, by decide +kernel⟩
abbrev sLawDeck : Stmt := topS 14
theorem scLawDeck : FnScope ["script", "mixed", "cell"] ["script"] (defScope sLawDeck) := ⟨rfl, rfl, rfl, by decide +kernel, rfl, by decide +kernel, by decide +kernel⟩
abbrev sLawDraw : Stmt := topS 15
theorem scLawDraw : FnScope ["deck", "below", "figure", "cell"] ["deck", "below"] (defScope sLawDraw) := ⟨rfl, rfl, rfl, by decide +kernel, rfl, by decide +kernel, by decide +kernel⟩
abbrev sLawPick : Stmt := topS 16
theorem scLawPick : FnScope ["deck", "some"] ["deck", "some"] (defScope sLawPick) := ⟨rfl, rfl, rfl, by decide +kernel, rfl, by decide +kernel, by decide +kernel⟩
abbrev sLawMixed : Stmt := topS 17
theorem scLawMixed : FnScope ["deck", "some", "marks", "at", "mark"] ["deck", "some"] (defScope sLawMixed) := ⟨rfl, rfl, rfl, by decide +kernel, rfl, by decide +kernel, by decide +kernel⟩
abbrev sLawName : Stmt := topS 18
theorem scLawName : FnScope ["deck", "found", "signs", "name", "turn"] ["deck", "found"] (defScope sLawName) := ⟨rfl, rfl, rfl, by decide +kernel, rfl, by decide +kernel, by decide +kernel⟩
abbrev sLawWords : Stmt := topS 19
theorem scLawWords : FnScope ["deck", "many", "found", "turn"] ["deck", "many"] (defScope sLawWords) := ⟨rfl, rfl, rfl, by decide +kernel, rfl, by decide +kernel, by decide +kernel⟩
abbrev sLawIsWord : Stmt := topS 20
theorem scLawIsWord : FnScope ["thing", "sign"] ["thing"] (defScope sLawIsWord) := ⟨rfl, rfl, rfl, by decide +kernel, rfl, by decide +kernel, by decide +kernel⟩
abbrev sLawIsConcept : Stmt := topS 21
theorem scLawIsConcept : FnScope ["thing", "left", "turn", "one"] ["thing"] (defScope sLawIsConcept) := ⟨rfl, rfl, rfl, by decide +kernel, rfl, by decide +kernel, by decide +kernel⟩
abbrev sLawIsBook : Stmt := topS 22
theorem scLawIsBook : FnScope ["thing", "axiom"] ["thing"] (defScope sLawIsBook) := ⟨rfl, rfl, rfl, by decide +kernel, rfl, by decide +kernel, by decide +kernel⟩
abbrev sLawIsVocabulary : Stmt := topS 23
theorem scLawIsVocabulary : FnScope ["thing", "words", "word"] ["thing"] (defScope sLawIsVocabulary) := ⟨rfl, rfl, rfl, by decide +kernel, rfl, by decide +kernel, by decide +kernel⟩
abbrev sLawConcept : Stmt := topS 24
theorem scLawConcept : FnScope ["deck", "words", "deep", "way"] ["deck", "words", "deep"] (defScope sLawConcept) := ⟨rfl, rfl, rfl, by decide +kernel, rfl, by decide +kernel, by decide +kernel⟩
abbrev sLawLong : Stmt := topS 25
theorem scLawLong : FnScope ["deck", "words", "found", "turn", "other"] ["deck", "words"] (defScope sLawLong) := ⟨rfl, rfl, rfl, by decide +kernel, rfl, by decide +kernel, by decide +kernel⟩
abbrev sLawBook : Stmt := topS 26
theorem scLawBook : FnScope ["deck", "words", "most", "deep", "found", "turn", "axiom"] ["deck", "words", "most", "deep"] (defScope sLawBook) := ⟨rfl, rfl, rfl, by decide +kernel, rfl, by decide +kernel, by decide +kernel⟩
abbrev sLawBent : Stmt := topS 27
theorem scLawBent : FnScope ["deck", "thing", "odd", "deep", "at", "some"] ["deck", "thing", "odd", "deep"] (defScope sLawBent) := ⟨rfl, rfl, rfl, by decide +kernel, rfl, by decide +kernel, by decide +kernel⟩
abbrev sLawOdd : Stmt := topS 28
theorem scLawOdd : FnScope ["words", "some"] ["words"] (defScope sLawOdd) := ⟨rfl, rfl, rfl, by decide +kernel, rfl, by decide +kernel, by decide +kernel⟩
abbrev sLawNoConcept : Stmt := topS 29
theorem scLawNoConcept : FnScope ["deck", "words", "a", "b", "some"] ["deck", "words"] (defScope sLawNoConcept) := ⟨rfl, rfl, rfl, by decide +kernel, rfl, by decide +kernel, by decide +kernel⟩
abbrev sLawNoBook : Stmt := topS 30
theorem scLawNoBook : FnScope ["deck", "words", "a", "wrong", "some"] ["deck", "words"] (defScope sLawNoBook) := ⟨rfl, rfl, rfl, by decide +kernel, rfl, by decide +kernel, by decide +kernel⟩
abbrev sLawNoVocabulary : Stmt := topS 31
theorem scLawNoVocabulary : FnScope ["deck", "words", "a", "b", "some"] ["deck", "words"] (defScope sLawNoVocabulary) := ⟨rfl, rfl, rfl, by decide +kernel, rfl, by decide +kernel, by decide +kernel⟩
abbrev sLawSomeWords : Stmt := topS 32
theorem scLawSomeWords : FnScope ["words", "a", "some"] ["words"] (defScope sLawSomeWords) := ⟨rfl, rfl, rfl, by decide +kernel, rfl, by decide +kernel, by decide +kernel⟩
abbrev sLaw : Stmt := topS 33
theorem scLaw : FnScope ["script", "deck", "words", "odd", "things", "turn", "concept", "book", "vocabulary", "thing", "bent", "at", "due", "shown", "told"] ["script"] (defScope sLaw) := ⟨rfl, rfl, rfl, by decide +kernel, rfl, by decide +kernel, by decide +kernel⟩
/-- what the top has left -/
structure Txt (K : PySem.W.Frag) (mg : Str → Option Value) : Prop where
  all : mg "all" = none
  enumerate : mg "enumerate" = none
  int : mg "int" = none
  isinstance : mg "isinstance" = none
  len : mg "len" = none
  list : mg "list" = none
  max : mg "max" = none
  range : mg "range" = none
  repr : mg "repr" = none
  set : mg "set" = none
  sorted : mg "sorted" = none
  str : mg "str" = none
  tuple : mg "tuple" = none
  isPair : DefAt K mg "is_pair" sIsPair
  isAscending : DefAt K mg "is_ascending" sIsAscending
  isWord : DefAt K mg "is_word" sIsWord
  isConcept : DefAt K mg "is_concept" sIsConcept
  isBook : DefAt K mg "is_book" sIsBook
  isVocabulary : DefAt K mg "is_vocabulary" sIsVocabulary
  inner : DefAt K mg "_inner" sInner
  isLetter : DefAt K mg "_is_letter" sIsLetter
  areWords : DefAt K mg "_are_words" sAreWords
  lawDeck : DefAt K mg "_law_deck" sLawDeck
  lawDraw : DefAt K mg "_law_draw" sLawDraw
  lawPick : DefAt K mg "_law_pick" sLawPick
  lawMixed : DefAt K mg "_law_mixed" sLawMixed
  lawName : DefAt K mg "_law_name" sLawName
  lawWords : DefAt K mg "_law_words" sLawWords
  lawIsWord : DefAt K mg "_law_is_word" sLawIsWord
  lawIsConcept : DefAt K mg "_law_is_concept" sLawIsConcept
  lawIsBook : DefAt K mg "_law_is_book" sLawIsBook
  lawIsVocabulary : DefAt K mg "_law_is_vocabulary" sLawIsVocabulary
  lawConcept : DefAt K mg "_law_concept" sLawConcept
  lawLong : DefAt K mg "_law_long" sLawLong
  lawBook : DefAt K mg "_law_book" sLawBook
  lawBent : DefAt K mg "_law_bent" sLawBent
  lawOdd : DefAt K mg "_law_odd" sLawOdd
  lawNoConcept : DefAt K mg "_law_no_concept" sLawNoConcept
  lawNoBook : DefAt K mg "_law_no_book" sLawNoBook
  lawNoVocabulary : DefAt K mg "_law_no_vocabulary" sLawNoVocabulary
  lawSomeWords : DefAt K mg "_law_some_words" sLawSomeWords
  law : DefAt K mg "law" sLaw
  longest_word : ∃ t, mg "LONGEST_WORD" = some (.int 10 t)
  no_words : ∃ a, mg "NO_WORDS" = some (.ref a) ∧ ∀ H, SqT K H a [.str "all", .str "none", .str "some", .str "and", .str "each", .str "is"]
end K01
set_option Elab.async false
set_option linter.all false
set_option maxRecDepth 100000
set_option maxHeartbeats 2000000
/-! the law's own deck -/
namespace K01
open PySem PySem.Spec PyProof.Rows L2 Tl
open C8 (Cal pe_c)
/-! ### the deck -/
def dk (l : Addr) (m t : Int) : List (Key × V) := [(.inr "left", .ref l), (.inr "mixed", .int m), (.inr "turn", .int t)]
/-- a deck stands at d, its cells at l -/
def Deck (H : Hp) (d l : Addr) : Prop := ∃ (ns : List Int) (m t : Int), H d = some (.dK (dk l m t)) ∧ H l = some (.lst (ns.map V.int)) ∧ ns.length ≤ 63 ∧ 0 ≤ m ∧ m < 2147483647
/-- all but the deck is as it was -/
def Off (d l : Addr) (H H' : Hp) : Prop := ∀ a o, a ≠ d → a ≠ l → H a = some o → H' a = some o
theorem Off.refl (d l : Addr) (H : Hp) : Off d l H H := fun _ _ _ _ h => h
theorem Off.trans {d l : Addr} {H H1 H2 : Hp} (a : Off d l H H1) (b : Off d l H1 H2) : Off d l H H2 := fun x o h1 h2 h => b x o h1 h2 (a x o h1 h2 h)
theorem _root_.L2.Same.off {d l : Addr} {H H' : Hp} (e : L2.Same H H') : Off d l H H' := fun a o _ _ h => e a o h
theorem Off.stay {d l : Addr} {H H' : Hp} (e : Off d l H H') (D : Deck H d l) : Stay H H' := fun a o h k => by
  obtain ⟨ns, m, t, h1, h2, _⟩ := D
  refine e a o (fun z => ?_) (fun z => ?_) h
  · subst z
    rw [h1] at h
    cases h
    rcases k with ⟨_, k⟩ | ⟨_, _, k⟩ <;> cases k
  · subst z
    rw [h2] at h
    cases h
    rcases k with ⟨_, k⟩ | ⟨_, _, k⟩ <;> cases k
theorem off_new {d l : Addr} {H : Hp} {p : Addr} {o : HO} (h : H p = none) : Off d l H (upd H p o) := fun a u _ _ e => by
  rw [upd_ne (ne_of_none e h)]
  exact e
theorem Deck.new {d l : Addr} {H : Hp} {p : Addr} {o : HO} (D : Deck H d l) (h : H p = none) : Deck (upd H p o) d l := by
  obtain ⟨ns, m, t, h1, h2, h3⟩ := D
  exact ⟨ns, m, t, (upd_ne (ne_of_none h1 h)).trans h1, (upd_ne (ne_of_none h2 h)).trans h2, h3⟩
theorem Deck.same {d l : Addr} {H H' : Hp} (D : Deck H d l) (e : L2.Same H H') : Deck H' d l := by
  obtain ⟨ns, m, t, h1, h2, h3⟩ := D
  exact ⟨ns, m, t, e _ _ h1, e _ _ h2, h3⟩
theorem Deck.ne {d l : Addr} {H : Hp} (D : Deck H d l) : d ≠ l := by
  obtain ⟨ns, m, t, h1, h2, h3⟩ := D
  exact ne_of h1 h2 (by intro z; cases z)
def spDeck (K : PySem.W.Frag) : Sp := fun vs H Q _ => ∃ (a : Addr) (ns : List Int), vs = [.ref a] ∧ SqL K H a (ns.map V.int) ∧ ns.length ≤ 63 ∧
  ∀ (d l : Addr) (H' : Hp), H d = none → H l = none → L2.Same H H' → Deck H' d l → Q (.ref d) H'
def spDraw : Sp := fun vs H Q _ => ∃ (d l : Addr) (b : Int), vs = [.ref d, .int b] ∧ Deck H d l ∧ 0 < b ∧ b ≤ 100000 ∧
  ∀ (i : Int) (H' : Hp), 0 ≤ i → i < b → Off d l H H' → Deck H' d l → Q (.int i) H'
section
variable {P : Program} {w : World} {K : PySem.W.Frag} {mg : Str → Option Value} {base : Heap}
theorem cLawDeck (T : Txt K mg) : Cal P w K mg base 1 "_law_deck" (spDeck K) [] := by
  refine cal_of T.lawDeck scLawDeck (fun _ _ _ _ _ _ us hl => match us, hl with | [_], _ => rfl) (fun vs H Q E h => ?_) (fun f cdv A outer s H vs Q E hr h => ?_)
  · obtain ⟨a, ns, rfl, _⟩ := h
    rfl
  obtain ⟨a, ns, rfl, hS, h63, q⟩ := h
  refine ⟨_, (pss_cons (ps_set (i := 1) scLawDeck.nd rfl (.inl rfl) pe_int)
 (pss_cons (ps_for PassesOwn.never rfl (pi_list (pe_slice sl_list (pv 0) po_none (po_some pe_int))) (pg_name (i := 2) scLawDeck.nd rfl (.inl rfl))
 (pss_one (ps_set (i := 1) scLawDeck.nd rfl (.inl rfl) (pe_op op_mod (pe_callTy call_int1 (by rfl) T.int (by decide +kernel) (pa_cons (pe_op op_add (pe_op op_add (pe_op op_mul (pv 1) pe_int) (pe_op op_mod (pe_callTy call_int1 (by rfl) T.int (by decide +kernel) (pa_cons (pv 2) pa_nil)) pe_int)) pe_int) pa_nil)) pe_int))))
 (pss_one (ps_ret (pe_disp (pps_cons pe_str (pe_revL (pe_lc (own := [("cell", 2)]) (by rfl) scLawDeck.nd (pi_list (pe_slice sl_list (pv 0) po_none (po_some pe_int))) (blkOk_by (own := [("cell", 2)]) (N := ["script", "mixed", "cell"]) (sc := defScope sLawDeck) (by decide +kernel)) (fun _ _ _ _ _ => (pg_name (i := 2) scLawDeck.nd rfl (.inl rfl))) (fun _ _ _ _ _ => pts_nil) (fun _ _ _ _ _ => (pe_callTy call_int1 (by rfl) T.int (by decide +kernel) (pa_cons (pv 2) pa_nil))))) (pps_cons pe_str (pv 1) (pps_cons pe_str pe_int pps_nil))) (by rfl) (by rfl) (fun z => by cases z) (by decide)))))), ?_⟩
  -- for cell in script[:63]
  refine ⟨.ref a, rfl, 63, rfl, a, _, rfl, hS, fun c nc => ?_⟩
  have cut : cutV (ns.map V.int) none (some 63) = ns.map V.int := by
    unfold cutV
    rw [HT.sIx_none, show HT.sIx (ns.map V.int).length (ns.map V.int).length (some 63) = min 63 (ns.map V.int).length from HT.sIx_nat _ _ 63, List.length_map]
    exact List.take_of_length_le (by rw [List.length_drop, List.length_map]; omega)
  rw [cut]
  refine ⟨c, rfl, ⟨_, .inl (.inl upd_same)⟩, for_list (K := K) (a := c) (xs := ns.map V.int) (fun i σ G => ∃ (m : Int) (y : Option V), σ = [some (.ref a), some (.int m), y] ∧ 0 ≤ m ∧ m < 2147483647 ∧ L2.Same H G ∧ SqL K G c (ns.map V.int))
    ⟨1440701, none, rfl, by decide, by decide, fun b o e => ?_, .inl (.inl upd_same)⟩ (fun i σ G _ z => ?_) (fun i x σ G hx z => ?_) (fun σ G z => ?_)⟩
  · rw [upd_ne (ne_of_none e nc)]
    exact e
  · obtain ⟨_, _, _, _, _, _, z⟩ := z
    exact z
  · obtain ⟨m, y, rfl, m0, m1, sm, z⟩ := z
    obtain ⟨u, rfl⟩ : ∃ u, x = V.int u := by
      rw [List.getElem?_map] at hx
      obtain ⟨u, _, e⟩ := Option.map_eq_some_iff.mp hx
      exact ⟨u, e.symm⟩
    refine ⟨.int m, rfl, m, 39373, rfl, rfl, .inr ⟨by omega, by omega⟩, .int u, rfl, .inl ⟨u, rfl, u, 2147483629, rfl, rfl, (by show (0 : Int) < 2147483629; decide), _, _, rfl, rfl, _, _, rfl, rfl, .inl ⟨_, rfl, _, _, rfl, rfl, (by show (0 : Int) < 2147483647; decide), ?_⟩⟩⟩
    exact ⟨_, _, rfl, Int.emod_nonneg _ (by decide), Int.emod_lt_of_pos _ (by decide), sm, z⟩
  · obtain ⟨m, y, rfl, m0, m1, sm, z⟩ := z
    refine fun p np => ?_
    have s1 : L2.Same G (upd G p (.dK [])) := fun b o e => by
      rw [upd_ne (ne_of_none e np)]
      exact e
    refine ⟨.ref a, rfl, 63, rfl, a, _, rfl, s1.seq (sm.seq hS), fun c2 nc2 => ?_⟩
    rw [cut]
    refine ⟨c2, rfl, ⟨_, .inl (.inl upd_same)⟩, fun D nD => ?_⟩
    have s2 : L2.Same (upd G p (.dK [])) (upd (upd G p (.dK [])) c2 (.lst (ns.map V.int))) := fun b o e => by
      rw [upd_ne (ne_of_none e nc2)]
      exact e
    have npD : p ≠ D := ne_of_none (s2 _ _ upd_same) nD
    have nc2D : c2 ≠ D := ne_of_none upd_same nD
    refine lc_list (K := K) (a := c2) (xs := ns.map V.int) (fun i G2 => L2.Same (upd (upd G p (.dK [])) c2 (.lst (ns.map V.int))) G2 ∧ G2 D = some (.lst ((ns.take i).map V.int)))
      ⟨fun b o e => ?_, ?_⟩ (fun i G2 _ z => z.1.seq (.inl (.inl upd_same))) (fun i x G2 hx z => ?_) (fun G2 z => ?_)
    · rw [upd_ne (ne_of_none e nD)]
      exact e
    · rw [upd_same]
      rfl
    · obtain ⟨z1, z2⟩ := z
      obtain ⟨u, hu, rfl⟩ : ∃ u, ns[i]? = some u ∧ x = V.int u := by
        rw [List.getElem?_map] at hx
        obtain ⟨u, h, e⟩ := Option.map_eq_some_iff.mp hx
        exact ⟨u, h, e.symm⟩
      refine ⟨rfl, .int u, rfl, .inl ⟨u, rfl, _, z2, ?_, fun b o e => ?_, ?_⟩⟩
      · rw [List.length_map, List.length_take]
        exact Nat.lt_of_le_of_lt (Nat.le_trans (Nat.min_le_right _ _) h63) (by decide)
      · rw [upd_ne (ne_of_none e nD)]
        exact z1 _ _ e
      · rw [upd_same, List.take_add_one, hu, List.map_append]
        rfl
    · obtain ⟨z1, z2⟩ := z
      rw [List.length_map, List.take_of_length_le (Nat.le_refl _)] at z2
      refine ⟨D, _, rfl, .inl (.inl z2), fun l nl => ?_⟩
      have npl : p ≠ l := ne_of_none (z1 _ _ (s2 _ _ upd_same)) nl
      refine ⟨.int m, rfl, ?_, [(.inr "left", .ref l), (.inr "mixed", .int m), (.inr "turn", .int 0)], rfl, (by show 3 ≤ 15; decide), ?_⟩
      · rw [upd_ne npl]
        exact z1 _ _ (s2 _ _ upd_same)
      have np0 : H p = none := sm.free np
      have nl0 : H l = none := sm.free (s1.free (s2.free (z1.free nl)))
      refine q p l _ np0 nl0 (fun b o e => ?_) ⟨ns.reverse, m, 0, upd_same, ?_, by rw [List.length_reverse]; exact h63, m0, m1⟩
      · rw [upd_ne (ne_of_none e np0), upd_ne (ne_of_none e nl0)]
        exact z1 _ _ (s2 _ _ (s1 _ _ (sm _ _ e)))
      · rw [upd_ne npl.symm, upd_same, List.map_reverse]
end
/-! ### the deck's entries -/
theorem lm_ : ¬ (("left" : Str) = "mixed") := by decide +kernel
theorem lt_ : ¬ (("left" : Str) = "turn") := by decide +kernel
theorem mt_ : ¬ (("mixed" : Str) = "turn") := by decide +kernel
theorem tm_ : ¬ (("turn" : Str) = "mixed") := by decide +kernel
theorem inr_ne {x y : Str} (h : ¬ x = y) : ¬ ((Sum.inr x : Key) = Sum.inr y) := fun e => h (Sum.inr.inj e)
theorem dk_left {l : Addr} {m t : Int} : valV (dk l m t) (.inr "left") = some (.ref l) := valV_pos rfl
theorem dk_mixed {l : Addr} {m t : Int} : valV (dk l m t) (.inr "mixed") = some (.int m) := by
  simp [valV, dk, List.find?_cons, lm_]
theorem dk_turn {l : Addr} {m t : Int} : valV (dk l m t) (.inr "turn") = some (.int t) := by
  simp [valV, dk, List.find?_cons, lt_, mt_]
theorem put_turn {l : Addr} {m t u : Int} : putK (dk l m t) (.inr "turn") (.int u) = dk l m u := by
  simp [putK, dk, lt_, mt_]
theorem put_mixed {l : Addr} {m t u : Int} : putK (dk l m t) (.inr "mixed") (.int u) = dk l u t := by
  simp [putK, dk, lm_, tm_]
section
variable {H : Hp} {d l : Addr} {m t : Int}
theorem get_left (h : H d = some (.dK (dk l m t))) : DGet H d (.str "left") (some (.ref l)) := dk_left (l := l) (m := m) (t := t) ▸ DGet.k (k := .inr "left") h
theorem get_mixed (h : H d = some (.dK (dk l m t))) : DGet H d (.str "mixed") (some (.int m)) := dk_mixed (l := l) (m := m) (t := t) ▸ DGet.k (k := .inr "mixed") h
theorem get_turn (h : H d = some (.dK (dk l m t))) : DGet H d (.str "turn") (some (.int t)) := dk_turn (l := l) (m := m) (t := t) ▸ DGet.k (k := .inr "turn") h
theorem set_turn {u : Int} (h : H d = some (.dK (dk l m t))) : DPut H d (.str "turn") (.int u) (upd H d (.dK (dk l m u))) := put_turn (l := l) (m := m) (t := t) (u := u) ▸ DPut.k (k := .inr "turn") h (by show 3 < sizeLine; decide)
theorem set_mixed {u : Int} (h : H d = some (.dK (dk l m t))) : DPut H d (.str "mixed") (.int u) (upd H d (.dK (dk l u t))) := put_mixed (l := l) (m := m) (t := t) (u := u) ▸ DPut.k (k := .inr "mixed") h (by show 3 < sizeLine; decide)
end
end K01
set_option Elab.async false
set_option linter.all false
set_option maxRecDepth 100000
set_option maxHeartbeats 2000000
namespace K01
open PySem PySem.Spec PyProof.Rows L2 Tl
open C8 (Cal pe_c)
theorem canLay_ints : ∀ ns : List Int, PyData.canLayAll0 (ns.map PyData.int) = true
  | [] => by simp [PyData.canLayAll0]
  | n :: ns => by simp [PyData.canLayAll0, PyData.canLay0, canLay_ints ns]
theorem depth_ints : ∀ ns : List Int, PyData.depthAll (ns.map PyData.int) = 0
  | [] => by simp [PyData.depthAll]
  | n :: ns => by simp [PyData.depthAll, PyData.depth, depth_ints ns]
theorem shaped_ints (ns : List Int) : SeqAt.shaped (.list (ns.map PyData.int)) = true := by
  simp [SeqAt.shaped, PyData.canLay0, PyData.depth, canLay_ints, depth_ints]
theorem shaped_nil : SeqAt.shaped (.list []) = true := by
  simp [SeqAt.shaped, PyData.canLay0, PyData.depth, PyData.canLayAll0, PyData.depthAll]
theorem ne_nil (ns : List Int) : (!PyData.eqv (.list (ns.map PyData.int)) (.list [])) = !ns.isEmpty := by
  cases ns <;> simp [PyData.eqv, PyData.eqvAll]
section
variable {P : Program} {w : World} {K : PySem.W.Frag} {mg : Str → Option Value} {base : Heap}
theorem off_mutd {d l : Addr} {H H' : Hp} {o : HO} (e : Off d l H H') : Off d l H (upd H' d o) := fun a u h1 h2 h => by
  rw [upd_ne h1]
  exact e a u h1 h2 h
theorem off_mutl {d l : Addr} {H H' : Hp} {o : HO} (e : Off d l H H') : Off d l H (upd H' l o) := fun a u h1 h2 h => by
  rw [upd_ne h2]
  exact e a u h1 h2 h
theorem off_add {d l : Addr} {H H' : Hp} {p : Addr} {o : HO} (e : Off d l H H') (h : H' p = none) : Off d l H (upd H' p o) := e.trans (off_new h)
theorem cLawDraw (T : Txt K mg) : Cal P w K mg base 1 "_law_draw" spDraw [] := by
  refine cal_of T.lawDraw scLawDraw (fun _ _ _ _ _ _ us hl => match us, hl with | [_, _], _ => rfl) (fun vs H Q E h => ?_) (fun f cdv A outer s H vs Q E hr h => ?_)
  · obtain ⟨d, l, b, rfl, _⟩ := h
    rfl
  obtain ⟨d, l, b, rfl, D, b0, b1, q⟩ := h
  have hu := hu_of hr
  have hu64 := hr.units
  refine ⟨_, (pss_cons (ps_dput hu (pv 0) pe_str (pe_op op_add (pe_dget hu (pv 0) pe_str (fun _ _ => rfl)) pe_int) rfl)
 (pss_cons (ps_set (i := 2) scLawDraw.nd rfl (.inl rfl) (pe_op op_add (pe_dget hu (pv 0) pe_str (fun _ _ => rfl)) (pe_op op_mul pe_int (pe_dget hu (pv 0) pe_str (fun _ _ => rfl)))))
 (C8.pss_cut (ps_if (pt_cmpR (op_neD hu64) (pe_dget hu (pv 0) pe_str (fun _ _ => rfl)) (pe_lst pa_nil) (nomark _))
 (pss_cons (ps_set (i := 3) scLawDraw.nd rfl (.inl rfl) (pe_bm0 PySem.F.plainAttrs_list PySem.F.slot_list_pop PySem.F.type_list_pop mt_pop (pe_dget hu (pv 0) pe_str (fun _ _ => rfl))))
 (pss_cons (ps_if (pt_cmpR op_ge (pv 3) (pe_op op_pow pe_int pe_int) (nomark _))
 (pss_cons (ps_expr (pe_bm PySem.F.plainAttrs_list PySem.F.slot_list_append PySem.F.type_list_append mt_append (pe_dget hu (pv 0) pe_str (fun _ _ => rfl)) (pa_cons (pe_op op_fdiv (pv 3) (pe_callB (call_max2 rfl) (by rfl) T.max (by decide +kernel) (pa_cons pe_int (pa_cons (pv 1) pa_nil)))) pa_nil)))
 (pss_one (ps_ret (pe_op op_mod (pe_callTy call_int1 (by rfl) T.int (by decide +kernel) (pa_cons (pv 3) pa_nil)) (pv 1)))))
 pss_nil)
 (pss_cons (ps_dput hu (pv 0) pe_str (pe_op op_mod (pe_callTy call_int1 (by rfl) T.int (by decide +kernel) (pa_cons (pe_op op_add (pe_op op_add (pe_op op_mul (pe_dget hu (pv 0) pe_str (fun _ _ => rfl)) pe_int) (pe_op op_mod (pe_callTy call_int1 (by rfl) T.int (by decide +kernel) (pa_cons (pv 3) pa_nil)) pe_int)) pe_int) pa_nil)) pe_int) rfl)
 (pss_one (ps_set (i := 2) scLawDraw.nd rfl (.inl rfl) (pe_op op_add (pv 2) (pe_op op_mod (pe_callTy call_int1 (by rfl) T.int (by decide +kernel) (pa_cons (pv 3) pa_nil)) pe_int)))))))
 pss_nil)
 (pss_cons (ps_set (i := 2) scLawDraw.nd rfl (.inl rfl) (pe_op op_mod (pe_callTy call_int1 (by rfl) T.int (by decide +kernel) (pa_cons (pe_op op_add (pe_op op_mul (pv 2) pe_int) pe_int) pa_nil)) pe_int))
 (pss_cons (ps_set (i := 2) scLawDraw.nd rfl (.inl rfl) (pe_op op_mod (pe_callTy call_int1 (by rfl) T.int (by decide +kernel) (pa_cons (pe_op op_add (pe_op op_add (pe_op op_mul (pv 2) (pv 2)) (pe_op op_mul pe_int (pe_dget hu (pv 0) pe_str (fun _ _ => rfl)))) pe_int) pa_nil)) pe_int))
 (pss_cons (ps_set (i := 2) scLawDraw.nd rfl (.inl rfl) (pe_op op_mod (pe_callTy call_int1 (by rfl) T.int (by decide +kernel) (pa_cons (pe_op op_add (pe_op op_mul (pv 2) pe_int) pe_int) pa_nil)) pe_int))
 (pss_one (ps_ret (pe_op op_mod (pe_callTy call_int1 (by rfl) T.int (by decide +kernel) (pa_cons (pe_op op_fdiv (pv 2) pe_int) pa_nil)) (pv 1)))))))))), ?_⟩
  obtain ⟨ns, m, t, h1, h2, h63, m0, m1⟩ := D
  have ndl : d ≠ l := ne_of h1 h2 (by intro z; cases z)
  -- deck['turn'] = deck['turn'] + 1
  refine ⟨.ref d, rfl, d, _, rfl, get_turn h1, t, 1, rfl, rfl, .ref d, rfl, d, _, rfl, set_turn h1, ?_⟩
  generalize hG : upd H d (.dK (dk l m (t + 1))) = G
  have g1 : G d = some (.dK (dk l m (t + 1))) := by rw [← hG, upd_same]
  have g2 : G l = some (.lst (ns.map V.int)) := by rw [← hG, upd_ne ndl.symm, h2]
  have gO : Off d l H G := by rw [← hG]; exact off_mutd (Off.refl d l H)
  -- figure = ..
  refine ⟨.ref d, rfl, d, _, rfl, get_mixed g1, .ref d, rfl, d, _, rfl, get_turn g1, 90001, t + 1, rfl, rfl, .inl ⟨by omega, by omega⟩, m, _, rfl, rfl, ?_⟩
  refine ⟨fun σ G => ∃ (fig : Int) (y : Option V), σ = [some (.ref d), some (.int b), some (.int fig), y] ∧ Off d l H G ∧ Deck G d l, ?_, ?_⟩
  · -- deck['left'] != []
    refine ⟨.ref d, rfl, d, _, rfl, get_left g1, Nat.zero_le _, fun p np => ?_⟩
    have pd : d ≠ p := ne_of_none g1 np
    have pl : l ≠ p := ne_of_none g2 np
    have k1 : (upd G p (.lst [])) d = some (.dK (dk l m (t + 1))) := (upd_ne pd).trans g1
    have k2 : (upd G p (.lst [])) l = some (.lst (ns.map V.int)) := (upd_ne pl).trans g2
    have kO : Off d l H (upd G p (.lst [])) := off_add gO np
    refine ⟨.list (ns.map PyData.int), .list [], .lst (.inl (.inl k2)) (dp_ints ns), .lst (.inl (.inl upd_same)) .nil, shaped_ints ns, shaped_nil, _, rfl, ?_⟩
    rw [ne_nil]
    generalize upd G p (.lst []) = G2 at k1 k2 kO
    rcases List.eq_nil_or_concat ns with e | ⟨ms, z, e⟩
    · subst e
      refine iteF ?_
      exact ⟨_, none, rfl, kO, [], m, t + 1, k1, k2, Nat.zero_le _, m0, m1⟩
    · rw [List.concat_eq_append] at e
      subst e
      rw [show (!(ms ++ [z]).isEmpty) = true by simp]
      refine iteT ?_
      have hlast : ((ms ++ [z]).map V.int)[((ms ++ [z]).map V.int).length - 1]? = some (.int z) := by simp
      have hdrop : ((ms ++ [z]).map V.int).dropLast = ms.map V.int := by simp
      have hlen : ms.length < 63 := by
        rw [List.length_append, List.length_singleton] at h63
        omega
      -- cell = deck['left'].pop()
      refine ⟨.ref d, rfl, d, _, rfl, get_left k1, .inl ⟨rfl, _, .inl (.inl k2)⟩, l, _, _, rfl, rfl, k2, hlast, ?_⟩
      rw [hdrop]
      have j1 : (upd G2 l (.lst (ms.map V.int))) d = some (.dK (dk l m (t + 1))) := (upd_ne ndl).trans k1
      have j2 : (upd G2 l (.lst (ms.map V.int))) l = some (.lst (ms.map V.int)) := upd_same
      have jO : Off d l H (upd G2 l (.lst (ms.map V.int))) := off_mutl kO
      generalize upd G2 l (.lst (ms.map V.int)) = G3 at j1 j2 jO
      -- if cell >= 10 ** 18
      refine ⟨.int z, rfl, 10, 18, rfl, rfl, ⟨by omega, by omega, by decide⟩, z, _, rfl, rfl, _, rfl, ite2 (fun _ => ?_) (fun _ => ?_)⟩
      · have hc : 0 < (if b > 2 then b else (2 : Int)) ∧ (if b > 2 then b else (2 : Int)) < 1073741824 := by
          split <;> omega
        refine ⟨.ref d, rfl, d, _, rfl, get_left j1, .inl ⟨rfl, _, .inl (.inl j2)⟩, .int z, rfl, .int b, rfl, 2, b, rfl, z, _, rfl, rfl, hc, l, _, _, rfl, rfl, j2, ?_, ?_⟩
        · rw [List.length_map]
          exact Nat.lt_of_lt_of_le hlen (by decide)
        refine ⟨.int z, rfl, .inl ⟨z, rfl, .int b, rfl, z, b, rfl, rfl, b0, ?_⟩⟩
        refine q _ _ (Int.emod_nonneg _ (by omega)) (Int.emod_lt_of_pos _ b0) (off_mutl jO) ⟨ms ++ [z / (if b > 2 then b else 2)], m, t + 1, (upd_ne ndl).trans j1, ?_, ?_, m0, m1⟩
        · rw [upd_same, List.map_append]
          rfl
        · rw [List.length_append, List.length_singleton]
          omega
      · -- deck['mixed'] = ..
        refine ⟨.ref d, rfl, d, _, rfl, get_mixed j1, m, 16807, rfl, rfl, .inr ⟨by omega, by omega⟩, .int z, rfl, .inl ⟨z, rfl, z, 2147483587, rfl, rfl, (by show (0 : Int) < 2147483587; decide), _, _, rfl, rfl, _, _, rfl, rfl, .inl ⟨_, rfl, _, _, rfl, rfl, (by show (0 : Int) < 2147483647; decide), .ref d, rfl, d, _, rfl, set_mixed j1, ?_⟩⟩⟩
        refine ⟨_, rfl, .int z, rfl, .inl ⟨z, rfl, z, 2147483563, rfl, rfl, (by show (0 : Int) < 2147483563; decide), _, _, rfl, rfl, ?_⟩⟩
        exact ⟨_, _, rfl, off_mutd jO, ms, _, t + 1, upd_same, (upd_ne ndl.symm).trans j2, Nat.le_of_lt hlen, Int.emod_nonneg _ (by decide), Int.emod_lt_of_pos _ (by decide)⟩
  · -- the rest
    rintro σ' G' ⟨fig, y, rfl, gO', D'⟩
    have D'' := D'
    obtain ⟨ns', m', t', g1', _⟩ := D''
    refine ⟨.int fig, rfl, fig, 16807, rfl, rfl, .inr ⟨by omega, by omega⟩, _, _, rfl, rfl, .inl ⟨_, rfl, _, _, rfl, rfl, (by show (0 : Int) < 2147483629; decide), ?_⟩⟩
    have f0 := Int.emod_nonneg (fig * 16807 + 23) (show (2147483629 : Int) ≠ 0 by decide)
    have f1 := Int.emod_lt_of_pos (fig * 16807 + 23) (show (0 : Int) < 2147483629 by decide)
    refine ⟨_, rfl, _, rfl, (fig * 16807 + 23) % 2147483629, (fig * 16807 + 23) % 2147483629, rfl, rfl, .inl ⟨by omega, by omega⟩, .ref d, rfl, d, _, rfl, get_turn g1', 77773, t', rfl, rfl, .inl ⟨by omega, by omega⟩, _, _, rfl, rfl, _, _, rfl, rfl, .inl ⟨_, rfl, _, _, rfl, rfl, (by show (0 : Int) < 2147483587; decide), ?_⟩⟩
    refine ⟨_, rfl, _, 40692, rfl, rfl, .inr ⟨by omega, by omega⟩, _, _, rfl, rfl, .inl ⟨_, rfl, _, _, rfl, rfl, (by show (0 : Int) < 2147483563; decide), ?_⟩⟩
    refine ⟨_, rfl, _, 64, rfl, rfl, ⟨by omega, by omega⟩, .inl ⟨_, rfl, .int b, rfl, _, b, rfl, rfl, b0, ?_⟩⟩
    exact q _ _ (Int.emod_nonneg _ (by omega)) (Int.emod_lt_of_pos _ b0) gO' D'
end
end K01
set_option Elab.async false
set_option linter.all false
set_option maxRecDepth 100000
set_option maxHeartbeats 2000000
namespace K01
open PySem PySem.Spec PyProof.Rows L2 Tl
open C8 (Cal pe_c)
/-! ### words -/
def alpha : List Nat := ("abcdefghijklmnopqrstuvwxyz" : Str).cps.toList
def lett (c : Nat) : Bool := decide (97 ≤ c) && decide (c ≤ 122)
theorem alpha_eq : alpha = List.range' 97 26 := by decide +kernel
theorem mem_alpha (c : Nat) : decide (c ∈ alpha) = lett c := by
  rw [alpha_eq]
  unfold lett
  rw [Bool.eq_iff_iff]
  simp only [decide_eq_true_eq, Bool.and_eq_true, List.mem_range']
  constructor
  · rintro ⟨i, h, rfl⟩
    omega
  · rintro ⟨h1, h2⟩
    exact ⟨c - 97, by omega, by omega⟩
def six : List Str := ["all", "none", "some", "and", "each", "is"]
def isW (w : Str) : Bool := decide (0 < w.length) && (decide (w.length < 11) && (!(six.any fun y => decide (y = w)) && w.cps.toList.all lett))
theorem eqV_str (x y : Str) : eqV (.str x) (.str y) = decide (x = y) := by
  show (x == y) = decide (x = y)
  rfl
theorem inV_six (w : Str) : inV (.str w) (six.map V.str) = six.any fun y => decide (y = w) := by
  unfold inV
  rw [List.any_map]
  rfl
theorem flat_strs (ws : List Str) : (ws.map V.str).all flatV = true := by
  rw [List.all_map]
  exact List.all_eq_true.mpr fun _ _ => rfl
theorem canLay_strs : ∀ ys : List Str, (∀ y ∈ ys, PyData.strOk y = true) → PyData.canLayAll0 (ys.map PyData.str) = true
  | [], _ => by simp [PyData.canLayAll0]
  | y :: ys, h => by simp [PyData.canLayAll0, PyData.canLay0, h y List.mem_cons_self, canLay_strs ys fun z hz => h z (List.mem_cons_of_mem _ hz)]
theorem depth_strs : ∀ ys : List Str, PyData.depthAll (ys.map PyData.str) = 0
  | [] => by simp [PyData.depthAll]
  | y :: ys => by simp [PyData.depthAll, PyData.depth, depth_strs ys]
theorem shaped_strs (ys : List Str) (h : ∀ y ∈ ys, PyData.strOk y = true) : SeqAt.shaped (.list (ys.map PyData.str)) = true := by
  simp [SeqAt.shaped, PyData.canLay0, PyData.depth, canLay_strs ys h, depth_strs]
theorem lett_ok {x : Str} (h : x.cps.toList.all lett = true) : PyData.strOk x = true := by
  unfold PyData.strOk
  rw [Array.all_eq_true']
  intro c hc
  have := List.all_eq_true.mp h c (Array.mem_toList_iff.mpr hc)
  unfold lett at this
  simp only [Bool.and_eq_true, decide_eq_true_eq] at this
  exact decide_eq_true (by omega)
section
variable {P : Program} {w : World} {K : PySem.W.Frag} {mg : Str → Option Value} {base : Heap}
def spIsW : Sp := fun vs H Q _ => ∃ (x : Str), vs = [.str x] ∧ x.length ≤ 1000 ∧ PyData.strOk x = true ∧ ∀ H', L2.Same H H' → Q (.bl (isW x)) H'
theorem cLawIsWord (T : Txt K mg) : Cal P w K mg base 1 "_law_is_word" spIsW [] := by
  refine cal_of T.lawIsWord scLawIsWord (fun _ _ _ _ _ _ us hl => match us, hl with | [_], _ => rfl) (fun vs H Q E h => ?_) (fun f cdv A outer s H vs Q E hr h => ?_)
  · obtain ⟨x, rfl, _⟩ := h
    rfl
  obtain ⟨x, rfl, len, ok, q⟩ := h
  have hu64 := hr.units
  have sz : x.length ≤ sizeLine := Nat.le_of_lt (small1000 len)
  refine ⟨_, (pss_cons (ps_if (PW.pt (pw_or (pt_not (pt_val (pe_callB call_isi (by rfl) T.isinstance (by decide +kernel) (pa_cons (pv 0) (pa_cons (pe_bltn (v := V.ty "str") (u := Value.type "str") (by rfl) T.str (by decide +kernel) rfl) pa_nil))))) (pw_or (pt_not (pt_chain op_lt op_lt pe_int (pe_callB call_len_str (by rfl) T.len (by decide +kernel) (pa_cons (pv 0) pa_nil)) pe_int)) (pw_or1 (pt_cmpR op_in_seq (pv 0) (pe_tup (pa_cons pe_str (pa_cons pe_str (pa_cons pe_str (pa_cons pe_str (pa_cons pe_str (pa_cons pe_str pa_nil))))))) rfl)))))
 (pss_one (ps_ret pe_bl))
 pss_nil)
 (pss_one (ps_ret (pe_cmpR (op_eqD hu64) (pe_lc (own := [("sign", 1)]) (by rfl) scLawIsWord.nd (pi_str (pv 0)) (blkOk_by (own := [("sign", 1)]) (N := ["thing", "sign"]) (sc := defScope sLawIsWord) (by decide +kernel)) (fun _ _ _ _ _ => (pg_name (i := 1) scLawIsWord.nd rfl (.inl rfl))) (fun _ _ _ _ _ => pts_one (pt_cmpR op_notIn_sign (pv 1) pe_str rfl)) (fun _ _ _ _ _ => (pv 1))) (pe_lst pa_nil) (nomark _))))), ?_⟩
  refine ⟨.str x, rfl, .str x, .ty "str", .type "str", .type "str", true, rfl, .ty _, .base (.str x), kit_ty (by decide +kernel), true, rfl, iteF ?_⟩
  refine ⟨.str x, rfl, x, rfl, sz, 0, _, rfl, rfl, _, rfl, ?_⟩
  by_cases h0 : 0 < x.length
  case neg =>
    rw [show decide ((0 : Int) < (x.length : Int)) = false from decide_eq_false (by omega)]
    refine iteF ⟨_, rfl, iteT (iteT ?_)⟩
    rw [show false = isW x by unfold isW; rw [decide_eq_false h0, Bool.false_and]]
    exact q H (L2.Same.refl H)
  rw [show decide ((0 : Int) < (x.length : Int)) = true from decide_eq_true (by omega)]
  refine iteT ⟨_, _, rfl, rfl, _, rfl, ?_⟩
  by_cases h1 : x.length < 11
  case neg =>
    rw [show decide ((x.length : Int) < (11 : Int)) = false from decide_eq_false (by omega)]
    refine iteT (iteT ?_)
    rw [show false = isW x by unfold isW; rw [decide_eq_false h1, Bool.false_and, Bool.and_false]]
    exact q H (L2.Same.refl H)
  rw [show decide ((x.length : Int) < (11 : Int)) = true from decide_eq_true (by omega)]
  refine iteF ⟨.str x, rfl, by show 6 ≤ sizeLine; decide, fun t nt => ?_⟩
  refine ⟨t, six.map V.str, rfl, .inr (tupOf upd_same), rfl, flat_strs six, _, rfl, ?_⟩
  have s1 : L2.Same H (upd H t (.tup (six.map V.str))) := same_up nt
  rw [inV_six]
  by_cases h2 : (six.any fun y => decide (y = x)) = true
  · rw [h2]
    refine iteT ?_
    rw [show false = isW x by unfold isW; rw [h2]; simp]
    exact q _ s1
  have h2' : (six.any fun y => decide (y = x)) = false := Bool.eq_false_iff.mpr h2
  rw [h2']
  refine iteF ?_
  refine ⟨.str x, rfl, x, rfl, fun D nD => ?_⟩
  have nD0 : H D = none := s1.free nD
  refine lc_it (n := x.cps.size) (fun i G2 => L2.Same H G2 ∧ G2 D = some (.lst (((x.cps.toList.take i).filter fun c => !lett c).map fun c => V.str ⟨#[c]⟩)))
    ⟨same_mut s1 nD0, by rw [upd_same]; rfl⟩ (fun i G2 hi _ => hi) (fun G2 _ => Nat.le_refl _) (fun i v G2 G3 hi z y => ?_) (fun G2 z => ?_)
  · obtain ⟨e, c, hc, rfl⟩ := y
    subst e
    obtain ⟨z1, z2⟩ := z
    have hc' : x.cps.toList[i]? = some c := by rw [Array.getElem?_toList]; exact hc
    refine ⟨rfl, .str ⟨#[c]⟩, rfl, c, _, rfl, rfl, _, rfl, ?_⟩
    show if (!decide (c ∈ alpha)) = true then _ else _
    rw [mem_alpha]
    by_cases hl : lett c = true
    · rw [hl]
      refine iteF ⟨z1, ?_⟩
      rw [List.take_add_one, hc', List.filter_append]
      simp only [Option.toList_some, List.filter_cons, hl, Bool.not_true, Bool.false_eq_true, if_false, List.filter_nil, List.append_nil]
      exact z2
    · have hl' : lett c = false := Bool.eq_false_iff.mpr hl
      rw [hl']
      refine iteT ⟨.str ⟨#[c]⟩, rfl, _, z2, ?_, same_mut z1 nD0, ?_⟩
      · rw [List.length_map]
        refine Nat.lt_of_le_of_lt (Nat.le_trans (List.length_filter_le _ _) ?_) (show 100 < sizeLine by decide)
        rw [List.length_take]
        have : x.cps.size < 11 := h1
        omega
      · rw [upd_same, List.take_add_one, hc', List.filter_append, List.map_append]
        simp only [Option.toList_some, List.filter_cons, hl', Bool.not_false, if_true, List.filter_nil, List.map_cons, List.map_nil]
  · obtain ⟨z1, z2⟩ := z
    rw [show x.cps.toList.take x.cps.size = x.cps.toList from List.take_of_length_le (by rw [Array.length_toList]; exact Nat.le_refl _)] at z2
    refine ⟨Nat.zero_le _, fun e ne => ?_⟩
    have z2' : (upd G2 e (.lst [])) D = _ := (upd_ne (ne_of_none z2 ne)).trans z2
    generalize hL : (x.cps.toList.filter fun c => !lett c) = L at z2 z2'
    have len11 : L.length ≤ 1000 := by
      rw [← hL]
      refine Nat.le_trans (List.length_filter_le _ _) ?_
      rw [Array.length_toList]
      exact len
    have el : L.map (fun c => V.str ⟨#[c]⟩) = (L.map fun c => (⟨#[c]⟩ : Str)).map V.str := by rw [List.map_map]; rfl
    rw [el] at z2'
    refine ⟨.list ((L.map fun c => (⟨#[c]⟩ : Str)).map PyData.str), .list [], .lst (lst_of z2') (dp_strs _), .lst (lst_of upd_same) .nil, ?_, shaped_nil, ?_⟩
    · refine shaped_strs _ fun y hy => ?_
      obtain ⟨c, hc, rfl⟩ := List.mem_map.mp hy
      rw [← hL] at hc
      have hm := (List.mem_filter.mp hc).1
      unfold PyData.strOk at ok
      rw [Array.all_eq_true'] at ok
      have := ok c (Array.mem_toList_iff.mp hm)
      simpa [PyData.strOk] using this
    have ev : PyData.eqv (.list ((L.map fun c => (⟨#[c]⟩ : Str)).map PyData.str)) (.list []) = isW x := by
      show PyData.eqvAll _ [] = _
      rw [eqv_nil]
      unfold isW
      rw [decide_eq_true h0, decide_eq_true h1, h2', Bool.eq_iff_iff]
      simp [List.isEmpty_iff, List.map_eq_nil_iff, ← hL, List.filter_eq_nil_iff, List.all_eq_true]
      constructor
      · intro h i hi
        exact h _ (Array.getElem_mem hi)
      · intro h a ha
        obtain ⟨i, hi, rfl⟩ := Array.getElem_of_mem ha
        exact h i hi
    rw [ev]
    exact q _ (same_add z1 ne)
end
end K01
set_option Elab.async false
set_option linter.all false
set_option autoImplicit false
set_option maxRecDepth 100000
set_option maxHeartbeats 2000000
namespace K01
open PySem PySem.Spec PyProof.Rows L2 Tl
open C8 (Cal pe_c)
theorem Off.seq {K : PySem.W.Frag} {d l : Addr} {H H' : Hp} {a : Addr} {xs : List V} (e : Off d l H H') (h1 : a ≠ d) (h2 : a ≠ l) (h : SqL K H a xs) : SqL K H' a xs := seq_off (fun o z => e a o h1 h2 z) h
section
variable {P : Program} {w : World} {K : PySem.W.Frag} {mg : Str → Option Value} {base : Heap}
/-! ### _law_pick -/
def spPick (K : PySem.W.Frag) : Sp := fun vs H Q _ => ∃ (d l b : Addr) (xs : List V), vs = [.ref d, .ref b] ∧ Deck H d l ∧ SqL K H b xs ∧ b ≠ d ∧ b ≠ l ∧ xs ≠ [] ∧ xs.length ≤ 100000 ∧
  ∀ (x : V) (H' : Hp), x ∈ xs → Off d l H H' → Deck H' d l → Q x H'
theorem cLawPick (T : Txt K mg) : Cal P w K mg base 2 "_law_pick" (spPick K) [] := by
  refine cal_of T.lawPick scLawPick (fun _ _ _ _ _ _ us hl => match us, hl with | [_, _], _ => rfl) (fun vs H Q E h => ?_) (fun f cdv A outer s H vs Q E hr h => ?_)
  · obtain ⟨d, l, b, xs, rfl, _⟩ := h
    rfl
  obtain ⟨d, l, b, xs, rfl, D, sq, nd, nl, ne, len, q⟩ := h
  refine ⟨_, (pss_one (ps_ret (pe_ix ix_list (pv 1) (pe_c (cLawDraw T) hr (by decide) rfl (pa_cons (pv 0) (pa_cons (pe_callB call_len_seq (by rfl) T.len (by decide +kernel) (pa_cons (pv 1) pa_nil)) pa_nil))) (fun _ _ => rfl)))), ?_⟩
  have pos : 0 < xs.length := List.length_pos_iff.mpr ne
  refine ⟨.ref b, rfl, .ref d, rfl, .ref b, rfl, b, xs, rfl, .inl sq, d, l, _, rfl, D, by omega, by omega, fun i H' i0 i1 off D' => ?_⟩
  obtain ⟨x, hx⟩ : ∃ x, xs[i.toNat]? = some x := ⟨xs[i.toNat]'(by omega), List.getElem?_eq_getElem (by omega)⟩
  exact ⟨b, xs, i, x, rfl, rfl, off.seq nd nl sq, at_of (j := i.toNat) (by omega) hx, q x H' (List.mem_of_getElem? hx) off D'⟩
/-! ### _law_name -/
def spName (K : PySem.W.Frag) : Sp := fun vs H Q _ => ∃ (d l b : Addr) (ws : List Str), vs = [.ref d, .ref b] ∧ Deck H d l ∧ SqL K H b (ws.map V.str) ∧ b ≠ d ∧ b ≠ l ∧ ws.length ≤ 100 ∧
  ∀ (x : Str) (H' : Hp), isW x = true → x ∉ ws → Off d l H H' → Deck H' d l → Q (.str x) H'
/-- letters alone, one to ten of them -/
def Lt (x : Str) : Prop := 0 < x.length ∧ x.length < 11 ∧ x.cps.toList.all lett = true
theorem isW_lt {x : Str} (h : isW x = true) : Lt x := by
  unfold isW at h
  simp only [Bool.and_eq_true, decide_eq_true_eq] at h
  exact ⟨h.1, h.2.1, h.2.2.2⟩
theorem signs_at {j : Nat} (h : j < 26) : alpha[j]? = some (97 + j) := by
  rw [alpha_eq, List.getElem?_range' h] <;> simp
theorem joined : ∀ cs : List Nat, (Txt.join ("" : Str) (cs.map fun c => (⟨#[c]⟩ : Str))).cps.toList = cs := by
  intro cs
  rw [TL.join_eq]
  induction cs with
  | nil => rfl
  | cons c cs ih =>
    cases cs with
    | nil => rfl
    | cons e cs =>
      show ((⟨#[c]⟩ : Str) ++ ("" : Str) ++ Str.join ("" : Str) ((e :: cs).map fun c => (⟨#[c]⟩ : Str))).cps.toList = _
      have h : ∀ a b : Str, (a ++ b).cps.toList = a.cps.toList ++ b.cps.toList := fun a b => Array.toList_append
      rw [h, h, ih]
      rfl
theorem str_ext {x y : Str} (h : x.cps.toList = y.cps.toList) : x = y := by
  obtain ⟨⟨a⟩⟩ := x
  obtain ⟨⟨b⟩⟩ := y
  have h : a = b := h
  rw [h]
theorem at_gen {α : Type} {xs : List α} {z : Int} {j : Nat} {v : α} (e : z = (j : Int)) (h : xs[j]? = some v) : atI xs z = some v := by
  rw [e]
  exact atI_nat h
theorem app_list (a b : Str) : (a ++ b).cps.toList = a.cps.toList ++ b.cps.toList := Array.toList_append
theorem len_list (a : Str) : a.length = a.cps.toList.length := (Array.length_toList).symm
theorem made {a b c : Nat} (h1 : lett a = true) (h2 : lett b = true) (h3 : lett c = true) : isW ⟨#[a, b, c, 113]⟩ = true := by
  have h6 : (six.any fun y => decide (y = (⟨#[a, b, c, 113]⟩ : Str))) = false := by
    rw [List.any_eq_false]
    intro y hy e
    have e := of_decide_eq_true e
    subst e
    have last : ∀ y ∈ six, y.cps.toList.getLast? ≠ some 113 := by decide +kernel
    exact last _ hy rfl
  unfold isW
  rw [h6]
  have e : ([a, b, c, 113].all lett) = true := by
    simp only [List.all_cons, List.all_nil, h1, h2, h3, Bool.true_and, Bool.and_true]
    decide
  show (decide (0 < 4) && (decide (4 < 11) && (!false && [a, b, c, 113].all lett))) = true
  rw [e]
  rfl
theorem menu_lt : ∀ x ∈ (["alls", "somes", "an", "ands", "eachx", "i", "iss", "so", "nones", "al"] : List Str), Lt x := by
  have : ∀ x ∈ (["alls", "somes", "an", "ands", "eachx", "i", "iss", "so", "nones", "al"] : List Str), (decide (0 < x.length) && (decide (x.length < 11) && x.cps.toList.all lett)) = true := by decide +kernel
  intro x hx
  have := this x hx
  simp only [Bool.and_eq_true, decide_eq_true_eq] at this
  exact ⟨this.1, this.2.1, this.2.2⟩
theorem inV_ws (x : Str) (ws : List Str) : inV (.str x) (ws.map V.str) = decide (x ∈ ws) := by
  unfold inV
  rw [List.any_map, Bool.eq_iff_iff, List.any_eq_true, decide_eq_true_eq]
  constructor
  · rintro ⟨y, hy, e⟩
    have e : y = x := of_decide_eq_true e
    exact e ▸ hy
  · intro h
    exact ⟨x, h, decide_eq_true rfl⟩
/-- the k-th name that is tried -/
def nm (c k : Nat) : Str := ⟨#[c, 97 + k / 26, 97 + k % 26, 113]⟩
theorem nm_inj {c j k : Nat} (h : nm c j = nm c k) : j = k := by
  unfold nm at h
  simp only [Str.mk.injEq] at h
  have h := congrArg Array.toList h
  simp only [List.cons.injEq, true_and, and_true] at h
  omega
theorem pigeon : ∀ (n : Nat) (f : Nat → Str) (ws : List Str), (∀ j k, j < n → k < n → f j = f k → j = k) → (∀ j, j < n → f j ∈ ws) → n ≤ ws.length
  | 0, _, _, _, _ => Nat.zero_le _
  | n + 1, f, ws, inj, mem => by
    have h := pigeon n f (ws.erase (f n)) (fun j k a b e => inj j k (by omega) (by omega) e) fun j hj => by
      refine (List.mem_erase_of_ne fun e => ?_).mpr (mem j (by omega))
      have := inj j n (by omega) (by omega) e
      omega
    have hm := mem n (by omega)
    rw [List.length_erase_of_mem hm] at h
    have := List.length_pos_of_mem hm
    omega
theorem cLawName (T : Txt K mg) : Cal P w K mg base 3 "_law_name" (spName K) [] := by
  refine cal_of T.lawName scLawName (fun _ _ _ _ _ _ us hl => match us, hl with | [_, _], _ => rfl) (fun vs H Q E h => ?_) (fun f cdv A outer s H vs Q E hr h => ?_)
  · obtain ⟨d, l, b, ws, rfl, _⟩ := h
    rfl
  obtain ⟨d, l, b, ws, rfl, D, sq, nd, nl, len, q⟩ := h
  refine ⟨_, (pss_cons (ps_set (i := 2) scLawName.nd rfl (.inr rfl) pe_str)
 (pss_cons (ps_set (i := 3) scLawName.nd rfl (.inl rfl) (pe_join pe_str (pe_lc (own := [("turn", 4)]) (by rfl) scLawName.nd (pi_range1 rfl T.range (pa_cons (pe_op op_add pe_int (pe_c (cLawPick T) hr (by decide) rfl (pa_cons (pv 0) (pa_cons (pe_lst (pa_cons pe_int (pa_cons pe_int (pa_cons pe_int (pa_cons pe_int (pa_cons pe_int (pa_cons pe_int pa_nil))))))) pa_nil)))) pa_nil)) (blkOk_by (own := [("turn", 4)]) (N := ["deck", "found", "signs", "name", "turn"]) (sc := defScope sLawName) (by decide +kernel)) (fun _ _ _ _ _ => (pg_name (i := 4) scLawName.nd rfl (.inl rfl))) (fun _ _ _ _ _ => pts_nil) (fun _ _ _ _ _ => (pe_ix ix_str (pv 2) (pe_c (cLawDraw T) hr (by decide) rfl (pa_cons (pv 0) (pa_cons pe_int pa_nil))) (fun _ _ => rfl))))))
 (C8.pss_cut (ps_set (i := 3) scLawName.nd rfl (.inl rfl) (pe_ifExp (pt_cmpR op_eq (pe_c (cLawDraw T) hr (by decide) rfl (pa_cons (pv 0) (pa_cons pe_int pa_nil))) pe_int (nomark _)) (pe_c (cLawPick T) hr (by decide) rfl (pa_cons (pv 0) (pa_cons (pe_lst (pa_cons pe_str (pa_cons pe_str (pa_cons pe_str (pa_cons pe_str (pa_cons pe_str (pa_cons pe_str (pa_cons pe_str (pa_cons pe_str (pa_cons pe_str (pa_cons pe_str pa_nil))))))))))) pa_nil))) (pv 3)))
 (pss_cons (ps_for PassesOwn.never rfl (pi_range1 rfl T.range (pa_cons (pe_op op_add (pe_callB call_len_seq (by rfl) T.len (by decide +kernel) (pa_cons (pv 1) pa_nil)) pe_int) pa_nil)) (pg_name (i := 4) scLawName.nd rfl (.inl rfl))
 (pss_one (ps_if (PW.pt (pw_or (pt_cmpR op_in_seq (pv 3) (pv 1) rfl) (pw_or1 (pt_not (pt_val (pe_c (cLawIsWord T) hr (by decide) rfl (pa_cons (pv 3) pa_nil)))))))
 (pss_one (ps_set (i := 3) scLawName.nd rfl (.inl rfl) (pe_op op_add_str (pe_op op_add_str (pe_op op_add_str (pe_slice sl_str (pv 3) po_none (po_some pe_int)) (pe_ix ix_str (pv 2) (pe_op op_fdiv (pv 4) pe_int) (fun _ _ => rfl))) (pe_ix ix_str (pv 2) (pe_op op_mod (pe_callTy call_int1 (by rfl) T.int (by decide +kernel) (pa_cons (pv 4) pa_nil)) pe_int) (fun _ _ => rfl))) pe_str)))
 pss_nil)))
 (pss_one (ps_ret (pv 3))))))), ?_⟩
  have Ddl := D.ne
  -- how many signs
  refine ⟨⟨_, rfl⟩, .ref d, rfl, by show 6 ≤ sizeLine; decide, fun p np => ?_⟩
  have pd : p ≠ d := fun z => by obtain ⟨_, _, _, h1, _⟩ := D; rw [z, h1] at np; cases np
  have pl : p ≠ l := fun z => by obtain ⟨_, _, _, _, h1, _⟩ := D; rw [z, h1] at np; cases np
  refine ⟨d, l, p, _, rfl, D.new np, lst_of upd_same, pd, pl, by simp, by show 6 ≤ 100000; decide, fun y G hy off DG => ?_⟩
  have off1 : Off d l H G := (off_new np).trans off
  obtain ⟨n, rfl, n0, n9⟩ : ∃ n : Int, y = .int n ∧ 0 ≤ n ∧ n ≤ 9 := by
    simp only [List.mem_cons, List.not_mem_nil, or_false] at hy
    rcases hy with rfl | rfl | rfl | rfl | rfl | rfl <;> exact ⟨_, rfl, by decide, by decide⟩
  clear off hy
  refine ⟨1, n, rfl, rfl, 1 + n, rfl, by omega, by omega, fun e ne => ?_⟩
  have ed : e ≠ d := fun z => by obtain ⟨_, _, _, h1, _⟩ := DG; rw [z, h1] at ne; cases ne
  have el : e ≠ l := fun z => by obtain ⟨_, _, _, _, h1, _⟩ := DG; rw [z, h1] at ne; cases ne
  have ne0 : H e = none := by
    cases q : H e with
    | none => rfl
    | some o => rw [off1 e o ed el q] at ne; cases ne
  -- the signs
  refine lc_range (lo := 0) (n := (1 + n).toNat) (fun i G2 => ∃ cs : List Nat, cs.length = i ∧ cs.all lett = true ∧ Off d l H G2 ∧ Deck G2 d l ∧ G2 e = some (.lst ((cs.map fun c => (⟨#[c]⟩ : Str)).map V.str)))
    ⟨[], rfl, rfl, off_add off1 ne, DG.new ne, upd_same⟩ (fun i G2 hi z => ?_) (fun G2 z => ?_)
  · obtain ⟨cs, hc, hl, o2, D2, g2⟩ := z
    refine ⟨rfl, .str _, rfl, .ref d, rfl, d, l, 26, rfl, D2, by omega, by omega, fun j G3 j0 j1 o3 D3 => ?_⟩
    have hj : j.toNat < 26 := by omega
    refine ⟨_, j, 97 + j.toNat, rfl, rfl, by decide +kernel, ?_, ?_⟩
    · have := signs_at hj
      rw [show j = ((j.toNat : Nat) : Int) by omega]
      exact atI_nat this
    · refine ⟨_, o3 _ _ ed el g2, ?_, cs ++ [97 + j.toNat], ?_, ?_, ?_, ?_, ?_⟩
      · rw [List.length_map, List.length_map, hc]
        exact Nat.lt_of_lt_of_le (show i < 100 by omega) (by decide)
      · rw [List.length_append, hc]
        rfl
      · rw [List.all_append, hl]
        simp [lett]
        omega
      · intro a u h1 h2 h
        have na : a ≠ e := ne_of_none h ne0
        rw [upd_ne na]
        exact o3 a u h1 h2 (o2 a u h1 h2 h)
      · obtain ⟨ns, m, t, k1, k2, k3⟩ := D3
        exact ⟨ns, m, t, (upd_ne ed.symm).trans k1, (upd_ne el.symm).trans k2, k3⟩
      · rw [upd_same, List.map_append, List.map_append]
        rfl
  obtain ⟨cs, hc, hl, o2, D2, g2⟩ := z
  have few : cs.length ≤ 10 := by omega
  refine ⟨_, e, _, rfl, rfl, .inl (lst_of g2), ?_, ?_⟩
  · rw [List.map_map, List.length_map]
    have : ∀ cs : List Nat, (cs.map ((fun x : Str => x.length) ∘ fun c => (⟨#[c]⟩ : Str))).sum = cs.length := by
      intro cs
      induction cs with
      | nil => rfl
      | cons c cs ih =>
        rw [List.map_cons, List.sum_cons, ih, List.length_cons]
        show 1 + cs.length = cs.length + 1
        omega
    rw [this]
    show cs.length + cs.length * 0 ≤ 16777216
    omega
  generalize hx : Txt.join ("" : Str) (cs.map fun c => (⟨#[c]⟩ : Str)) = x
  have hx' : x.cps.toList = cs := by rw [← hx]; exact joined cs
  have lx : Lt x := by
    refine ⟨?_, ?_, by rw [hx']; exact hl⟩
    · rw [len_list, hx']; omega
    · rw [len_list, hx']; omega
  clear hx g2
  -- or a word of the menu
  refine ⟨fun σ G => ∃ (x : Str) (t : Option V), σ = [some (.ref d), some (.ref b), some (.str "abcdefghijklmnopqrstuvwxyz"), some (.str x), t] ∧ Lt x ∧ Off d l H G ∧ Deck G d l, ?_, ?_⟩
  · refine ⟨.ref d, rfl, d, l, 6, rfl, D2, by omega, by omega, fun j G3 j0 j1 o3 D3 => ⟨rfl, _, rfl, ite2 (fun _ => ?_) (fun _ => ?_)⟩⟩
    · refine ⟨.ref d, rfl, by show 10 ≤ sizeLine; decide, fun p np => ?_⟩
      have pd : p ≠ d := fun z => by obtain ⟨_, _, _, h1, _⟩ := D3; rw [z, h1] at np; cases np
      have pl : p ≠ l := fun z => by obtain ⟨_, _, _, _, h1, _⟩ := D3; rw [z, h1] at np; cases np
      refine ⟨d, l, p, _, rfl, D3.new np, lst_of upd_same, pd, pl, by simp, by show 10 ≤ 100000; decide, fun y G4 hy off DG => ?_⟩
      obtain ⟨z, rfl, hz⟩ : ∃ z : Str, y = .str z ∧ Lt z := by
        have : y ∈ ((["alls", "somes", "an", "ands", "eachx", "i", "iss", "so", "nones", "al"] : List Str).map V.str) := hy
        obtain ⟨z, hz, e⟩ := List.mem_map.mp this
        exact ⟨z, e.symm, menu_lt z hz⟩
      exact ⟨z, none, rfl, hz, ((o2.trans o3).trans (off_new np)).trans off, DG⟩
    · exact ⟨_, rfl, x, none, rfl, lx, o2.trans o3, D3⟩
  rintro σ' G3 ⟨x, t, rfl, lx, o3, D3⟩
  have sq3 := o3.seq nd nl sq
  refine ⟨.ref b, rfl, b, _, rfl, .inl sq3, _, 2, rfl, rfl, _, rfl, ?_, ?_, ?_⟩
  · rw [List.length_map]; omega
  · rw [List.length_map]; omega
  have hn : ((((ws.map V.str).length : Nat) : Int) + 2).toNat = ws.length + 2 := by rw [List.length_map]; omega
  rw [hn]
  refine for_range (lo := 0) (n := ws.length + 2) (fun i σ G => ∃ (x : Str) (t : Option V), σ = [some (.ref d), some (.ref b), some (.str "abcdefghijklmnopqrstuvwxyz"), some (.str x), t] ∧ Lt x ∧
      ((isW x = true ∧ x ∉ ws) ∨ i = 0 ∨ ∃ c k : Nat, i = k + 1 ∧ lett c = true ∧ x = nm c k ∧ ∀ j, j < k → nm c j ∈ ws) ∧ Off d l H G ∧ Deck G d l)
    ⟨x, t, rfl, lx, .inr (.inl rfl), o3, D3⟩ (fun i σ G4 hi z => ?_) (fun σ G4 z => ?_)
  · obtain ⟨x, t, rfl, lx, hw, o4, D4⟩ := z
    have sq4 := o4.seq nd nl sq
    have szx : x.length ≤ sizeLine := Nat.le_of_lt (small1000 (by have := lx.2.1; omega))
    -- the first sign
    obtain ⟨c0, r0, hx0⟩ : ∃ c r, x.cps.toList = c :: r := by
      have h0 := lx.1
      rw [len_list] at h0
      cases h : x.cps.toList with
      | nil => rw [h] at h0; exact absurd h0 (Nat.lt_irrefl 0)
      | cons c r => exact ⟨c, r, rfl⟩
    have hc0 : lett c0 = true := by
      have := lx.2.2
      rw [hx0, List.all_cons, Bool.and_eq_true] at this
      exact this.1
    have hcut : cutS x none (some 1) = ⟨#[c0]⟩ := by
      refine str_ext ?_
      unfold cutS
      rw [HT.sIx_none, show HT.sIx x.length x.length (some 1) = min 1 x.length from HT.sIx_nat _ _ 1, hx0, show min 1 x.length = 1 from Nat.min_eq_left lx.1]
      rfl
    have b1 : i / 26 < 26 := by omega
    have b2 : i % 26 < 26 := Nat.mod_lt _ (by decide)
    have e1 : ((0 : Int) + (i : Int)) / 26 = ((i / 26 : Nat) : Int) := by omega
    have e2 : ((0 : Int) + (i : Int)) % 26 = ((i % 26 : Nat) : Int) := by omega
    have hs1 : lett (97 + i / 26) = true := by simp [lett]; omega
    have hs2 : lett (97 + i % 26) = true := by simp [lett]; omega
    -- where it is changed, all tried so far are there
    have next : (x ∈ ws ∨ isW x = false) → ∀ j, j < i → nm c0 j ∈ ws := fun bad j hj => by
      rcases hw with ⟨h1, h2⟩ | h | ⟨c, k, ek, hc, ex, all⟩
      · rcases bad with bad | bad
        · exact absurd bad h2
        · rw [h1] at bad; cases bad
      · omega
      · have ec : c0 = c := by
          rw [ex] at hx0
          exact (List.cons.inj hx0).1.symm
        subst ec
        have hin : x ∈ ws := bad.elim id fun bad => by
          rw [ex] at bad
          have := made (a := c0) (b := 97 + k / 26) (c := 97 + k % 26) hc (by simp [lett]; omega) (by simp [lett]; omega)
          rw [show nm c0 k = ⟨#[c0, 97 + k / 26, 97 + k % 26, 113]⟩ from rfl, this] at bad
          cases bad
        by_cases hjk : j < k
        · exact all j hjk
        · obtain rfl : j = k := by omega
          rw [← ex]
          exact hin
    refine ⟨.str x, rfl, .ref b, rfl, b, _, rfl, .inl sq4, rfl, flat_strs ws, _, rfl, ?_⟩
    show if inV (.str x) (ws.map V.str) = true then _ else _
    rw [inV_ws]
    refine ite2 (fun yes => iteT ?_) (fun no => ?_)
    ·
      refine ⟨.str x, rfl, 1, rfl, x, rfl, szx, .str _, rfl, _, rfl, _, 26, rfl, rfl, ⟨by omega, by omega⟩, _, _, _, rfl, rfl, by decide +kernel, (at_gen e1 (signs_at b1)), ?_⟩
      refine ⟨_, _, rfl, rfl, by rw [hcut]; show 1 + 1 ≤ sizeLine; decide, .str _, rfl, _, rfl, .inl ⟨_, rfl, _, 26, rfl, rfl, (by show (0 : Int) < 26; decide), _, _, _, rfl, rfl, by decide +kernel, (at_gen e2 (signs_at b2)), ?_⟩⟩
      refine ⟨_, _, rfl, rfl, by rw [hcut]; show 2 + 1 ≤ sizeLine; decide, _, _, rfl, rfl, by rw [hcut]; show 3 + 1 ≤ sizeLine; decide, ?_⟩
      refine ⟨_, _, rfl, ?_, .inr (.inr ⟨c0, i, rfl, hc0, ?_, next (.inl (of_decide_eq_true yes))⟩), o4, D4⟩
      · rw [hcut]
        exact isW_lt (made hc0 hs1 hs2)
      · rw [hcut]
        rfl
    · refine ⟨.str x, rfl, x, rfl, by have := lx.2.1; omega, lett_ok lx.2.2, fun G5 sm => ⟨_, rfl, ?_⟩⟩
      have o5 : Off d l H G5 := o4.trans sm.off
      have D5 := D4.same sm
      cases hw5 : isW x with
      | true => exact iteF ⟨x, _, rfl, lx, .inl ⟨hw5, fun y => no (decide_eq_true y)⟩, o5, D5⟩
      | false =>
        refine iteT ?_

        refine ⟨.str x, rfl, 1, rfl, x, rfl, szx, .str _, rfl, _, rfl, _, 26, rfl, rfl, ⟨by omega, by omega⟩, _, _, _, rfl, rfl, by decide +kernel, (at_gen e1 (signs_at b1)), ?_⟩
        refine ⟨_, _, rfl, rfl, by rw [hcut]; show 1 + 1 ≤ sizeLine; decide, .str _, rfl, _, rfl, .inl ⟨_, rfl, _, 26, rfl, rfl, (by show (0 : Int) < 26; decide), _, _, _, rfl, rfl, by decide +kernel, (at_gen e2 (signs_at b2)), ?_⟩⟩
        refine ⟨_, _, rfl, rfl, by rw [hcut]; show 2 + 1 ≤ sizeLine; decide, _, _, rfl, rfl, by rw [hcut]; show 3 + 1 ≤ sizeLine; decide, ?_⟩
        refine ⟨_, _, rfl, ?_, .inr (.inr ⟨c0, i, rfl, hc0, ?_, next (.inr hw5)⟩), o5, D5⟩
        · rw [hcut]
          exact isW_lt (made hc0 hs1 hs2)
        · rw [hcut]
          rfl
  · obtain ⟨x, t, rfl, lx, hw, o4, D4⟩ := z
    have good : isW x = true ∧ x ∉ ws := by
      rcases hw with h | h | ⟨c, k, ek, hc, ex, all⟩
      · exact h
      · omega
      · have := pigeon k (nm c) ws (fun j k' _ _ e => nm_inj e) all
        omega
    exact ⟨_, rfl, q x G4 good.1 good.2 o4 D4⟩
end
end K01
set_option Elab.async false
set_option linter.all false
set_option autoImplicit false
set_option maxRecDepth 100000
set_option maxHeartbeats 2000000
namespace K01
open PySem PySem.Spec PyProof.Rows L2 Tl
open C8 (Cal pe_c)
theorem Deck.off {d l p : Addr} {H : Hp} (D : Deck H d l) (np : H p = none) : p ≠ d ∧ p ≠ l := by
  obtain ⟨_, _, _, h1, h2, _⟩ := D
  exact ⟨fun z => (by rw [z, h1] at np; cases np), fun z => (by rw [z, h2] at np; cases np)⟩
theorem Off.free {d l p : Addr} {H H' : Hp} (e : Off d l H H') (h1 : p ≠ d) (h2 : p ≠ l) (h : H' p = none) : H p = none := by
  cases q : H p with
  | none => rfl
  | some o => rw [e p o h1 h2 q] at h; cases h
/-- a thing that H did not know changes -/
theorem Off.mut {d l p : Addr} {H H' : Hp} {o : HO} (e : Off d l H H') (h : H p = none) : Off d l H (upd H' p o) := fun a u h1 h2 z => by
  rw [upd_ne (ne_of_none z h)]
  exact e a u h1 h2 z
theorem Deck.mut {d l p : Addr} {H : Hp} {o : HO} (D : Deck H d l) (h1 : p ≠ d) (h2 : p ≠ l) : Deck (upd H p o) d l := by
  obtain ⟨ns, m, t, k1, k2, k3⟩ := D
  exact ⟨ns, m, t, (upd_ne h1.symm).trans k1, (upd_ne h2.symm).trans k2, k3⟩
section
variable {P : Program} {w : World} {K : PySem.W.Frag} {mg : Str → Option Value} {base : Heap}
/-! ### _law_words -/
def spWords : Sp := fun vs H Q _ => ∃ (d l : Addr) (n : Nat), vs = [.ref d, .int n] ∧ Deck H d l ∧ n ≤ 50 ∧
  ∀ (p : Addr) (ws : List Str) (H' : Hp), H p = none → ws.length = n → (∀ x ∈ ws, isW x = true) → ws.Nodup → p ≠ d → p ≠ l → Off d l H H' → Deck H' d l → H' p = some (.lst (ws.map V.str)) → Q (.ref p) H'
theorem cLawWords (T : Txt K mg) : Cal P w K mg base 4 "_law_words" spWords [] := by
  refine cal_of T.lawWords scLawWords (fun _ _ _ _ _ _ us hl => match us, hl with | [_, _], _ => rfl) (fun vs H Q E h => ?_) (fun f cdv A outer s H vs Q E hr h => ?_)
  · obtain ⟨d, l, n, rfl, _⟩ := h
    rfl
  obtain ⟨d, l, n, rfl, D, n50, q⟩ := h
  refine ⟨_, (pss_cons (ps_set (i := 2) scLawWords.nd rfl (.inl rfl) (pe_lst pa_nil))
 (pss_cons (ps_for PassesOwn.never rfl (pi_range1 rfl T.range (pa_cons (pv 1) pa_nil)) (pg_name (i := 3) scLawWords.nd rfl (.inl rfl))
 (pss_one (ps_expr (pe_bm PySem.F.plainAttrs_list PySem.F.slot_list_append PySem.F.type_list_append mt_append (pv 2) (pa_cons (pe_c (cLawName T) hr (by decide) rfl (pa_cons (pv 0) (pa_cons (pv 2) pa_nil))) pa_nil)))))
 (pss_one (ps_ret (pv 2))))), ?_⟩
  refine ⟨Nat.zero_le _, fun p np => ?_⟩
  obtain ⟨pd, pl⟩ := D.off np
  refine ⟨.int n, rfl, n, rfl, by omega, by omega, ?_⟩
  rw [show ((n : Nat) : Int).toNat = n from rfl]
  refine for_range (lo := 0) (n := n) (fun i σ G => ∃ (ws : List Str) (t : Option V), σ = [some (.ref d), some (.int n), some (.ref p), t] ∧ ws.length = i ∧ (∀ x ∈ ws, isW x = true) ∧ ws.Nodup ∧ Off d l H G ∧ Deck G d l ∧ G p = some (.lst (ws.map V.str)))
    ⟨[], none, rfl, rfl, fun x hx => (nomatch hx), List.nodup_nil, off_new np, D.new np, upd_same⟩ (fun i σ G hi z => ?_) (fun σ G z => ?_)
  · obtain ⟨ws, t, rfl, hl, hw, hn, o1, D1, g1⟩ := z
    refine ⟨.ref p, rfl, .inl ⟨rfl, _, lst_of g1⟩, .ref d, rfl, .ref p, rfl, d, l, p, ws, rfl, D1, lst_of g1, pd, pl, by omega, fun x G2 hx hx2 o2 D2 => ?_⟩
    refine ⟨p, _, _, rfl, rfl, o2 p _ pd pl g1, ?_, ws ++ [x], _, rfl, ?_, ?_, ?_, (o1.trans o2).mut np, D2.mut pd pl, ?_⟩
    · rw [List.length_map, hl]
      exact Nat.lt_of_lt_of_le (show i < 100 by omega) (by decide)
    · rw [List.length_append, hl]
      rfl
    · intro y hy
      rcases List.mem_append.mp hy with hy | hy
      · exact hw y hy
      · rw [List.mem_singleton.mp hy]
        exact hx
    · rw [List.nodup_append]
      refine ⟨hn, by simp, fun a ha b hb e => hx2 ?_⟩
      rw [← List.mem_singleton.mp hb, ← e]
      exact ha
    · rw [upd_same, List.map_append]
      rfl
  · obtain ⟨ws, t, rfl, hl, hw, hn, o1, D1, g1⟩ := z
    exact ⟨_, rfl, q p ws G np hl hw hn pd pl o1 D1 g1⟩
end
/-! ### concepts -/
def COk : C → Prop
  | .all => True
  | .non => True
  | .word x => isW x = true
  | .some r c => isW r = true ∧ COk c
  | .and a b => COk a ∧ COk b
def dep : C → Nat
  | .some _ c => dep c + 1
  | .and a b => Nat.max (dep a) (dep b) + 1
  | _ => 1
def nodes : C → Nat
  | .some _ c => nodes c + 1
  | .and a b => nodes a + nodes b + 1
  | _ => 1
theorem cal_false {P : Program} {w : World} {K : PySem.W.Frag} {mg : Str → Option Value} {base : Heap} {x : Str} {st : Stmt} {ps : List Str} (D : DefAt K mg x st) (hb : BindH x st ps) : Cal P w K mg base 0 x (fun _ _ _ _ => False) [] := by
  obtain ⟨f, fd, F, hm⟩ := D.ex
  exact ⟨f, fd, ps, [], ⟨fun _ _ _ _ z => z.elim, fun _ _ _ _ _ _ _ _ _ _ _ _ _ z => z.elim⟩, hm, F.kp, F.binds hb, .nil⟩
/-- b holds a list of words, apart from the deck -/
def Words (K : PySem.W.Frag) (H : Hp) (d l b : Addr) (ws : List Str) : Prop := SqL K H b (ws.map V.str) ∧ b ≠ d ∧ b ≠ l ∧ ws ≠ [] ∧ ws.length ≤ 100 ∧ ∀ x ∈ ws, isW x = true
theorem Words.off {K : PySem.W.Frag} {H H' : Hp} {d l b : Addr} {ws : List Str} (h : Words K H d l b ws) (e : Off d l H H') : Words K H' d l b ws := ⟨e.seq h.2.1 h.2.2.1 h.1, h.2⟩
section
variable {P : Program} {w : World} {K : PySem.W.Frag} {mg : Str → Option Value} {base : Heap}
/-- a word of the list, picked -/
theorem picked {K : PySem.W.Frag} {H : Hp} {d l b : Addr} {ws : List Str} {Q : VK} (D : Deck H d l) (W : Words K H d l b ws) (k : ∀ (x : Str) (H' : Hp), isW x = true → x ∈ ws → Off d l H H' → Deck H' d l → Q (.str x) H') : spPick K [.ref d, .ref b] H Q (fun _ _ _ => False) := by
  refine ⟨d, l, b, _, rfl, D, W.1, W.2.1, W.2.2.1, ?_, ?_, fun y G hy off DG => ?_⟩
  · intro e
    exact W.2.2.2.1 (List.map_eq_nil_iff.mp e)
  · rw [List.length_map]
    have := W.2.2.2.2.1
    omega
  · obtain ⟨x, hx, rfl⟩ := List.mem_map.mp hy
    exact k x G (W.2.2.2.2.2 x hx) hx off DG
end
end K01
set_option Elab.async false
set_option linter.all false
set_option autoImplicit false
set_option maxRecDepth 100000
set_option maxHeartbeats 2000000
namespace K01
open PySem PySem.Spec PyProof.Rows L2 Tl
open C8 (Cal pe_c)
/-! ### worlds -/
structure Wd where
  many : Int
  names : List (Str × List Int)
  roles : List (Str × List (Int × Int))
def PrE (K : PySem.W.Frag) (H : Hp) (q : Addr) (e : Int × Int) : Prop := SqT K H q [.int e.1, .int e.2]
def Prs (K : PySem.W.Frag) (H : Hp) (t : Addr) (es : List (Int × Int)) : Prop := ∃ qs : List Addr, SqT K H t (qs.map V.ref) ∧ Paired (PrE K H) qs es
def NmE (K : PySem.W.Frag) (H : Hp) (p : Addr) (e : Str × List Int) : Prop := ∃ t, SqT K H p [.str e.1, .ref t] ∧ SqT K H t (e.2.map V.int)
def RlE (K : PySem.W.Frag) (H : Hp) (p : Addr) (e : Str × List (Int × Int)) : Prop := ∃ t, SqT K H p [.str e.1, .ref t] ∧ Prs K H t e.2
def Frz (H : Hp) (a : Addr) (ps : List Addr) : Prop := ∃ o : Obj, H a = some (.frz o (.tup (ps.map V.ref))) ∧ o.dict = none
def Names (K : PySem.W.Frag) (H : Hp) (a : Addr) (nm : List (Str × List Int)) : Prop := ∃ ps, Frz H a ps ∧ Paired (NmE K H) ps nm
def Roles (K : PySem.W.Frag) (H : Hp) (a : Addr) (rl : List (Str × List (Int × Int))) : Prop := ∃ ps, Frz H a ps ∧ Paired (RlE K H) ps rl
def IsWd (K : PySem.W.Frag) (H : Hp) (v : V) (W : Wd) : Prop := ∃ a n r, v = .ref a ∧ SqT K H a [.int W.many, .ref n, .ref r] ∧ Names K H n W.names ∧ Roles K H r W.roles
section
variable {K : PySem.W.Frag} {H H' : Hp}
theorem pre_st {q : Addr} {e : Int × Int} (s : Stay H H') (h : PrE K H q e) : PrE K H' q e := s.tup h
theorem prs_st {t : Addr} {es : List (Int × Int)} (s : Stay H H') (h : Prs K H t es) : Prs K H' t es := by
  obtain ⟨qs, h1, h2⟩ := h
  exact ⟨qs, s.tup h1, Paired.mapP h2 fun _ _ z => pre_st s z⟩
theorem nme_st {p : Addr} {e : Str × List Int} (s : Stay H H') (h : NmE K H p e) : NmE K H' p e := by
  obtain ⟨t, h1, h2⟩ := h
  exact ⟨t, s.tup h1, s.tup h2⟩
theorem rle_st {p : Addr} {e : Str × List (Int × Int)} (s : Stay H H') (h : RlE K H p e) : RlE K H' p e := by
  obtain ⟨t, h1, h2⟩ := h
  exact ⟨t, s.tup h1, prs_st s h2⟩
theorem frz_st {a : Addr} {ps : List Addr} (s : Stay H H') (h : Frz H a ps) : Frz H' a ps := by
  obtain ⟨o, h1, h2⟩ := h
  exact ⟨o, s.frz h1, h2⟩
theorem names_st {a : Addr} {nm : List (Str × List Int)} (s : Stay H H') (h : Names K H a nm) : Names K H' a nm := by
  obtain ⟨ps, h1, h2⟩ := h
  exact ⟨ps, frz_st s h1, Paired.mapP h2 fun _ _ z => nme_st s z⟩
theorem roles_st {a : Addr} {rl : List (Str × List (Int × Int))} (s : Stay H H') (h : Roles K H a rl) : Roles K H' a rl := by
  obtain ⟨ps, h1, h2⟩ := h
  exact ⟨ps, frz_st s h1, Paired.mapP h2 fun _ _ z => rle_st s z⟩
theorem iswd_st {v : V} {W : Wd} (s : Stay H H') (h : IsWd K H v W) : IsWd K H' v W := by
  obtain ⟨a, n, r, h1, h2, h3, h4⟩ := h
  exact ⟨a, n, r, h1, s.tup h2, names_st s h3, roles_st s h4⟩
end
theorem snoc {α β : Type} {F : α → β → Prop} : ∀ {xs : List α} {ys : List β} {x : α} {y : β}, Paired F xs ys → F x y → Paired F (xs ++ [x]) (ys ++ [y])
  | _, _, _, _, .nil, h => .cons h .nil
  | _, _, _, _, .cons r t, h => .cons r (snoc t h)
theorem joinP {α β : Type} {F : α → β → Prop} : ∀ {xs xs' : List α} {ys ys' : List β}, Paired F xs ys → Paired F xs' ys' → Paired F (xs ++ xs') (ys ++ ys')
  | _, _, _, _, .nil, h => h
  | _, _, _, _, .cons r t, h => .cons r (joinP t h)
theorem getP {α β : Type} {F : α → β → Prop} : ∀ {xs : List α} {ys : List β} {i : Nat} {x : α}, Paired F xs ys → xs[i]? = some x → ∃ y, ys[i]? = some y ∧ F x y
  | _ :: _, _ :: _, 0, _, .cons r _, h => ⟨_, rfl, by cases h; exact r⟩
  | _ :: _, _ :: _, i + 1, _, .cons _ t, h => getP (i := i) t h
def Lex (e f : Int × Int) : Prop := e.1 < f.1 ∨ (e.1 = f.1 ∧ e.2 < f.2)
def sl (x y : Str) : Prop := x.cps.toList < y.cps.toList
def GoodN (many : Int) (xs : List Int) : Prop := xs ≠ [] ∧ xs.Pairwise (· < ·) ∧ ∀ x ∈ xs, 0 ≤ x ∧ x < many
def GoodR (many : Int) (es : List (Int × Int)) : Prop := es ≠ [] ∧ es.Pairwise Lex ∧ ∀ e ∈ es, (0 ≤ e.1 ∧ e.1 < many) ∧ 0 ≤ e.2 ∧ e.2 < many
structure WOk (W : Wd) : Prop where
  many : 1 ≤ W.many ∧ W.many ≤ 6
  names : (W.names.map (·.1)).Pairwise sl ∧ (∀ e ∈ W.names, isW e.1 = true ∧ GoodN W.many e.2) ∧ W.names.length ≤ 50
  roles : (W.roles.map (·.1)).Pairwise sl ∧ (∀ e ∈ W.roles, isW e.1 = true ∧ GoodR W.many e.2) ∧ W.roles.length ≤ 50
theorem sl_of {x y : Str} (h : ¬ sl y x) (n : x ≠ y) : sl x y := by
  unfold sl at *
  have h1 : x.cps.toList ≤ y.cps.toList := List.not_lt.mp h
  rcases List.le_iff_lt_or_eq.mp h1 with h2 | h2
  · exact h2
  · exact absurd (str_ext h2) n
theorem sl_trans {x y z : Str} (a : sl x y) (b : sl y z) : sl x z := List.lt_trans a b
theorem rising_sl : ∀ (p : Str) (ws : List Str), risingS p ws = true → (p :: ws).Nodup → (p :: ws).Pairwise sl
  | p, [], _, _ => List.pairwise_singleton _ _
  | p, x :: r, h, n => by
    simp only [risingS, Bool.and_eq_true, Bool.not_eq_true', ltCps_eq, decide_eq_false_iff_not] at h
    have hpx : sl p x := sl_of h.1 fun e => by
      rw [e] at n
      exact (List.nodup_cons.mp n).1 List.mem_cons_self
    have ih := rising_sl x r h.2 (List.nodup_cons.mp n).2
    rw [List.pairwise_cons]
    refine ⟨fun y hy => ?_, ih⟩
    rcases List.mem_cons.mp hy with rfl | hy
    · exact hpx
    · exact sl_trans hpx ((List.pairwise_cons.mp ih).1 y hy)
theorem sorted_sl {ws : List Str} (h : sortedS ws = true) (n : ws.Nodup) : ws.Pairwise sl := by
  cases ws with
  | nil => exact List.Pairwise.nil
  | cons x r => exact rising_sl x r h n
/-! ### data of a world's parts -/
section
variable {K : PySem.W.Frag} {H : Hp}
theorem dts_ints : ∀ ns : List Int, Dts K H (ns.map V.int) (ns.map PyData.int)
  | [] => .nil
  | n :: ns => .cons (.int n) (dts_ints ns)
def prD (e : Int × Int) : PyData := .tuple [.int e.1, .int e.2]
theorem dts_prs {qs : List Addr} {es : List (Int × Int)} (h : Paired (PrE K H) qs es) : Dts K H (qs.map V.ref) (es.map prD) := by
  induction h with
  | nil => exact .nil
  | cons r _ ih => exact .cons (.tup r (.cons (.int _) (.cons (.int _) .nil))) ih
theorem canLay_prs : ∀ es : List (Int × Int), PyData.canLayAll0 (es.map prD) = true
  | [] => by simp [PyData.canLayAll0]
  | e :: es => by simp [PyData.canLayAll0, PyData.canLay0, prD, canLay_prs es]
theorem depth_prs : ∀ es : List (Int × Int), PyData.depthAll (es.map prD) ≤ 1
  | [] => by simp [PyData.depthAll]
  | e :: es => by
    have := depth_prs es
    simp [PyData.depthAll, PyData.depth, prD]
    omega
theorem shaped_prs (es : List (Int × Int)) : SeqAt.shaped (.list (es.map prD)) = true := by
  have := depth_prs es
  simp [SeqAt.shaped, PyData.canLay0, PyData.depth, canLay_prs]
  omega
theorem shaped_tints (ns : List Int) : SeqAt.shaped (.tuple (ns.map PyData.int)) = true := by
  simp [SeqAt.shaped, PyData.canLay0, PyData.depth, canLay_ints, depth_ints]
theorem shaped_tnil : SeqAt.shaped (.tuple []) = true := shaped_tints []
end
end K01
set_option Elab.async false
set_option linter.all false
set_option maxRecDepth 100000
set_option maxHeartbeats 1000000
/-! a call with keywords alone -/
namespace Tl
open PySem PySem.Spec PyProof.Rows L2
open C8 (Cal)
section
variable {X : Cx} {CX : CXT} {k : Nat} {f : Addr} {fd : FuncData} {ps ks : List Str} {sp : Sp} {E : XK} {x : Str} {p pos : Pos} {kws : List Keyword} {tk : TA} {g : List Value → List Value → List Value} {gV : List V → List V → List V}
theorem pe_callKw (F : FnOk X.prog X.w X.K X.mg X.base CX k f fd ps sp) (hr : Room k X.A) (hg : Gl X x) (hm : X.mg x = some (.ref f)) (hk : PySem.W.keepIn X.K (.ref f) = true) (hb : KBinds X.K fd ps ks g gV) (hx : Passes CX X E)
    (hkw : PK X kws tk) (hall : (backToKw pos (keywordEach kws X.env)).all (·.1.isSome) = true) (hks : (backToKw pos (keywordEach kws X.env)).filterMap (·.1) = ks)
    (hdb : (x == ("__debug__" : Str)) = false)
    (hpl : ((backTo pos (starEach [] X.env)).any (·.1) || (backToKw pos (keywordEach kws X.env)).any (·.1.isNone)) = false) :
    PE X (.Call (.Name x p) [] kws pos) (tCallK sp gV E tNil tk) := by
  refine ⟨fun pins s σ H Q I h => ?_⟩
  refine wpAny_Call_Name_kw (ld_glob I hg hm ?_ hdb)
  refine PySem.W.callWith_KW0 (h₀ := X.base) I.ok.mod.kin hk hall (thn (hkw.run pos pins s σ H _ I h) fun ws s2 ⟨zs, H2, I2, rz, q2⟩ => ⟨I2.kIn, ?_⟩) hpl
  rw [hks]
  exact run_fnk F hr hb hx I2 .nil rz q2
end
/-- a def with its text: it may be called with keywords too -/
structure CalF (P : Program) (w : World) (K : PySem.W.Frag) (mg : Str → Option Value) (base : Heap) (k : Nat) (x : Str) (st : Stmt) (ps : List Str) (sp : Sp) : Prop where
  ex : ∃ (f : Addr) (fd : FuncData), FnOk P w K mg base CX0 k f fd ps sp ∧ mg x = some (.ref f) ∧ L2.Fun K x x st f fd
section
variable {P : Program} {w : World} {K : PySem.W.Frag} {mg : Str → Option Value} {base : Heap}
theorem calF_of {x : Str} {st : Stmt} {N ps : List Str} {k : Nat} {sp : Sp} (D : DefAt K mg x st) (S : FnScope N ps (defScope st)) (len : ∀ vs H Q E, sp vs H Q E → vs.length = ps.length)
    (body : ∀ (f : Addr) (cdv : Value) (A : Around) (outer : List Env) (s : Shared) (H : Hp) (vs : List V) (Q : VK) (E : XK), Room k (A.deeper (envOfC x (defScope st) s.heap.objs.size f cdv)) → sp vs H Q E →
      ∃ t, PSs (cxOf CX0 P w K mg base N x (defScope st) f cdv A outer s H E).nox (defBody st) t ∧ t { nx := fun _ H' => Q .non H', rt := Q } (start N vs) H) : CalF P w K mg base (k + 1) x st ps sp := by
  obtain ⟨f, fd, F, hm⟩ := D.ex
  exact ⟨f, fd, F.ok S len (fun cdv A outer s H vs Q E hr h => body f cdv A outer s H vs Q E hr h), hm, F⟩
theorem CalF.cal {x : Str} {st : Stmt} {ps : List Str} {k : Nat} {sp : Sp} (c : CalF P w K mg base k x st ps sp) (hb : BindH x st ps) : Cal P w K mg base k x sp [] := by
  obtain ⟨f, fd, F, hm, G⟩ := c.ex
  exact ⟨f, fd, ps, [], F, hm, G.kp, G.binds hb, .nil⟩
abbrev KBindH (x : Str) (st : Stmt) (ps ks : List Str) (g : List Value → List Value → List Value) : Prop := ∀ (kV doc pm : Value) (an : Option Addr) (cdv ct : Value) (us ws : List Value), (g us ws).length = ps.length →
  bindArgs (PySem.W.fnOf x x (defArgs st) (defBody st) (defScope st) .none kV doc pm an cdv ct) ⟨us, ks.zip ws⟩ = pure (ps.zip (g us ws))
theorem kbinds {x : Str} {st : Stmt} {ps ks : List Str} {f : Addr} {fd : FuncData} {g : List Value → List Value → List Value} {gV : List V → List V → List V} (F : L2.Fun K x x st f fd) (hb : KBindH x st ps ks g)
    (rel : ∀ {vs : List V} {us : List Value} {zs : List V} {ws : List Value}, Vals vs us → Vals zs ws → Vals (gV vs zs) (g us ws)) : KBinds K fd ps ks g gV := by
  obtain ⟨oc, od, kV, doc, pm, an, cdv, ct, osl, rfl, lk, hcd⟩ := F.ex
  exact ⟨fun s us ws _ hl => .of_eq (hb kV doc pm an cdv ct us ws hl), rel⟩
end
section
variable {X : Cx} {k j : Nat} {ps ks : List Str} {sp : Sp} {x : Str} {st : Stmt} {p pos : Pos} {kws : List Keyword} {tk : TA} {g : List Value → List Value → List Value} {gV : List V → List V → List V}
theorem pe_ck (c : CalF X.prog X.w X.K X.mg X.base k x st ps sp) (hr : Room j X.A) (hk : k ≤ j) (hg : Gl X x) (hb : KBindH x st ps ks g)
    (rel : ∀ {vs : List V} {us : List Value} {zs : List V} {ws : List Value}, Vals vs us → Vals zs ws → Vals (gV vs zs) (g us ws))
    (hkw : PK X kws tk) (hall : (backToKw pos (keywordEach kws X.env)).all (·.1.isSome) = true := by rfl) (hks : (backToKw pos (keywordEach kws X.env)).filterMap (·.1) = ks := by rfl)
    (hdb : (x == ("__debug__" : Str)) = false := by decide)
    (hpl : ((backTo pos (starEach [] X.env)).any (·.1) || (backToKw pos (keywordEach kws X.env)).any (·.1.isNone)) = false := by rfl) :
    PE X (.Call (.Name x p) [] kws pos) (tCallK sp gV C8.E0 tNil tk) := by
  obtain ⟨f, fd, F, hm, G⟩ := c.ex
  exact pe_callKw F (hr.mono hk) hg hm G.kp (kbinds G hb rel) C8.pass0 hkw hall hks hdb hpl
end
end Tl
set_option Elab.async false
set_option linter.all false
set_option maxRecDepth 100000
set_option maxHeartbeats 2000000
/-! enumerate(t), t a tuple; min of a list of ints -/
namespace Tl
open PySem PySem.Spec PyProof.Rows L2
section
variable {prog : Program} {w : World} {A : Around} {E : Value → Shared → Prop} {s : Shared}
theorem nextTup {it t : Addr} {i : Nat} {its : Array Value} {x : Value} {Q : Value → Shared → Prop} (a : s.heap.IsTupleIter it t i) (b : s.heap.IsTuple t its) (hx : its[i]? = some x)
    (q : ∀ h', h'.IsTupleIter it t (i + 1) → Heap.SameBut it s.heap h' → Q x { s with heap := h' }) : wpAny (model prog w) A (Builtin.SmallTypes.nextOf (.ref it)) Q E s := by
  obtain ⟨o, ho, hc, hd⟩ := id a; obtain ⟨o2, ho2, _, n2, hd2⟩ := b
  unfold Builtin.SmallTypes.nextOf
  refine wpAny_bind (wpAny_callSpecial?_slot (name := Str.ofString "__next__") a.typeIs F.slot_tuple_iterator_next (wpAny_call_entry F.slot_tuple_iterator_next a.typeIs F.entry_tuple_iterator_next ?_ (F.args_tuple_iterator_next_1 _)))
  show wpAny _ _ (field (.ref it) 0 >>= _) _ _ s; refine wpAny_bind (wpAny_field ho hd (x := .ref t) rfl ?_)
  show wpAny _ _ (if (Value.ref t == Value.none) = true then _ else _) _ _ s; rw [if_neg (show ¬ ((Value.ref t == Value.none) = true) from Bool.false_ne_true)]
  show wpAny _ _ (field (.ref it) 1 >>= _) _ _ s; refine wpAny_bind (wpAny_field ho hd (x := .int i 0) rfl ?_)
  show wpAny _ _ (seqItems? (.ref t) >>= _) _ _ s; refine wpAny_bind (wpAny_seqItems ho2 hd2 ?_)
  simp only [Int.toNat_natCast, hx]
  refine wpAny_bind (wpAny_setField ho hd (by simp) (wpAny_pure ⟨x, rfl, wpAny_pure (q _ ?_ (Heap.SameBut.update ..))⟩))
  exact ⟨_, Heap.get?_update_self _ ho (Obj.isFreed_of_fields (Obj.data_mapFields hd _)), (Obj.cls_mapFields ..).trans hc, by rw [Obj.data_mapFields hd]; simp [rawInt]⟩
theorem nextTupEnd {it t : Addr} {i : Nat} {its : Array Value} {Q : Value → Shared → Prop} (hh : A.handled = none) (a : s.heap.IsTupleIter it t i) (b : s.heap.IsTuple t its) (hx : its[i]? = none)
    (q : ∀ h' e, Heap.ExtBut it s.heap h' → (∃ o, h'.get? e = some o ∧ o.cls = .type "StopIteration") → E (.ref e) { s with heap := h' }) : wpAny (model prog w) A (Builtin.SmallTypes.nextOf (.ref it)) Q E s := by
  obtain ⟨o, ho, hc, hd⟩ := id a; obtain ⟨o2, ho2, _, n2, hd2⟩ := b
  unfold Builtin.SmallTypes.nextOf
  refine wpAny_bind (wpAny_callSpecial?_slot (name := Str.ofString "__next__") a.typeIs F.slot_tuple_iterator_next (wpAny_call_entry F.slot_tuple_iterator_next a.typeIs F.entry_tuple_iterator_next ?_ (F.args_tuple_iterator_next_1 _)))
  show wpAny _ _ (field (.ref it) 0 >>= _) _ _ s; refine wpAny_bind (wpAny_field ho hd (x := .ref t) rfl ?_)
  show wpAny _ _ (if (Value.ref t == Value.none) = true then _ else _) _ _ s; rw [if_neg (show ¬ ((Value.ref t == Value.none) = true) from Bool.false_ne_true)]
  show wpAny _ _ (field (.ref it) 1 >>= _) _ _ s; refine wpAny_bind (wpAny_field ho hd (x := .int i 0) rfl ?_)
  show wpAny _ _ (seqItems? (.ref t) >>= _) _ _ s; refine wpAny_bind (wpAny_seqItems ho2 hd2 ?_)
  simp only [Int.toNat_natCast, hx]; refine wpAny_bind (wpAny_rule (wpAny_bind (wpAny_setField ho hd (by simp) ?_)))
  show wpAny _ _ (newExc (.type "StopIteration") [] >>= _) _ _ _; refine wpAny_bind ?_
  simp only [newExc, newTuple]; refine wpAny_bind (wpAny_newObj_type ?_ (by size_fits))
  refine wpAny_bind (m := firstArgMember _ _) (wpAny_of_eq (a := Value.none) (by first | rfl | (simp only [firstArgMember]; rfl)) ?_); refine wpAny_newObj_type ?_ (by size_fits)
  simp only [raiseNew]; refine wpAny_bind (wpAny_handled ?_)
  first | rw [show A.in1.handled = none from hh] | rw [hh]
  refine wpAny_bind (wpAny_pure (wpAny_throw ?_)); exact q _ _ (((Heap.SameBut.update ..).extBut.push _).push _) ⟨_, Heap.get?_push_size _ rfl, rfl⟩
end
theorem drawsTup {prog : Program} {w : World} {A : Around} (hh : A.handled = none) (it t : Addr) (hne : t ≠ it) (its : Array Value) :
    Draws prog w A it [it, t] its.size (fun i v => its[i]? = some v) (fun i h => h.IsTupleIter it t i ∧ h.IsTuple t its) where
  live := fun _ _ ⟨⟨o, ho, _⟩, _⟩ => ⟨o, ho⟩
  frame := fun i h h' st hk => by
    obtain ⟨⟨o, ho, h1⟩, ⟨o2, ho2, h2⟩⟩ := st
    exact ⟨⟨o, hk it (by simp) o ho, h1⟩, ⟨o2, hk t (by simp) o2 ho2, h2⟩⟩
  item := fun i s Q E hi st hQ => by
    refine nextTup st.1 st.2 (x := its[i]) (by simp [hi]) fun h' hit' hs' => ?_
    obtain ⟨o2, ho2, h2⟩ := st.2
    exact hQ _ h' s.toks (by simp [hi]) ⟨hit', ⟨o2, hs'.extBut t o2 hne ho2, h2⟩⟩ hs'
  done := fun s Q E st hE => nextTupEnd hh st.1 st.2 (by simp) hE
theorem meets_enumTup (t : Addr) (its : Array Value) (n : Nat) (dct : Option Addr) (sl : Array (Option Value)) :
    Meets (Builtin.«enumerate.__new__» ⟨[.type "enumerate", .ref t], []⟩) (fun _ R s => s.heap.get? t = some { cls := .type "tuple", dict := dct, data := .seq its n, slots := sl } ∧
      R (.ok (.ret (.ref (s.heap.push { cls := .type "tuple_iterator", data := .fields #[.ref t, .int 0 0] }).objs.size)))
        { s with heap := (s.heap.push { cls := .type "tuple_iterator", data := .fields #[.ref t, .int 0 0] }).push { cls := .type "enumerate", data := .fields #[.none, .bool false, .ref s.heap.objs.size, rawInt 0, .none, .none] } }) :=
  .of_wp fun prog w A R s h => by
    obtain ⟨hp, g, d, tk, os⟩ := s; obtain ⟨hl, h⟩ := h
    have e0 := sub_enumerate; have hT : Heap.IsTuple (Shared.heap ⟨hp, g, d, tk, os⟩) t its := ⟨_, hl, rfl, n, rfl⟩
    wp_walk using wpAny_loadPart' hl
    refine wpAny_stack_any fun st => wpAny_pure ?_
    split
    · rename_i c _ _ _ _ _
      cases (c == Value.type "enumerate")
      · wp_walk using wpAny_loadPart' hl, wpAny_pyIter_tuple hT
        exact ⟨_, rfl, h⟩
      · wp_walk using wpAny_loadPart' hl, wpAny_pyIter_tuple hT
        exact ⟨_, rfl, h⟩
    · wp_walk using wpAny_loadPart' hl, wpAny_pyIter_tuple hT
      exact ⟨_, rfl, h⟩
section
variable {prog : Program} {w : World} {A : Around} {E : Value → Shared → Prop} {s : Shared}
theorem call_enumTup {t : Addr} {its : Array Value} {Q : Value → Shared → Prop} (hT : s.heap.IsTuple t its)
    (h : ∀ h', IsEnum h' (s.heap.objs.size + 1) s.heap.objs.size 0 .none → h'.IsTupleIter s.heap.objs.size t 0 → (∀ b o, s.heap.get? b = some o → h'.get? b = some o) → Q (.ref (s.heap.objs.size + 1)) { s with heap := h' }) :
    wpAny (model prog w) A (call (.type "enumerate") [.ref t]) Q E s := by
  obtain ⟨⟨c, dct, dt, sl⟩, hl, hc, n, hd⟩ := hT
  obtain rfl : c = .type "tuple" := hc
  obtain rfl : dt = .seq its n := hd
  refine callType_new F.called_enumerate (by decide) (F.typeCall_enumerate_1 _) (F.newCall_enumerate_1 _) (fun obj => F.args_object_init_2 obj _) F.entry_enumerate_new (meets_enumTup t its n dct sl) ⟨hl, ?_⟩
  have z1 : (s.heap.push { cls := .type "tuple_iterator", data := .fields #[.ref t, .int 0 0] }).objs.size = s.heap.objs.size + 1 := Heap.size_push ..
  show _ ∧ _; rw [z1]
  have he := Heap.get?_push_size (s.heap.push { cls := .type "tuple_iterator", data := .fields #[.ref t, .int 0 0] }) (o := { cls := .type "enumerate", data := .fields #[.none, .bool false, .ref s.heap.objs.size, rawInt 0, .none, .none] }) rfl
  rw [z1] at he
  exact ⟨⟨_, he, rfl⟩, h _ he ⟨_, Heap.get?_push_of_some _ (Heap.get?_push_size _ rfl), rfl, rfl⟩ fun b o x => Heap.get?_push_of_some _ (Heap.get?_push_of_some _ x)⟩
end
section
variable {prog : Program} {w : World} {A : Around} {E : Value → Shared → Prop} {s : Shared}
theorem enumTupEnd {e it t : Addr} {i : Nat} {its : Array Value} {j : Int} {old : Value} {Q : Option Value → Shared → Prop} (hh : A.in1.handled = none) (he : IsEnum s.heap e it j old) (a : s.heap.IsTupleIter it t i) (b : s.heap.IsTuple t its) (hx : its[i]? = none)
    (hQ : ∀ h', Heap.ExtBut it s.heap h' → Q none { s with heap := h' }) : wpAny (model prog w) A (pyNext (.ref e)) Q E s := by
  have hT : s.TypeIs (.ref e) "enumerate" := ⟨_, he, rfl⟩; unfold pyNext
  refine wpAny_bind (wpAny_attempt (wpAny_callSpecial?_slot (name := Str.ofString "__next__") hT F.slot_enumerate_next (wpAny_call_entry F.slot_enumerate_next hT F.entry_enumerate_next ?_ (F.args_enumerate_next_1 _))))
  show wpAny _ _ (field (.ref e) 2 >>= _) _ _ _; refine wpAny_bind (wpAny_field he rfl (x := .ref it) rfl ?_)
  refine wpAny_bind (nextTupEnd hh a b hx fun h' x he' hx' => ?_); obtain ⟨o, ho, hc⟩ := hx'
  refine wpAny_bind (wpAny_isInstance (T := "StopIteration") (b := true) ⟨o, ho, hc⟩ isSubtype_stop ?_); exact wpAny_pure (hQ _ he')
end
/-- the tuple at a, each item in a new pair -/
def IteT (K : PySem.W.Frag) (a : Addr) : It :=
  ⟨fun i H => ∃ (xs : List V) (x : V), SqT K H a xs ∧ xs[i]? = some x, fun i H v H' => ∃ T x, v = .ref T ∧ H T = none ∧ H' = upd H T (.tup [.int (i : Nat), x]) ∧ ∀ xs, SqT K H a xs → xs[i]? = some x, fun i H => ∃ xs : List V, SqT K H a xs ∧ xs.length ≤ i⟩
theorem iter_apart {h : Heap} {it t : Addr} {i : Nat} {its : Array Value} (a : h.IsTupleIter it t i) (b : h.IsTuple t its) : t ≠ it := fun z => by
  subst z
  obtain ⟨o, ho, hc, _⟩ := a
  obtain ⟨o2, ho2, hc2, _⟩ := b
  cases ho.symm.trans ho2
  exact absurd (Value.type.inj (hc.symm.trans hc2)) (by decide)
theorem turn_enumT {P : Program} {w : World} {K : PySem.W.Frag} {elts : List Expr} {kk : Nat} {tpos : Pos} (a e it : Addr) :
    Turn P w K (.Tuple elts kk tpos) (IteT K a) [e, it] e (fun i h => (∃ old, IsEnum h e it ((i : Nat) : Int) old) ∧ h.IsTupleIter it a i ∧ e ≠ it) where
  mem := by simp
  obj := fun i h st b hb => by
    obtain ⟨⟨old, he⟩, ⟨o, ho, hc, hd⟩, _⟩ := st
    rcases (show b = e ∨ b = it by simpa using hb) with rfl | rfl
    · exact ⟨_, he, fun v q => nomatch q⟩
    · exact ⟨o, ho, fun v q => by rw [hd] at q; cases q⟩
  keep := fun i h h' ⟨⟨old, he⟩, ⟨o, ho, r⟩, hne⟩ k => ⟨⟨old, k e (by simp) _ he⟩, ⟨o, k it (by simp) o ho, r⟩, hne⟩
  item := by
    intro X hP hw hK hc i pins s σ H E I hf st hg; subst hP hw hK
    obtain ⟨⟨old, he⟩, hit, hne⟩ := st; obtain ⟨xs, x, hq, hx⟩ := hg
    obtain ⟨its, rv, p, hz⟩ := I.tuple hq; obtain ⟨u, hu, ru⟩ := rv.get hx
    have p : s.heap.IsTuple a its.toArray := p
    have ap := iter_apart hit p
    have hel : e < s.heap.objs.size := Heap.lt_size he
    have hil : it < s.heap.objs.size := by obtain ⟨_, q, _⟩ := hit; exact Heap.lt_size q
    have li : i < its.length := (List.getElem?_eq_some_iff.mp hu).1
    have ea : e ≠ a := fun z => by
      subst z; obtain ⟨o2, ho2, hc2, _⟩ := p
      cases he.symm.trans ho2; exact absurd (Value.type.inj hc2) (by decide)
    refine wpAny_pyNext_enum_itemD (drawsTup (prog := X.prog) (w := X.w) (A := X.A.in1) (I.ok.hd hc) it a ap its.toArray) he ⟨hit, p⟩ (by simpa using li) hne (by simp [hne, ea]) fun v h' tk hv ho st' hT hsz hk => ?_
    have hv : its[i]? = some v := by simpa using hv
    obtain rfl : u = v := Option.some.inj (hu.symm.trans hv)
    refine ⟨_, rfl, wpAny_letOwnedTupleGo_enum (s := { s with heap := h', toks := tk + 1 }) ho fun h'' he' sb => ?_⟩
    have hT2 : h''.get? s.heap.objs.size = some { cls := .type "tuple", data := .seq #[.int i tk, u] } := (sb.2 _ (Nat.ne_of_gt hel)).trans hT
    have new : ObjOk X.prog X.w (upd H s.heap.objs.size (.tup [.int (i : Nat), x])) h'' s.heap.objs.size (.tup [.int (i : Nat), x]) := ⟨by show 2 ≤ sizeLine; decide, [.int i tk, u], .cons ⟨_, rfl⟩ (.cons ru .nil), ⟨_, hT2, rfl, _, rfl⟩⟩
    have I1 : Inv X pins σ (upd H s.heap.objs.size (.tup [.int (i : Nat), x])) { s with heap := h'', toks := tk + 1 } :=
      I.turnedNew (ch := [e, it]) (fun b ob hb q => (sb.2 b (fun z => hb (by simp [z]))).trans (hk b ob (fun z => hb (by simp [z])) (fun z => hb (by simp [z])) q)) hf (Nat.le_refl _) new
    refine ⟨.ref s.heap.objs.size, _, I1, rfl, ⟨_, x, rfl, I.hok.fresh (Nat.le_refl _), rfl, fun ys hy => ?_⟩, ⟨⟨u, ?_⟩, ?_, hne⟩, fun b hb => ?_⟩
    · rw [I.tuple_inj hy hq]; exact hx
    · rw [show ((i + 1 : Nat) : Int) = (i : Int) + 1 by omega]; exact he'
    · obtain ⟨⟨o, ho, r⟩, _⟩ := st'
      exact ⟨o, (sb.2 it (Ne.symm hne)).trans ho, r⟩
    · have hb' : b < s.heap.objs.size := by
        rcases (show b = e ∨ b = it by simpa using hb) with rfl | rfl
        · exact hel
        · exact hil
      rw [upd_ne (Nat.ne_of_lt hb')]; exact (hf b hb).1
  done := by
    intro X hP hw hK hc i pins s σ H E I hf st hg; subst hP hw hK
    obtain ⟨⟨old, he⟩, hit, hne⟩ := st; obtain ⟨xs, hq, hx⟩ := hg
    obtain ⟨its, rv, p, hz⟩ := I.tuple hq
    have p : s.heap.IsTuple a its.toArray := p
    have ap := iter_apart hit p
    have hl := rv.length
    obtain ⟨f0, f1, f2, f3, f4, f5⟩ := hf it (by simp)
    have en : its.toArray[i]? = none := by simp; omega
    exact enumTupEnd (show X.A.in1.handled = none from I.ok.hd hc) he hit p en fun h' eb => ⟨rfl, I.turned (t' := s.toks) (fun b o hb q => eb b o hb q) f0 f1 f3 f4 f5⟩
  self := fun A i s Q E st h => let ⟨⟨_, he⟩, _⟩ := st; wpAny_pyIter_enum he h
def iEnumT (K : PySem.W.Frag) (ta : TA) : TI := fun σ H R => ta σ H fun vs H1 => ∃ a xs, vs = [.ref a] ∧ SqT K H1 a xs ∧ R (IteT K a) H1
theorem pi_enumT {X : Cx} {K : PySem.W.Frag} {e : Expr} {ta : TA} {p pos tpos : Pos} {elts : List Expr} {kk : Nat} (hK : X.K = K) (hg : Gl X "enumerate") (hm : X.mg "enumerate" = none) (ha : PA X [e] ta) (hs : starEach [e] X.env = [(false, eval e X.env)] := by rfl) :
    PI X (.Tuple elts kk tpos) (.Call (.Name "enumerate" p) [e] [] pos) (iEnumT K ta) := by
  subst hK
  refine ⟨fun pins s σ H R I h => Call_ (ld_blt I hg hm boot_enumerate (PyProof.Rows.callWith_type1 (thn (ha.run pos pins s σ H _ I h) fun us s1 ⟨vs, H1, I1, r1, q1⟩ => ?_) hs rfl))⟩
  obtain ⟨a, xs, rfl, hq, q⟩ := q1
  obtain ⟨u, rfl, ru⟩ := r1.one
  obtain rfl : u = Value.ref a := ru
  obtain ⟨its, rv, p', hz⟩ := I1.tuple hq
  refine call_enumTup (its := its.toArray) p' fun h' he hit hk => wpAny_pyIter_enum he ⟨s1.heap.objs.size + 1, [s1.heap.objs.size + 1, s1.heap.objs.size], _, _, H1, rfl, I1.kept (t' := s1.toks) hk, turn_enumT a (s1.heap.objs.size + 1) s1.heap.objs.size, ⟨⟨.none, he⟩, hit, Nat.succ_ne_self _⟩, fun b hb => ?_, q⟩
  have hle : s1.heap.objs.size ≤ b := by
    rcases (show b = s1.heap.objs.size + 1 ∨ b = s1.heap.objs.size by simpa using hb) with rfl | rfl
    · exact Nat.le_succ _
    · exact Nat.le_refl _
  exact I1.fpOk hle (I1.hok.fresh hle)
/-- a loop over the places and the items of a tuple -/
theorem for_enumT {K : PySem.W.Frag} {a : Addr} {xs : List V} {g : TG} {tb : TS} {D : Ends} {σ : L2.St} {H : Hp} (Pv : Nat → L2.St → Hp → Prop) (h0 : Pv 0 σ H) (hl : ∀ i σ H, i ≤ xs.length → Pv i σ H → SqT K H a xs)
    (hs : ∀ i x σ H T, xs[i]? = some x → Pv i σ H → H T = none → g (.ref T) σ (upd H T (.tup [.int (i : Nat), x])) fun σ2 H2 => tb { D with nx := Pv (i + 1), ct := Pv (i + 1), bk := D.nx } σ2 H2) (hd : ∀ σ H, Pv xs.length σ H → D.nx σ H) :
    ∃ W : Nat → Nat → L2.St → Hp → Prop, (∃ m, W 0 m σ H) ∧ ∀ i m σ H, W i m σ H →
      ((IteT K a).stop i H ∧ D.nx σ H) ∨ ((IteT K a).go i H ∧ ∃ N : L2.St → Hp → Prop, (∀ σ' H', N σ' H' → ∃ m', m' < m ∧ W (i + 1) m' σ' H') ∧ ∀ x H', (IteT K a).yld i H x H' → g x σ H' fun σ2 H2 => tb { D with nx := N, ct := N, bk := D.nx } σ2 H2) := by
  refine ⟨fun i m σ H => m + i = xs.length ∧ Pv i σ H, ⟨xs.length, rfl, h0⟩, fun i m σ H ⟨e, p⟩ => ?_⟩
  cases m with
  | zero =>
    obtain rfl : i = xs.length := by omega
    exact .inl ⟨⟨xs, hl _ _ _ (Nat.le_refl _) p, Nat.le_refl _⟩, hd σ H p⟩
  | succ m =>
    have li : i < xs.length := by omega
    refine .inr ⟨⟨xs, xs[i], hl _ _ _ (by omega) p, List.getElem?_eq_getElem li⟩, Pv (i + 1), fun σ' H' p' => ⟨m, Nat.lt_succ_self m, by omega, p'⟩, fun v H' y => ?_⟩
    obtain ⟨T, x, rfl, nT, rfl, hx⟩ := y
    exact hs i x σ H T (hx xs (hl _ _ _ (by omega) p)) p nT
/-- min(l), l a list of ints -/
def rMinI (K : PySem.W.Frag) : List V → Hp → VK → Prop := fun vs H Q => ∃ (p : Addr) (ns : List Int), vs = [V.ref p] ∧ SqL K H p (ns.map V.int) ∧ ns ≠ [] ∧ ∀ M, M ∈ ns → (∀ a, a ∈ ns → M ≤ a) → Q (.int M) H
theorem cr_minI {X : Cx} (calm : X.calm = true) : CallR X (.builtin "min") (rMinI X.K) := by
  intro pins s σ H vs us Q I r ⟨p, ns, e, sq, ne, q⟩
  subst e
  rw [Vals.ref1 r]
  obtain ⟨its, rv, pl, sz⟩ := I.list sq
  have hi : IntsAre its ns := intsAre_of rv
  obtain ⟨xs, ex⟩ := hi.allInts.items
  have hns : ns = xs.toList.map (·.1) := by rw [← hi.numsOf, ← nums_intItems, ← ex]
  have hsz : 0 < xs.size := by
    have := List.length_pos_iff.mpr ne
    rw [hns, List.length_map, Array.length_toList] at this
    exact this
  have hl := pl.isList
  rw [ex] at hl
  refine min_intList (I.ok.hd calm) hl hsz fun v h' tk hv hk => ?_
  obtain ⟨t, rfl⟩ := intItems_at hv
  obtain ⟨h1, h2⟩ := argBest_lt (numAt xs) (xs.size - 1)
  have inn : numAt xs (argBest (fun i j => decide (numAt xs i < numAt xs j)) (xs.size - 1)) ∈ ns := by
    rw [hns, numAt_eq]
    exact getD_mem (by simp; omega)
  refine ⟨.int _, H, I.kept (t' := tk) hk, ⟨t, rfl⟩, q _ inn fun a ha => ?_⟩
  rw [hns] at ha
  obtain ⟨j, hj, e⟩ := mem_getD ha
  subst e
  have hj : j < xs.size := by simpa using hj
  rw [← numAt_eq xs j]
  exact h2 j (by omega)
end Tl
set_option Elab.async false
set_option linter.all false
set_option maxRecDepth 100000
set_option maxHeartbeats 2000000
/-! t[::-1] of a tuple, 'a' * n -/
namespace Tl
open PySem PySem.Spec PyProof.Rows L2
theorem rev_pick (xs : Array Value) : ((List.range xs.size).filterMap fun (m : Nat) => xs[(((xs.size : Int) - 1) + (m : Int) * (-1)).toNat]?).toArray = xs.toList.reverse.toArray := by
  have e : (List.range xs.size).filterMap (fun (m : Nat) => xs[(((xs.size : Int) - 1) + (m : Int) * (-1)).toNat]?) = ((List.range xs.size).map fun (m : Nat) => (((xs.size : Int) - 1) + (m : Int) * (-1)).toNat).filterMap (xs[·]?) := by
    rw [List.filterMap_map]
    rfl
  rw [e, ← PySem.W.krv_pick]
  unfold slicePick
  rw [PySem.W.krv_bounds]
  show _ = ((sliceRange ((xs.size : Int) - 1) (-1) (-1)).filterMap (xs[·]?)).toArray
  rw [PySem.W.krv_sliceRange]
  congr 2
  refine List.map_congr_left fun m hm => ?_
  have := List.mem_range.mp hm
  omega
section
variable {prog : Program} {w : World} {A : Around} {E : Value → Shared → Prop} {s : Shared}
theorem applied_rev {sl : Addr} {vl vu vs : Value} {n : Nat} {Q : Int × Int × Nat → Shared → Prop} (hs : s.heap.IsSliceOf sl vl vu vs) (pl : IsPart vl none) (pu : IsPart vu none) (ps : IsPart vs (some (-1)))
    (h : Q ((n : Int) - 1, -1, n) s) : wpAny (model prog w) A (Builtin.Slice.sliceApplied (.ref sl) (pure (n : Int))) Q E s := by
  obtain ⟨os, hos, hcs, hds⟩ := id hs
  unfold Builtin.Slice.sliceApplied Builtin.Slice.sliceFields
  refine wpAny_bind (wpAny_bind (wpAny_field hos hds (x := vl) rfl (wpAny_bind (wpAny_field hos hds (x := vu) rfl (wpAny_bind (wpAny_field hos hds (x := vs) rfl (wpAny_pure ?_)))))))
  refine wpAny_bind (HT.slicePart_ ps ?_)
  show wpAny _ _ (if ((-1 : Int) == 0) = true then _ else _) _ _ s; rw [if_neg (by decide)]
  refine wpAny_bind (HT.slicePart_ pl (wpAny_bind (HT.slicePart_ pu (wpAny_bind (wpAny_pure ?_)))))
  have e1 : Builtin.Slice.sliceAdjust none none (-1) (n : Int) = ((n : Int) - 1, -1) := rfl
  have e2 : Builtin.Slice.slicePlaces ((n : Int) - 1) (-1) (-1) = n := by
    unfold Builtin.Slice.slicePlaces
    rw [if_neg (by decide), show (-(-1) : Int) = 1 by decide, Int.ediv_one]
    split <;> omega
  show wpAny _ _ (match Builtin.Slice.sliceAdjust none none (-1) (n : Int) with | (lo, hi) => pure (lo, (-1 : Int), Builtin.Slice.slicePlaces lo hi (-1))) _ _ s
  rw [e1]
  show wpAny _ _ (pure ((n : Int) - 1, (-1 : Int), Builtin.Slice.slicePlaces ((n : Int) - 1) (-1) (-1))) _ _ s
  rw [e2]; exact wpAny_pure h
theorem getItem_rev {t sl : Addr} {its : Array Value} {vl vu vs : Value} {Q : Value → Shared → Prop} (ht : IsTup s.heap t its) (hs : s.heap.IsSliceOf sl vl vu vs) (pl : IsPart vl none) (pu : IsPart vu none) (ps : IsPart vs (some (-1)))
    (h : Q (.ref s.heap.objs.size) { s with heap := s.heap.push { cls := .type "tuple", data := .seq its.toList.reverse.toArray } }) (hsz : its.size ≤ sizeLine) : wpAny (model prog w) A (getItem (.ref t) (.ref sl)) Q E s := by
  have room : sizeOk (.seq its.toList.reverse.toArray) := by show its.toList.reverse.toArray.size ≤ sizeLine; simpa using hsz
  obtain ⟨os, hos, hcs, hds⟩ := id hs
  have hTs : s.TypeIs (.ref sl) "slice" := ⟨os, hos, hcs⟩
  unfold getItem
  try with_reducible refine wpAny_holding ?_
  first | refine wpAny_bind (wpAny_pure ?_) | skip
  refine wpAny_bind (wpAny_sequenceKey ht.typeIs (by decide) ?_)
  refine wpAny_bind (wpAny_callSpecial?_slot (name := Str.ofString "__getitem__") ht.typeIs PyProof.Rows.slot_tuple_getitem (wpAny_call_entry PyProof.Rows.slot_tuple_getitem ht.typeIs entry_tuple_getitem ?_ (args_tuple_getitem _ _)))
  show wpAny _ _ (Builtin.Tuple.tupleItemsOf (.ref t) >>= _) _ _ s; refine wpAny_bind (tupleItemsOf_ ht ?_)
  refine wpAny_bind (wpAny_typeOf hTs ?_); rw [if_pos (by decide)]
  refine wpAny_bind (applied_rev (n := its.size) hs pl pu ps ?_)
  have no : ¬ ((((its.size : Int) - 1) == 0 && (-1 : Int) == 1 && its.size == its.size) = true) := by simp
  show wpAny _ _ (if (((its.size : Int) - 1) == 0 && (-1 : Int) == 1 && its.size == its.size) = true then _ else _) _ _ s
  rw [if_neg no, rev_pick]
  first
    | exact wpAny_bind (m := Builtin.Tuple.tupleExact _) (wpAny_newObj_type (wpAny_pure ⟨_, rfl, wpAny_pure h⟩) room)
    | exact wpAny_bind (m := Builtin.Tuple.tupleExact _) (wpAny_newObj_type (wpAny_bind (wpAny_pure (wpAny_pure ⟨_, rfl, wpAny_pure h⟩))) room)
    | exact wpAny_bind (wpAny_bind (m := Builtin.Tuple.tupleExact _) (wpAny_newObj_type (wpAny_pure (wpAny_pure ⟨_, rfl, wpAny_pure h⟩)) room))
    | exact wpAny_bind (wpAny_bind (m := Builtin.Tuple.tupleExact _) (wpAny_newObj_type (wpAny_pure ⟨_, rfl, wpAny_pure h⟩) room))
end
section
variable {X : Cx} {K : PySem.W.Frag}
def tRevT (K : PySem.W.Frag) (te : TE) : TE := fun σ H Q => te σ H fun x H1 => ∃ a xs, x = .ref a ∧ SqT K H1 a xs ∧ ∀ p, H1 p = none → Q (.ref p) (upd H1 p (.tup xs.reverse))
theorem pe_revT {e : Expr} {te : TE} {k : Nat} {p1 p2 p3 pos : Pos} (hK : X.K = K) (he : PE X e te) : PE X (.Subscript e (.Slice none none (some (.UnaryOp .USub (.Constant (.int 1) k p1) p2)) p3) pos) (tRevT K te) := by
  subst hK
  refine ⟨fun pins s σ H Q I h => Subscript_ (thn (he.run pins s σ H _ I h) fun v s1 ⟨x, H1, I1, r1, q1⟩ => ?_)⟩
  obtain ⟨a, xs, rfl, hx, q⟩ := q1
  obtain rfl : v = Value.ref a := r1
  have part : PO X (some (.UnaryOp .USub (.Constant (.int 1) k p1) p2)) (tPart (tUn (rU fun i => .int (-i)) (tC (.int 1)))) := po_some (pe_un un_neg pe_int)
  refine wpAny_Slice (thn (po_none.run pins s1 σ H1 (fun o H2 => o = none ∧ H2 = H1) I1 ⟨rfl, rfl⟩) fun vl s2 ⟨l, H2, I2, pl, e1, e2⟩ => ?_); subst e1 e2
  refine thn (po_none.run pins s2 σ _ (fun o H3 => o = none ∧ H3 = H2) I2 ⟨rfl, rfl⟩) fun vu s3 ⟨u, H3, I3, pu, e3, e4⟩ => ?_; subst e3 e4
  refine thn (part.run pins s3 σ _ (fun o H4 => o = some (-1) ∧ H4 = H3) I3 ⟨1, rfl, -1, rfl, rfl, rfl⟩) fun vs s4 ⟨o, H4, I4, ps, e5, e6⟩ => ?_; subst e5 e6
  have I5 : Inv X pins σ H4 { s4 with heap := s4.heap.push { cls := .type "slice", data := .fields #[vl, vu, vs] } } := I4.kept (t' := s4.toks) fun b ob q => Heap.get?_push_of_some _ q
  obtain ⟨its, r, ht, hz⟩ := I5.tuple hx
  have hlen := r.length
  refine tail_any (ops := [.ref a, .ref s4.heap.objs.size]) ht.typeIs PyProof.Rows.slot_tuple_getitem.lookup ?_ (by with_unfolding_all rfl)
  refine getItem_rev ht (Heap.IsSliceOf.new _ vl vu vs) pl pu ps ?_ (by rw [List.size_toArray]; omega)
  refine ⟨.ref _, _, I5.laid (t' := s4.toks) (o := .tup xs.reverse) (fun b ob q => Heap.get?_push_of_some _ q) (Nat.le_refl _) ?_, rfl, q _ (I5.hok.fresh (Nat.le_refl _))⟩
  exact ⟨by rw [List.length_reverse]; exact hz, _, r.reverse, IsTup.new _ _⟩
/-- 'a' * 11 -/
def rMulA : R2 := fun x y H Q => x = .str "a" ∧ y = .int 11 ∧ Q (.str "aaaaaaaaaaa") H
theorem op_mulA : OpR X (binaryOp .Mult) rMulA := by
  intro pins s σ H x y v u Q I rx ry ⟨ex, ey, q⟩
  subst ex ey
  obtain ⟨t, rfl⟩ := rx
  obtain ⟨t', rfl⟩ := ry
  refine PySem.P.mul_str (by decide) (fun _ _ => by decide) (fun _ _ => by decide +kernel) ?_
  rw [if_neg (by decide), if_neg (by decide +kernel)]
  exact ⟨by decide +kernel, ⟨.str "aaaaaaaaaaa", H, I.tok _, ⟨_, by rfl⟩, q⟩⟩
end
end Tl
set_option Elab.async false
set_option linter.all false
set_option autoImplicit false
set_option maxRecDepth 100000
set_option maxHeartbeats 2000000
/-! any value: none, bools, ints, texts, tuples, lists, the empty dict; M: the things that may be written -/
namespace Tl
open PySem PySem.Spec PyProof.Rows L2
/-- tuples and all that M does not name stay -/
def Keep (M : Addr → Prop) (H H' : Hp) : Prop := Stay H H' ∧ ∀ a o, ¬ M a → H a = some o → H' a = some o
theorem Keep.refl (M : Addr → Prop) (H : Hp) : Keep M H H := ⟨Stay.refl H, fun _ _ _ h => h⟩
theorem Keep.trans {M : Addr → Prop} {H H1 H2 : Hp} (a : Keep M H H1) (b : Keep M H1 H2) : Keep M H H2 := ⟨a.1.trans b.1, fun x o m h => b.2 x o m (a.2 x o m h)⟩
theorem keep_same {M : Addr → Prop} {H H' : Hp} (e : L2.Same H H') : Keep M H H' := ⟨Same.stay e, fun a o _ h => e a o h⟩
theorem keep_up {M : Addr → Prop} {H : Hp} {p : Addr} {o : HO} (h : Mut (H p)) (m : M p) : Keep M H (upd H p o) := ⟨stay_mut h, fun a u n e => by
  have ne : a ≠ p := fun z => by
    subst z
    exact n m
  rw [upd_ne ne]
  exact e⟩
theorem keep_sub {M N : Addr → Prop} {H H' : Hp} (k : Keep M H H') (s : ∀ a, M a → N a) : Keep N H H' := ⟨k.1, fun a o n h => k.2 a o (fun m => n (s a m)) h⟩
mutual
inductive Av (K : PySem.W.Frag) (M : Addr → Prop) (H : Hp) : V → PyData → Prop
  | non : Av K M H .non .none
  | bl (b : Bool) : Av K M H (.bl b) (.bool b)
  | int (i : Int) : Av K M H (.int i) (.int i)
  | str (x : Str) : Av K M H (.str x) (.str x)
  | lst {a : Addr} {xs : List V} {ds : List PyData} : ¬ M a → Rd H a (.lst xs) → Avs K M H xs ds → Av K M H (.ref a) (.list ds)
  | tup {a : Addr} {xs : List V} {ds : List PyData} : SqT K H a xs → Avs K M H xs ds → Av K M H (.ref a) (.tuple ds)
  | dct {a : Addr} : ¬ M a → Rd H a (.dK []) → Av K M H (.ref a) (.dict [])
inductive Avs (K : PySem.W.Frag) (M : Addr → Prop) (H : Hp) : List V → List PyData → Prop
  | nil : Avs K M H [] []
  | cons {v : V} {vs : List V} {d : PyData} {ds : List PyData} : Av K M H v d → Avs K M H vs ds → Avs K M H (v :: vs) (d :: ds)
end
theorem rd_keep {M : Addr → Prop} {H H' : Hp} {a : Addr} {u : HO} (k : Keep M H H') (m : ¬ M a) (h : Rd H a u) : Rd H' a u := by
  rcases h with h | ⟨o, h⟩
  · exact .inl (k.2 a _ m h)
  · exact .inr ⟨o, k.2 a _ m h⟩
section
variable {K : PySem.W.Frag} {M N : Addr → Prop} {H H' : Hp}
mutual
theorem Av.kp (e : Keep M H H') : ∀ (d : PyData) (v : V), Av K M H v d → Av K M H' v d
  | .none, _, h => by cases h; exact .non
  | .bool _, _, h => by cases h; exact .bl _
  | .int _, _, h => by cases h; exact .int _
  | .str _, _, h => by cases h; exact .str _
  | .list ds, _, h => by
    cases h with
    | lst m h1 h2 => exact .lst m (rd_keep e m h1) (Avs.kp e ds _ h2)
  | .tuple ds, _, h => by
    cases h with
    | tup h1 h2 => exact .tup (e.1.tup h1) (Avs.kp e ds _ h2)
  | .dict _, _, h => by
    cases h with
    | dct m h1 => exact .dct m (rd_keep e m h1)
theorem Avs.kp (e : Keep M H H') : ∀ (ds : List PyData) (vs : List V), Avs K M H vs ds → Avs K M H' vs ds
  | [], _, h => by cases h; exact .nil
  | d :: ds, _, h => by
    cases h with
    | cons h1 h2 => exact .cons (Av.kp e d _ h1) (Avs.kp e ds _ h2)
end
mutual
/-- other things may be written -/
theorem Av.re (e : ∀ a o, ¬ M a → H a = some o → ¬ N a) : ∀ (d : PyData) (v : V), Av K M H v d → Av K N H v d
  | .none, _, h => by cases h; exact .non
  | .bool _, _, h => by cases h; exact .bl _
  | .int _, _, h => by cases h; exact .int _
  | .str _, _, h => by cases h; exact .str _
  | .list ds, _, h => by
    cases h with
    | lst m h1 h2 => exact .lst (h1.elim (fun z => e _ _ m z) (fun ⟨_, z⟩ => e _ _ m z)) h1 (Avs.re e ds _ h2)
  | .tuple ds, _, h => by
    cases h with
    | tup h1 h2 => exact .tup h1 (Avs.re e ds _ h2)
  | .dict _, _, h => by
    cases h with
    | dct m h1 => exact .dct (h1.elim (fun z => e _ _ m z) (fun ⟨_, z⟩ => e _ _ m z)) h1
theorem Avs.re (e : ∀ a o, ¬ M a → H a = some o → ¬ N a) : ∀ (ds : List PyData) (vs : List V), Avs K M H vs ds → Avs K N H vs ds
  | [], _, h => by cases h; exact .nil
  | d :: ds, _, h => by
    cases h with
    | cons h1 h2 => exact .cons (Av.re e d _ h1) (Avs.re e ds _ h2)
end
theorem Av.k {v : V} {d : PyData} (h : Av K M H v d) (e : Keep M H H') : Av K M H' v d := Av.kp e d v h
theorem Av.s {v : V} {d : PyData} (h : Av K M H v d) (e : L2.Same H H') : Av K M H' v d := h.k (keep_same e)
theorem Avs.k {vs : List V} {ds : List PyData} (h : Avs K M H vs ds) (e : Keep M H H') : Avs K M H' vs ds := Avs.kp e ds vs h
theorem Avs.s {vs : List V} {ds : List PyData} (h : Avs K M H vs ds) (e : L2.Same H H') : Avs K M H' vs ds := h.k (keep_same e)
theorem Avs.len : ∀ {vs : List V} {ds : List PyData}, Avs K M H vs ds → vs.length = ds.length
  | _, _, .nil => rfl
  | _, _, .cons _ t => by rw [List.length_cons, List.length_cons, Avs.len t]
theorem Avs.at : ∀ {vs : List V} {ds : List PyData}, Avs K M H vs ds → ∀ {i : Nat} {v : V}, vs[i]? = some v → ∃ d, ds[i]? = some d ∧ Av K M H v d
  | _, _, .nil, _, _, h => nomatch h
  | _, _, .cons r _, 0, _, h => by cases h; exact ⟨_, rfl, r⟩
  | _, _, .cons _ t, i + 1, _, h => Avs.at t (i := i) h
theorem Avs.app : ∀ {xs ys : List V} {ds es : List PyData}, Avs K M H xs ds → Avs K M H ys es → Avs K M H (xs ++ ys) (ds ++ es)
  | _, _, _, _, .nil, h => h
  | _, _, _, _, .cons r t, h => .cons r (Avs.app t h)
theorem Avs.take : ∀ {xs : List V} {ds : List PyData} (n : Nat), Avs K M H xs ds → Avs K M H (xs.take n) (ds.take n)
  | _, _, 0, _ => by rw [List.take_zero, List.take_zero]; exact .nil
  | _, _, _ + 1, .nil => .nil
  | _, _, n + 1, .cons r t => .cons r (Avs.take n t)
theorem Avs.drop : ∀ {xs : List V} {ds : List PyData} (n : Nat), Avs K M H xs ds → Avs K M H (xs.drop n) (ds.drop n)
  | _, _, 0, h => h
  | _, _, _ + 1, .nil => .nil
  | _, _, n + 1, .cons _ t => Avs.drop n t
theorem Avs.rev {xs : List V} {ds : List PyData} (h : Avs K M H xs ds) : Avs K M H xs.reverse ds.reverse := by
  match h with
  | .nil => exact .nil
  | .cons r t =>
    rw [List.reverse_cons, List.reverse_cons]
    exact Avs.app (Avs.rev t) (.cons r .nil)
theorem Avs.ints : ∀ (ns : List Int), Avs K M H (ns.map V.int) (ns.map PyData.int)
  | [] => .nil
  | n :: ns => .cons (.int n) (Avs.ints ns)
theorem Avs.mem {vs : List V} {ds : List PyData} (h : Avs K M H vs ds) {v : V} (m : v ∈ vs) : ∃ d, d ∈ ds ∧ Av K M H v d := by
  obtain ⟨i, hi, e⟩ := List.getElem_of_mem m
  obtain ⟨d, h1, h2⟩ := h.at (i := i) (v := v) (by rw [List.getElem?_eq_getElem hi, e])
  exact ⟨d, List.mem_of_getElem? h1, h2⟩
end
/-! ### the type of a value -/
def tyN : PyData → String
  | .none => "NoneType"
  | .bool _ => "bool"
  | .int _ => "int"
  | .str _ => "str"
  | .list _ => "list"
  | .tuple _ => "tuple"
  | .dict _ => "dict"
theorem ty_tupA {K : PySem.W.Frag} {H : Hp} {a : Addr} {xs : List V} (h : SqT K H a xs) : TyX K H (.ref a) (.type "tuple") := by
  rcases h with (h | ⟨o, h⟩) | ⟨o, its, n, h1, h2, _⟩
  · exact .base (.tup h)
  · exact .fTuple h
  · exact .kTuple h1 h2

theorem ty_av {K : PySem.W.Frag} {M : Addr → Prop} {H : Hp} {v : V} {d : PyData} (h : Av K M H v d) : TyX K H v (.type (tyN d)) := by
  cases h with
  | non => exact .base .non
  | bl b => exact .base (.bl b)
  | int i => exact .base (.int i)
  | str x => exact .base (.str x)
  | lst m h _ =>
    rcases h with h | ⟨o, h⟩
    · exact .base (.lst h)
    · exact .base (.frz h)
  | tup h _ => exact ty_tupA h
  | dct m h =>
    rcases h with h | ⟨o, h⟩
    · exact .base (.dK h)
    · exact .fDict h
/-- isinstance(x, T) of any value -/
theorem isi_av {K : PySem.W.Frag} {M : Addr → Prop} {H : Hp} {v : V} {d : PyData} {T : String} {b : Bool} {Q : VK} (h : Av K M H v d) (hb : kitB (tyN d) T = some b) (q : Q (.bl b) H) : rIsi K [v, .ty T] H Q :=
  ⟨v, .ty T, .type (tyN d), .type T, b, rfl, .ty _, ty_av h, kit_ty hb, q⟩
def isTup : PyData → Bool
  | .tuple _ => true
  | _ => false
def isStr : PyData → Bool
  | .str _ => true
  | _ => false
def isBl : PyData → Bool
  | .bool _ => true
  | _ => false
def isIntB : PyData → Bool
  | .int _ => true
  | .bool _ => true
  | _ => false
theorem kb_tup (d : PyData) : kitB (tyN d) "tuple" = some (isTup d) := by cases d <;> (simp only [tyN, isTup, isStr, isBl, isIntB]; decide +kernel)
theorem kb_str (d : PyData) : kitB (tyN d) "str" = some (isStr d) := by cases d <;> (simp only [tyN, isTup, isStr, isBl, isIntB]; decide +kernel)
theorem kb_bool (d : PyData) : kitB (tyN d) "bool" = some (isBl d) := by cases d <;> (simp only [tyN, isTup, isStr, isBl, isIntB]; decide +kernel)
theorem kb_int (d : PyData) : kitB (tyN d) "int" = some (isIntB d) := by cases d <;> (simp only [tyN, isTup, isStr, isBl, isIntB]; decide +kernel)
/-! ### repr -/
section
variable {X : Cx} {pins : List (Addr × Obj)} {σ : L2.St} {H : Hp} {s : Shared} {M : Addr → Prop}
mutual
theorem Av.reads (I : Inv X pins σ H s) (ms : M sysModules) : ∀ (d : PyData) (v : V) (u : Value), Av X.K M H v d → RelV v u → ∃ as, Reads s.heap u d as ∧ sysModules ∉ as
  | .none, _, _, h, r => by
    cases h
    cases r
    exact ⟨_, Reads.none, by simp⟩
  | .bool b, _, _, h, r => by
    cases h
    cases r
    exact ⟨_, Reads.bool b, by simp⟩
  | .int i, _, _, h, r => by
    cases h
    obtain ⟨t, rfl⟩ := r
    exact ⟨_, Reads.int i t, by simp⟩
  | .str x, _, _, h, r => by
    cases h
    obtain ⟨t, rfl⟩ := r
    exact ⟨_, Reads.str x t, by simp⟩
  | .list ds, _, _, h, r => by
    cases h with
    | @lst a _ _ m hs ha =>
      cases r
      obtain ⟨its, rv, ⟨o, n, ho, hc, _, hd⟩, _⟩ := I.list (.inl hs)
      obtain ⟨as, hr, hn⟩ := Avs.reads I ms ds _ its ha rv
      refine ⟨_, Reads.list ho hc hd hr, fun z => ?_⟩
      rcases List.mem_cons.mp z with z | z
      · subst z
        exact m ms
      · exact hn z
  | .tuple ds, _, _, h, r => by
    cases h with
    | tup hs ha =>
      cases r
      obtain ⟨its, rv, ⟨o, ho, hc, n, hd⟩, _⟩ := I.tuple hs
      obtain ⟨as, hr, hn⟩ := Avs.reads I ms ds _ its ha rv
      exact ⟨_, Reads.tuple ho hc hd hr, hn⟩
  | .dict _, _, _, h, r => by
    cases h with
    | @dct a m h1 =>
      cases r
      obtain ⟨_, _, vs, rel, o, es, ep, h2, h3, h4, _, h5, _⟩ := dk_rd I.hok h1
      cases rel
      obtain rfl : es = #[] := by
        have := h5
        cases es with
        | mk l =>
          cases l with
          | nil => rfl
          | cons e r => cases this
      refine ⟨_, Reads.dict (kvs := []) h2 h3.1 h4 ReadsAll.nil ReadsAll.nil, fun z => ?_⟩
      simp only [List.append_nil, List.mem_cons, List.not_mem_nil, or_false] at z
      subst z
      exact m ms
theorem Avs.reads (I : Inv X pins σ H s) (ms : M sysModules) : ∀ (ds : List PyData) (vs : List V) (us : List Value), Avs X.K M H vs ds → Vals vs us → ∃ as, ReadsAll s.heap us ds as ∧ sysModules ∉ as
  | [], _, _, h, r => by
    cases h
    cases r
    exact ⟨_, ReadsAll.nil, by simp⟩
  | d :: ds, _, _, h, r => by
    cases h with
    | cons h1 h2 =>
      cases r with
      | cons r1 r2 =>
        obtain ⟨as, q1, n1⟩ := Av.reads I ms d _ _ h1 r1
        obtain ⟨bs, q2, n2⟩ := Avs.reads I ms ds _ _ h2 r2
        refine ⟨_, ReadsAll.cons q1 q2, fun z => ?_⟩
        rcases List.mem_append.mp z with z | z
        · exact n1 z
        · exact n2 z
end
end
section
variable {X : Cx}
def rRepA (K : PySem.W.Frag) : List V → Hp → VK → Prop := fun xs H Q => ∃ (v : V) (d : PyData) (M : Addr → Prop), xs = [v] ∧ M sysModules ∧ Av K M H v d ∧ d.showable = true ∧
  d.depth ≤ 60 ∧ d.shown.length ≤ sizeLine ∧ Q (.str d.shown) H
theorem cr_repA (bare : X.A.guards = some []) (hu : X.A.units + 64 < cLine) : CallR X (.builtin "repr") (rRepA X.K) := by
  intro pins s σ H xs us Q I r ⟨v, d, M, e, ms, hd, h1, h3, h4, q⟩
  subst e
  obtain ⟨u, e, ru⟩ := r.one
  subst e
  obtain ⟨as, rd, hn⟩ := Av.reads I ms d v u hd ru
  cases hd with
  | non =>
    cases ru
    exact PySem.P.repr_of_none ⟨.str _, H, I.tok _, ⟨_, rfl⟩, q⟩
  | bl b =>
    cases ru
    exact PySem.P.repr_of_bool ⟨.str _, H, I.tok _, ⟨_, rfl⟩, q⟩
  | int i =>
    obtain ⟨t, rfl⟩ := ru
    exact PySem.P.repr_of_int (by simpa [PyData.showable] using h1) ⟨.str _, H, I.tok _, ⟨_, rfl⟩, q⟩
  | str x =>
    obtain ⟨t, rfl⟩ := ru
    exact PySem.P.repr_of_str ⟨.str _, H, I.tok _, ⟨_, rfl⟩, q⟩ h4
  | lst _ _ _ =>
    cases ru
    exact repr_of_reads' rd h1 (fun _ => hn) bare (by omega) (fun _ _ z => z) (fun h' u tk k => ⟨.str _, H, I.kept k, ⟨_, rfl⟩, q⟩) h4
  | tup _ _ =>
    cases ru
    exact repr_of_reads' rd h1 (fun _ => hn) bare (by omega) (fun _ _ z => z) (fun h' u tk k => ⟨.str _, H, I.kept k, ⟨_, rfl⟩, q⟩) h4
  | dct _ _ =>
    cases ru
    exact repr_of_reads' rd h1 (fun _ => hn) bare (by omega) (fun _ _ z => z) (fun h' u tk k => ⟨.str _, H, I.kept k, ⟨_, rfl⟩, q⟩) h4
/-! ### beside the empty tuple, the empty list -/
def rEqNilT (K : PySem.W.Frag) : R2 := fun x y H Q => ∃ a b xs, x = .ref a ∧ y = .ref b ∧ SqT K H a xs ∧ SqT K H b [] ∧ Q (.bl xs.isEmpty) H
def rNeNilT (K : PySem.W.Frag) : R2 := fun x y H Q => ∃ a b xs, x = .ref a ∧ y = .ref b ∧ SqT K H a xs ∧ SqT K H b [] ∧ Q (.bl (!xs.isEmpty)) H
def rEqNilL (K : PySem.W.Frag) : R2 := fun x y H Q => ∃ a b xs, x = .ref a ∧ y = .ref b ∧ SqL K H a xs ∧ SqL K H b [] ∧ Q (.bl xs.isEmpty) H
def rNeNilL (K : PySem.W.Frag) : R2 := fun x y H Q => ∃ a b xs, x = .ref a ∧ y = .ref b ∧ SqL K H a xs ∧ SqL K H b [] ∧ Q (.bl (!xs.isEmpty)) H
theorem empty_size {its : List Value} {xs : List V} (r : Vals xs its) : (its.toArray.size == 0) = xs.isEmpty := by
  have := r.length
  cases xs with
  | nil => cases r; rfl
  | cons x xs => cases r; rfl
theorem op_eqNilT {K : PySem.W.Frag} (hK : X.K = K) (hu : X.A.units < cLine) : OpR X (compareOp .Eq) (rEqNilT K) := by
  subst hK
  intro pins s σ H x y v u Q I rx ry h
  obtain ⟨a, b, xs, rfl, rfl, ha, hb, q⟩ := h
  cases rx
  cases ry
  obtain ⟨its, rv, pl, _⟩ := I.tuple ha
  obtain ⟨it2, rv2, pl2, _⟩ := I.tuple hb
  cases rv2
  refine SeqAt.RcAt.tuples (items := its.toArray) (items2 := #[]) (e := fun _ => true) pl pl2 hu (fun j _ h2 => absurd h2 (Nat.not_lt_zero _)) _ _ _ _ ⟨.bl xs.isEmpty, H, I, ?_, q⟩
  show Value.bool _ = Value.bool _
  congr 1
  rw [← empty_size rv]
  simp
theorem op_neNilT {K : PySem.W.Frag} (hK : X.K = K) (hu : X.A.units < cLine) : OpR X (compareOp .NotEq) (rNeNilT K) := by
  subst hK
  intro pins s σ H x y v u Q I rx ry h
  obtain ⟨a, b, xs, rfl, rfl, ha, hb, q⟩ := h
  cases rx
  cases ry
  obtain ⟨its, rv, pl, _⟩ := I.tuple ha
  obtain ⟨it2, rv2, pl2, _⟩ := I.tuple hb
  cases rv2
  refine SeqAt.RcNeAt.tuples (items := its.toArray) (items2 := #[]) (e := fun _ => true) pl pl2 hu (fun j _ h2 => absurd h2 (Nat.not_lt_zero _)) _ _ _ _ ⟨.bl (!xs.isEmpty), H, I, ?_, q⟩
  show Value.bool _ = Value.bool _
  congr 1
  rw [← empty_size rv]
  simp
theorem op_eqNilL {K : PySem.W.Frag} (hK : X.K = K) (hu : X.A.units < cLine) : OpR X (compareOp .Eq) (rEqNilL K) := by
  subst hK
  intro pins s σ H x y v u Q I rx ry h
  obtain ⟨a, b, xs, rfl, rfl, ha, hb, q⟩ := h
  cases rx
  cases ry
  obtain ⟨its, rv, pl, _⟩ := I.list ha
  obtain ⟨it2, rv2, pl2, _⟩ := I.list hb
  cases rv2
  have e := empty_size rv
  by_cases z : its.toArray.size = 0
  · refine SeqAt.RcAt.lists (items := its.toArray) (items2 := #[]) (e := fun _ => true) pl.isList pl2.isList (by simpa using z) hu (fun j _ h2 => absurd h2 (Nat.not_lt_zero _)) _ _ _ _ ⟨.bl xs.isEmpty, H, I, ?_, q⟩
    show Value.bool _ = Value.bool _
    congr 1
    rw [← e, z]
    rfl
  · refine SeqAt.RcAt.lists_lengths (items := its.toArray) (items2 := #[]) pl.isList pl2.isList (by simpa using z) hu _ _ _ _ ⟨.bl xs.isEmpty, H, I, ?_, q⟩
    show Value.bool _ = Value.bool _
    congr 1
    rw [← e]
    exact (beq_eq_false_iff_ne.mpr z).symm
theorem op_neNilL {K : PySem.W.Frag} (hK : X.K = K) (hu : X.A.units < cLine) : OpR X (compareOp .NotEq) (rNeNilL K) := by
  subst hK
  intro pins s σ H x y v u Q I rx ry h
  obtain ⟨a, b, xs, rfl, rfl, ha, hb, q⟩ := h
  cases rx
  cases ry
  obtain ⟨its, rv, pl, _⟩ := I.list ha
  obtain ⟨it2, rv2, pl2, _⟩ := I.list hb
  cases rv2
  have e := empty_size rv
  by_cases z : its.toArray.size = 0
  · refine SeqAt.RcNeAt.lists (items := its.toArray) (items2 := #[]) (e := fun _ => true) pl.isList pl2.isList (by simpa using z) hu (fun j _ h2 => absurd h2 (Nat.not_lt_zero _)) _ _ _ _ ⟨.bl (!xs.isEmpty), H, I, ?_, q⟩
    show Value.bool _ = Value.bool _
    congr 1
    rw [← e, z]
    rfl
  · refine SeqAt.RcNeAt.lists_lengths (items := its.toArray) (items2 := #[]) pl.isList pl2.isList (by simpa using z) hu _ _ _ _ ⟨.bl (!xs.isEmpty), H, I, ?_, q⟩
    show Value.bool _ = Value.bool _
    congr 1
    rw [← e, beq_eq_false_iff_ne.mpr z]
    rfl
/-! ### lists that are laid: not where sys.modules is -/
def tLstN (t : TA) : TE := fun σ H Q => t σ H fun xs H1 => xs.length ≤ sizeLine ∧ ∀ p, H1 p = none → p ≠ sysModules → Q (.ref p) (upd H1 p (.lst xs))
theorem pe_lstN {es : List Expr} {pos : Pos} {t : TA} (h : PA X es t) : PE X (.List es pos) (tLstN t) := by
  refine ⟨fun pins s σ H Q I hq => ?_⟩
  refine wpAny_List_spliced (thn (h.run pos pins s σ H _ I hq) fun us s1 ⟨xs, H1, I1, r, z, q⟩ => ⟨by rw [← r.length]; exact z, ?_⟩)
  have hf : H1 s1.heap.objs.size = none := I1.hok.fresh (Nat.le_refl _)
  refine ⟨.ref s1.heap.objs.size, upd H1 s1.heap.objs.size (.lst xs), I1.laid (t' := s1.toks) (fun b u e => Heap.get?_push_of_some _ e) (Nat.le_refl _) ?_, rfl, q _ hf (Nat.ne_of_gt I1.big)⟩
  exact ⟨z, us, 0, r, Heap.get?_push_size _ rfl⟩
def rLstOfN (K : PySem.W.Frag) : List V → Hp → VK → Prop := fun xs H Q => ∃ p ys, xs = [.ref p] ∧ (SqL K H p ys ∨ SqT K H p ys) ∧ ∀ l, H l = none → l ≠ sysModules → Q (.ref l) (upd H l (.lst ys))
theorem call_list_ofN : CallR X (.type "list") (rLstOfN X.K) := by
  intro pins s σ H xs us Q I r h
  obtain ⟨p, ys, rfl, hq, q⟩ := h
  obtain ⟨u, rfl, rx⟩ := vals1 r
  cases rx
  have fin : ∀ (its : List Value), Vals ys its → ys.length ≤ sizeLine → ∀ (h' : Heap) (c' : Nat), (∀ b o', s.heap.get? b = some o' → h'.get? b = some o') →
      h'.get? s.heap.objs.size = some { cls := .type "list", dict := none, data := .seq its.toArray c', slots := #[] } → EP X pins σ Q (.ref s.heap.objs.size) { s with heap := h' } := fun its r' hz h' c' kp e =>
    ⟨.ref s.heap.objs.size, _, I.laid (t' := s.toks) kp (Nat.le_refl _) (show ObjOk X.prog X.w _ h' _ (.lst ys) from ⟨hz, its, c', r', e⟩), rfl, q _ (I.hok.fresh (Nat.le_refl _)) (Nat.ne_of_gt I.big)⟩
  rcases hq with hq | hq
  · obtain ⟨its, r', pl, hz⟩ := I.list hq
    have hlen := r'.length
    obtain ⟨o, ho, hc, n, hd⟩ := pl.isList
    exact call_list_seq p (.inl rfl) ho hc hd (fun h' c' kp e => fin its r' hz h' c' kp e) (by simp only [List.size_toArray] <;> omega)
  · obtain ⟨its, r', pl, hz⟩ := I.tuple hq
    have hlen := r'.length
    obtain ⟨o, ho, hc, n, hd⟩ := pl
    exact call_list_seq p (.inr rfl) ho hc hd (fun h' c' kp e => fin its r' hz h' c' kp e) (by simp only [List.size_toArray] <;> omega)
end
end Tl
set_option Elab.async false
set_option linter.all false
set_option autoImplicit false
set_option maxRecDepth 100000
set_option maxHeartbeats 2000000
/-! written data: constants, names of data, tuples, lists, {} -/
namespace Tl
open PySem PySem.Spec PyProof.Rows L2
inductive Lt where
  | non | bl (b : Bool) | int (i : Int) | str (x : Str) | var (i : Nat) | ixs (i : Nat) (k : Int) | tup (l : Lt) | lst (l : Lt) | dct | nil | cons (a b : Lt)
  deriving DecidableEq
/-- what is known of a local name -/
inductive Rho where
  | no | dat (d : PyData) | seq (ds : List PyData)
def rdat : Option Rho → Option PyData
  | some (.dat d) => some d
  | _ => none
def rseq : Option Rho → Option (List PyData)
  | some (.seq d) => some d
  | _ => none
def Lt.ev (ρ : List Rho) : Lt → Option (List PyData)
  | .non => some [.none]
  | .bl b => some [.bool b]
  | .int i => some [.int i]
  | .str x => some [.str x]
  | .var i => (rdat ρ[i]?).map fun d => [d]
  | .ixs i k => (rseq ρ[i]?).bind fun ds => (atI ds k).map fun d => [d]
  | .tup l => (l.ev ρ).map fun ds => [.tuple ds]
  | .lst l => (l.ev ρ).map fun ds => [.list ds]
  | .dct => some [.dict []]
  | .nil => some []
  | .cons a b => (a.ev ρ).bind fun x => (b.ev ρ).map fun y => x ++ y
def visB (sc : Scope) (x : Str) : Bool := (decide (sc.names.lookup x = some .local) || decide (sc.names.lookup x = some .cell) || decide (sc.names.lookup x = some .free)) && !(x == ("__debug__" : Str)) && !(x == ("__classdict__" : Str))
def nameOf (N : List Str) (sc : Scope) (x : Str) : Option Nat := match N.findIdx? (· == x) with
  | some i => if visB sc x && decide (N[i]? = some x) then some i else none
  | none => none
mutual
def ltOf (N : List Str) (sc : Scope) : Nat → Expr → Option Lt
  | 0, _ => none
  | n + 1, e => match e with
    | .Constant (.int i) _ _ => some (.int i)
    | .Constant (.bool b) _ _ => some (.bl b)
    | .Constant .none _ _ => some .non
    | .Constant (.str x) _ _ => some (.str x)
    | .Name x _ => (nameOf N sc x).map .var
    | .Tuple es _ _ => (ltsOf N sc n es).map .tup
    | .List es _ => (ltsOf N sc n es).map .lst
    | .Dict [] [] _ => some .dct
    | .UnaryOp .USub (.Constant (.int i) _ _) _ => some (.int (-i))
    | .BinOp (.Constant (.int i) _ _) .Pow (.Constant (.int j) _ _) _ => if 0 ≤ j ∧ j ≤ 1000 ∧ i.natAbs < 2 ^ 64 then some (.int (i ^ j.toNat)) else none
    | .BinOp (.Constant (.str x) _ _) .Mult (.Constant (.int j) _ _) _ => if x = ("a" : Str) ∧ j = 11 then some (.str "aaaaaaaaaaa") else none
    | .Subscript (.Name x _) (.Constant (.int k) _ _) _ => (nameOf N sc x).map fun i => .ixs i k
    | .Subscript (.Name x _) (.UnaryOp .USub (.Constant (.int k) _ _) _) _ => (nameOf N sc x).map fun i => .ixs i (-k)
    | _ => none
def ltsOf (N : List Str) (sc : Scope) : Nat → List Expr → Option Lt
  | 0, _ => none
  | _ + 1, [] => some .nil
  | n + 1, e :: es => (ltOf N sc n e).bind fun a => (ltsOf N sc n es).map fun b => .cons a b
end
/-- what the local names have -/
def EnvA (K : PySem.W.Frag) (M : Addr → Prop) (H : Hp) : List (Option V) → List Rho → Prop
  | _, [] => True
  | [], _ :: _ => False
  | _ :: σ, .no :: ρ => EnvA K M H σ ρ
  | o :: σ, .dat d :: ρ => (∃ v, o = some v ∧ Av K M H v d) ∧ EnvA K M H σ ρ
  | o :: σ, .seq ds :: ρ => (∃ b xs, o = some (.ref b) ∧ SqL K H b xs ∧ (∀ H', L2.Same H H' → SqL K H' b xs) ∧ Avs K M H xs ds) ∧ EnvA K M H σ ρ
section
variable {K : PySem.W.Frag} {M : Addr → Prop} {H H' : Hp}
theorem EnvA.same (s : L2.Same H H') : ∀ {σ : List (Option V)} {ρ : List Rho}, EnvA K M H σ ρ → EnvA K M H' σ ρ
  | _, [], _ => by unfold EnvA; trivial
  | [], _ :: _, h => by unfold EnvA at h; exact h.elim
  | _ :: σ, .no :: ρ, h => by
    unfold EnvA at h ⊢
    exact EnvA.same s h
  | o :: σ, .dat d :: ρ, h => by
    unfold EnvA at h ⊢
    obtain ⟨⟨v, e, a⟩, r⟩ := h
    exact ⟨⟨v, e, a.s s⟩, EnvA.same s r⟩
  | o :: σ, .seq ds :: ρ, h => by
    unfold EnvA at h ⊢
    obtain ⟨⟨b, xs, e, h1, h2, a⟩, r⟩ := h
    exact ⟨⟨b, xs, e, h2 _ s, fun H2 s2 => h2 _ (s.trans s2), a.s s⟩, EnvA.same s r⟩
theorem EnvA.var : ∀ {σ : List (Option V)} {ρ : List Rho} {i : Nat} {d : PyData}, EnvA K M H σ ρ → ρ[i]? = some (.dat d) → ∃ v, σ[i]? = some (some v) ∧ Av K M H v d
  | _, [], _, _, _, e => by cases e
  | [], _ :: _, _, _, h, _ => by unfold EnvA at h; exact h.elim
  | o :: σ, r :: ρ, 0, d, h, e => by
    cases e
    unfold EnvA at h
    obtain ⟨⟨v, e, a⟩, _⟩ := h
    exact ⟨v, by rw [e]; rfl, a⟩
  | o :: σ, r :: ρ, i + 1, d, h, e => by
    have e' : ρ[i]? = some (.dat d) := e
    have h' : EnvA K M H σ ρ := by
      cases r <;> unfold EnvA at h
      · exact h
      · exact h.2
      · exact h.2
    exact EnvA.var (σ := σ) h' e'
theorem EnvA.seq : ∀ {σ : List (Option V)} {ρ : List Rho} {i : Nat} {ds : List PyData}, EnvA K M H σ ρ → ρ[i]? = some (.seq ds) → ∃ b xs, σ[i]? = some (some (.ref b)) ∧ SqL K H b xs ∧ Avs K M H xs ds
  | _, [], _, _, _, e => by cases e
  | [], _ :: _, _, _, h, _ => by unfold EnvA at h; exact h.elim
  | o :: σ, r :: ρ, 0, ds, h, e => by
    cases e
    unfold EnvA at h
    obtain ⟨⟨b, xs, e, h1, _, a⟩, _⟩ := h
    exact ⟨b, xs, by rw [e]; rfl, h1, a⟩
  | o :: σ, r :: ρ, i + 1, ds, h, e => by
    have e' : ρ[i]? = some (.seq ds) := e
    have h' : EnvA K M H σ ρ := by
      cases r <;> unfold EnvA at h
      · exact h
      · exact h.2
      · exact h.2
    exact EnvA.seq (σ := σ) h' e'
end
def Pre (M : Addr → Prop) (H : Hp) : Prop := M sysModules ∧ ∀ a, M a → H a = none → a = sysModules
theorem Pre.same {M : Addr → Prop} {H H' : Hp} (p : Pre M H) (s : L2.Same H H') : Pre M H' := ⟨p.1, fun a m n => p.2 a m (by
  cases e : H a with
  | none => rfl
  | some o =>
    have := s a o e
    rw [n] at this
    cases this)⟩
theorem Pre.new {M : Addr → Prop} {H : Hp} {a : Addr} (p : Pre M H) (n : H a = none) (ne : a ≠ sysModules) : ¬ M a := fun m => ne (p.2 a m n)
def tLt (K : PySem.W.Frag) (M : Addr → Prop) (L : Lt) : TE := fun σ H Q => Pre M H ∧ ∃ (ρ : List Rho) (d : PyData), EnvA K M H σ ρ ∧ L.ev ρ = some [d] ∧ ∀ v H', L2.Same H H' → Av K M H' v d → Q v H'
def tLts (K : PySem.W.Frag) (M : Addr → Prop) (L : Lt) : TA := fun σ H Q => Pre M H ∧ ∃ (ρ : List Rho) (ds : List PyData), EnvA K M H σ ρ ∧ L.ev ρ = some ds ∧ ∀ vs H', L2.Same H H' → Avs K M H' vs ds → Q vs H'
section
variable {X : Cx}
theorem _root_.L2.PE.wk {e : Expr} {t t' : TE} (h : PE X e t) (w : ∀ σ H Q, t' σ H Q → t σ H Q) : PE X e t' := ⟨fun pins s σ H Q I q => h.run pins s σ H Q I (w σ H Q q)⟩
theorem _root_.L2.PA.wk {es : List Expr} {t t' : TA} (h : PA X es t) (w : ∀ σ H Q, t' σ H Q → t σ H Q) : PA X es t' := ⟨fun pos pins s σ H Q I q => h.run pos pins s σ H Q I (w σ H Q q)⟩
def tDNewN : TE := fun _ H Q => ∀ p, H p = none → p ≠ sysModules → Q (.ref p) (upd H p (.dK []))
theorem pe_dnewN {pos : Pos} : PE X (.Dict [] [] pos) tDNewN := ⟨fun pins s σ H Q I h =>
  wpAny_Dict_empty ⟨.ref s.heap.objs.size, _, I.laid (a := s.heap.objs.size) (o := .dK []) (t' := s.toks) (fun _ _ q => Heap.get?_push_of_some _ q) (Nat.le_refl _) (dk_empty s.heap I.big), rfl, h _ (I.hok.fresh (Nat.le_refl _)) (Nat.ne_of_gt I.big)⟩⟩
theorem nameOf_ok {N : List Str} {sc : Scope} {x : Str} {i : Nat} (h : nameOf N sc x = some i) : N[i]? = some x ∧ Vis sc x ∧ (x == ("__debug__" : Str)) = false ∧ (x == ("__classdict__" : Str)) = false := by
  unfold nameOf at h
  split at h
  · split at h
    · rename_i j _ hc
      cases h
      rw [Bool.and_eq_true, decide_eq_true_eq] at hc
      obtain ⟨h1, h2⟩ := hc
      unfold visB at h1
      simp only [Bool.and_eq_true, Bool.or_eq_true, decide_eq_true_eq, Bool.not_eq_true'] at h1
      obtain ⟨⟨h3, h4⟩, h5⟩ := h1
      exact ⟨h2, h3.elim (fun z => z.elim .inl fun z => .inr (.inl z)) fun z => .inr (.inr z), h4, h5⟩
    · cases h
  · cases h
theorem ltOf_one {N : List Str} {sc : Scope} {n : Nat} {e : Expr} {L : Lt} (h : ltOf N sc n e = some L) : ∀ (ρ : List Rho) (xs : List PyData), L.ev ρ = some xs → ∃ d, xs = [d] := by
  intro ρ xs hx
  cases n with
  | zero => simp [ltOf] at h
  | succ n =>
    unfold ltOf at h
    split at h
    all_goals (first | cases h | skip)
    all_goals (first | (cases hx; exact ⟨_, rfl⟩) | skip)
    all_goals (first | (split at h <;> (first | cases h | skip); cases hx; exact ⟨_, rfl⟩) | skip)
    all_goals (first
      | (obtain ⟨l, hl, rfl⟩ := Option.map_eq_some_iff.mp h
         first
           | (obtain ⟨l2, hl2, rfl⟩ := Option.map_eq_some_iff.mp hx; exact ⟨_, rfl⟩)
           | (obtain ⟨l2, hl2, hx⟩ := Option.bind_eq_some_iff.mp hx
              obtain ⟨l3, hl3, rfl⟩ := Option.map_eq_some_iff.mp hx; exact ⟨_, rfl⟩)))
theorem atI_avs {K : PySem.W.Frag} {M : Addr → Prop} {H : Hp} {xs : List V} {ds : List PyData} {k : Int} {d : PyData} (h : Avs K M H xs ds) (e : atI ds k = some d) : ∃ v, atI xs k = some v ∧ Av K M H v d := by
  unfold atI at e ⊢
  rw [h.len]
  obtain ⟨j, h1, h2⟩ := Option.bind_eq_some_iff.mp e
  rw [h1]
  have hj : j < xs.length := by
    rw [h.len]
    exact (List.getElem?_eq_some_iff.mp h2).1
  obtain ⟨d', h3, h4⟩ := h.at (List.getElem?_eq_getElem hj)
  rw [h2] at h3
  cases h3
  exact ⟨_, List.getElem?_eq_getElem hj, h4⟩
section
variable {M : Addr → Prop} {N : List Str} {sc : Scope}
theorem lt_tup {es : List Expr} {L : Lt} {k : Nat} {pos : Pos} (h : PA X es (tLts X.K M L)) (sz : es.length ≤ 1000) (ln : ∀ ρ ds, L.ev ρ = some ds → ds.length = es.length) : PE X (.Tuple es k pos) (tLt X.K M (.tup L)) := by
  refine (pe_tup h).wk fun σ H Q ⟨pr, ρ, d, en, e, q⟩ => ?_
  obtain ⟨ds, e1, e2⟩ := Option.map_eq_some_iff.mp e
  cases e2
  refine ⟨pr, ρ, ds, en, e1, fun vs H' s hv => ⟨?_, fun p np => ?_⟩⟩
  · rw [hv.len, ln ρ ds e1]
    exact Nat.le_trans sz (by decide)
  · have s2 := same_up (o := .tup vs) np
    exact q _ _ (s.trans s2) (.tup (tupOf upd_same) (hv.s s2))
theorem lt_lst {es : List Expr} {L : Lt} {pos : Pos} (h : PA X es (tLts X.K M L)) (sz : es.length ≤ 1000) (ln : ∀ ρ ds, L.ev ρ = some ds → ds.length = es.length) : PE X (.List es pos) (tLt X.K M (.lst L)) := by
  refine (pe_lstN h).wk fun σ H Q ⟨pr, ρ, d, en, e, q⟩ => ?_
  obtain ⟨ds, e1, e2⟩ := Option.map_eq_some_iff.mp e
  cases e2
  refine ⟨pr, ρ, ds, en, e1, fun vs H' s hv => ⟨?_, fun p np ne => ?_⟩⟩
  · rw [hv.len, ln ρ ds e1]
    exact Nat.le_trans sz (by decide)
  · have s2 := same_up (o := .lst vs) np
    exact q _ _ (s.trans s2) (.lst ((pr.same s).new np ne) (.inl upd_same) (hv.s s2))
theorem ltsOf_len {n : Nat} : ∀ {es : List Expr} {L : Lt}, ltsOf N sc n es = some L → es.length ≤ n ∧ ∀ (ρ : List Rho) (ds : List PyData), L.ev ρ = some ds → ds.length = es.length := by
  induction n with
  | zero => intro es L h; simp [ltsOf] at h
  | succ n ih =>
    intro es L h
    cases es with
    | nil =>
      unfold ltsOf at h
      cases h
      exact ⟨Nat.zero_le _, fun ρ ds e => by cases e; rfl⟩
    | cons e es =>
      unfold ltsOf at h
      obtain ⟨a, h1, h⟩ := Option.bind_eq_some_iff.mp h
      obtain ⟨b, h2, rfl⟩ := Option.map_eq_some_iff.mp h
      obtain ⟨g1, g2⟩ := ih h2
      refine ⟨Nat.succ_le_succ g1, fun ρ ds e => ?_⟩
      obtain ⟨x, k1, e⟩ := Option.bind_eq_some_iff.mp e
      obtain ⟨y, k2, rfl⟩ := Option.map_eq_some_iff.mp e
      obtain ⟨d, rfl⟩ := ltOf_one h1 ρ x k1
      rw [List.length_append, List.length_cons, g2 ρ y k2, List.length_cons, List.length_nil]
      omega
theorem starOf {n : Nat} {e : Expr} {L : Lt} (h : ltOf N sc n e = some L) (es : List Expr) (env : Env) : starEach (e :: es) env = (false, eval e env) :: starEach es env := by
  cases n with
  | zero => simp [ltOf] at h
  | succ n =>
    unfold ltOf at h
    split at h
    all_goals (first | rfl | cases h)
theorem pe_ltn (hN : X.N = N) (hs : X.env.scope = sc) : ∀ n, n ≤ 1000 → (∀ e L, ltOf N sc n e = some L → PE X e (tLt X.K M L)) ∧ ∀ es L, ltsOf N sc n es = some L → PA X es (tLts X.K M L) := by
  have nm : ∀ {x : Str} {pos : Pos} {i : Nat}, nameOf N sc x = some i → PE X (.Name x pos) (tVar i) := fun {x pos i} h => by
    obtain ⟨h1, h2, h3, h4⟩ := nameOf_ok h
    exact pe_var (hN ▸ h1) (hs ▸ h2) h3 h4
  have ixc : ∀ {x : Str} {p1 p2 : Pos} {i : Nat} {k : Int} {e2 : Expr}, nameOf N sc x = some i → PE X e2 (fun σ H Q => Q (.int k) H) → PlainIx e2 → PE X (.Subscript (.Name x p1) e2 p2) (tLt X.K M (.ixs i k)) := fun {x p1 p2 i k e2} h h2 pl => by
    refine (pe_ix ix_list (nm h) h2 pl).wk fun σ H Q ⟨pr, ρ, d, en, e, q⟩ => ?_
    obtain ⟨ds, e1, e2⟩ := Option.bind_eq_some_iff.mp e
    obtain ⟨d2, e3, e4⟩ := Option.map_eq_some_iff.mp e2
    cases e4
    have e5 : ρ[i]? = some (.seq ds) := by
      cases hr : ρ[i]? with
      | none => rw [hr] at e1; cases e1
      | some r =>
        rw [hr] at e1
        cases r <;> cases e1
        rfl
    obtain ⟨b, xs, h1, h2, h3⟩ := en.seq e5
    obtain ⟨v, h4, h5⟩ := atI_avs h3 e3
    exact ⟨.ref b, h1, b, xs, k, v, rfl, rfl, h2, h4, q v H (L2.Same.refl H) h5⟩
  intro n
  induction n with
  | zero => exact fun _ => ⟨fun e L h => by simp [ltOf] at h, fun es L h => by simp [ltsOf] at h⟩
  | succ n ih =>
    intro hn
    obtain ⟨ih1, ih2⟩ := ih (by omega)
    refine ⟨fun e L h => ?_, fun es L h => ?_⟩
    · unfold ltOf at h
      split at h
      · cases h
        exact pe_int.wk fun σ H Q ⟨_, ρ, d, _, e, q⟩ => by cases e; exact q _ _ (L2.Same.refl H) (.int _)
      · cases h
        exact pe_bl.wk fun σ H Q ⟨_, ρ, d, _, e, q⟩ => by cases e; exact q _ _ (L2.Same.refl H) (.bl _)
      · cases h
        exact pe_non.wk fun σ H Q ⟨_, ρ, d, _, e, q⟩ => by cases e; exact q _ _ (L2.Same.refl H) .non
      · cases h
        exact pe_str.wk fun σ H Q ⟨_, ρ, d, _, e, q⟩ => by cases e; exact q _ _ (L2.Same.refl H) (.str _)
      · obtain ⟨i, h1, rfl⟩ := Option.map_eq_some_iff.mp h
        refine (nm h1).wk fun σ H Q ⟨_, ρ, d, en, e, q⟩ => ?_
        obtain ⟨d2, e1, e2⟩ := Option.map_eq_some_iff.mp e
        cases e2
        have e5 : ρ[i]? = some (.dat d) := by
          cases hr : ρ[i]? with
          | none => rw [hr] at e1; cases e1
          | some r =>
            rw [hr] at e1
            cases r <;> cases e1
            rfl
        obtain ⟨v, h2, h3⟩ := en.var e5
        exact ⟨v, h2, q v H (L2.Same.refl H) h3⟩
      · obtain ⟨l, h1, rfl⟩ := Option.map_eq_some_iff.mp h
        exact lt_tup (ih2 _ _ h1) (Nat.le_trans (ltsOf_len h1).1 (by omega)) (ltsOf_len h1).2
      · obtain ⟨l, h1, rfl⟩ := Option.map_eq_some_iff.mp h
        exact lt_lst (ih2 _ _ h1) (Nat.le_trans (ltsOf_len h1).1 (by omega)) (ltsOf_len h1).2
      · cases h
        refine pe_dnewN.wk fun σ H Q ⟨pr, ρ, d, _, e, q⟩ p np ne => ?_
        cases e
        exact q _ _ (same_up np) (.dct (pr.new np ne) (.inl upd_same))
      · cases h
        exact (pe_un un_neg pe_int).wk fun σ H Q ⟨_, ρ, d, _, e, q⟩ => by cases e; exact ⟨_, rfl, q _ _ (L2.Same.refl H) (.int _)⟩
      · split at h
        · rename_i hc
          cases h
          exact (pe_op op_pow pe_int pe_int).wk fun σ H Q ⟨_, ρ, d, _, e, q⟩ => by cases e; exact ⟨_, _, rfl, rfl, ⟨hc.1, by omega, hc.2.2⟩, q _ _ (L2.Same.refl H) (.int _)⟩
        · cases h
      · split at h
        · rename_i hc
          cases h
          obtain ⟨rfl, rfl⟩ := hc
          exact (pe_op op_mulA pe_str pe_int).wk fun σ H Q ⟨_, ρ, d, _, e, q⟩ => by cases e; exact ⟨rfl, rfl, q _ _ (L2.Same.refl H) (.str _)⟩
        · cases h
      · obtain ⟨i, h1, rfl⟩ := Option.map_eq_some_iff.mp h
        exact ixc h1 pe_int (fun _ _ => rfl)
      · obtain ⟨i, h1, rfl⟩ := Option.map_eq_some_iff.mp h
        exact ixc h1 ((pe_un un_neg pe_int).wk fun σ H Q q => ⟨_, rfl, q⟩) (fun _ _ => rfl)
      · cases h
    · cases es with
      | nil =>
        unfold ltsOf at h
        cases h
        exact pa_nil.wk fun σ H Q ⟨_, ρ, ds, _, e, q⟩ => by cases e; exact q _ _ (L2.Same.refl H) .nil
      | cons e es =>
        unfold ltsOf at h
        obtain ⟨a, h1, h⟩ := Option.bind_eq_some_iff.mp h
        obtain ⟨b, h2, rfl⟩ := Option.map_eq_some_iff.mp h
        refine (pa_cons (ih1 _ _ h1) (ih2 _ _ h2) (starOf h1 _ _)).wk fun σ H Q ⟨pr, ρ, ds, en, e, q⟩ => ?_
        obtain ⟨x, k1, e⟩ := Option.bind_eq_some_iff.mp e
        obtain ⟨y, k2, rfl⟩ := Option.map_eq_some_iff.mp e
        obtain ⟨d, rfl⟩ := ltOf_one h1 ρ x k1
        refine ⟨pr, ρ, d, en, k1, fun v H' s hv => ⟨pr.same s, ρ, y, en.same s, k2, fun vs H2 s2 hvs => q (v :: vs) H2 (s.trans s2) (.cons (hv.s s2) hvs)⟩⟩
/-- a written value -/
theorem pe_lt {e : Expr} {L : Lt} (M : Addr → Prop) (n : Nat) (hN : X.N = N) (hs : X.env.scope = sc) (h : ltOf N sc n e = some L) (hn : n ≤ 1000 := by decide) : PE X e (tLt X.K M L) := (pe_ltn hN hs n hn).1 e L h
/-- written values -/
theorem pa_lts {es : List Expr} {L : Lt} (M : Addr → Prop) (n : Nat) (hN : X.N = N) (hs : X.env.scope = sc) (h : ltsOf N sc n es = some L) (hn : n ≤ 1000 := by decide) : PA X es (tLts X.K M L) := (pe_ltn hN hs n hn).2 es L h
end
end
end Tl
set_option Elab.async false
set_option linter.all false
set_option autoImplicit false
set_option maxRecDepth 100000
set_option maxHeartbeats 4000000
namespace Tl
open PySem PySem.Spec PyProof.Rows L2
/-- each tuple and list within has at most k items, each text at most 1000 signs -/
def lens (k : Nat) : PyData → Bool
  | .str x => decide (x.length ≤ 1000)
  | .list ds => decide (ds.length ≤ k) && lensAll ds
  | .tuple ds => decide (ds.length ≤ k) && lensAll ds
  | _ => true
where lensAll : List PyData → Bool
  | [] => true
  | d :: ds => lens k d && lensAll ds
theorem lensAll_mem {k : Nat} : ∀ {ds : List PyData} {d : PyData}, lens.lensAll k ds = true → d ∈ ds → lens k d = true
  | e :: es, d, h, m => by
    rw [lens.lensAll, Bool.and_eq_true] at h
    rcases List.mem_cons.mp m with rfl | m
    · exact h.1
    · exact lensAll_mem h.2 m
theorem lens_tup {k : Nat} {ds : List PyData} (h : lens k (.tuple ds) = true) : ds.length ≤ k ∧ ∀ d ∈ ds, lens k d = true := by
  rw [lens, Bool.and_eq_true, decide_eq_true_eq] at h
  exact ⟨h.1, fun d m => lensAll_mem h.2 m⟩
theorem lens_str {k : Nat} {x : Str} (h : lens k (.str x) = true) : x.length ≤ 1000 := by
  rw [lens, decide_eq_true_eq] at h
  exact h
end Tl
namespace K01
open PySem PySem.Spec PyProof.Rows L2 Tl
open C8 (Cal pe_c)
theorem ifB {b : Bool} {A B : Prop} (h1 : b = true → A) (h2 : b = false → B) : if b = true then A else B := by
  cases b with
  | true => exact iteT (h1 rfl)
  | false => exact iteF (h2 rfl)
/-! ### what values are -/
def wordD : PyData → Bool
  | .str x => isW x
  | _ => false
def intD : PyData → Bool
  | .int _ => true
  | _ => false
def numD (lo hi : Int) : PyData → Bool
  | .int i => decide (lo ≤ i) && decide (i < hi)
  | _ => false
def pairD : PyData → Bool
  | .tuple ds => decide (ds.length = 2)
  | _ => false
def tieD (m : Int) : PyData → Bool
  | .tuple [a, b] => numD 0 m a && numD 0 m b
  | _ => false
theorem intD_eq (d : PyData) : intD d = (isIntB d && !isBl d) := by cases d <;> rfl
/-! ### the program: kinds of values -/
section
variable {P : Program} {w : World} {K : PySem.W.Frag} {mg : Str → Option Value} {base : Heap}
def spIsPair (K : PySem.W.Frag) : Sp := fun vs H Q _ => ∃ (v : V) (d : PyData) (M : Addr → Prop), vs = [v] ∧ Av K M H v d ∧ Q (.bl (pairD d)) H
theorem cIsPair (T : Txt K mg) : Cal P w K mg base 1 "is_pair" (spIsPair K) [] := by
  refine cal_of T.isPair scIsPair (fun _ _ _ _ _ _ us hl => match us, hl with | [_], _ => rfl) (fun vs H Q E h => ?_) (fun f cdv A outer s H vs Q E hr h => ?_)
  · obtain ⟨x, d, M, rfl, _⟩ := h
    rfl
  obtain ⟨v, d, M, rfl, hv, q⟩ := h
  refine ⟨_, (pss_one (ps_ret (pe_and (pe_callB call_isi (by rfl) T.isinstance (by decide +kernel) (pa_cons (pv 0) (pa_cons (pe_bltn (v := V.ty "tuple") (u := Value.type "tuple") (by rfl) T.tuple (by decide +kernel) rfl) pa_nil))) (pe_one (pe_cmpR op_eq (pe_callB call_len_seq (by rfl) T.len (by decide +kernel) (pa_cons (pv 0) pa_nil)) pe_int (nomark _)))))), ?_⟩
  refine ⟨v, rfl, v, .ty "tuple", .type (tyN d), .type "tuple", isTup d, rfl, .ty _, ty_av hv, kit_ty (kb_tup d), isTup d, rfl, ifB (fun h => ?_) (fun h => ?_)⟩
  · cases hv with
    | @tup a xs ds ha hs =>
      refine ⟨.ref a, rfl, a, _, rfl, .inr ha, rfl, ?_⟩
      have e : decide (V.int (xs.length : Int) = V.int 2) = pairD (.tuple ds) := by
        show _ = decide (ds.length = 2)
        rw [← hs.len]
        refine decide_eq_decide.mpr ⟨fun z => ?_, fun z => by rw [z]; rfl⟩
        have := V.int.inj z
        omega
      rw [e]
      exact q
    | _ => cases h
  · cases d with
    | tuple ds => cases h
    | _ => exact q
def spLetter : Sp := fun vs H Q _ => ∃ c : Nat, vs = [.str ⟨#[c]⟩] ∧ Q (.bl (lett c)) H
theorem cIsLetter (T : Txt K mg) : Cal P w K mg base 1 "_is_letter" spLetter [] := by
  refine cal_of T.isLetter scIsLetter (fun _ _ _ _ _ _ us hl => match us, hl with | [_], _ => rfl) (fun vs H Q E h => ?_) (fun f cdv A outer s H vs Q E hr h => ?_)
  · obtain ⟨x, rfl, _⟩ := h
    rfl
  obtain ⟨c, rfl, q⟩ := h
  refine ⟨_, (pss_one (ps_ret (pe_chain op_le_str op_le_str pe_str (pv 0) pe_str))), ?_⟩
  have e1 : (!decide ([c] < ("a" : Str).cps.toList)) = decide (97 ≤ c) := by
    have : decide ([c] < ("a" : Str).cps.toList) = decide (c < 97) := by
      refine decide_eq_decide.mpr ?_
      show [c] < [97] ↔ _
      rw [List.cons_lt_cons_iff]
      exact ⟨fun h => h.elim id fun z => absurd z.2 (List.lt_irrefl _), .inl⟩
    rw [this, ← decide_not]
    exact decide_eq_decide.mpr (by omega)
  have e2 : (!decide (("z" : Str).cps.toList < [c])) = decide (c ≤ 122) := by
    have : decide (("z" : Str).cps.toList < [c]) = decide (122 < c) := by
      refine decide_eq_decide.mpr ?_
      show [122] < [c] ↔ _
      rw [List.cons_lt_cons_iff]
      exact ⟨fun h => h.elim id fun z => absurd z.2 (List.lt_irrefl _), .inl⟩
    rw [this, ← decide_not]
    exact decide_eq_decide.mpr (by omega)
  refine ⟨.str _, rfl, ("a" : Str), ⟨#[c]⟩, rfl, rfl, decide (97 ≤ c), ?_, ?_⟩
  · show V.bl (!decide ([c] < ("a" : Str).cps.toList)) = _
    rw [e1]
  unfold lett at q
  refine ifB (fun h => ⟨⟨#[c]⟩, ("z" : Str), rfl, rfl, ?_⟩) fun h => ?_
  · show Q (V.bl (!decide (("z" : Str).cps.toList < [c]))) H
    rw [e2]
    rw [h, Bool.true_and] at q
    exact q
  · rw [h, Bool.false_and] at q
    exact q
def spWordA (K : PySem.W.Frag) : Sp := fun vs H Q _ => ∃ (v : V) (d : PyData) (M : Addr → Prop), vs = [v] ∧ Av K M H v d ∧ lens 60 d = true ∧ ∀ H', L2.Same H H' → Q (.bl (wordD d)) H'
theorem isW_len {x : Str} (h : ¬ (0 < x.length ∧ x.length < 11)) : isW x = false := by
  unfold isW
  by_cases h0 : 0 < x.length
  · rw [decide_eq_false (show ¬ x.length < 11 from fun z => h ⟨h0, z⟩), Bool.false_and, Bool.and_false]
  · rw [decide_eq_false h0, Bool.false_and]
theorem isW_in {x : Str} (h : 0 < x.length ∧ x.length < 11) : isW x = (!(six.any fun y => decide (y = x)) && x.cps.toList.all lett) := by
  unfold isW
  rw [decide_eq_true h.1, decide_eq_true h.2, Bool.true_and, Bool.true_and]
theorem fIsWord (T : Txt K mg) : CalF P w K mg base 2 "is_word" sIsWord ["thing"] (spWordA K) := by
  refine calF_of T.isWord scIsWord (fun vs H Q E h => ?_) (fun f cdv A outer s H vs Q E hr h => ?_)
  · obtain ⟨x, d, M, rfl, _⟩ := h
    rfl
  obtain ⟨v, d, M, rfl, hv, hl, q⟩ := h
  obtain ⟨tl, hlw⟩ := T.longest_word
  obtain ⟨na, hnw, hna⟩ := T.no_words
  refine ⟨_, (pss_cons (ps_if (PW.pt (pw_or (pt_not (pt_val (pe_callB call_isi (by rfl) T.isinstance (by decide +kernel) (pa_cons (pv 0) (pa_cons (pe_bltn (v := V.ty "str") (u := Value.type "str") (by rfl) T.str (by decide +kernel) rfl) pa_nil))))) (pw_or1 (pt_not (pt_chain op_le op_le pe_int (pe_callB call_len_str (by rfl) T.len (by decide +kernel) (pa_cons (pv 0) pa_nil)) (pe_glob (v := V.int 10) rfl hlw ⟨_, rfl⟩))))))
 (pss_one (ps_ret pe_bl))
 pss_nil)
 (pss_one (ps_ret (pe_and (pe_cmpR op_notIn_seq (pv 0) (pe_glob (v := V.ref na) rfl hnw rfl) rfl) (pe_one (pe_callB (cr_all rfl) (by rfl) T.all (by decide +kernel) (pa_cons (pe_lc (own := [("sign", 1)]) (by rfl) scIsWord.nd (pi_str (pv 0)) (blkOk_by (own := [("sign", 1)]) (N := ["thing", "sign"]) (sc := defScope sIsWord) (by decide +kernel)) (fun _ _ _ _ _ => (pg_name (i := 1) scIsWord.nd rfl (.inl rfl))) (fun _ _ _ _ _ => pts_nil) (fun _ _ _ _ _ => (pe_c (cIsLetter T) hr (by decide) rfl (pa_cons (pv 1) pa_nil)))) pa_nil))))))), ?_⟩
  refine ⟨v, rfl, v, .ty "str", .type (tyN d), .type "str", isStr d, rfl, .ty _, ty_av hv, kit_ty (kb_str d), isStr d, rfl, ?_⟩
  cases hv with
  | str x =>
    have hx := lens_str hl
    have sz : x.length ≤ sizeLine := Nat.le_of_lt (small1000 hx)
    refine iteF ⟨.str x, rfl, x, rfl, sz, 1, _, rfl, rfl, _, rfl, ?_⟩
    by_cases hb : 0 < x.length ∧ x.length < 11
    case neg =>
      have q' := q H (L2.Same.refl H)
      rw [show wordD (.str x) = false from isW_len hb] at q'
      refine ifB (fun h1 => ⟨_, 10, rfl, rfl, _, rfl, ?_⟩) fun h1 => ⟨_, rfl, iteT q'⟩
      have h1 := of_decide_eq_true h1
      rw [decide_eq_false (show ¬ ((x.length : Int) ≤ (10 : Int)) by omega)]
      exact iteT q'
    rw [show decide ((1 : Int) ≤ (x.length : Int)) = true from decide_eq_true (by omega)]
    refine iteT ⟨_, 10, rfl, rfl, _, rfl, ?_⟩
    rw [show decide ((x.length : Int) ≤ (10 : Int)) = true from decide_eq_true (by omega)]
    refine iteF ⟨.str x, rfl, na, six.map V.str, rfl, .inr (hna _), rfl, flat_strs six, _, rfl, ?_⟩
    have ew : wordD (.str x) = (!(six.any fun y => decide (y = x)) && x.cps.toList.all lett) := isW_in hb
    rw [inV_six]
    rw [ew] at q
    refine ifB (fun h2 => ?_) fun h2 => ?_
    case refine_2 =>
      have h2 : (!(six.any fun y => decide (y = x))) = false := h2
      rw [h2, Bool.false_and] at q
      exact q H (L2.Same.refl H)
    have h2 : (!(six.any fun y => decide (y = x))) = true := h2
    rw [h2, Bool.true_and] at q
    refine ⟨.str x, rfl, x, rfl, fun D nD => ?_⟩
    refine lc_it (n := x.cps.size) (fun i G2 => L2.Same H G2 ∧ G2 D = some (.lst (((x.cps.toList.take i).map lett).map V.bl)))
      ⟨same_up nD, upd_same⟩ (fun i G2 hi _ => hi) (fun G2 _ => Nat.le_refl _) (fun i v G2 G3 hi z y => ?_) (fun G2 z => ?_)
    · obtain ⟨e, c, hc, rfl⟩ := y
      subst e
      obtain ⟨sX, gX⟩ := z
      have hc' : x.cps.toList[i]? = some c := by rw [Array.getElem?_toList]; exact hc
      refine ⟨rfl, .str ⟨#[c]⟩, rfl, c, rfl, _, gX, ?_, same_mut sX nD, ?_⟩
      · rw [List.length_map, List.length_map, List.length_take]
        exact Nat.lt_of_lt_of_le (show _ < 1000 by have : x.cps.toList.length < 11 := hb.2; omega) (by decide)
      · rw [upd_same, List.take_add_one, hc', List.map_append, List.map_append]
        rfl
    · obtain ⟨sX, gX⟩ := z
      have ea : x.cps.toList.take x.cps.size = x.cps.toList := List.take_of_length_le (by rw [Array.length_toList]; exact Nat.le_refl _)
      rw [ea] at gX
      refine ⟨D, _, rfl, lst_of gX, ?_⟩
      rw [List.all_map]
      exact q _ sX
  | _ => exact iteT (q H (L2.Same.refl H))
theorem cIsWord (T : Txt K mg) : Cal P w K mg base 2 "is_word" (spWordA K) [] := (fIsWord T).cal fun _ _ _ _ _ _ us hl => match us, hl with | [_], _ => rfl
end
end K01
set_option Elab.async false
set_option linter.all false
set_option autoImplicit false
set_option maxRecDepth 100000
set_option maxHeartbeats 4000000
namespace K01
open PySem PySem.Spec PyProof.Rows L2 Tl
open C8 (Cal pe_c)
/-! ### order -/
def rLt3 (K : PySem.W.Frag) : R2 := fun x y H Q => rI0 (fun i j => .bl (decide (i < j))) x y H Q ∨
  ((fun x y H Q => ∃ i j, x = V.str i ∧ y = V.str j ∧ Q (.bl (decide (i.cps.toList < j.cps.toList))) H) x y H Q ∨ rLtT K x y H Q)
theorem op_lt3 {X : Cx} {K : PySem.W.Frag} (h : X.K = K) (hu : X.A.units < cLine) : OpR X (compareOp .Lt) (rLt3 K) := by
  subst h
  exact OpR.or op_lt (OpR.or op_lt_str (op_ltT hu))
def rIx2 (K : PySem.W.Frag) : R2 := fun x y H Q => rIxL K x y H Q ∨ rIxT K x y H Q
theorem ix_seqK {X : Cx} {K : PySem.W.Frag} (h : X.K = K) : IxR X (rIx2 K) := by
  subst h
  exact IxR.or ix_list ix_tup
theorem ix_tupK {X : Cx} {K : PySem.W.Frag} (h : X.K = K) : IxR X (rIxT K) := by
  subst h
  exact ix_tup
def ltD : PyData → PyData → Bool
  | .int i, .int j => decide (i < j)
  | .str x, .str y => decide (x.cps.toList < y.cps.toList)
  | .tuple [.int a, .int b], .tuple [.int c, .int e] => HT.lexLt [a, b] [c, e]
  | _, _ => false
inductive Like : PyData → PyData → Prop
  | int (i j : Int) : Like (.int i) (.int j)
  | str (x y : Str) : Like (.str x) (.str y)
  | prs (a b c e : Int) : Like (.tuple [.int a, .int b]) (.tuple [.int c, .int e])
def ascD (ds : List PyData) : Bool := ((List.range (ds.length - 1)).map fun k => ltD (ds.getD k .none) (ds.getD (k + 1) .none)).all id
theorem av_pr {K : PySem.W.Frag} {M : Addr → Prop} {H : Hp} {v : V} {a b : Int} (h : Av K M H v (.tuple [.int a, .int b])) : ∃ p, v = .ref p ∧ SqT K H p [.int a, .int b] := by
  cases h with
  | tup h1 h2 => cases h2 with
    | cons g1 g2 => cases g1; cases g2 with
      | cons g3 g4 => cases g3; cases g4; exact ⟨_, rfl, h1⟩
theorem lt_r {K : PySem.W.Frag} {M : Addr → Prop} {H : Hp} {x y : V} {a b : PyData} {Q : VK} (hx : Av K M H x a) (hy : Av K M H y b) (h : Like a b) (q : Q (.bl (ltD a b)) H) : rLt3 K x y H Q := by
  cases h with
  | int i j =>
    cases hx
    cases hy
    exact .inl ⟨_, _, rfl, rfl, q⟩
  | str i j =>
    cases hx
    cases hy
    exact .inr (.inl ⟨_, _, rfl, rfl, q⟩)
  | prs a b c e =>
    obtain ⟨p, rfl, h1⟩ := av_pr hx
    obtain ⟨r, rfl, h2⟩ := av_pr hy
    exact .inr (.inr ⟨p, r, [a, b], [c, e], rfl, rfl, h1, h2, q⟩)
def fstD : PyData → PyData
  | .tuple (a :: _) => a
  | _ => .none
section
variable {P : Program} {w : World} {K : PySem.W.Frag} {mg : Str → Option Value} {base : Heap}
def spAsc (K : PySem.W.Frag) : Sp := fun vs H Q _ => ∃ (a : Addr) (xs : List V) (ds : List PyData) (M : Addr → Prop), vs = [.ref a] ∧ (SqL K H a xs ∨ SqT K H a xs) ∧ Avs K M H xs ds ∧ ds.length ≤ 1000 ∧
  (∀ x ∈ ds, ∀ y ∈ ds, Like x y) ∧ ∀ H', L2.Same H H' → Q (.bl (ascD ds)) H'
theorem cIsAscending (T : Txt K mg) : Cal P w K mg base 1 "is_ascending" (spAsc K) [] := by
  refine cal_of T.isAscending scIsAscending (fun _ _ _ _ _ _ us hl => match us, hl with | [_], _ => rfl) (fun vs H Q E h => ?_) (fun f cdv A outer s H vs Q E hr h => ?_)
  · obtain ⟨a, xs, ds, M, rfl, _⟩ := h
    rfl
  obtain ⟨a, xs, ds, M, rfl, ha, hd, len, like, q⟩ := h
  have hu := hr.units
  refine ⟨_, (pss_one (ps_ret (pe_callB (cr_all rfl) (by rfl) T.all (by decide +kernel) (pa_cons (pe_lc (own := [("k", 1)]) (by rfl) scIsAscending.nd (pi_range1 rfl T.range (pa_cons (pe_op op_sub (pe_callB call_len_seq (by rfl) T.len (by decide +kernel) (pa_cons (pv 0) pa_nil)) pe_int) pa_nil)) (blkOk_by (own := [("k", 1)]) (N := ["items", "k"]) (sc := defScope sIsAscending) (by decide +kernel)) (fun _ _ _ _ _ => (pg_name (i := 1) scIsAscending.nd rfl (.inl rfl))) (fun _ _ _ _ _ => pts_nil) (fun _ _ _ _ _ => (pe_cmpR (op_lt3 (K := K) rfl (Nat.lt_of_le_of_lt (Nat.le_add_right _ 64) hu)) (pe_ix (ix_seqK (K := K) rfl) (pv 0) (pv 1) (fun _ _ => rfl)) (pe_ix (ix_seqK (K := K) rfl) (pv 0) (pe_op op_add (pv 1) pe_int) (fun _ _ => rfl)) (nomark _)))) pa_nil)))), ?_⟩
  have lxs := hd.len
  refine ⟨.ref a, rfl, a, xs, rfl, ha, _, 1, rfl, rfl, _, rfl, by omega, by omega, fun D nD => ?_⟩
  have hn : ((xs.length : Int) - 1).toNat = xs.length - 1 := by omega
  rw [hn]
  have seq : ∀ X, L2.Same H X → SqL K X a xs ∨ SqT K X a xs := fun X e => ha.imp (fun h => e.seq h) fun h => (Tl.Same.stay e).tup h
  refine lc_range (lo := 0) (n := xs.length - 1) (fun i X => L2.Same H X ∧ X D = some (.lst (((List.range i).map fun k => ltD (ds.getD k .none) (ds.getD (k + 1) .none)).map V.bl))) ⟨same_up nD, upd_same⟩ (fun i X hi z => ?_) (fun X z => ?_)
  · obtain ⟨sX, gX⟩ := z
    obtain ⟨x, hx⟩ : ∃ x, xs[i]? = some x := ⟨_, List.getElem?_eq_getElem (by omega)⟩
    obtain ⟨y, hy⟩ : ∃ y, xs[i + 1]? = some y := ⟨_, List.getElem?_eq_getElem (by omega)⟩
    have ix : ∀ (j : Nat) (v : V), xs[j]? = some v → ∀ Q : VK, Q v X → rIx2 K (.ref a) (.int (j : Int)) X Q := fun j v hj Q h => by
      rcases seq X sX with z | z
      · exact .inl ⟨a, xs, _, v, rfl, rfl, z, atI_nat hj, h⟩
      · exact .inr ⟨a, xs, _, v, rfl, rfl, z, atI_nat hj, h⟩
    obtain ⟨dx, hdx, avx⟩ := hd.at hx
    obtain ⟨dy, hdy, avy⟩ := hd.at hy
    refine ⟨rfl, .ref a, rfl, .int _, rfl, ?_⟩
    rw [show (0 : Int) + (i : Int) = ((i : Nat) : Int) by omega]
    refine ix i x hx _ ⟨.ref a, rfl, .int _, rfl, _, 1, rfl, rfl, ?_⟩
    show rIx2 K (V.ref a) (V.int (((i : Nat) : Int) + 1)) X _
    rw [show ((i : Nat) : Int) + 1 = ((i + 1 : Nat) : Int) by omega]
    refine ix (i + 1) y hy _ (lt_r (avx.s sX) (avy.s sX) (like dx (List.mem_of_getElem? hdx) dy (List.mem_of_getElem? hdy)) ⟨_, gX, ?_, same_mut sX nD, ?_⟩)
    · rw [List.length_map, List.length_map, List.length_range]
      exact Nat.lt_of_lt_of_le (show i < 1000 by omega) (by decide)
    · rw [upd_same, List.range_succ, List.map_append, List.map_append]
      show some (HO.lst (_ ++ [V.bl (ltD dx dy)])) = some (HO.lst (_ ++ [V.bl (ltD (ds.getD i .none) (ds.getD (i + 1) .none))]))
      rw [List.getD_eq_getElem?_getD, hdx, List.getD_eq_getElem?_getD, hdy]
      rfl
  · obtain ⟨sX, gX⟩ := z
    refine ⟨D, _, rfl, lst_of gX, ?_⟩
    rw [lxs]
    exact q X sX
theorem pair_len {ds : List PyData} (h : pairD (.tuple ds) = true) : ∃ a b, ds = [a, b] := by
  have h : decide (ds.length = 2) = true := h
  rw [decide_eq_true_eq] at h
  match ds, h with
  | [a, b], _ => exact ⟨a, b, rfl⟩
theorem av_two {M : Addr → Prop} {H : Hp} {v : V} {a b : PyData} (h : Av K M H v (.tuple [a, b])) : ∃ p x y, v = .ref p ∧ SqT K H p [x, y] ∧ Av K M H x a ∧ Av K M H y b := by
  cases h with
  | tup h1 h2 => cases h2 with
    | cons g1 g2 => cases g2 with
      | cons g3 g4 => cases g4; exact ⟨_, _, _, rfl, h1, g1, g3⟩
theorem all_bad {α : Type} {p : α → Bool} {ds : List α} {i : Nat} {d : α} (h : ds[i]? = some d) (n : p d = false) : ds.all p = false := by
  refine Bool.eq_false_iff.mpr fun z => ?_
  have := List.all_eq_true.mp z d (List.mem_of_getElem? h)
  rw [n] at this
  cases this
theorem held_of {k : Nat} {x : Str} {sp : Sp} (c : Cal P w K mg base k x sp []) : ∃ f, mg x = some (.ref f) ∧ Held P w K mg base k f sp := by
  obtain ⟨f, fd, ps, ds, F, hm, kp, b, d⟩ := c.ex
  cases d
  exact ⟨f, hm, ⟨fd, ps, F, kp, b⟩⟩
end
end K01
set_option Elab.async false
set_option linter.all false
set_option autoImplicit false
set_option maxRecDepth 100000
set_option maxHeartbeats 2000000
/-! any values: +, -, slices, items, turned about, list(), str(), == 1 -/
namespace Tl
open PySem PySem.Spec PyProof.Rows L2
def bI (b : Bool) : Int := if b = true then 1 else 0
def numO : PyData → Option Int
  | .int i => some i
  | .bool b => some (bI b)
  | _ => none
def addD : PyData → PyData → Option PyData
  | .tuple a, .tuple b => some (.tuple (a ++ b))
  | .int a, .int b => some (.int (a + b))
  | .bool a, .int b => some (.int (bI a + b))
  | .str a, .str b => some (.str (a ++ b))
  | _, _ => none
def subD : PyData → PyData → Option PyData
  | .int a, .int b => some (.int (a - b))
  | .bool a, .int b => some (.int (bI a - b))
  | _, _ => none
def negD : PyData → Option PyData
  | .int a => some (.int (-a))
  | .bool a => some (.int (-bI a))
  | _ => none
def eqID : PyData → PyData → Option PyData
  | .int a, .int b => some (.bool (a == b))
  | .bool a, .int b => some (.bool (bI a == b))
  | _, _ => none
def cutD (xs : List PyData) (lo hi : Option Int) : List PyData := (xs.drop (HT.sIx xs.length 0 lo)).take (HT.sIx xs.length xs.length hi - HT.sIx xs.length 0 lo)
def slD (lo hi : Option Int) : PyData → Option PyData
  | .tuple a => some (.tuple (cutD a lo hi))
  | .str a => some (.str (cutS a lo hi))
  | _ => none
def revD : PyData → Option PyData
  | .tuple a => some (.tuple a.reverse)
  | _ => none
def lstD : PyData → Option PyData
  | .tuple a => some (.list a)
  | _ => none
def strD : PyData → Option PyData
  | .int a => some (.str (toString a))
  | .bool b => some (.str (if b = true then "True" else "False"))
  | _ => none
def atD : PyData → PyData → Option PyData
  | .tuple a, .int k => atI a k
  | _, _ => none
/-- its tuples, lists, texts have at most k items, its ints less than k bits -/
def hz (k : Nat) : PyData → Bool
  | .int i => decide (i.natAbs < 2 ^ k)
  | .str x => decide (x.length ≤ k)
  | .list ds => decide (ds.length ≤ k) && hzAll ds
  | .tuple ds => decide (ds.length ≤ k) && hzAll ds
  | .dict kvs => kvs.isEmpty
  | _ => true
where hzAll : List PyData → Bool
  | [] => true
  | d :: ds => hz k d && hzAll ds
theorem hzAll_iff {k : Nat} : ∀ {ds : List PyData}, hz.hzAll k ds = true ↔ ∀ d ∈ ds, hz k d = true
  | [] => by simp [hz.hzAll]
  | d :: ds => by
    rw [hz.hzAll, Bool.and_eq_true, hzAll_iff]
    simp
theorem hz_tup {k : Nat} {ds : List PyData} : hz k (.tuple ds) = true ↔ ds.length ≤ k ∧ ∀ d ∈ ds, hz k d = true := by
  rw [hz, Bool.and_eq_true, decide_eq_true_eq, hzAll_iff]
theorem hz_lst {k : Nat} {ds : List PyData} : hz k (.list ds) = true ↔ ds.length ≤ k ∧ ∀ d ∈ ds, hz k d = true := by
  rw [hz, Bool.and_eq_true, decide_eq_true_eq, hzAll_iff]
theorem hz_str {k : Nat} {x : Str} : hz k (.str x) = true ↔ x.length ≤ k := by
  rw [hz, decide_eq_true_eq]
theorem hz_int {k : Nat} {i : Int} : hz k (.int i) = true ↔ i.natAbs < 2 ^ k := by
  rw [hz, decide_eq_true_eq]
theorem hz_up {j k : Nat} (h : j ≤ k) : ∀ {d : PyData}, hz j d = true → hz k d = true
  | .none, _ => rfl
  | .bool _, _ => rfl
  | .int i, z => hz_int.mpr (Nat.lt_of_lt_of_le (hz_int.mp z) (Nat.pow_le_pow_right (by decide) h))
  | .str x, z => hz_str.mpr (Nat.le_trans (hz_str.mp z) h)
  | .list ds, z => by
    have ⟨z1, z2⟩ := hz_lst.mp z
    exact hz_lst.mpr ⟨Nat.le_trans z1 h, fun d m => hz_up h (z2 d m)⟩
  | .tuple ds, z => by
    have ⟨z1, z2⟩ := hz_tup.mp z
    exact hz_tup.mpr ⟨Nat.le_trans z1 h, fun d m => hz_up h (z2 d m)⟩
  | .dict kvs, z => z
theorem cutD_sub {xs : List PyData} {lo hi : Option Int} {d : PyData} (m : d ∈ cutD xs lo hi) : d ∈ xs := List.mem_of_mem_drop (List.mem_of_mem_take m)
theorem cutD_len (xs : List PyData) (lo hi : Option Int) : (cutD xs lo hi).length ≤ xs.length := by
  unfold cutD
  rw [List.length_take, List.length_drop]
  omega
section
variable {K : PySem.W.Frag} {M : Addr → Prop} {H : Hp}
theorem Avs.cut {xs : List V} {ds : List PyData} (h : Avs K M H xs ds) (lo hi : Option Int) : Avs K M H (cutV xs lo hi) (cutD ds lo hi) := by
  unfold cutV cutD
  rw [h.len]
  exact (h.drop _).take _
end
/-- what an operation of any values gives -/
def Gv (K : PySem.W.Frag) (M : Addr → Prop) (H : Hp) (f : PyData) (Q : VK) : Prop := ∀ v H', L2.Same H H' → Av K M H' v f → Q v H'
def rAddA (K : PySem.W.Frag) : R2 := fun x y H Q => ∃ (M : Addr → Prop), ∃ d e f, Av K M H x d ∧ Av K M H y e ∧ hz 4000000 d = true ∧ hz 4000000 e = true ∧ addD d e = some f ∧ Gv K M H f Q
def rSubA (K : PySem.W.Frag) : R2 := fun x y H Q => ∃ (M : Addr → Prop), ∃ d e f, Av K M H x d ∧ Av K M H y e ∧ subD d e = some f ∧ Gv K M H f Q
def rEqIA (K : PySem.W.Frag) : R2 := fun x y H Q => ∃ (M : Addr → Prop), ∃ d e f, Av K M H x d ∧ Av K M H y e ∧ eqID d e = some f ∧ Gv K M H f Q
def rNegA (K : PySem.W.Frag) : V → Hp → VK → Prop := fun x H Q => ∃ (M : Addr → Prop), ∃ d f, Av K M H x d ∧ negD d = some f ∧ Gv K M H f Q
def rSlAv (K : PySem.W.Frag) : V → Option Int → Option Int → Hp → VK → Prop := fun x lo hi H Q => ∃ (M : Addr → Prop), ∃ d f, Av K M H x d ∧ hz 4000000 d = true ∧ slD lo hi d = some f ∧ Gv K M H f Q
def rIxAv (K : PySem.W.Frag) : R2 := fun x y H Q => ∃ (M : Addr → Prop), ∃ d e f, Av K M H x d ∧ Av K M H y e ∧ atD d e = some f ∧ Gv K M H f Q
def rStrA (K : PySem.W.Frag) : List V → Hp → VK → Prop := fun xs H Q => ∃ (M : Addr → Prop), ∃ x d f, xs = [x] ∧ Av K M H x d ∧ hz 1900 d = true ∧ strD d = some f ∧ Gv K M H f Q
def rLstA (K : PySem.W.Frag) : List V → Hp → VK → Prop := fun xs H Q => ∃ (M : Addr → Prop), ∃ x d f, xs = [x] ∧ Av K M H x d ∧ Pre M H ∧ lstD d = some f ∧ Gv K M H f Q
theorem sl_any {K : PySem.W.Frag} {H : Hp} {Q : VK} {a : Addr} {xs : List V} {lo hi : Option Int} (ha : SqT K H a xs) (q : ∀ r H', L2.Same H H' → SqT K H' r (cutV xs lo hi) → Q (.ref r) H') : rSlA K (.ref a) lo hi H Q := by
  refine ⟨a, xs, rfl, ha, fun e => ?_, fun _ p np => q p _ (same_up np) (tupOf upd_same)⟩
  refine q a H (L2.Same.refl H) ?_
  unfold cutV
  rw [e.1, e.2, List.drop_zero, Nat.sub_zero, List.take_of_length_le (Nat.le_refl _)]
  exact ha
theorem cat_any {K : PySem.W.Frag} {H : Hp} {Q : VK} {a b : Addr} {xs ys : List V} (ha : SqT K H a xs) (hb : SqT K H b ys) (len : xs.length + ys.length ≤ sizeLine) (q : ∀ r H', L2.Same H H' → SqT K H' r (xs ++ ys) → Q (.ref r) H') : rCatA K (.ref a) (.ref b) H Q := by
  refine ⟨a, b, xs, ys, rfl, rfl, ha, hb, len, fun e => ?_, fun _ e => ?_, fun _ _ p np => q p _ (same_up np) (tupOf upd_same)⟩
  · subst e
    exact q b H (L2.Same.refl H) hb
  · subst e
    exact q a H (L2.Same.refl H) (by rw [List.append_nil]; exact ha)
theorem neg_bool {prog : Program} {w : World} {A : Around} {E : Value → Shared → Prop} {s : Shared} {a : Bool} {Q : Value → Shared → Prop} (h : Q (.int (-bI a) s.toks) { s with toks := s.toks + 1 }) : wpAny (model prog w) A (unaryOp .USub (.bool a)) Q E s := by
  unfold unaryOp
  refine wpAny_holding ?_
  refine wpAny_bind (m := callSpecial? (.bool a) (Str.ofString "__neg__")) (wpAny_callSpecial?_slot (name := Str.ofString "__neg__") (PySem.typeIs_bool s a) PySem.F.slot_bool_neg
    (wpAny_call_entry PySem.F.slot_bool_neg (PySem.typeIs_bool s a) entry_int_neg ?_ (args_int_neg _)))
  show wpAny _ _ (do ret (← mkInt (-bI a))) _ _ s
  exact wpAny_ret_mkInt (wpAny_pure h)
section
variable {X : Cx}
theorem op_addA {K : PySem.W.Frag} (hK : X.K = K) : OpR X (binaryOp .Add) (rAddA K) := by
  subst hK
  intro pins s σ H x y v u Q I rx ry h
  obtain ⟨M, d, e, f, hd, he, zd, ze, hf, q⟩ := h
  unfold addD at hf
  split at hf <;> cases hf
  · cases hd with
    | tup a1 a2 => cases he with
      | tup b1 b2 =>
        refine op_catA pins s σ H _ _ v u Q I rx ry (cat_any a1 b1 ?_ fun r H' s h => q _ _ s (.tup h ((a2.s s).app (b2.s s))))
        have l1 := (hz_tup.mp zd).1
        have l2 := (hz_tup.mp ze).1
        rw [a2.len, b2.len, sizeLine_eq]
        omega
  · cases hd
    cases he
    exact op_add pins s σ H _ _ v u Q I rx ry ⟨_, _, rfl, rfl, q _ _ (L2.Same.refl H) (.int _)⟩
  · cases hd
    cases he
    cases rx
    obtain ⟨t, rfl⟩ := ry
    exact PySem.IntBool.add_bool_int ⟨.int _, H, I.tok _, ⟨_, rfl⟩, q _ _ (L2.Same.refl H) (.int _)⟩
  · cases hd
    cases he
    refine op_add_str pins s σ H _ _ v u Q I rx ry ⟨_, _, rfl, rfl, ?_, q _ _ (L2.Same.refl H) (.str _)⟩
    have l1 := hz_str.mp zd
    have l2 := hz_str.mp ze
    rw [sizeLine_eq]
    omega
theorem op_subA {K : PySem.W.Frag} (hK : X.K = K) : OpR X (binaryOp .Sub) (rSubA K) := by
  subst hK
  intro pins s σ H x y v u Q I rx ry h
  obtain ⟨M, d, e, f, hd, he, hf, q⟩ := h
  unfold subD at hf
  split at hf <;> cases hf
  · cases hd
    cases he
    exact op_sub pins s σ H _ _ v u Q I rx ry ⟨_, _, rfl, rfl, q _ _ (L2.Same.refl H) (.int _)⟩
  · cases hd
    cases he
    cases rx
    obtain ⟨t, rfl⟩ := ry
    exact PySem.IntBool.sub_bool_int ⟨.int _, H, I.tok _, ⟨_, rfl⟩, q _ _ (L2.Same.refl H) (.int _)⟩
theorem op_eqIA {K : PySem.W.Frag} (hK : X.K = K) : OpR X (compareOp .Eq) (rEqIA K) := by
  subst hK
  intro pins s σ H x y v u Q I rx ry h
  obtain ⟨M, d, e, f, hd, he, hf, q⟩ := h
  unfold eqID at hf
  split at hf <;> cases hf
  · cases hd
    cases he
    refine op_eq pins s σ H _ _ v u Q I rx ry ⟨rfl, ?_⟩
    rw [dec_int]
    exact q _ _ (L2.Same.refl H) (.bl _)
  · cases hd
    cases he
    cases rx
    obtain ⟨t, rfl⟩ := ry
    exact PySem.EqBoolInt.eq_bool_int ⟨.bl _, H, I, rfl, q _ _ (L2.Same.refl H) (.bl _)⟩
theorem un_negA {K : PySem.W.Frag} (hK : X.K = K) : UnR X (unaryOp .USub) (rNegA K) := by
  subst hK
  intro pins s σ H x v Q I rx h
  obtain ⟨M, d, f, hd, hf, q⟩ := h
  unfold negD at hf
  split at hf <;> cases hf
  · cases hd
    exact un_neg pins s σ H _ v Q I rx ⟨_, rfl, q _ _ (L2.Same.refl H) (.int _)⟩
  · cases hd
    cases rx
    exact neg_bool ⟨.int _, H, I.tok _, ⟨_, rfl⟩, q _ _ (L2.Same.refl H) (.int _)⟩
theorem sl_av {K : PySem.W.Frag} (hK : X.K = K) : SlR X (rSlAv K) := by
  subst hK
  intro pins s σ H x v vl vu lo hi sl Q I rx hs pl pu h
  obtain ⟨M, d, f, hd, zd, hf, q⟩ := h
  unfold slD at hf
  split at hf <;> cases hf
  · cases hd with
    | tup a1 a2 => exact sl_tupA pins s σ H _ v vl vu lo hi sl Q I rx hs pl pu (sl_any a1 fun r H' s h => q _ _ s (.tup h ((a2.s s).cut lo hi)))
  · cases hd
    refine sl_str pins s σ H _ v vl vu lo hi sl Q I rx hs pl pu ⟨_, rfl, ?_, q _ _ (L2.Same.refl H) (.str _)⟩
    have l1 := hz_str.mp zd
    rw [sizeLine_eq]
    omega
theorem ix_av {K : PySem.W.Frag} (hK : X.K = K) : IxR X (rIxAv K) := by
  subst hK
  intro value slice pins s σ H x y v u Q I rx ry h hs
  obtain ⟨M, d, e, f, hd, he, hf, q⟩ := h
  unfold atD at hf
  split at hf <;> try cases hf
  cases hd with
  | tup a1 a2 =>
    cases he
    obtain ⟨z, h1, h2⟩ := atI_avs a2 hf
    exact ix_tup value slice pins s σ H _ _ v u Q I rx ry ⟨_, _, _, z, rfl, rfl, a1, h1, q _ _ (L2.Same.refl H) h2⟩ hs
theorem log_lt {n k : Nat} (h : n < 2 ^ k) (hk : 0 < k) : n.log2 < k := by
  by_cases z : n = 0
  · subst z
    simpa using hk
  · exact (Nat.log2_lt z).mpr h
theorem cr_strA {K : PySem.W.Frag} (hK : X.K = K) : CallR X (.type "str") (rStrA K) := by
  subst hK
  intro pins s σ H xs us Q I r h
  obtain ⟨M, x, d, f, rfl, hd, zd, hf, q⟩ := h
  unfold strD at hf
  split at hf <;> cases hf
  · cases hd
    exact call_str_int pins s σ H _ us Q I r ⟨_, rfl, Nat.lt_trans (log_lt (hz_int.mp zd) (by decide)) (by decide), q _ _ (L2.Same.refl H) (.str _)⟩
  · cases hd
    obtain ⟨u, rfl, r1⟩ := vals1 r
    cases r1
    exact PySem.P.str_of_bool ⟨.str _, H, I.tok _, ⟨_, rfl⟩, q _ _ (L2.Same.refl H) (.str _)⟩
theorem cr_lstA {K : PySem.W.Frag} (hK : X.K = K) : CallR X (.type "list") (rLstA K) := by
  subst hK
  intro pins s σ H xs us Q I r h
  obtain ⟨M, x, d, f, rfl, hd, pr, hf, q⟩ := h
  unfold lstD at hf
  split at hf <;> cases hf
  cases hd with
  | tup a1 a2 =>
    refine call_list_ofN pins s σ H _ us Q I r ⟨_, _, rfl, .inr a1, fun l nl ne => ?_⟩
    exact q _ _ (same_up nl) (.lst (pr.new nl ne) (.inl upd_same) (a2.s (same_up nl)))
def tRevA (K : PySem.W.Frag) (te : TE) : TE := fun σ H Q => te σ H fun x H1 => ∃ (M : Addr → Prop), ∃ d f, Av K M H1 x d ∧ revD d = some f ∧ Gv K M H1 f Q
def tMono (te : TE) : TE := fun σ H Q => ∃ Q0 : VK, te σ H Q0 ∧ ∀ x H1, Q0 x H1 → Q x H1
theorem pe_mono {e : Expr} {te : TE} (he : PE X e te) : PE X e (tMono te) := ⟨fun pins s σ H Q I ⟨Q0, h, k⟩ =>
  thn (he.run pins s σ H _ I h) fun u s1 ⟨x, H1, I1, r1, q1⟩ => ⟨x, H1, I1, r1, k x H1 q1⟩⟩
theorem pe_revA {K : PySem.W.Frag} {e : Expr} {te : TE} {k : Nat} {p1 p2 p3 pos : Pos} (hK : X.K = K) (he : PE X e te) : PE X (.Subscript e (.Slice none none (some (.UnaryOp .USub (.Constant (.int 1) k p1) p2)) p3) pos) (tRevA K te) := by
  refine (pe_revT (K := K) hK (pe_mono he)).wk fun σ H Q q => ⟨_, q, fun x H1 ⟨M, d, f, hd, hf, q1⟩ => ?_⟩
  unfold revD at hf
  split at hf <;> cases hf
  cases hd with
  | tup a1 a2 =>
    refine ⟨_, _, rfl, a1, fun p np => ?_⟩
    exact q1 _ _ (same_up np) (.tup (tupOf upd_same) (a2.s (same_up np)).rev)
end
end Tl
set_option Elab.async false
set_option linter.all false
set_option autoImplicit false
set_option maxRecDepth 100000
set_option maxHeartbeats 2000000
/-! expressions of any values: what they give -/
namespace Tl
open PySem PySem.Spec PyProof.Rows L2
inductive Ex where
  | con (d : PyData) | var (i : Nat) | ixs (i : Nat) (k : Int) | tup (l : Ex) | lst (l : Ex) | nil | cons (a b : Ex)
  | at_ (t i : Ex) | sl (t lo hi : Ex) | no | rev (t : Ex) | add (a b : Ex) | sub (a b : Ex) | neg (a : Ex) | eqi (a b : Ex) | lstf (t : Ex) | strf (t : Ex) | up (t : Ex)
def upD : PyData → Option PyData
  | .str a => some (.str (Txt.upper a))
  | _ => none
def rseqs : Option Rho → Option (List PyData)
  | some (.seq d) => some d
  | some (.dat (.tuple d)) => some d
  | _ => none
def one (x : Option (List PyData)) : Option PyData := match x with
  | some [d] => some d
  | _ => none
def onei (x : Option (List PyData)) : Option Int := match x with
  | some [.int i] => some i
  | _ => none
def some1 (x : Option PyData) : Option (List PyData) := x.map fun d => [d]
def Ex.isNo : Ex → Bool
  | .no => true
  | _ => false
def prt (b : Bool) (x : Option (List PyData)) : Option (Option Int) := if b = true then some none else (onei x).map some
def Ex.ev (ρ : List Rho) : Ex → Option (List PyData)
  | .con d => some [d]
  | .var i => some1 (rdat ρ[i]?)
  | .ixs i k => some1 ((rseqs ρ[i]?).bind fun ds => atI ds k)
  | .tup l => (l.ev ρ).map fun ds => [.tuple ds]
  | .lst l => (l.ev ρ).map fun ds => [.list ds]
  | .nil => some []
  | .cons a b => (one (a.ev ρ)).bind fun x => (b.ev ρ).map fun y => x :: y
  | .at_ t i => some1 ((one (t.ev ρ)).bind fun x => (one (i.ev ρ)).bind fun y => atD x y)
  | .no => none
  | .sl t lo hi => some1 ((one (t.ev ρ)).bind fun x => (prt lo.isNo (lo.ev ρ)).bind fun l => (prt hi.isNo (hi.ev ρ)).bind fun u => slD l u x)
  | .rev t => some1 ((one (t.ev ρ)).bind revD)
  | .add a b => some1 ((one (a.ev ρ)).bind fun x => (one (b.ev ρ)).bind fun y => addD x y)
  | .sub a b => some1 ((one (a.ev ρ)).bind fun x => (one (b.ev ρ)).bind fun y => subD x y)
  | .eqi a b => some1 ((one (a.ev ρ)).bind fun x => (one (b.ev ρ)).bind fun y => eqID x y)
  | .neg a => some1 ((one (a.ev ρ)).bind negD)
  | .lstf a => some1 ((one (a.ev ρ)).bind lstD)
  | .strf a => some1 ((one (a.ev ρ)).bind strD)
  | .up a => some1 ((one (a.ev ρ)).bind upD)
/-- a bound on what comes, if all names have at most B -/
def cz : PyData → Nat
  | .int i => i.natAbs.log2 + 1
  | .str x => x.length
  | _ => 0
def Ex.z (B : Nat) : Ex → Nat
  | .con d => cz d
  | .var _ => B
  | .ixs _ _ => B
  | .tup l => l.z B + 1
  | .lst l => l.z B + 1
  | .nil => 0
  | .cons a b => a.z B + b.z B + 1
  | .at_ t i => t.z B + i.z B
  | .no => 0
  | .sl t lo hi => t.z B + lo.z B + hi.z B
  | .rev t => t.z B
  | .add a b => a.z B + b.z B + 1
  | .sub a b => a.z B + b.z B + 1
  | .eqi a b => a.z B + b.z B
  | .neg a => a.z B + 1
  | .lstf a => a.z B
  | .strf a => a.z B + 6
  | .up a => 3 * a.z B
def isCon : PyData → Bool
  | .none => true | .bool _ => true | .int _ => true | .str _ => true | .dict [] => true
  | _ => false
def Ex.ok (B : Nat) : Ex → Bool
  | .con d => isCon d
  | .tup l => l.ok B && decide (l.z B ≤ 4000000)
  | .lst l => l.ok B && decide (l.z B ≤ 4000000)
  | .cons a b => a.ok B && b.ok B
  | .at_ t i => t.ok B && i.ok B
  | .sl t lo hi => t.ok B && lo.ok B && hi.ok B && decide (t.z B ≤ 4000000)
  | .rev t => t.ok B
  | .add a b => a.ok B && b.ok B && decide (a.z B ≤ 4000000) && decide (b.z B ≤ 4000000)
  | .sub a b => a.ok B && b.ok B
  | .eqi a b => a.ok B && b.ok B
  | .neg a => a.ok B
  | .lstf a => a.ok B
  | .strf a => a.ok B && decide (a.z B ≤ 1900)
  | .up a => a.ok B && decide (a.z B ≤ 4000000)
  | _ => true
def rhoZ (B : Nat) : Rho → Prop
  | .no => True
  | .dat d => hz B d = true
  | .seq ds => ∀ d ∈ ds, hz B d = true
def EnvZ (B : Nat) (ρ : List Rho) : Prop := ∀ r ∈ ρ, rhoZ B r
theorem some1_eq {x : Option PyData} {ds : List PyData} (h : some1 x = some ds) : ∃ d, x = some d ∧ ds = [d] := by
  obtain ⟨d, h1, h2⟩ := Option.map_eq_some_iff.mp h
  exact ⟨d, h1, h2.symm⟩
theorem one_eq {x : Option (List PyData)} {d : PyData} (h : one x = some d) : x = some [d] := by
  unfold one at h
  split at h <;> cases h
  rfl
theorem cz_ok {d : PyData} (h : isCon d = true) : hz (cz d) d = true := by
  cases d with
  | int i => exact hz_int.mpr Nat.lt_log2_self
  | str x => exact hz_str.mpr (Nat.le_refl _)
  | none => rfl
  | bool b => rfl
  | dict k => cases k with
    | nil => rfl
    | cons a b => cases h
  | list k => cases h
  | tuple k => cases h
theorem natAbs_add {a b : Int} {m n : Nat} (h1 : a.natAbs < 2 ^ m) (h2 : b.natAbs < 2 ^ n) : (a + b).natAbs < 2 ^ (m + n + 1) := by
  have h3 : 2 ^ m ≤ 2 ^ (m + n) := Nat.pow_le_pow_right (by decide) (Nat.le_add_right _ _)
  have h4 : 2 ^ n ≤ 2 ^ (m + n) := Nat.pow_le_pow_right (by decide) (Nat.le_add_left _ _)
  have h5 : 2 ^ (m + n + 1) = 2 ^ (m + n) + 2 ^ (m + n) := by rw [Nat.pow_succ]; omega
  omega
theorem bI_lt (b : Bool) (m : Nat) : (bI b).natAbs < 2 ^ (m + 1) := by
  have : 0 < 2 ^ m := Nat.pow_pos (by decide)
  have h5 : 2 ^ (m + 1) = 2 ^ m + 2 ^ m := by rw [Nat.pow_succ]; omega
  cases b
  · show 0 < _
    omega
  · show 1 < _
    omega
theorem atI_mem {ds : List PyData} {k : Int} {d : PyData} (h : atI ds k = some d) : d ∈ ds := by
  unfold atI at h
  obtain ⟨j, _, h2⟩ := Option.bind_eq_some_iff.mp h
  exact List.mem_of_getElem? h2
theorem atD_hz {d e f : PyData} {k : Nat} (h : atD d e = some f) (z : hz k d = true) : hz k f = true := by
  unfold atD at h
  split at h <;> try cases h
  exact (hz_tup.mp z).2 _ (atI_mem h)
theorem slD_hz {d f : PyData} {lo hi : Option Int} {k : Nat} (h : slD lo hi d = some f) (z : hz k d = true) : hz k f = true := by
  unfold slD at h
  split at h <;> cases h
  · have ⟨z1, z2⟩ := hz_tup.mp z
    exact hz_tup.mpr ⟨Nat.le_trans (cutD_len _ _ _) z1, fun e m => z2 e (cutD_sub m)⟩
  · exact hz_str.mpr (Nat.le_trans (cutS_length _ _ _) (hz_str.mp z))
theorem revD_hz {d f : PyData} {k : Nat} (h : revD d = some f) (z : hz k d = true) : hz k f = true := by
  unfold revD at h
  split at h <;> cases h
  have ⟨z1, z2⟩ := hz_tup.mp z
  exact hz_tup.mpr ⟨by rw [List.length_reverse]; exact z1, fun e m => z2 e (List.mem_reverse.mp m)⟩
theorem lstD_hz {d f : PyData} {k : Nat} (h : lstD d = some f) (z : hz k d = true) : hz k f = true := by
  unfold lstD at h
  split at h <;> cases h
  exact hz_lst.mpr (hz_tup.mp z)
theorem addD_hz {d e f : PyData} {j k : Nat} (h : addD d e = some f) (z : hz j d = true) (y : hz k e = true) : hz (j + k + 1) f = true := by
  unfold addD at h
  split at h <;> cases h
  · have ⟨z1, z2⟩ := hz_tup.mp z
    have ⟨y1, y2⟩ := hz_tup.mp y
    refine hz_tup.mpr ⟨by rw [List.length_append]; omega, fun e m => ?_⟩
    rcases List.mem_append.mp m with m | m
    · exact hz_up (by omega) (z2 e m)
    · exact hz_up (by omega) (y2 e m)
  · exact hz_int.mpr (natAbs_add (hz_int.mp z) (hz_int.mp y))
  · have := natAbs_add (bI_lt (by assumption) j) (hz_int.mp y)
    refine hz_int.mpr ?_
    rename_i a b
    have y1 := hz_int.mp y
    have h3 : 2 ^ k ≤ 2 ^ (j + k) := Nat.pow_le_pow_right (by decide) (Nat.le_add_left _ _)
    have h5 : 2 ^ (j + k + 1) = 2 ^ (j + k) + 2 ^ (j + k) := by rw [Nat.pow_succ]; omega
    have h6 : (bI a).natAbs ≤ 1 := by cases a <;> decide
    omega
  · have z1 := hz_str.mp z
    have y1 := hz_str.mp y
    refine hz_str.mpr ?_
    rename_i a b
    show (a ++ b).cps.size ≤ _
    have : (a ++ b).cps.size = a.cps.size + b.cps.size := Array.size_append
    have z2 : a.cps.size ≤ j := z1
    have y2 : b.cps.size ≤ k := y1
    omega
theorem subD_hz {d e f : PyData} {j k : Nat} (h : subD d e = some f) (z : hz j d = true) (y : hz k e = true) : hz (j + k + 1) f = true := by
  unfold subD at h
  split at h <;> cases h
  · rename_i a b
    have := natAbs_add (a := a) (b := -b) (hz_int.mp z) (by rw [Int.natAbs_neg]; exact hz_int.mp y)
    exact hz_int.mpr this
  · rename_i a b
    refine hz_int.mpr ?_
    have y1 := hz_int.mp y
    have h3 : 2 ^ k ≤ 2 ^ (j + k) := Nat.pow_le_pow_right (by decide) (Nat.le_add_left _ _)
    have h5 : 2 ^ (j + k + 1) = 2 ^ (j + k) + 2 ^ (j + k) := by rw [Nat.pow_succ]; omega
    have h6 : (bI a).natAbs ≤ 1 := by cases a <;> decide
    omega
theorem negD_hz {d f : PyData} {k : Nat} (h : negD d = some f) (z : hz k d = true) : hz (k + 1) f = true := by
  unfold negD at h
  split at h <;> cases h
  · rename_i a
    refine hz_int.mpr ?_
    rw [Int.natAbs_neg]
    exact Nat.lt_of_lt_of_le (hz_int.mp z) (Nat.pow_le_pow_right (by decide) (Nat.le_succ _))
  · rename_i a
    refine hz_int.mpr ?_
    rw [Int.natAbs_neg]
    exact bI_lt a k
theorem eqID_hz {d e f : PyData} {k : Nat} (h : eqID d e = some f) : hz k f = true := by
  unfold eqID at h
  split at h <;> cases h <;> rfl
theorem strD_hz {d f : PyData} {k : Nat} (h : strD d = some f) (z : hz k d = true) : hz (k + 6) f = true := by
  unfold strD at h
  split at h <;> cases h
  · rename_i a
    have h1 := hz_int.mp z
    have h2 : 2 ^ k ≤ 10 ^ (k + 1) := Nat.le_trans (Nat.pow_le_pow_left (by decide) k) (Nat.pow_le_pow_right (by decide) (Nat.le_succ _))
    have h3 := int_text_length_le10 (k := k + 1) (Nat.succ_pos _) (Nat.lt_of_lt_of_le h1 h2)
    refine hz_str.mpr ?_
    rw [show (Str.ofString (toString a)).length = (toString a).length from PySem.ofString_length _]
    omega
  · rename_i b
    refine hz_str.mpr ?_
    cases b
    · exact Nat.le_trans (show (5 : Nat) ≤ 6 by decide) (Nat.le_add_left _ _)
    · exact Nat.le_trans (show (4 : Nat) ≤ 6 by decide) (Nat.le_add_left _ _)
theorem upD_hz {d f : PyData} {k : Nat} (h : upD d = some f) (z : hz k d = true) : hz (3 * k) f = true := by
  unfold upD at h
  split at h <;> cases h
  have h1 := hz_str.mp z
  have h2 := PyProof.Rows.len_upper (by assumption)
  exact hz_str.mpr (Nat.le_trans h2 (by omega))
theorem Ex.bnd {B : Nat} {ρ : List Rho} (hρ : EnvZ B ρ) : ∀ (L : Ex) (ds : List PyData), L.ok B = true → L.ev ρ = some ds → ds.length ≤ L.z B + 1 ∧ ∀ d ∈ ds, hz (L.z B) d = true := by
  have single : ∀ {L : Ex} {d : PyData}, hz (L.z B) d = true → [d].length ≤ L.z B + 1 ∧ ∀ e ∈ [d], hz (L.z B) e = true := fun {L d} h => ⟨Nat.le_add_left _ _, fun e m => by
    cases List.mem_singleton.mp m
    exact h⟩
  intro L
  induction L with
  | con d =>
    intro ds ok e
    cases e
    exact single (L := .con d) (cz_ok ok)
  | var i =>
    intro ds ok e
    obtain ⟨d, h1, rfl⟩ := some1_eq e
    refine single (L := .var i) ?_
    cases hr : ρ[i]? with
    | none => rw [hr] at h1; cases h1
    | some r =>
      rw [hr] at h1
      cases r <;> cases h1
      exact hρ _ (List.mem_of_getElem? hr)
  | ixs i k =>
    intro ds ok e
    obtain ⟨d, h1, rfl⟩ := some1_eq e
    refine single (L := .ixs i k) ?_
    obtain ⟨es, h2, h3⟩ := Option.bind_eq_some_iff.mp h1
    have m := atI_mem h3
    cases hr : ρ[i]? with
    | none => rw [hr] at h2; cases h2
    | some r =>
      rw [hr] at h2
      have hz := hρ _ (List.mem_of_getElem? hr)
      cases r with
      | no => cases h2
      | seq es' => cases h2; exact hz _ m
      | dat d' =>
        cases d' <;> cases h2
        exact (hz_tup.mp hz).2 _ m
  | tup l ih =>
    intro ds ok e
    obtain ⟨es, h1, h2⟩ := Option.map_eq_some_iff.mp e
    subst h2
    rw [Ex.ok, Bool.and_eq_true] at ok
    obtain ⟨g1, g2⟩ := ih es ok.1 h1
    exact single (L := .tup l) (hz_tup.mpr ⟨g1, fun d m => hz_up (Nat.le_succ _) (g2 d m)⟩)
  | lst l ih =>
    intro ds ok e
    obtain ⟨es, h1, h2⟩ := Option.map_eq_some_iff.mp e
    subst h2
    rw [Ex.ok, Bool.and_eq_true] at ok
    obtain ⟨g1, g2⟩ := ih es ok.1 h1
    exact single (L := .lst l) (hz_lst.mpr ⟨g1, fun d m => hz_up (Nat.le_succ _) (g2 d m)⟩)
  | nil =>
    intro ds ok e
    cases e
    exact ⟨Nat.zero_le _, fun d m => nomatch m⟩
  | cons a b iha ihb =>
    intro ds ok e
    rw [Ex.ok, Bool.and_eq_true] at ok
    obtain ⟨x, h1, h2⟩ := Option.bind_eq_some_iff.mp e
    obtain ⟨y, h3, h4⟩ := Option.map_eq_some_iff.mp h2
    subst h4
    obtain ⟨a1, a2⟩ := iha _ ok.1 (one_eq h1)
    obtain ⟨b1, b2⟩ := ihb _ ok.2 h3
    refine ⟨?_, fun d m => ?_⟩
    · rw [List.length_cons]
      show _ ≤ a.z B + b.z B + 1 + 1
      omega
    · rcases List.mem_cons.mp m with rfl | m
      · exact hz_up (show a.z B ≤ a.z B + b.z B + 1 by omega) (a2 _ List.mem_cons_self)
      · exact hz_up (show b.z B ≤ a.z B + b.z B + 1 by omega) (b2 _ m)
  | at_ t i iht ihi =>
    intro ds ok e
    rw [Ex.ok, Bool.and_eq_true] at ok
    obtain ⟨d, h1, rfl⟩ := some1_eq e
    obtain ⟨x, h2, h3⟩ := Option.bind_eq_some_iff.mp h1
    obtain ⟨y, h4, h5⟩ := Option.bind_eq_some_iff.mp h3
    exact single (L := .at_ t i) (hz_up (Nat.le_add_right _ _) (atD_hz h5 ((iht _ ok.1 (one_eq h2)).2 _ List.mem_cons_self)))
  | sl t lo hi iht _ _ =>
    intro ds ok e
    rw [Ex.ok, Bool.and_eq_true, Bool.and_eq_true, Bool.and_eq_true] at ok
    obtain ⟨d, h1, rfl⟩ := some1_eq e
    obtain ⟨x, h2, h3⟩ := Option.bind_eq_some_iff.mp h1
    obtain ⟨l, h4, h3⟩ := Option.bind_eq_some_iff.mp h3
    obtain ⟨u, h5, h3⟩ := Option.bind_eq_some_iff.mp h3
    exact single (L := .sl t lo hi) (hz_up (show t.z B ≤ t.z B + lo.z B + hi.z B by omega) (slD_hz h3 ((iht _ ok.1.1.1 (one_eq h2)).2 _ List.mem_cons_self)))
  | no => intro ds ok e; cases e
  | rev t ih =>
    intro ds ok e
    obtain ⟨d, h1, rfl⟩ := some1_eq e
    obtain ⟨x, h2, h3⟩ := Option.bind_eq_some_iff.mp h1
    exact single (L := .rev t) (revD_hz h3 ((ih _ ok (one_eq h2)).2 _ List.mem_cons_self))
  | add a b iha ihb =>
    intro ds ok e
    rw [Ex.ok, Bool.and_eq_true, Bool.and_eq_true, Bool.and_eq_true] at ok
    obtain ⟨d, h1, rfl⟩ := some1_eq e
    obtain ⟨x, h2, h3⟩ := Option.bind_eq_some_iff.mp h1
    obtain ⟨y, h4, h5⟩ := Option.bind_eq_some_iff.mp h3
    exact single (L := .add a b) (addD_hz h5 ((iha _ ok.1.1.1 (one_eq h2)).2 _ List.mem_cons_self) ((ihb _ ok.1.1.2 (one_eq h4)).2 _ List.mem_cons_self))
  | sub a b iha ihb =>
    intro ds ok e
    rw [Ex.ok, Bool.and_eq_true] at ok
    obtain ⟨d, h1, rfl⟩ := some1_eq e
    obtain ⟨x, h2, h3⟩ := Option.bind_eq_some_iff.mp h1
    obtain ⟨y, h4, h5⟩ := Option.bind_eq_some_iff.mp h3
    exact single (L := .sub a b) (subD_hz h5 ((iha _ ok.1 (one_eq h2)).2 _ List.mem_cons_self) ((ihb _ ok.2 (one_eq h4)).2 _ List.mem_cons_self))
  | eqi a b iha ihb =>
    intro ds ok e
    obtain ⟨d, h1, rfl⟩ := some1_eq e
    obtain ⟨x, h2, h3⟩ := Option.bind_eq_some_iff.mp h1
    obtain ⟨y, h4, h5⟩ := Option.bind_eq_some_iff.mp h3
    exact single (L := .eqi a b) (eqID_hz h5)
  | neg a ih =>
    intro ds ok e
    obtain ⟨d, h1, rfl⟩ := some1_eq e
    obtain ⟨x, h2, h3⟩ := Option.bind_eq_some_iff.mp h1
    exact single (L := .neg a) (negD_hz h3 ((ih _ ok (one_eq h2)).2 _ List.mem_cons_self))
  | lstf t ih =>
    intro ds ok e
    obtain ⟨d, h1, rfl⟩ := some1_eq e
    obtain ⟨x, h2, h3⟩ := Option.bind_eq_some_iff.mp h1
    exact single (L := .lstf t) (lstD_hz h3 ((ih _ ok (one_eq h2)).2 _ List.mem_cons_self))
  | strf t ih =>
    intro ds ok e
    rw [Ex.ok, Bool.and_eq_true] at ok
    obtain ⟨d, h1, rfl⟩ := some1_eq e
    obtain ⟨x, h2, h3⟩ := Option.bind_eq_some_iff.mp h1
    exact single (L := .strf t) (strD_hz h3 ((ih _ ok.1 (one_eq h2)).2 _ List.mem_cons_self))
  | up t ih =>
    intro ds ok e
    rw [Ex.ok, Bool.and_eq_true] at ok
    obtain ⟨d, h1, rfl⟩ := some1_eq e
    obtain ⟨x, h2, h3⟩ := Option.bind_eq_some_iff.mp h1
    exact single (L := .up t) (upD_hz h3 ((ih _ ok.1 (one_eq h2)).2 _ List.mem_cons_self))
/-! ### the rules -/
/-- a value / values, as an expression says -/
def tEx (K : PySem.W.Frag) (L : Ex) : TE := fun σ H Q => ∃ (M : Addr → Prop), Pre M H ∧ ∃ (B : Nat) (ρ : List Rho) (d : PyData), EnvA K M H σ ρ ∧ EnvZ B ρ ∧ L.ok B = true ∧ L.ev ρ = some [d] ∧ Gv K M H d Q
def tExs (K : PySem.W.Frag) (L : Ex) : TA := fun σ H Q => ∃ (M : Addr → Prop), Pre M H ∧ ∃ (B : Nat) (ρ : List Rho) (ds : List PyData), EnvA K M H σ ρ ∧ EnvZ B ρ ∧ L.ok B = true ∧ L.ev ρ = some ds ∧ ∀ vs H', L2.Same H H' → Avs K M H' vs ds → Q vs H'
section
variable {X : Cx} {K : PySem.W.Frag}
theorem Gv.now {M : Addr → Prop} {H : Hp} {d : PyData} {Q : VK} (q : Gv K M H d Q) {v : V} (h : Av K M H v d) : Q v H := q v H (L2.Same.refl H) h
theorem ex_int {i : Int} {k : Nat} {p : Pos} : PE X (.Constant (.int i) k p) (tEx K (.con (.int i))) :=
  pe_int.wk fun σ H Q ⟨_, _, B, ρ, d, _, _, _, e, q⟩ => by cases e; exact q.now (.int _)
theorem ex_str {x : Str} {k : Nat} {p : Pos} : PE X (.Constant (.str x) k p) (tEx K (.con (.str x))) :=
  pe_str.wk fun σ H Q ⟨_, _, B, ρ, d, _, _, _, e, q⟩ => by cases e; exact q.now (.str _)
theorem ex_bl {b : Bool} {k : Nat} {p : Pos} : PE X (.Constant (.bool b) k p) (tEx K (.con (.bool b))) :=
  pe_bl.wk fun σ H Q ⟨_, _, B, ρ, d, _, _, _, e, q⟩ => by cases e; exact q.now (.bl _)
theorem ex_non {k : Nat} {p : Pos} : PE X (.Constant .none k p) (tEx K (.con .none)) :=
  pe_non.wk fun σ H Q ⟨_, _, B, ρ, d, _, _, _, e, q⟩ => by cases e; exact q.now .non
theorem ex_dct {p : Pos} : PE X (.Dict [] [] p) (tEx K (.con (.dict []))) :=
  pe_dnewN.wk fun σ H Q ⟨M, pr, B, ρ, d, _, _, _, e, q⟩ p np ne => by
    cases e
    exact q _ _ (same_up np) (.dct (pr.new np ne) (.inl upd_same))
theorem ex_pow {i j : Int} {k1 k2 : Nat} {p1 p2 p : Pos} (hj : 0 ≤ j ∧ j ≤ 1000 ∧ i.natAbs < 2 ^ 64 := by decide) : PE X (.BinOp (.Constant (.int i) k1 p1) .Pow (.Constant (.int j) k2 p2) p) (tEx K (.con (.int (i ^ j.toNat)))) :=
  (pe_op op_pow pe_int pe_int).wk fun σ H Q ⟨_, _, B, ρ, d, _, _, _, e, q⟩ => by cases e; exact ⟨_, _, rfl, rfl, ⟨hj.1, by omega, hj.2.2⟩, q.now (.int _)⟩
theorem ex_mulA {k1 k2 : Nat} {p1 p2 p : Pos} : PE X (.BinOp (.Constant (.str "a") k1 p1) .Mult (.Constant (.int 11) k2 p2) p) (tEx K (.con (.str "aaaaaaaaaaa"))) :=
  (pe_op op_mulA pe_str pe_int).wk fun σ H Q ⟨_, _, B, ρ, d, _, _, _, e, q⟩ => by cases e; exact ⟨rfl, rfl, q.now (.str _)⟩
theorem rdat_eq {ρ : List Rho} {i : Nat} {d : PyData} (h : rdat ρ[i]? = some d) : ρ[i]? = some (.dat d) := by
  cases hr : ρ[i]? with
  | none => rw [hr] at h; cases h
  | some r =>
    rw [hr] at h
    cases r <;> cases h
    rfl
theorem ex_var {e : Expr} {i : Nat} (h : PE X e (tVar i)) : PE X e (tEx K (.var i)) :=
  h.wk fun σ H Q ⟨_, _, B, ρ, d, en, _, _, e, q⟩ => by
    obtain ⟨d', h1, h2⟩ := some1_eq e
    cases h2
    obtain ⟨v, h3, h4⟩ := en.var (rdat_eq h1)
    exact ⟨v, h3, q.now h4⟩
theorem ex_ixs {e1 e2 : Expr} {i : Nat} {k : Int} {p : Pos} (hK : X.K = K) (h : PE X e1 (tVar i)) (h2 : PE X e2 (fun σ H Q => Q (.int k) H)) (pl : PlainIx e2) : PE X (.Subscript e1 e2 p) (tEx K (.ixs i k)) := by
  subst hK
  refine (pe_ix (ix_list.or ix_tup) h h2 pl).wk fun σ H Q ⟨M, pr, B, ρ, d, en, _, _, e, q⟩ => ?_
  obtain ⟨d', h1, h2⟩ := some1_eq e
  cases h2
  obtain ⟨es, h2, h3⟩ := Option.bind_eq_some_iff.mp h1
  cases hr : ρ[i]? with
  | none => rw [hr] at h2; cases h2
  | some r =>
    rw [hr] at h2
    cases r with
    | no => cases h2
    | seq es' =>
      cases h2
      obtain ⟨b, xs, g1, g2, g3⟩ := en.seq hr
      obtain ⟨v, g4, g5⟩ := atI_avs g3 h3
      exact ⟨.ref b, g1, .inl ⟨b, xs, k, v, rfl, rfl, g2, g4, q.now g5⟩⟩
    | dat d' =>
      cases d' <;> cases h2
      obtain ⟨v, g1, g2⟩ := en.var hr
      cases g2 with
      | tup a1 a2 =>
        obtain ⟨z, g4, g5⟩ := atI_avs a2 h3
        exact ⟨_, g1, .inr ⟨_, _, k, z, rfl, rfl, a1, g4, q.now g5⟩⟩
theorem exs_nil : PA X [] (tExs K .nil) := pa_nil.wk fun σ H Q ⟨M, pr, B, ρ, ds, _, _, _, e, q⟩ => by cases e; exact q _ _ (L2.Same.refl H) .nil
theorem exs_cons {e : Expr} {es : List Expr} {A L : Ex} (ha : PE X e (tEx K A)) (hb : PA X es (tExs K L)) (st : starEach (e :: es) X.env = (false, eval e X.env) :: starEach es X.env := by rfl) : PA X (e :: es) (tExs K (.cons A L)) :=
  (pa_cons ha hb st).wk fun σ H Q ⟨M, pr, B, ρ, ds, en, zz, ok, e, q⟩ => by
    rw [Ex.ok, Bool.and_eq_true] at ok
    obtain ⟨x, h1, h2⟩ := Option.bind_eq_some_iff.mp e
    obtain ⟨y, h3, h4⟩ := Option.map_eq_some_iff.mp h2
    subst h4
    exact ⟨M, pr, B, ρ, x, en, zz, ok.1, one_eq h1, fun v H' s hv => ⟨M, pr.same s, B, ρ, y, en.same s, zz, ok.2, h3, fun vs H2 s2 hvs => q (v :: vs) H2 (s.trans s2) (.cons (hv.s s2) hvs)⟩⟩
theorem ex_tup {es : List Expr} {L : Ex} {k : Nat} {p : Pos} (h : PA X es (tExs K L)) : PE X (.Tuple es k p) (tEx K (.tup L)) := by
  refine (pe_tup h).wk fun σ H Q ⟨M, pr, B, ρ, d, en, zz, ok, e, q⟩ => ?_
  rw [Ex.ok, Bool.and_eq_true, decide_eq_true_eq] at ok
  obtain ⟨ds, h1, h2⟩ := Option.map_eq_some_iff.mp e
  cases h2
  have bd := (Ex.bnd zz L ds ok.1 h1).1
  refine ⟨M, pr, B, ρ, ds, en, zz, ok.1, h1, fun vs H' s hv => ⟨?_, fun p np => ?_⟩⟩
  · rw [hv.len, sizeLine_eq]
    omega
  · exact q _ _ (s.trans (same_up np)) (.tup (tupOf upd_same) (hv.s (same_up np)))
theorem ex_lst {es : List Expr} {L : Ex} {p : Pos} (h : PA X es (tExs K L)) : PE X (.List es p) (tEx K (.lst L)) := by
  refine (pe_lstN h).wk fun σ H Q ⟨M, pr, B, ρ, d, en, zz, ok, e, q⟩ => ?_
  rw [Ex.ok, Bool.and_eq_true, decide_eq_true_eq] at ok
  obtain ⟨ds, h1, h2⟩ := Option.map_eq_some_iff.mp e
  cases h2
  have bd := (Ex.bnd zz L ds ok.1 h1).1
  refine ⟨M, pr, B, ρ, ds, en, zz, ok.1, h1, fun vs H' s hv => ⟨?_, fun p np ne => ?_⟩⟩
  · rw [hv.len, sizeLine_eq]
    omega
  · exact q _ _ (s.trans (same_up np)) (.lst ((pr.same s).new np ne) (.inl upd_same) (hv.s (same_up np)))
theorem ex_add {a b : Expr} {A L : Ex} {p : Pos} (hK : X.K = K) (ha : PE X a (tEx K A)) (hb : PE X b (tEx K L)) : PE X (.BinOp a .Add b p) (tEx K (.add A L)) := by
  refine (pe_op (op_addA hK) ha hb).wk fun σ H Q ⟨M, pr, B, ρ, d, en, zz, ok, e, q⟩ => ?_
  rw [Ex.ok, Bool.and_eq_true, Bool.and_eq_true, Bool.and_eq_true, decide_eq_true_eq, decide_eq_true_eq] at ok
  obtain ⟨d', h1, h2⟩ := some1_eq e
  cases h2
  obtain ⟨x, h2, h3⟩ := Option.bind_eq_some_iff.mp h1
  obtain ⟨y, h4, h5⟩ := Option.bind_eq_some_iff.mp h3
  refine ⟨M, pr, B, ρ, x, en, zz, ok.1.1.1, one_eq h2, fun u H1 s1 hu => ⟨M, pr.same s1, B, ρ, y, en.same s1, zz, ok.1.1.2, one_eq h4, fun v H2 s2 hv => ?_⟩⟩
  exact ⟨M, x, y, d, hu.s s2, hv, hz_up ok.1.2 ((Ex.bnd zz A _ ok.1.1.1 (one_eq h2)).2 _ List.mem_cons_self), hz_up ok.2 ((Ex.bnd zz L _ ok.1.1.2 (one_eq h4)).2 _ List.mem_cons_self), h5, fun z H3 s3 hz => q z H3 ((s1.trans s2).trans s3) hz⟩
theorem ex_sub {a b : Expr} {A L : Ex} {p : Pos} (hK : X.K = K) (ha : PE X a (tEx K A)) (hb : PE X b (tEx K L)) : PE X (.BinOp a .Sub b p) (tEx K (.sub A L)) := by
  refine (pe_op (op_subA hK) ha hb).wk fun σ H Q ⟨M, pr, B, ρ, d, en, zz, ok, e, q⟩ => ?_
  rw [Ex.ok, Bool.and_eq_true] at ok
  obtain ⟨d', h1, h2⟩ := some1_eq e
  cases h2
  obtain ⟨x, h2, h3⟩ := Option.bind_eq_some_iff.mp h1
  obtain ⟨y, h4, h5⟩ := Option.bind_eq_some_iff.mp h3
  refine ⟨M, pr, B, ρ, x, en, zz, ok.1, one_eq h2, fun u H1 s1 hu => ⟨M, pr.same s1, B, ρ, y, en.same s1, zz, ok.2, one_eq h4, fun v H2 s2 hv => ?_⟩⟩
  exact ⟨M, x, y, d, hu.s s2, hv, h5, fun z H3 s3 hz => q z H3 ((s1.trans s2).trans s3) hz⟩
theorem ex_eqi {a b : Expr} {A L : Ex} {p : Pos} (hK : X.K = K) (ha : PE X a (tEx K A)) (hb : PE X b (tEx K L)) : PE X (.Compare a [.Eq] [b] p) (tEx K (.eqi A L)) := by
  refine (pe_cmpR (op_eqIA hK) ha hb (nomark _)).wk fun σ H Q ⟨M, pr, B, ρ, d, en, zz, ok, e, q⟩ => ?_
  rw [Ex.ok, Bool.and_eq_true] at ok
  obtain ⟨d', h1, h2⟩ := some1_eq e
  cases h2
  obtain ⟨x, h2, h3⟩ := Option.bind_eq_some_iff.mp h1
  obtain ⟨y, h4, h5⟩ := Option.bind_eq_some_iff.mp h3
  refine ⟨M, pr, B, ρ, x, en, zz, ok.1, one_eq h2, fun u H1 s1 hu => ⟨M, pr.same s1, B, ρ, y, en.same s1, zz, ok.2, one_eq h4, fun v H2 s2 hv => ?_⟩⟩
  exact ⟨M, x, y, d, hu.s s2, hv, h5, fun z H3 s3 hz => q z H3 ((s1.trans s2).trans s3) hz⟩
theorem ex_at {a b : Expr} {A L : Ex} {p : Pos} (hK : X.K = K) (ha : PE X a (tEx K A)) (hb : PE X b (tEx K L)) (pl : PlainIx b) : PE X (.Subscript a b p) (tEx K (.at_ A L)) := by
  refine (pe_ix (ix_av hK) ha hb pl).wk fun σ H Q ⟨M, pr, B, ρ, d, en, zz, ok, e, q⟩ => ?_
  rw [Ex.ok, Bool.and_eq_true] at ok
  obtain ⟨d', h1, h2⟩ := some1_eq e
  cases h2
  obtain ⟨x, h2, h3⟩ := Option.bind_eq_some_iff.mp h1
  obtain ⟨y, h4, h5⟩ := Option.bind_eq_some_iff.mp h3
  refine ⟨M, pr, B, ρ, x, en, zz, ok.1, one_eq h2, fun u H1 s1 hu => ⟨M, pr.same s1, B, ρ, y, en.same s1, zz, ok.2, one_eq h4, fun v H2 s2 hv => ?_⟩⟩
  exact ⟨M, x, y, d, hu.s s2, hv, h5, fun z H3 s3 hz => q z H3 ((s1.trans s2).trans s3) hz⟩
theorem ex_neg {a : Expr} {A : Ex} {p : Pos} (hK : X.K = K) (ha : PE X a (tEx K A)) : PE X (.UnaryOp .USub a p) (tEx K (.neg A)) := by
  refine (pe_un (un_negA hK) ha).wk fun σ H Q ⟨M, pr, B, ρ, d, en, zz, ok, e, q⟩ => ?_
  obtain ⟨d', h1, h2⟩ := some1_eq e
  cases h2
  obtain ⟨x, h2, h3⟩ := Option.bind_eq_some_iff.mp h1
  exact ⟨M, pr, B, ρ, x, en, zz, ok, one_eq h2, fun u H1 s1 hu => ⟨M, x, d, hu, h3, fun z H3 s3 hz => q z H3 (s1.trans s3) hz⟩⟩
theorem ex_rev {e : Expr} {A : Ex} {k : Nat} {p1 p2 p3 pos : Pos} (hK : X.K = K) (ha : PE X e (tEx K A)) : PE X (.Subscript e (.Slice none none (some (.UnaryOp .USub (.Constant (.int 1) k p1) p2)) p3) pos) (tEx K (.rev A)) := by
  refine (pe_revA hK ha).wk fun σ H Q ⟨M, pr, B, ρ, d, en, zz, ok, e, q⟩ => ?_
  obtain ⟨d', h1, h2⟩ := some1_eq e
  cases h2
  obtain ⟨x, h2, h3⟩ := Option.bind_eq_some_iff.mp h1
  exact ⟨M, pr, B, ρ, x, en, zz, ok, one_eq h2, fun u H1 s1 hu => ⟨M, x, d, hu, h3, fun z H3 s3 hz => q z H3 (s1.trans s3) hz⟩⟩
theorem ex_lstf {e : Expr} {A : Ex} {p pos : Pos} (hK : X.K = K) (hg : Gl X "list") (hm : X.mg "list" = none) (ha : PE X e (tEx K A)) (st : starEach [e] X.env = [(false, eval e X.env)] := by rfl) (hpl : (backTo pos (starEach [] X.env)).any (·.1) = false := by rfl) : PE X (.Call (.Name "list" p) [e] [] pos) (tEx K (.lstf A)) := by
  refine (pe_callTy (cr_lstA hK) hg hm (by decide +kernel) (pa_cons ha pa_nil st) (by decide) (by decide) st hpl).wk fun σ H Q ⟨M, pr, B, ρ, d, en, zz, ok, e, q⟩ => ?_
  obtain ⟨d', h1, h2⟩ := some1_eq e
  cases h2
  obtain ⟨x, h2, h3⟩ := Option.bind_eq_some_iff.mp h1
  exact ⟨M, pr, B, ρ, x, en, zz, ok, one_eq h2, fun u H1 s1 hu => ⟨M, u, x, d, rfl, hu, pr.same s1, h3, fun z H3 s3 hz => q z H3 (s1.trans s3) hz⟩⟩
theorem ex_strf {e : Expr} {A : Ex} {p pos : Pos} (hK : X.K = K) (hg : Gl X "str") (hm : X.mg "str" = none) (ha : PE X e (tEx K A)) (st : starEach [e] X.env = [(false, eval e X.env)] := by rfl) (hpl : (backTo pos (starEach [] X.env)).any (·.1) = false := by rfl) : PE X (.Call (.Name "str" p) [e] [] pos) (tEx K (.strf A)) := by
  refine (pe_callTy (cr_strA hK) hg hm (by decide +kernel) (pa_cons ha pa_nil st) (by decide) (by decide) st hpl).wk fun σ H Q ⟨M, pr, B, ρ, d, en, zz, ok, e, q⟩ => ?_
  rw [Ex.ok, Bool.and_eq_true, decide_eq_true_eq] at ok
  obtain ⟨d', h1, h2⟩ := some1_eq e
  cases h2
  obtain ⟨x, h2, h3⟩ := Option.bind_eq_some_iff.mp h1
  exact ⟨M, pr, B, ρ, x, en, zz, ok.1, one_eq h2, fun u H1 s1 hu => ⟨M, u, x, d, rfl, hu, hz_up ok.2 ((Ex.bnd zz A _ ok.1 (one_eq h2)).2 _ List.mem_cons_self), h3, fun z H3 s3 hz => q z H3 (s1.trans s3) hz⟩⟩
theorem ex_up {e : Expr} {A : Ex} {apos pos : Pos} (ha : PE X e (tEx K A)) (hbase : attributeBase e "upper" X.env (eval e X.env) = eval e X.env := by rfl) (hline : (apos.endLine == pos.line) = true := by rfl) : PE X (.Call (.Attribute e "upper" apos) [] [] pos) (tEx K (.up A)) := by
  refine (pe_upper ha hbase hline).wk fun σ H Q ⟨M, pr, B, ρ, d, en, zz, ok, e, q⟩ => ?_
  rw [Ex.ok, Bool.and_eq_true, decide_eq_true_eq] at ok
  obtain ⟨d', h1, h2⟩ := some1_eq e
  cases h2
  obtain ⟨x, h2, h3⟩ := Option.bind_eq_some_iff.mp h1
  have hx := (Ex.bnd zz A _ ok.1 (one_eq h2)).2 _ List.mem_cons_self
  refine ⟨M, pr, B, ρ, x, en, zz, ok.1, one_eq h2, fun u H1 s1 hu => ?_⟩
  unfold upD at h3
  split at h3 <;> cases h3
  cases hu
  refine ⟨⟨_, rfl⟩, _, rfl, rfl, ?_, q _ H1 s1 (.str _)⟩
  have := hz_str.mp hx
  omega
/-! slices -/
theorem av_int {M : Addr → Prop} {H : Hp} {v : V} {i : Int} (h : Av K M H v (.int i)) : v = .int i := by cases h; rfl
theorem onei_eq {x : Option (List PyData)} {i : Int} (h : onei x = some i) : x = some [.int i] := by
  unfold onei at h
  split at h <;> cases h
  rfl
theorem prt_int {L : Ex} {ρ : List Rho} {o : Option Int} (n : L.isNo = false) (h : prt L.isNo (L.ev ρ) = some o) : ∃ i, o = some i ∧ L.ev ρ = some [.int i] := by
  rw [n] at h
  unfold prt at h
  rw [if_neg (by decide)] at h
  obtain ⟨i, h1, h2⟩ := Option.map_eq_some_iff.mp h
  exact ⟨i, h2.symm, onei_eq h1⟩
theorem prt_no {x : Option (List PyData)} {o : Option Int} (h : prt (Ex.isNo .no) x = some o) : o = none := by
  cases h
  rfl
theorem ex_slT {e b : Expr} {A L : Ex} {p2 pos : Pos} (hK : X.K = K) (ha : PE X e (tEx K A)) (hb : PE X b (tEx K L)) (n : L.isNo = false := by rfl) : PE X (.Subscript e (.Slice none (some b) none p2) pos) (tEx K (.sl A .no L)) := by
  refine (pe_slice (sl_av hK) ha po_none (po_some hb)).wk fun σ H Q ⟨M, pr, B, ρ, d, en, zz, ok, e, q⟩ => ?_
  rw [Ex.ok, Bool.and_eq_true, Bool.and_eq_true, Bool.and_eq_true, decide_eq_true_eq] at ok
  obtain ⟨d', h1, h2⟩ := some1_eq e
  cases h2
  obtain ⟨x, h2, h3⟩ := Option.bind_eq_some_iff.mp h1
  obtain ⟨l, h4, h3⟩ := Option.bind_eq_some_iff.mp h3
  obtain ⟨u, h5, h3⟩ := Option.bind_eq_some_iff.mp h3
  cases prt_no h4
  obtain ⟨i, rfl, ei⟩ := prt_int n h5
  refine ⟨M, pr, B, ρ, x, en, zz, ok.1.1.1, one_eq h2, fun u H1 s1 hu => ?_⟩
  exact ⟨M, pr.same s1, B, ρ, .int i, en.same s1, zz, ok.1.2, ei, fun v H2 s2 hv => ⟨i, av_int hv, M, x, d, hu.s s2, hz_up ok.2 ((Ex.bnd zz A _ ok.1.1.1 (one_eq h2)).2 _ List.mem_cons_self), h3, fun z H3 s3 hz => q z H3 ((s1.trans s2).trans s3) hz⟩⟩
theorem ex_slF {e b : Expr} {A L : Ex} {p2 pos : Pos} (hK : X.K = K) (ha : PE X e (tEx K A)) (hb : PE X b (tEx K L)) (n : L.isNo = false := by rfl) : PE X (.Subscript e (.Slice (some b) none none p2) pos) (tEx K (.sl A L .no)) := by
  refine (pe_slice (sl_av hK) ha (po_some hb) po_none).wk fun σ H Q ⟨M, pr, B, ρ, d, en, zz, ok, e, q⟩ => ?_
  rw [Ex.ok, Bool.and_eq_true, Bool.and_eq_true, Bool.and_eq_true, decide_eq_true_eq] at ok
  obtain ⟨d', h1, h2⟩ := some1_eq e
  cases h2
  obtain ⟨x, h2, h3⟩ := Option.bind_eq_some_iff.mp h1
  obtain ⟨l, h4, h3⟩ := Option.bind_eq_some_iff.mp h3
  obtain ⟨u, h5, h3⟩ := Option.bind_eq_some_iff.mp h3
  cases prt_no h5
  obtain ⟨i, rfl, ei⟩ := prt_int n h4
  refine ⟨M, pr, B, ρ, x, en, zz, ok.1.1.1, one_eq h2, fun u H1 s1 hu => ?_⟩
  exact ⟨M, pr.same s1, B, ρ, .int i, en.same s1, zz, ok.1.1.2, ei, fun v H2 s2 hv => ⟨i, av_int hv, M, x, d, hu.s s2, hz_up ok.2 ((Ex.bnd zz A _ ok.1.1.1 (one_eq h2)).2 _ List.mem_cons_self), h3, fun z H3 s3 hz => q z H3 ((s1.trans s2).trans s3) hz⟩⟩
theorem ex_slB {e b c : Expr} {A L U : Ex} {p2 pos : Pos} (hK : X.K = K) (ha : PE X e (tEx K A)) (hb : PE X b (tEx K L)) (hc : PE X c (tEx K U)) (n : L.isNo = false := by rfl) (m : U.isNo = false := by rfl) : PE X (.Subscript e (.Slice (some b) (some c) none p2) pos) (tEx K (.sl A L U)) := by
  refine (pe_slice (sl_av hK) ha (po_some hb) (po_some hc)).wk fun σ H Q ⟨M, pr, B, ρ, d, en, zz, ok, e, q⟩ => ?_
  rw [Ex.ok, Bool.and_eq_true, Bool.and_eq_true, Bool.and_eq_true, decide_eq_true_eq] at ok
  obtain ⟨d', h1, h2⟩ := some1_eq e
  cases h2
  obtain ⟨x, h2, h3⟩ := Option.bind_eq_some_iff.mp h1
  obtain ⟨l, h4, h3⟩ := Option.bind_eq_some_iff.mp h3
  obtain ⟨u, h5, h3⟩ := Option.bind_eq_some_iff.mp h3
  obtain ⟨i, rfl, ei⟩ := prt_int n h4
  obtain ⟨j, rfl, ej⟩ := prt_int m h5
  refine ⟨M, pr, B, ρ, x, en, zz, ok.1.1.1, one_eq h2, fun u H1 s1 hu => ?_⟩
  refine ⟨M, pr.same s1, B, ρ, .int i, en.same s1, zz, ok.1.1.2, ei, fun v H2 s2 hv => ⟨i, av_int hv, ?_⟩⟩
  exact ⟨M, (pr.same s1).same s2, B, ρ, .int j, (en.same s1).same s2, zz, ok.1.2, ej, fun w H3 s3 hw => ⟨j, av_int hw, M, x, d, (hu.s s2).s s3, hz_up ok.2 ((Ex.bnd zz A _ ok.1.1.1 (one_eq h2)).2 _ List.mem_cons_self), h3, fun z H4 s4 hz => q z H4 (((s1.trans s2).trans s3).trans s4) hz⟩⟩
end
end Tl
set_option Elab.async false
set_option linter.all false
set_option autoImplicit false
set_option maxRecDepth 100000
set_option maxHeartbeats 2000000
/-! how great any values are -/
namespace Tl
open PySem PySem.Spec PyProof.Rows L2
def asc (x : Str) : Bool := x.cps.toList.all fun c => decide (c < 128)
def fit (k : Nat) : PyData → Bool
  | .int i => decide (i.natAbs ≤ 10 ^ 39 + k)
  | .str x => decide (x.length ≤ 20 * k) && asc x
  | .list ds => decide (ds.length ≤ k) && fitAll ds
  | .tuple ds => decide (ds.length ≤ k) && fitAll ds
  | .dict kvs => kvs.isEmpty
  | _ => true
where fitAll : List PyData → Bool
  | [] => true
  | d :: ds => fit k d && fitAll ds
theorem fitAll_iff {k : Nat} : ∀ {ds : List PyData}, fit.fitAll k ds = true ↔ ∀ d ∈ ds, fit k d = true
  | [] => by simp [fit.fitAll]
  | d :: ds => by
    rw [fit.fitAll, Bool.and_eq_true, fitAll_iff]
    simp
theorem fit_tup {k : Nat} {ds : List PyData} : fit k (.tuple ds) = true ↔ ds.length ≤ k ∧ ∀ d ∈ ds, fit k d = true := by
  rw [fit, Bool.and_eq_true, decide_eq_true_eq, fitAll_iff]
theorem fit_lst {k : Nat} {ds : List PyData} : fit k (.list ds) = true ↔ ds.length ≤ k ∧ ∀ d ∈ ds, fit k d = true := by
  rw [fit, Bool.and_eq_true, decide_eq_true_eq, fitAll_iff]
theorem fit_str {k : Nat} {x : Str} : fit k (.str x) = true ↔ x.length ≤ 20 * k ∧ asc x = true := by
  rw [fit, Bool.and_eq_true, decide_eq_true_eq]
theorem fit_int {k : Nat} {i : Int} : fit k (.int i) = true ↔ i.natAbs ≤ 10 ^ 39 + k := by
  rw [fit, decide_eq_true_eq]
theorem fit_up {j k : Nat} (h : j ≤ k) : ∀ {d : PyData}, fit j d = true → fit k d = true
  | .none, _ => rfl
  | .bool _, _ => rfl
  | .int i, z => fit_int.mpr (Nat.le_trans (fit_int.mp z) (by omega))
  | .str x, z => fit_str.mpr ⟨Nat.le_trans (fit_str.mp z).1 (by omega), (fit_str.mp z).2⟩
  | .list ds, z => by
    have ⟨z1, z2⟩ := fit_lst.mp z
    exact fit_lst.mpr ⟨Nat.le_trans z1 h, fun d m => fit_up h (z2 d m)⟩
  | .tuple ds, z => by
    have ⟨z1, z2⟩ := fit_tup.mp z
    exact fit_tup.mpr ⟨Nat.le_trans z1 h, fun d m => fit_up h (z2 d m)⟩
  | .dict kvs, z => z
theorem fit_hz {k : Nat} (h : k ≤ 45) : ∀ {d : PyData}, fit k d = true → hz 900 d = true
  | .none, _ => rfl
  | .bool _, _ => rfl
  | .int i, z => hz_int.mpr (Nat.lt_of_le_of_lt (fit_int.mp z) (Nat.lt_of_le_of_lt (Nat.add_le_add_left h _) (by decide +kernel)))
  | .str x, z => hz_str.mpr (Nat.le_trans (fit_str.mp z).1 (by omega))
  | .list ds, z => by
    have ⟨z1, z2⟩ := fit_lst.mp z
    exact hz_lst.mpr ⟨by omega, fun d m => fit_hz h (z2 d m)⟩
  | .tuple ds, z => by
    have ⟨z1, z2⟩ := fit_tup.mp z
    exact hz_tup.mpr ⟨by omega, fun d m => fit_hz h (z2 d m)⟩
  | .dict kvs, z => z
/-! ### its display -/
theorem asc_lt {x : Str} (h : asc x = true) {c : Nat} (m : c ∈ x.cps.toList) : c < 128 := of_decide_eq_true (List.all_eq_true.mp h c m)
theorem int_len {i : Int} {k : Nat} (hk : k ≤ 45) (h : i.natAbs ≤ 10 ^ 39 + k) : (toString i).length ≤ 42 :=
  Nat.le_trans (int_text_length_le10 (k := 40) (by decide) (Nat.lt_of_le_of_lt h (Nat.lt_of_le_of_lt (Nat.add_le_add_left hk _) (by decide +kernel)))) (by decide)
mutual
theorem fit_short {k : Nat} (hk : k ≤ 45) : ∀ d : PyData, fit k d = true → d.leavesShort 42 = true
  | .none, _ => rfl
  | .bool _, _ => rfl
  | .int i, z => by
    rw [PyData.leavesShort, decide_eq_true_eq]
    show (Str.ofString (toString i)).length ≤ 42
    rw [PySem.ofString_length]
    exact int_len hk (fit_int.mp z)
  | .str x, z => by
    have a := (fit_str.mp z).2
    simp only [PyData.leavesShort, List.all_eq_true, decide_eq_true_eq]
    intro c m
    exact Nat.lt_of_lt_of_le (asc_lt a m) (by decide +kernel)
  | .list ds, z => by
    rw [PyData.leavesShort]
    exact fit_shorts hk ds (fit_lst.mp z).2
  | .tuple ds, z => by
    rw [PyData.leavesShort]
    exact fit_shorts hk ds (fit_tup.mp z).2
  | .dict kvs, z => by
    cases kvs with
    | nil => simp only [PyData.leavesShort, PyData.leavesShortKv]
    | cons _ _ => cases z
theorem fit_shorts {k : Nat} (hk : k ≤ 45) : ∀ ds : List PyData, (∀ d ∈ ds, fit k d = true) → PyData.leavesShortAll 42 ds = true
  | [], _ => rfl
  | d :: ds, z => by
    rw [PyData.leavesShortAll, Bool.and_eq_true]
    exact ⟨fit_short hk d (z d List.mem_cons_self), fit_shorts hk ds fun e m => z e (List.mem_cons_of_mem _ m)⟩
end
mutual
theorem fit_showable {k : Nat} (hk : k ≤ 45) : ∀ d : PyData, fit k d = true → d.showable = true
  | .none, _ => rfl
  | .bool _, _ => rfl
  | .int i, z => by
    rw [PyData.showable, decide_eq_true_eq]
    exact Nat.lt_trans (log_lt (k := 200) (Nat.lt_of_le_of_lt (fit_int.mp z) (Nat.lt_of_le_of_lt (Nat.add_le_add_left hk _) (by decide +kernel))) (by decide)) (by decide)
  | .str x, z => rfl
  | .list ds, z => by
    rw [PyData.showable]
    exact fit_showables hk ds (fit_lst.mp z).2
  | .tuple ds, z => by
    rw [PyData.showable]
    exact fit_showables hk ds (fit_tup.mp z).2
  | .dict kvs, z => by
    cases kvs with
    | nil => simp only [PyData.showable, PyData.showableKv]
    | cons _ _ => cases z
theorem fit_showables {k : Nat} (hk : k ≤ 45) : ∀ ds : List PyData, (∀ d ∈ ds, fit k d = true) → PyData.showableAll ds = true
  | [], _ => rfl
  | d :: ds, z => by
    rw [PyData.showableAll, Bool.and_eq_true]
    exact ⟨fit_showable hk d (z d List.mem_cons_self), fit_showables hk ds fun e m => z e (List.mem_cons_of_mem _ m)⟩
end
theorem fit_shown {k : Nat} (hk : k ≤ 45) {d : PyData} (h : fit k d = true) (b : d.bulk ≤ 100000) : d.shown.length ≤ sizeLine := by
  have := PyData.shown_le_bulk 42 (by decide) d (fit_short hk d h)
  rw [sizeLine_eq]
  omega
/-! ### bent -/
structure Bent (k : Nat) (d e : PyData) : Prop where
  f : fit (k + 1) e = true
  b : e.bulk ≤ 2 * d.bulk + 60
  p : e.depth ≤ d.depth + 2
structure OddD (d : PyData) : Prop where
  f : fit 2 d = true
  b : d.bulk ≤ 59
  p : d.depth ≤ 2
theorem bulk_app : ∀ xs ys : List PyData, PyData.bulkAll (xs ++ ys) = PyData.bulkAll xs + PyData.bulkAll ys
  | [], ys => by simp [PyData.bulkAll]
  | x :: xs, ys => by
    rw [List.cons_append, PyData.bulkAll, PyData.bulkAll, bulk_app xs ys]
    omega
theorem bulk_cut (xs : List PyData) (n : Nat) : PyData.bulkAll (xs.take n) + PyData.bulkAll (xs.drop n) = PyData.bulkAll xs := by
  rw [← bulk_app, List.take_append_drop]
theorem bulk_rev : ∀ xs : List PyData, PyData.bulkAll xs.reverse = PyData.bulkAll xs
  | [] => rfl
  | x :: xs => by
    rw [List.reverse_cons, bulk_app, bulk_rev xs, PyData.bulkAll, PyData.bulkAll, PyData.bulkAll]
    omega
theorem depth_le {n : Nat} : ∀ {xs : List PyData}, PyData.depthAll xs ≤ n ↔ ∀ d ∈ xs, d.depth ≤ n
  | [] => by simp [PyData.depthAll]
  | x :: xs => by
    rw [PyData.depthAll, Nat.max_le, depth_le]
    simp
theorem bulk_one (d : PyData) : PyData.bulkAll [d] = d.bulk + 1 := by rw [PyData.bulkAll, PyData.bulkAll]
section
variable {k : Nat} {ds : List PyData}
theorem bent_list (h : fit k (.tuple ds) = true) : Bent k (.tuple ds) (.list ds) := by
  have ⟨z1, z2⟩ := fit_tup.mp h
  refine ⟨fit_lst.mpr ⟨by omega, fun d m => fit_up (Nat.le_succ _) (z2 d m)⟩, ?_, ?_⟩
  · simp only [PyData.bulk]; omega
  · simp only [PyData.depth]; omega
theorem bent_sub {es : List PyData} (h : fit k (.tuple ds) = true) (s : ∀ e ∈ es, e ∈ ds) (l : es.length ≤ ds.length + 1) (b : PyData.bulkAll es ≤ 2 * PyData.bulkAll ds) : Bent k (.tuple ds) (.tuple es) := by
  have ⟨z1, z2⟩ := fit_tup.mp h
  refine ⟨fit_tup.mpr ⟨by omega, fun d m => fit_up (Nat.le_succ _) (z2 d (s d m))⟩, ?_, ?_⟩
  · simp only [PyData.bulk]; omega
  · simp only [PyData.depth]
    have : PyData.depthAll es ≤ PyData.depthAll ds := depth_le.mpr fun d m => depth_le.mp (Nat.le_refl _) d (s d m)
    omega
theorem bent_del (n : Nat) (h : fit k (.tuple ds) = true) : Bent k (.tuple ds) (.tuple (ds.take n ++ ds.drop (n + 1))) := by
  refine bent_sub h (fun e m => ?_) ?_ ?_
  · rcases List.mem_append.mp m with m | m
    · exact List.mem_of_mem_take m
    · exact List.mem_of_mem_drop m
  · rw [List.length_append, List.length_take, List.length_drop]; omega
  · have h1 := bulk_cut ds n
    have h2 := bulk_cut ds (n + 1)
    rw [bulk_app]; omega
theorem bent_dup (n : Nat) (h : fit k (.tuple ds) = true) : Bent k (.tuple ds) (.tuple (ds.take n ++ (ds.drop n).take 1 ++ ds.drop n)) := by
  refine bent_sub h (fun e m => ?_) ?_ ?_
  · rcases List.mem_append.mp m with m | m
    · rcases List.mem_append.mp m with m | m
      · exact List.mem_of_mem_take m
      · exact List.mem_of_mem_drop (List.mem_of_mem_take m)
    · exact List.mem_of_mem_drop m
  · rw [List.length_append, List.length_append, List.length_take, List.length_take, List.length_drop]; omega
  · have h1 := bulk_cut ds n
    have h2 := bulk_cut (ds.drop n) 1
    rw [bulk_app, bulk_app]; omega
theorem bent_rev (h : fit k (.tuple ds) = true) : Bent k (.tuple ds) (.tuple ds.reverse) :=
  bent_sub h (fun e m => List.mem_reverse.mp m) (by rw [List.length_reverse]; omega) (by rw [bulk_rev]; omega)
theorem bent_take (n : Nat) (h : fit k (.tuple ds) = true) : Bent k (.tuple ds) (.tuple (ds.take n)) := by
  have h1 := bulk_cut ds n
  exact bent_sub h (fun e m => List.mem_of_mem_take m) (by rw [List.length_take]; omega) (by omega)
theorem bent_rot (n : Nat) (h : fit k (.tuple ds) = true) : Bent k (.tuple ds) (.tuple (ds.drop n ++ ds.take n)) := by
  have h1 := bulk_cut ds n
  refine bent_sub h (fun e m => ?_) (by rw [List.length_append, List.length_take, List.length_drop]; omega) (by rw [bulk_app]; omega)
  rcases List.mem_append.mp m with m | m
  · exact List.mem_of_mem_drop m
  · exact List.mem_of_mem_take m
theorem bent_odd {d o : PyData} (hk : 2 ≤ k) (h : OddD o) : Bent k d o := ⟨fit_up (by omega) h.f, by have := h.b; omega, by have := h.p; omega⟩
theorem bent_snoc {o : PyData} (hk : 2 ≤ k) (h : fit k (.tuple ds) = true) (ho : OddD o) : Bent k (.tuple ds) (.tuple (ds ++ [o])) := by
  have ⟨z1, z2⟩ := fit_tup.mp h
  refine ⟨fit_tup.mpr ⟨by rw [List.length_append, List.length_singleton]; omega, fun d m => ?_⟩, ?_, ?_⟩
  · rcases List.mem_append.mp m with m | m
    · exact fit_up (Nat.le_succ _) (z2 d m)
    · cases List.mem_singleton.mp m
      exact fit_up (by omega) ho.f
  · have := ho.b
    simp only [PyData.bulk, bulk_app, bulk_one]; omega
  · have h1 : PyData.depthAll (ds ++ [o]) ≤ PyData.depthAll ds + 2 := depth_le.mpr fun d m => by
      rcases List.mem_append.mp m with m | m
      · have := depth_le.mp (Nat.le_refl _) d m
        omega
      · cases List.mem_singleton.mp m
        have := ho.p
        omega
    simp only [PyData.depth]; omega
theorem bent_wrap {d : PyData} (hk : 2 ≤ k) (h : fit k d = true) : Bent k d (.tuple [d]) := by
  refine ⟨fit_tup.mpr ⟨by simp, fun e m => ?_⟩, ?_, ?_⟩
  · cases List.mem_singleton.mp m
    exact fit_up (Nat.le_succ _) h
  · simp only [PyData.bulk, bulk_one]; omega
  · simp only [PyData.depth, PyData.depthAll]; omega
theorem bent_in {n : Nat} {b e : PyData} (h : fit k (.tuple ds) = true) (hb : ds[n]? = some b) (he : Bent k b e) : Bent k (.tuple ds) (.tuple (ds.take n ++ [e] ++ ds.drop (n + 1))) := by
  have ⟨z1, z2⟩ := fit_tup.mp h
  have hn : n < ds.length := (List.getElem?_eq_some_iff.mp hb).1
  refine ⟨fit_tup.mpr ⟨by simp only [List.length_append, List.length_take, List.length_drop, List.length_singleton]; omega, fun d m => ?_⟩, ?_, ?_⟩
  · rcases List.mem_append.mp m with m | m
    · rcases List.mem_append.mp m with m | m
      · exact fit_up (Nat.le_succ _) (z2 d (List.mem_of_mem_take m))
      · cases List.mem_singleton.mp m
        exact he.f
    · exact fit_up (Nat.le_succ _) (z2 d (List.mem_of_mem_drop m))
  · have h1 := bulk_cut ds n
    have h2 : ds.drop n = b :: ds.drop (n + 1) := by
      rw [List.drop_eq_getElem_cons hn]
      congr 1
      exact Option.some.inj ((List.getElem?_eq_getElem hn).symm.trans hb)
    rw [h2, PyData.bulkAll] at h1
    have := he.b
    simp only [PyData.bulk, bulk_app, bulk_one]; omega
  · have mb : b ∈ ds := List.mem_of_getElem? hb
    have h1 : PyData.depthAll (ds.take n ++ [e] ++ ds.drop (n + 1)) ≤ PyData.depthAll ds + 2 := depth_le.mpr fun d m => by
      rcases List.mem_append.mp m with m | m
      · rcases List.mem_append.mp m with m | m
        · have := depth_le.mp (Nat.le_refl _) d (List.mem_of_mem_take m)
          omega
        · cases List.mem_singleton.mp m
          have := depth_le.mp (Nat.le_refl _) b mb
          have := he.p
          omega
      · have := depth_le.mp (Nat.le_refl _) d (List.mem_of_mem_drop m)
        omega
    simp only [PyData.depth]; omega
/-- small values -/
theorem odd_int {i : Int} (h : i.natAbs ≤ 10 ^ 39) : OddD (.int i) := ⟨fit_int.mpr (Nat.le_add_right_of_le h), by simp [PyData.bulk], by simp [PyData.depth]⟩
theorem odd_str {x : Str} (h : x.length ≤ 40) (a : asc x = true) : OddD (.str x) := ⟨fit_str.mpr ⟨by omega, a⟩, by
  have : x.cps.size ≤ 40 := h
  simp only [PyData.bulk]; omega, by simp [PyData.depth]⟩
theorem bent_leaf {d e : PyData} (f : fit (k + 1) e = true) (b : e.bulk ≤ 60) (p : e.depth ≤ 2) : Bent k d e := ⟨f, by omega, by omega⟩
theorem bI_abs (b : Bool) : (bI b).natAbs ≤ 1 := by cases b <;> decide
theorem bent_int {d e : PyData} {i : Int} (hn : numO d = some i) (h : fit k d = true) (hk : 2 ≤ k) (hk2 : k ≤ 44) (m : e ∈ [PyData.bool (i == 1), .int (i + 1), .int (i - 1), .int (-i), .int 0, .int 1, .tuple [d], .none]) : Bent k d e := by
  have hi : i.natAbs ≤ 10 ^ 39 + k := by
    cases d <;> cases hn
    · exact Nat.le_trans (bI_abs _) (Nat.le_trans (by omega) (Nat.le_add_left k _))
    · exact fit_int.mp h
  have dep : d.depth = 0 ∧ d.bulk = 0 := by cases d <;> cases hn <;> exact ⟨by simp [PyData.depth], by simp [PyData.bulk]⟩
  have int : ∀ j : Int, j.natAbs ≤ i.natAbs + 1 → Bent k d (.int j) := fun j hj => bent_leaf (fit_int.mpr (by omega)) (by simp [PyData.bulk]) (by simp [PyData.depth])
  simp only [List.mem_cons, List.not_mem_nil, or_false] at m
  rcases m with rfl | rfl | rfl | rfl | rfl | rfl | rfl | rfl
  · exact bent_leaf rfl (by simp [PyData.bulk]) (by simp [PyData.depth])
  · exact int _ (by omega)
  · exact int _ (by omega)
  · exact int _ (by omega)
  · exact int _ (by omega)
  · exact int _ (by omega)
  · exact bent_wrap hk h
  · exact bent_leaf rfl (by simp [PyData.bulk]) (by simp [PyData.depth])
theorem asc_app {x y : Str} (a : asc x = true) (b : asc y = true) : asc (x ++ y) = true := by
  unfold asc at *
  rw [show (x ++ y).cps.toList = x.cps.toList ++ y.cps.toList from Array.toList_append, List.all_append, a, b]
  rfl
theorem asc_int (i : Int) : asc (toString i : String) = true := by
  refine List.all_eq_true.mpr fun c m => decide_eq_true ?_
  refine Decidable.byContradiction fun h => ?_
  exact PyProof.Rows.int_text_free' c ⟨by omega, .inr (by omega)⟩ i m
theorem asc_cut {x : Str} (a : asc x = true) (lo hi : Option Int) : asc (cutS x lo hi) = true := by
  refine List.all_eq_true.mpr fun c m => ?_
  refine List.all_eq_true.mp a c ?_
  have m' : c ∈ (x.cps.toList.drop (HT.sIx x.length 0 lo)).take (HT.sIx x.length x.length hi - HT.sIx x.length 0 lo) := m
  exact List.mem_of_mem_drop (List.mem_of_mem_take m')
theorem up_len {x : Str} (a : asc x = true) : (Txt.upper x).length = x.length ∧ asc (Txt.upper x) = true := by
  rw [PyProof.Rows.upper_ascii (x := x) fun c m => asc_lt a m]
  refine ⟨Array.size_map, List.all_eq_true.mpr fun c m => ?_⟩
  have m' : c ∈ (x.cps.map PyProof.Rows.up1).toList := m
  rw [Array.toList_map] at m'
  obtain ⟨b, h1, h2⟩ := List.mem_map.mp m'
  have hb := asc_lt a h1
  refine decide_eq_true ?_
  rw [← h2]
  unfold PyProof.Rows.up1
  split <;> omega
theorem bent_istr {d e : PyData} (h : fit k d = true) (hs : strD d = some e) (hk : 2 ≤ k) (hk2 : k ≤ 44) : Bent k d e := by
  cases d <;> cases hs
  · rename_i b
    cases b
    · exact bent_leaf (fit_str.mpr ⟨Nat.le_trans (show (5 : Nat) ≤ 40 by decide) (by omega), by decide +kernel⟩) (by simp only [PyData.bulk]; exact (show (5 : Nat) ≤ 60 by decide)) (by simp [PyData.depth])
    · exact bent_leaf (fit_str.mpr ⟨Nat.le_trans (show (4 : Nat) ≤ 40 by decide) (by omega), by decide +kernel⟩) (by simp only [PyData.bulk]; exact (show (4 : Nat) ≤ 60 by decide)) (by simp [PyData.depth])
  · rename_i i
    have l := int_len (by omega) (fit_int.mp h)
    have l2 : (Str.ofString (toString i)).length ≤ 42 := by rw [PySem.ofString_length]; exact l
    have l3 : (Str.ofString (toString i)).cps.size ≤ 42 := l2
    exact bent_leaf (fit_str.mpr ⟨Nat.le_trans l2 (by omega), asc_int i⟩) (by simp only [PyData.bulk]; exact Nat.le_trans l3 (by decide)) (by simp [PyData.depth])
theorem bent_str {x : Str} {e : PyData} (h : fit k (.str x) = true) (hk : 2 ≤ k) (m : e ∈ [PyData.str (x ++ "x"), .str (Txt.upper x), .str (cutS x none (some (-1))), .str (x ++ " "), .str (x ++ "\n"), .str "some", .str "and", .str "aaaaaaaaaaa", .str "all"]) : Bent k (.str x) e := by
  have ⟨z1, z2⟩ := fit_str.mp h
  have cat : ∀ y : Str, y.length = 1 → asc y = true → Bent k (.str x) (.str (x ++ y)) := fun y l a => by
    have l2 : (x ++ y).cps.size = x.cps.size + y.cps.size := Array.size_append
    have l3 : y.cps.size = 1 := l
    have l4 : x.cps.size ≤ 20 * k := z1
    exact ⟨fit_str.mpr ⟨by show (x ++ y).cps.size ≤ _; omega, asc_app z2 a⟩, by simp only [PyData.bulk]; omega, by simp [PyData.depth]⟩
  have con : ∀ y : Str, y.length ≤ 11 → asc y = true → Bent k (.str x) (.str y) := fun y l a => bent_odd hk (odd_str (by omega) a)
  simp only [List.mem_cons, List.not_mem_nil, or_false] at m
  rcases m with rfl | rfl | rfl | rfl | rfl | rfl | rfl | rfl | rfl
  · exact cat _ (by decide +kernel) (by decide +kernel)
  · have ⟨u1, u2⟩ := up_len z2
    have u3 : (Txt.upper x).cps.size = x.cps.size := u1
    exact ⟨fit_str.mpr ⟨by rw [u1]; omega, u2⟩, by simp only [PyData.bulk]; omega, by simp [PyData.depth]⟩
  · have u1 : (cutS x none (some (-1))).cps.size ≤ x.cps.size := cutS_length x _ _
    exact ⟨fit_str.mpr ⟨Nat.le_trans (cutS_length x _ _) (by omega), asc_cut z2 _ _⟩, by simp only [PyData.bulk]; omega, by simp [PyData.depth]⟩
  · exact cat _ (by decide +kernel) (by decide +kernel)
  · exact cat _ (by decide +kernel) (by decide +kernel)
  · exact con _ (by decide +kernel) (by decide +kernel)
  · exact con _ (by decide +kernel) (by decide +kernel)
  · exact con _ (by decide +kernel) (by decide +kernel)
  · exact con _ (by decide +kernel) (by decide +kernel)
/-! slices in numbers -/
theorem cutD_to {xs : List PyData} (k : Nat) : cutD xs none (some (k : Int)) = xs.take k := by
  unfold cutD
  rw [HT.sIx_none, HT.sIx_nat, List.drop_zero, Nat.sub_zero]
  by_cases h : k ≤ xs.length
  · rw [Nat.min_eq_left h]
  · rw [Nat.min_eq_right (by omega), List.take_of_length_le (Nat.le_refl _), List.take_of_length_le (by omega)]
theorem cutD_from {xs : List PyData} (k : Nat) : cutD xs (some (k : Int)) none = xs.drop k := by
  unfold cutD
  rw [HT.sIx_none, HT.sIx_nat]
  by_cases h : k ≤ xs.length
  · rw [Nat.min_eq_left h]
    exact List.take_of_length_le (by rw [List.length_drop]; exact Nat.le_refl _)
  · rw [Nat.min_eq_right (by omega), List.drop_of_length_le (Nat.le_refl _), List.drop_of_length_le (by omega), List.take_nil]
theorem cutD_one {xs : List PyData} (k : Nat) : cutD xs (some (k : Int)) (some ((k : Int) + 1)) = (xs.drop k).take 1 := by
  have e : ((k : Int) + 1) = ((k + 1 : Nat) : Int) := by omega
  unfold cutD
  rw [e, HT.sIx_nat, HT.sIx_nat]
  by_cases h : k + 1 ≤ xs.length
  · rw [Nat.min_eq_left h, Nat.min_eq_left (by omega), show k + 1 - k = 1 by omega]
  · rw [Nat.min_eq_right (by omega), show xs.length - min k xs.length = 0 by omega, List.take_zero]
    by_cases h2 : k = xs.length
    · subst h2
      rw [List.drop_of_length_le (Nat.le_refl _), List.take_nil]
    · rw [List.drop_of_length_le (by omega), List.take_nil]
theorem cutD_from1 {xs : List PyData} (k : Nat) : cutD xs (some ((k : Int) + 1)) none = xs.drop (k + 1) := by
  rw [show ((k : Int) + 1) = ((k + 1 : Nat) : Int) by omega, cutD_from]
end
end Tl
set_option Elab.async false
set_option linter.all false
set_option autoImplicit false
set_option maxRecDepth 100000
set_option maxHeartbeats 2000000
/-! a list of any values that is being made; pts with a test of tuples -/
namespace Tl
open PySem PySem.Spec PyProof.Rows L2
def With (M : Addr → Prop) (p : Addr) : Addr → Prop := fun a => M a ∨ a = p
section
variable {K : PySem.W.Frag} {M : Addr → Prop} {H H' : Hp} {p : Addr}
theorem Av.wi {v : V} {d : PyData} (h : Av K M H v d) (np : H p = none) : Av K (With M p) H v d := Av.re (fun a o n e z => z.elim n fun y => by
  subst y
  rw [np] at e
  cases e) d v h
theorem Avs.wi {vs : List V} {ds : List PyData} (h : Avs K M H vs ds) (np : H p = none) : Avs K (With M p) H vs ds := Avs.re (fun a o n e z => z.elim n fun y => by
  subst y
  rw [np] at e
  cases e) ds vs h
theorem Av.wo {v : V} {d : PyData} (h : Av K (With M p) H v d) : Av K M H v d := Av.re (fun a o n e z => n (.inl z)) d v h
theorem Avs.wo {vs : List V} {ds : List PyData} (h : Avs K (With M p) H vs ds) : Avs K M H vs ds := Avs.re (fun a o n e z => n (.inl z)) ds vs h
theorem pre_wi {o : HO} (pr : Pre M H) (e : H p = some o) : Pre (With M p) H := ⟨.inl pr.1, fun a m n => m.elim (fun z => pr.2 a z n) fun z => by
  subst z
  rw [e] at n
  cases n⟩
theorem mut_lst {xs : List V} (e : H p = some (.lst xs)) : Mut (H p) := by rw [e]; trivial
/-- the list p is written anew -/
theorem keep_p {xs ys : List V} (e : H p = some (.lst xs)) : Keep (With M p) H (upd H p (.lst ys)) := keep_up (mut_lst e) (.inr rfl)
theorem sq_ne {H2 : Hp} {a : Addr} {xs : List V} (h : SqL K H a xs) (np : H p = none) (s : ∀ o, a ≠ p → H a = some o → H2 a = some o) : SqL K H2 a xs := seq_off (fun o z => s o (fun e => by
  subst e
  rw [np] at z
  cases z) z) h
theorem Gv.st {d : PyData} {Q : VK} (q : ∀ v G, L2.Same H G → Av K M G v d → Q v G) : Gv K M H d Q := q
theorem fit_big {k : Nat} {d : PyData} (h : fit k d = true) (hk : k ≤ 45 := by omega) : hz 4000000 d = true := hz_up (by decide) (fit_hz hk h)
end
end Tl
set_option Elab.async false
set_option linter.all false
set_option autoImplicit false
set_option maxRecDepth 100000
set_option maxHeartbeats 4000000
namespace K01
open PySem PySem.Spec PyProof.Rows L2 Tl
open C8 (Cal pe_c)
/-! ### any value, bent -/
section
variable {K : PySem.W.Frag} {M : Addr → Prop} {H H' : Hp} {d l : Addr}
theorem off_keep (o : Off d l H H') (D : Deck H d l) (md : M d) (ml : M l) : Keep M H H' := ⟨o.stay D, fun a u n e => o a u (fun z => n (z ▸ md)) (fun z => n (z ▸ ml)) e⟩
theorem pre_off (pr : Pre M H) (o : Off d l H H') (D : Deck H' d l) : Pre M H' := ⟨pr.1, fun a m n => by
  by_cases h1 : a = d
  · subst h1
    obtain ⟨_, _, _, e, _⟩ := D
    rw [n] at e
    cases e
  by_cases h2 : a = l
  · subst h2
    obtain ⟨_, _, _, _, e, _⟩ := D
    rw [n] at e
    cases e
  refine pr.2 a m ?_
  cases e : H a with
  | none => rfl
  | some u =>
    have := o a u h1 h2 e
    rw [n] at this
    cases this⟩
end
/-- the menu of odd values at od -/
structure OddL (K : PySem.W.Frag) (M : Addr → Prop) (H : Hp) (d l od : Addr) (os : List V) (ods : List PyData) : Prop where
  sq : SqL K H od os
  nd : od ≠ d
  nl : od ≠ l
  av : Avs K M H os ods
  ne : os ≠ []
  len : os.length ≤ 1000
  all : ∀ o ∈ ods, OddD o
theorem OddL.off {K : PySem.W.Frag} {M : Addr → Prop} {H H' : Hp} {d l od : Addr} {os : List V} {ods : List PyData} (h : OddL K M H d l od os ods) (o : Off d l H H') (D : Deck H d l) (md : M d) (ml : M l) : OddL K M H' d l od os ods :=
  ⟨o.seq h.nd h.nl h.sq, h.nd, h.nl, h.av.k (off_keep o D md ml), h.ne, h.len, h.all⟩
/-- one of the odd values -/
theorem OddL.pick {K : PySem.W.Frag} {M : Addr → Prop} {H : Hp} {d l od : Addr} {os : List V} {ods : List PyData} {Q : VK} (h : OddL K M H d l od os ods) (D : Deck H d l) (md : M d) (ml : M l)
    (q : ∀ (x : V) (o : PyData) (H' : Hp), Av K M H' x o → OddD o → Off d l H H' → Deck H' d l → Q x H') : spPick K [.ref d, .ref od] H Q (fun _ _ _ => False) := by
  refine ⟨d, l, od, os, rfl, D, h.sq, h.nd, h.nl, h.ne, Nat.le_trans h.len (by decide), fun x H' m o D' => ?_⟩
  obtain ⟨e, m2, a⟩ := h.av.mem m
  exact q x e H' (a.k (off_keep o D md ml)) (h.all e m2) o D'
def spBentA (K : PySem.W.Frag) (n : Nat) : Sp := fun vs H Q _ => ∃ (d l od : Addr) (v : V) (dv : PyData) (k : Nat) (M : Addr → Prop) (os : List V) (ods : List PyData), vs = [.ref d, v, .ref od, .int (n : Int)] ∧ Deck H d l ∧ M d ∧ M l ∧ Pre M H ∧
  Av K M H v dv ∧ fit k dv = true ∧ 2 ≤ k ∧ k ≤ 44 ∧ OddL K M H d l od os ods ∧
  ∀ (v' : V) (d' : PyData) (H' : Hp), Off d l H H' → Deck H' d l → Av K M H' v' d' → Bent k dv d' → Q v' H'
def spB (K : PySem.W.Frag) : Nat → Sp
  | 0 => fun _ _ _ _ => False
  | n + 1 => spBentA K n
section
variable {P : Program} {w : World} {K : PySem.W.Frag} {mg : Str → Option Value} {base : Heap}
theorem cBent1 (T : Txt K mg) (n : Nat) (ih : Cal P w K mg base (n + 2) "_law_bent" (spB K n) []) : Cal P w K mg base (n + 3) "_law_bent" (spBentA K n) [] := by
  refine cal_of T.lawBent scLawBent (fun _ _ _ _ _ _ us hl => match us, hl with | [_, _, _, _], _ => rfl) (fun vs H Q E h => ?_) (fun f cdv A outer s H vs Q E hr h => ?_)
  · obtain ⟨d, l, od, v, dv, k, M, os, ods, rfl, _⟩ := h
    rfl
  obtain ⟨d, l, od, v, dv, k, M, os, ods, rfl, D, md, ml, pr, hv, hf, k2, k34, ho, q⟩ := h
  have hu := hu_of hr
  refine ⟨_, (C8.pss_cut (ps_if (PW.pt (pw_and (pt_val (pe_callB call_isi (by rfl) T.isinstance (by decide +kernel) (pa_cons (pv 1) (pa_cons (pe_bltn (v := V.ty "tuple") (u := Value.type "tuple") (by rfl) T.tuple (by decide +kernel) rfl) pa_nil)))) (pw_and (pt_cmpR (op_neNilT (K := K) rfl (Nat.lt_of_succ_lt hu)) (pv 1) (pe_tup pa_nil) (nomark _)) (pw_and (pt_cmpR op_gt (pv 3) pe_int (nomark _)) (pw_and1 (pt_cmpR op_gt (pe_c (cLawDraw T) hr (by omega) rfl (pa_cons (pv 0) (pa_cons pe_int pa_nil))) pe_int (nomark _)))))))
 (pss_cons (ps_set (i := 4) scLawBent.nd rfl (.inl rfl) (pe_c (cLawDraw T) hr (by omega) rfl (pa_cons (pv 0) (pa_cons (pe_callB call_len_seq (by rfl) T.len (by decide +kernel) (pa_cons (pv 1) pa_nil)) pa_nil))))
 (pss_one (ps_ret (pe_op (op_addA (K := K) rfl) (pe_op (op_addA (K := K) rfl) (ex_slT (K := K) rfl (ex_var (pv 1)) (ex_var (pv 4))) (pe_tup (pa_cons (pe_c ih hr (by omega) rfl (pa_cons (pv 0) (pa_cons (ex_at (K := K) rfl (ex_var (pv 1)) (ex_var (pv 4)) (fun _ _ => rfl)) (pa_cons (pv 2) (pa_cons (pe_op op_sub (pv 3) pe_int) pa_nil))))) pa_nil))) (ex_slF (K := K) rfl (ex_var (pv 1)) (ex_add rfl (ex_var (pv 4)) ex_int))))))
 pss_nil)
 (pss_cons (ps_if (pt_val (pe_callB call_isi (by rfl) T.isinstance (by decide +kernel) (pa_cons (pv 1) (pa_cons (pe_bltn (v := V.ty "tuple") (u := Value.type "tuple") (by rfl) T.tuple (by decide +kernel) rfl) pa_nil))))
 (pss_cons (ps_set (i := 4) scLawBent.nd rfl (.inl rfl) (pe_c (cLawDraw T) hr (by omega) rfl (pa_cons (pv 0) (pa_cons (pe_callB (call_max2 rfl) (by rfl) T.max (by decide +kernel) (pa_cons pe_int (pa_cons (pe_callB call_len_seq (by rfl) T.len (by decide +kernel) (pa_cons (pv 1) pa_nil)) pa_nil))) pa_nil))))
 (pss_cons (ps_set (i := 5) scLawBent.nd rfl (.inl rfl) (pe_lst (exs_cons (K := K) (ex_lstf rfl (by rfl) T.list (ex_var (pv 1))) (exs_cons (ex_add rfl (ex_slT rfl (ex_var (pv 1)) (ex_var (pv 4))) (ex_slF rfl (ex_var (pv 1)) (ex_add rfl (ex_var (pv 4)) ex_int))) (exs_cons (ex_add rfl (ex_add rfl (ex_slT rfl (ex_var (pv 1)) (ex_var (pv 4))) (ex_slB rfl (ex_var (pv 1)) (ex_var (pv 4)) (ex_add rfl (ex_var (pv 4)) ex_int))) (ex_slF rfl (ex_var (pv 1)) (ex_var (pv 4)))) (exs_cons (ex_rev rfl (ex_var (pv 1))) exs_nil))))))
 (pss_cons (ps_expr (pe_bm PySem.F.plainAttrs_list PySem.F.slot_list_extend PySem.F.type_list_extend mt_extend (pv 5) (pa_cons (pe_lst (pa_cons (pe_op (op_addA (K := K) rfl) (ex_var (K := K) (pv 1)) (pe_tup (pa_cons (pe_c (cLawPick T) hr (by omega) rfl (pa_cons (pv 0) (pa_cons (pv 2) pa_nil))) pa_nil))) (exs_cons (K := K) (ex_tup (exs_cons (ex_var (pv 1)) exs_nil)) (exs_cons (ex_slT rfl (ex_var (pv 1)) (ex_var (pv 4))) (exs_cons (ex_add rfl (ex_slF rfl (ex_var (pv 1)) (ex_var (pv 4))) (ex_slT rfl (ex_var (pv 1)) (ex_var (pv 4)))) exs_nil))))) pa_nil)))
 (pss_cons (ps_expr (pe_bm PySem.F.plainAttrs_list PySem.F.slot_list_append PySem.F.type_list_append mt_append (pv 5) (pa_cons (pe_c (cLawPick T) hr (by omega) rfl (pa_cons (pv 0) (pa_cons (pv 2) pa_nil))) pa_nil)))
 (pss_one (ps_ret (pe_c (cLawPick T) hr (by omega) rfl (pa_cons (pv 0) (pa_cons (pv 5) pa_nil)))))))))
 pss_nil)
 (pss_cons (ps_if (pt_val (pe_callB call_isi (by rfl) T.isinstance (by decide +kernel) (pa_cons (pv 1) (pa_cons (pe_bltn (v := V.ty "int") (u := Value.type "int") (by rfl) T.int (by decide +kernel) rfl) pa_nil))))
 (pss_one (ps_ret (pe_c (cLawPick T) hr (by omega) rfl (pa_cons (pv 0) (pa_cons (pe_lst (exs_cons (K := K) (ex_eqi rfl (ex_var (pv 1)) ex_int) (exs_cons (ex_add rfl (ex_var (pv 1)) ex_int) (exs_cons (ex_sub rfl (ex_var (pv 1)) ex_int) (exs_cons (ex_neg rfl (ex_var (pv 1))) (exs_cons ex_int (exs_cons ex_int (exs_cons (ex_strf rfl (by rfl) T.str (ex_var (pv 1))) (exs_cons (ex_tup (exs_cons (ex_var (pv 1)) exs_nil)) (exs_cons ex_non exs_nil)))))))))) pa_nil)))))
 pss_nil)
 (C8.pss_cut (ps_if (PW.pt (pw_and (pt_val (pe_callB call_isi (by rfl) T.isinstance (by decide +kernel) (pa_cons (pv 1) (pa_cons (pe_bltn (v := V.ty "str") (u := Value.type "str") (by rfl) T.str (by decide +kernel) rfl) pa_nil)))) (pw_and1 (pt_cmpR op_eq (pe_c (cLawDraw T) hr (by omega) rfl (pa_cons (pv 0) (pa_cons pe_int pa_nil))) pe_int (nomark _)))))
 (pss_one (ps_ret (pe_c (cLawPick T) hr (by omega) rfl (pa_cons (pv 0) (pa_cons (pe_lst (exs_cons (K := K) (ex_add rfl (ex_var (pv 1)) ex_str) (exs_cons (ex_up (ex_var (pv 1))) (exs_cons (ex_slT rfl (ex_var (pv 1)) (ex_neg rfl ex_int)) (exs_cons (ex_add rfl (ex_var (pv 1)) ex_str) (exs_cons (ex_add rfl (ex_var (pv 1)) ex_str) (exs_cons ex_str (exs_cons ex_str (exs_cons ex_mulA (exs_cons ex_str exs_nil)))))))))) pa_nil)))))
 pss_nil)
 (pss_one (ps_ret (pe_c (cLawPick T) hr (by omega) rfl (pa_cons (pv 0) (pa_cons (pv 2) pa_nil))))))))), ?_⟩
  have bz : ∀ {e : PyData}, fit k e = true → hz 900 e = true := fun h => fit_hz (by omega) h
  refine ⟨fun σ G => σ = [some (.ref d), some v, some (.ref od), some (.int (n : Int)), none, none] ∧ Off d l H G ∧ Deck G d l, ?_, ?_⟩
  · refine ⟨v, rfl, v, .ty "tuple", .type (tyN dv), .type "tuple", isTup dv, rfl, .ty _, ty_av hv, kit_ty (kb_tup dv), isTup dv, rfl, ?_⟩
    cases hv with
    | @tup a xs ds ha hs =>
      refine iteT ⟨.ref a, rfl, Nat.zero_le _, fun z nz => ?_⟩
      have D1 := D.new nz (o := .tup [])
      have o1 : Off d l H (upd H z (.tup [])) := off_new nz
      have hz : SqT K (upd H z (.tup [])) z [] := tupOf upd_same
      generalize upd H z (.tup []) = X1 at D1 o1 hz ⊢
      have ha1 := (o1.stay D).tup ha
      refine ⟨a, z, xs, rfl, rfl, ha1, hz, _, rfl, ?_⟩
      refine ifB (fun h1 => ?_) (fun h1 => ⟨rfl, o1, D1⟩)
      refine ⟨.int n, rfl, _, 0, rfl, rfl, _, rfl, ?_⟩
      refine ifB (fun h2 => ?_) (fun h2 => ⟨rfl, o1, D1⟩)
      refine ⟨.ref d, rfl, d, l, 4, rfl, D1, by omega, by omega, fun j X2 j0 j1 o2 D2 => ⟨j, 0, rfl, rfl, _, rfl, ?_⟩⟩
      refine ifB (fun h3 => ?_) (fun h3 => ⟨rfl, o1.trans o2, D2⟩)
      have ha2 := (o2.stay D1).tup ha1
      have o12 := o1.trans o2
      have pr2 := pre_off pr o12 D2
      have ne : xs ≠ [] := fun e => by
        subst e
        cases h1
      have npos : 0 < xs.length := List.length_pos_iff.mpr ne
      have len := (fit_tup.mp hf).1
      have lxs := hs.len
      have hv2 : Av K M X2 (.ref a) (.tuple ds) := (Av.tup ha hs).k (off_keep o12 D md ml)
      refine ⟨.ref d, rfl, .ref a, rfl, a, xs, rfl, .inr ha2, d, l, (xs.length : Int), rfl, D2, by omega, by omega, fun at_ X3 a0 a1 o3 D3 => ?_⟩
      obtain ⟨i, rfl⟩ := Int.eq_ofNat_of_zero_le a0
      have hi : i < xs.length := by omega
      have o13 := o12.trans o3
      have pr3 := pre_off pr o13 D3
      have hv3 : Av K M X3 (.ref a) (.tuple ds) := hv2.k (off_keep o3 D2 md ml)
      obtain ⟨m, rfl⟩ : ∃ m, n = m + 1 := ⟨n - 1, by
        have := of_decide_eq_true h2
        omega⟩
      -- the parts
      have en : ∀ {G : Hp}, Av K M G (.ref a) (.tuple ds) → EnvA K M G [some (.ref d), some (.ref a), some (.ref od), some (.int ((m + 1 : Nat) : Int)), some (.int (i : Int)), none] [.no, .dat (.tuple ds), .no, .no, .dat (.int (i : Int))] := fun h => ⟨⟨_, rfl, h⟩, ⟨_, rfl, .int _⟩, trivial⟩
      have zz : EnvZ 900 [.no, .dat (.tuple ds), .no, .no, .dat (.int (i : Int))] := fun r hr => by
        simp only [List.mem_cons, List.not_mem_nil, or_false] at hr
        rcases hr with rfl | rfl | rfl | rfl | rfl
        · trivial
        · exact bz hf
        · trivial
        · trivial
        · exact hz_int.mpr (Nat.lt_of_le_of_lt (show _ ≤ 1000 by omega) (by decide +kernel))
      refine ⟨M, pr3, 900, _, _, en hv3, zz, by decide +kernel, rfl, fun r1 X4 s4 h4 => ?_⟩
      obtain ⟨b, hb⟩ : ∃ b, ds[i]? = some b := ⟨ds[i]'(by omega), List.getElem?_eq_getElem (by omega)⟩
      have mb : b ∈ ds := List.mem_of_getElem? hb
      have D4 := D3.same s4
      have o14 := o13.trans (s4.off (d := d) (l := l))
      have pr4 := pr3.same s4
      have eb : atI ds (i : Int) = some b := atI_nat hb
      refine ⟨.ref d, rfl, M, pr4, 900, _, b, en (hv3.s s4), zz, by decide +kernel, ?_, fun y X5 s5 hy => ?_⟩
      · show some1 (atI ds (i : Int)) = _
        rw [eb]
        rfl
      have D5 := D4.same s5
      have o15 := o14.trans (s5.off (d := d) (l := l))
      refine ⟨.ref od, rfl, .int _, rfl, _, 1, rfl, rfl, d, l, od, y, b, k, M, os, ods, ?_, D5, md, ml, pr4.same s5, hy, (fit_tup.mp hf).2 b mb, k2, k34, ho.off o15 D md ml, fun y' b' X6 o6 D6 hy' be => ?_⟩
      · show [V.ref d, y, V.ref od, V.int (((m + 1 : Nat) : Int) - 1)] = [V.ref d, y, V.ref od, V.int (m : Int)]
        rw [show ((m + 1 : Nat) : Int) - 1 = (m : Int) by omega]
      refine ⟨by show 1 ≤ sizeLine; decide, fun t nt => ?_⟩
      have s7 := same_up (o := .tup [y']) nt
      have ht : Av K M (upd X6 t (.tup [y'])) (.ref t) (.tuple [b']) := .tup (tupOf upd_same) (.cons (hy'.s s7) .nil)
      generalize upd X6 t (.tup [y']) = X7 at s7 ht ⊢
      have D7 := D6.same s7
      have o67 := o6.trans (s7.off (d := d) (l := l))
      have k57 := off_keep o67 D5 md ml
      have f1 : fit k (.tuple (cutD ds none (some (i : Int)))) = true := by
        have ⟨z1, z2⟩ := fit_tup.mp hf
        exact fit_tup.mpr ⟨Nat.le_trans (cutD_len _ _ _) z1, fun e m => z2 e (cutD_sub m)⟩
      have f3 : fit k (.tuple (cutD ds (some ((i : Int) + 1)) none)) = true := by
        have ⟨z1, z2⟩ := fit_tup.mp hf
        exact fit_tup.mpr ⟨Nat.le_trans (cutD_len _ _ _) z1, fun e m => z2 e (cutD_sub m)⟩
      have f2 : fit (k + 1) (.tuple [b']) = true := fit_tup.mpr ⟨by simp, fun e m => by
        cases List.mem_singleton.mp m
        exact be.f⟩
      refine ⟨M, _, _, _, (h4.s s5).k k57, ht, fit_big f1, fit_big f2, rfl, fun r2 X8 s8 h8 => ?_⟩
      have hv8 := ((hv3.s (s4.trans s5)).k k57).s s8
      have o18 := (o15.trans o67).trans (s8.off (d := d) (l := l))
      have D8 := D7.same s8
      refine ⟨M, pre_off pr o18 D8, 900, _, _, en hv8, zz, by decide +kernel, rfl, fun r3 X9 s9 h9 => ?_⟩
      have hz12 : Tl.hz 4000000 (.tuple (cutD ds none (some (i : Int)) ++ [b'])) = true := by
        have ⟨y1, y2⟩ := hz_tup.mp (fit_big f1)
        have ⟨x1, x2⟩ := fit_tup.mp f1
        refine hz_tup.mpr ⟨by rw [List.length_append, List.length_singleton]; omega, fun e m => ?_⟩
        rcases List.mem_append.mp m with m | m
        · exact y2 e m
        · cases List.mem_singleton.mp m
          exact fit_big be.f
      refine ⟨M, _, _, _, h8.s s9, h9, hz12, fit_big f3, rfl, fun r4 Y s10 h10 => ?_⟩
      have sF := (s8.trans s9).trans s10
      refine q r4 _ Y ((o15.trans o67).trans (sF.off (d := d) (l := l))) (D7.same sF) h10 ?_
      rw [cutD_to, cutD_from1]
      exact bent_in hf hb be
    | _ => exact iteF ⟨rfl, Off.refl d l H, D⟩
  rintro σ' X0 ⟨rfl, o0, D0⟩
  have pr0 := pre_off pr o0 D0
  have hv0 := hv.k (off_keep o0 D md ml)
  have ho0 := ho.off o0 D md ml
  clear hv
  refine ⟨v, rfl, v, .ty "tuple", .type (tyN dv), .type "tuple", isTup dv, rfl, .ty _, ty_av hv0, kit_ty (kb_tup dv), isTup dv, rfl, ?_⟩
  refine ifB (fun ht => ?_) (fun ht => ?_)
  · -- a tuple, the whole of it
    cases hv0 with
    | @tup a xs ds ha hs =>
      have len := (fit_tup.mp hf).1
      have lxs := hs.len
      have hv0 : Av K M X0 (.ref a) (.tuple ds) := .tup ha hs
      refine ⟨.ref d, rfl, .ref a, rfl, a, xs, rfl, .inr ha, 1, (xs.length : Int), rfl, d, l, ((max 1 xs.length : Nat) : Int), ?_, D0, by omega, by omega, fun at_ X3 a0 a1 o3 D3 => ?_⟩
      · by_cases h1 : (xs.length : Int) > 1
        · rw [if_pos h1, Nat.max_eq_right (by omega)]
          rfl
        · rw [if_neg h1, Nat.max_eq_left (by omega)]
          rfl
      obtain ⟨i, rfl⟩ := Int.eq_ofNat_of_zero_le a0
      have o03 := o0.trans o3
      have hv3 := hv0.k (off_keep o3 D0 md ml)
      have pr3 := pre_off pr o03 D3
      have ho3 := ho0.off o3 D0 md ml
      have en : ∀ {N : Addr → Prop} {G : Hp} {t5 : Option V}, Av K N G (.ref a) (.tuple ds) → EnvA K N G [some (.ref d), some (.ref a), some (.ref od), some (.int (n : Int)), some (.int (i : Int)), t5] [.no, .dat (.tuple ds), .no, .no, .dat (.int (i : Int))] := fun h => ⟨⟨_, rfl, h⟩, ⟨_, rfl, .int _⟩, trivial⟩
      have zz : EnvZ 900 [.no, .dat (.tuple ds), .no, .no, .dat (.int (i : Int))] := fun r hr => by
        simp only [List.mem_cons, List.not_mem_nil, or_false] at hr
        rcases hr with rfl | rfl | rfl | rfl | rfl
        · trivial
        · exact bz hf
        · trivial
        · trivial
        · exact hz_int.mpr (Nat.lt_of_le_of_lt (show _ ≤ 1000 by omega) (by decide +kernel))
      refine ⟨M, pr3, 900, _, _, en hv3, zz, by decide +kernel, rfl, fun vs1 X4 s4 h4 => ⟨by rw [h4.len]; show 4 ≤ sizeLine; decide, fun p np => ?_⟩⟩
      have D4 := D3.same s4
      have o04 := o03.trans (s4.off (d := d) (l := l))
      have pd := D4.off np
      have s5 := same_up (o := .lst vs1) np
      -- from here on the list at p may be written
      have h5 : Avs K (With M p) (upd X4 p (.lst vs1)) vs1 _ := (h4.wi np).s s5
      have hv5 : Av K (With M p) (upd X4 p (.lst vs1)) (.ref a) (.tuple ds) := ((hv3.s s4).wi np).s s5
      have gp5 : (upd X4 p (.lst vs1)) p = some (.lst vs1) := upd_same
      have D5 := D4.new np (o := .lst vs1)
      have o05 := o04.trans (s5.off (d := d) (l := l))
      have ho5 : OddL K (With M p) (upd X4 p (.lst vs1)) d l od os ods := by
        have o35 := (s4.trans s5).off (d := d) (l := l)
        have h := ho3.off o35 D3 md ml
        exact ⟨h.sq, h.nd, h.nl, ((ho3.av.s s4).wi np).s s5, h.ne, h.len, h.all⟩
      have pr5 : Pre (With M p) (upd X4 p (.lst vs1)) := pre_wi (pre_off pr o05 D5) gp5
      generalize upd X4 p (.lst vs1) = X5 at s5 h5 hv5 gp5 D5 o05 ho5 pr5 ⊢
      have md' : With M p d := .inl md
      have ml' : With M p l := .inl ml
      refine ⟨.ref p, rfl, .inl ⟨rfl, _, lst_of gp5⟩, With M p, pr5, 900, _, _, en hv5, zz, by decide +kernel, rfl, fun u1 X6 s6 hu1 => ?_⟩
      have D6 := D5.same s6
      have o56 := s6.off (d := d) (l := l)
      refine ⟨.ref d, rfl, .ref od, rfl, (ho5.off o56 D5 md' ml').pick D6 md' ml' fun y1 b1 X7 hb1 ob1 o7 D7 => ?_⟩
      refine ⟨by show 1 ≤ sizeLine; decide, fun t nt => ?_⟩
      have s8 := same_up (o := .tup [y1]) nt
      have ht8 : Av K (With M p) (upd X7 t (.tup [y1])) (.ref t) (.tuple [b1]) := .tup (tupOf upd_same) (.cons (hb1.s s8) .nil)
      generalize upd X7 t (.tup [y1]) = X8 at s8 ht8 ⊢
      have D8 := D7.same s8
      have o68 := o7.trans (s8.off (d := d) (l := l))
      have k68 := off_keep o68 D6 md' ml'
      have fb1 : fit 44 (.tuple [b1]) = true := fit_tup.mpr ⟨by simp, fun e m => by
        cases List.mem_singleton.mp m
        exact fit_up (by decide) ob1.f⟩
      refine ⟨With M p, _, _, _, hu1.k k68, ht8, fit_big hf, fit_big fb1, rfl, fun u2 X9 s9 hu2 => ?_⟩
      have o59 := (o56.trans o68).trans (s9.off (d := d) (l := l))
      have D9 := D8.same s9
      have pr9 := pre_off pr5 o59 D9
      have k59 := off_keep o59 D5 md' ml'
      refine ⟨With M p, pr9, 900, _, _, en (hv5.k k59), zz, by decide +kernel, rfl, fun vs2 X10 s10 h10 => ⟨by rw [List.length_cons, h10.len]; show 4 ≤ sizeLine; decide, fun p2 np2 => ?_⟩⟩
      have s11 := same_up (o := .lst (u2 :: vs2)) np2
      have g11 : (upd X10 p2 (.lst (u2 :: vs2))) p2 = some (.lst (u2 :: vs2)) := upd_same
      have h11 : Avs K (With M p) (upd X10 p2 (.lst (u2 :: vs2))) (u2 :: vs2) _ := (Avs.cons (hu2.s s10) h10).s s11
      generalize upd X10 p2 (.lst (u2 :: vs2)) = X11 at s11 g11 h11 ⊢
      have s911 := s10.trans s11
      have o511 := o59.trans (s911.off (d := d) (l := l))
      have D11 := D9.same s911
      have k511 := off_keep o511 D5 md' ml'
      have gp11 := o511 _ _ pd.1 pd.2 gp5
      have h511 := h5.k k511
      have lv1 := h5.len
      have lv2 := h11.len
      refine ⟨p, p2, vs1, u2 :: vs2, rfl, rfl, gp11, g11, ?_, ?_⟩
      · rw [lv1, lv2]
        show 4 + 4 ≤ sizeLine
        decide
      -- the list p has grown
      have k12 : Keep (With M p) X11 (upd X11 p (.lst (vs1 ++ u2 :: vs2))) := keep_p gp11
      have gp12 : (upd X11 p (.lst (vs1 ++ u2 :: vs2))) p = some (.lst (vs1 ++ u2 :: vs2)) := upd_same
      have h12 := (h511.app h11).k k12
      have D12 := D11.mut (p := p) (o := .lst (vs1 ++ u2 :: vs2)) pd.1 pd.2
      have ho12 : OddL K (With M p) (upd X11 p (.lst (vs1 ++ u2 :: vs2))) d l od os ods := by
        have h := ho5.off o511 D5 md' ml'
        refine ⟨?_, h.nd, h.nl, h.av.k k12, h.ne, h.len, h.all⟩
        refine sq_ne ((ho3.off ((s4.off (d := d) (l := l))) D3 md ml).sq) np fun o n e => ?_
        rw [upd_ne n]
        exact o511 _ _ h.nd h.nl (s5 _ _ e)
      have o012 : Off d l X4 (upd X11 p (.lst (vs1 ++ u2 :: vs2))) := ((s5.off (d := d) (l := l)).trans o511).mut np
      have o12 := o04.trans o012
      have pr12 : Pre (With M p) (upd X11 p (.lst (vs1 ++ u2 :: vs2))) := pre_wi (pre_off pr o12 D12) gp12
      generalize upd X11 p (.lst (vs1 ++ u2 :: vs2)) = X12 at k12 gp12 h12 D12 ho12 o012 o12 pr12 ⊢
      refine ⟨.ref p, rfl, .inl ⟨rfl, _, lst_of gp12⟩, .ref d, rfl, .ref od, rfl, ho12.pick D12 md' ml' fun y2 b2 X13 hb2 ob2 o13 D13 => ?_⟩
      have gp13 := o13 _ _ pd.1 pd.2 gp12
      have h13 := h12.k (off_keep o13 D12 md' ml')
      have lv := h13.len
      refine ⟨p, _, y2, rfl, rfl, gp13, ?_, ?_⟩
      · rw [lv]
        show 8 < sizeLine
        decide
      have k14 : Keep (With M p) X13 (upd X13 p (.lst (vs1 ++ u2 :: vs2 ++ [y2]))) := keep_p gp13
      have gp14 : (upd X13 p (.lst (vs1 ++ u2 :: vs2 ++ [y2]))) p = some (.lst (vs1 ++ u2 :: vs2 ++ [y2])) := upd_same
      have h14 := (h13.app (.cons hb2 .nil)).k k14
      have D14 := D13.mut (p := p) (o := .lst (vs1 ++ u2 :: vs2 ++ [y2])) pd.1 pd.2
      have o414 : Off d l X4 (upd X13 p (.lst (vs1 ++ u2 :: vs2 ++ [y2]))) := (o012.trans o13).mut np
      generalize upd X13 p (.lst (vs1 ++ u2 :: vs2 ++ [y2])) = X14 at k14 gp14 h14 D14 o414 ⊢
      refine ⟨.ref d, rfl, .ref p, rfl, d, l, p, _, rfl, D14, lst_of gp14, pd.1, pd.2, by simp, ?_, fun x X15 mx o15 D15 => ?_⟩
      · rw [h14.len]
        show 9 ≤ 100000
        decide
      obtain ⟨e, me, he⟩ := h14.mem mx
      have o15' := (o04.trans o414).trans o15
      refine q x e X15 o15' D15 ((he.wo).k (off_keep o15 D14 md ml)) ?_
      simp only [List.mem_append, List.mem_cons, List.not_mem_nil, or_false] at me
      rcases me with ((me | me | me | me) | me | me | me | me) | me
      all_goals first | subst me | skip
      · exact bent_list hf
      · rw [cutD_to, cutD_from1]
        exact bent_del i hf
      · rw [cutD_to, cutD_one, cutD_from]
        exact bent_dup i hf
      · exact bent_rev hf
      · exact bent_snoc k2 hf ob1
      · exact bent_wrap k2 hf
      · rw [cutD_to]
        exact bent_take i hf
      · rw [cutD_to, cutD_from]
        exact bent_rot i hf
      · exact bent_odd k2 ob2
    | _ => cases ht
  refine ⟨v, rfl, v, .ty "int", .type (tyN dv), .type "int", isIntB dv, rfl, .ty _, ty_av hv0, kit_ty (kb_int dv), isIntB dv, rfl, ?_⟩
  have en : EnvA K M X0 [some (.ref d), some v, some (.ref od), some (.int (n : Int)), none, none] [.no, .dat dv] := ⟨⟨_, rfl, hv0⟩, trivial⟩
  have zz : EnvZ 900 [.no, .dat dv] := fun r hr => by
    simp only [List.mem_cons, List.not_mem_nil, or_false] at hr
    rcases hr with rfl | rfl
    · trivial
    · exact bz hf
  refine ifB (fun hi => ?_) (fun hi => ?_)
  · -- an int or a bool
    obtain ⟨j, hj, sx, hsx⟩ : ∃ j, numO dv = some j ∧ ∃ sx, strD dv = some sx := by
      cases dv <;> cases hi
      · exact ⟨_, rfl, _, rfl⟩
      · exact ⟨_, rfl, _, rfl⟩
    have e1 : eqID dv (.int 1) = some (.bool (j == 1)) := by cases dv <;> cases hi <;> cases hj <;> rfl
    have e2 : addD dv (.int 1) = some (.int (j + 1)) := by cases dv <;> cases hi <;> cases hj <;> rfl
    have e3 : subD dv (.int 1) = some (.int (j - 1)) := by cases dv <;> cases hi <;> cases hj <;> rfl
    have e4 : negD dv = some (.int (-j)) := by cases dv <;> cases hi <;> cases hj <;> rfl
    refine ⟨.ref d, rfl, M, pr0, 900, _, [.bool (j == 1), .int (j + 1), .int (j - 1), .int (-j), .int 0, .int 1, sx, .tuple [dv], .none], en, zz, by decide +kernel, ?_, fun vs X1 s1 h1 => ⟨by rw [h1.len]; show 9 ≤ sizeLine; decide, fun p np => ?_⟩⟩
    · simp only [Ex.ev, one, rdat, some1, List.getElem?_cons_succ, List.getElem?_cons_zero, Option.map_some, Option.bind_some, e1, e2, e3, e4, hsx]
    have s2 := same_up (o := .lst vs) np
    have D1 := D0.same s1
    have pd := D1.off np
    have h2 := h1.s s2
    have o12 := (s1.trans s2).off (d := d) (l := l)
    refine ⟨d, l, p, vs, rfl, D1.same s2, lst_of upd_same, pd.1, pd.2, (fun e => by subst e; cases h1), by rw [h1.len]; show 9 ≤ 100000; decide, fun x X3 mx o3 D3 => ?_⟩
    obtain ⟨e, me, he⟩ := h2.mem mx
    refine q x e X3 ((o0.trans o12).trans o3) D3 (he.k (off_keep o3 (D1.same s2) md ml)) ?_
    by_cases m7 : e = sx
    · subst m7
      exact bent_istr hf hsx k2 k34
    · refine bent_int hj hf k2 k34 ?_
      simp only [List.mem_cons, List.not_mem_nil, or_false] at me ⊢
      rcases me with me | me | me | me | me | me | me | me | me
      · exact .inl me
      · exact .inr (.inl me)
      · exact .inr (.inr (.inl me))
      · exact .inr (.inr (.inr (.inl me)))
      · exact .inr (.inr (.inr (.inr (.inl me))))
      · exact .inr (.inr (.inr (.inr (.inr (.inl me)))))
      · exact absurd me m7
      · exact .inr (.inr (.inr (.inr (.inr (.inr (.inl me))))))
      · exact .inr (.inr (.inr (.inr (.inr (.inr (.inr me))))))
  refine ⟨fun σ G => σ = [some (.ref d), some v, some (.ref od), some (.int (n : Int)), none, none] ∧ Off d l X0 G ∧ Deck G d l, ?_, ?_⟩
  · refine ⟨v, rfl, v, .ty "str", .type (tyN dv), .type "str", isStr dv, rfl, .ty _, ty_av hv0, kit_ty (kb_str dv), isStr dv, rfl, ?_⟩
    refine ifB (fun hs => ?_) (fun hs => ⟨rfl, Off.refl d l X0, D0⟩)
    refine ⟨.ref d, rfl, d, l, 2, rfl, D0, by omega, by omega, fun j X1 j0 j1 o1 D1 => ⟨rfl, _, rfl, ?_⟩⟩
    refine ifB (fun _ => ?_) (fun _ => ⟨rfl, o1, D1⟩)
    cases dv with
    | str x =>
      have pr1 := pre_off pr0 o1 D1
      have hv1 := hv0.k (off_keep o1 D0 md ml)
      have en1 : EnvA K M X1 [some (.ref d), some v, some (.ref od), some (.int (n : Int)), none, none] [.no, .dat (.str x)] := ⟨⟨_, rfl, hv1⟩, trivial⟩
      refine ⟨.ref d, rfl, M, pr1, 900, _, [.str (x ++ "x"), .str (Txt.upper x), .str (cutS x none (some (-1))), .str (x ++ " "), .str (x ++ "\n"), .str "some", .str "and", .str "aaaaaaaaaaa", .str "all"], en1, zz, by decide +kernel, rfl, fun vs X2 s2 h2 => ⟨by rw [h2.len]; show 9 ≤ sizeLine; decide, fun p np => ?_⟩⟩
      have s3 := same_up (o := .lst vs) np
      have D2 := D1.same s2
      have pd := D2.off np
      have h3 := h2.s s3
      have o13 := (s2.trans s3).off (d := d) (l := l)
      refine ⟨d, l, p, vs, rfl, D2.same s3, lst_of upd_same, pd.1, pd.2, (fun e => by subst e; cases h2), by rw [h2.len]; show 9 ≤ 100000; decide, fun y X4 my o4 D4 => ?_⟩
      obtain ⟨e, me, he⟩ := h3.mem my
      exact q y e X4 (((o0.trans o1).trans o13).trans o4) D4 (he.k (off_keep o4 (D2.same s3) md ml)) (bent_str hf k2 me)
    | _ => cases hs
  rintro σ' X1 ⟨rfl, o1, D1⟩
  refine ⟨.ref d, rfl, .ref od, rfl, (ho0.off o1 D0 md ml).pick D1 md ml fun y b X2 hb ob o2 D2 => ?_⟩
  exact q y b X2 ((o0.trans o1).trans o2) D2 hb (bent_odd k2 ob)
theorem cLawBent (T : Txt K mg) : ∀ n : Nat, Cal P w K mg base (n + 2) "_law_bent" (spB K n) []
  | 0 => calUp (cal_false T.lawBent (ps := ["deck", "thing", "odd", "deep"]) (fun _ _ _ _ _ _ us hl => match us, hl with | [_, _, _, _], _ => rfl)) (Nat.zero_le _)
  | n + 1 => cBent1 T n (cLawBent T n)
end
end K01
set_option Elab.async false
set_option linter.all false
set_option autoImplicit false
set_option maxRecDepth 100000
set_option maxHeartbeats 2000000
/-! sets of texts: set(l), sorted(set) -/
namespace Tl
open PySem PySem.Spec PyProof.Rows L2
def wOf (e : Int × Value) : Str := match e.2 with | .str x _ => x | _ => ⟨#[]⟩
def IsTx (w : World) (e : Int × Value) : Prop := ∃ x t, e.2 = Value.str x t ∧ e.1 = hashStr w x
/-- the set of texts at a: its members S, their number c -/
def SetS (w : World) (h : Heap) (a : Addr) (S : Str → Bool) (c : Nat) : Prop :=
  ∃ o es ep t, h.get? a = some o ∧ o.ExactSet ∧ o.data = .set es ep t ∧ (∀ e ∈ es.toList, IsTx w e) ∧ (es.toList.map wOf).Nodup ∧ (∀ x, S x = true ↔ x ∈ es.toList.map wOf) ∧
    es.size < scanBound ∧ t.fits es.size = true ∧ es.size = c ∧ Ris t.place.toList ∧ (w.params.followText "set-order" = true ∨ t.led = true)
section
variable {P : Program} {w : World} {h h' : Heap} {a : Addr} {S : Str → Bool} {c : Nat}
theorem SetS.moved (R : SetS w h a S c) (k : ∀ o, h.get? a = some o → h'.get? a = some o) : SetS w h' a S c := by
  obtain ⟨o, es, ep, t, g, r⟩ := R
  exact ⟨o, es, ep, t, k o g, r⟩
theorem SetS.like {S' : Str → Bool} (R : SetS w h a S c) (e : ∀ k, S' k = S k) : SetS w h a S' c := by
  rw [show S' = S from funext e]
  exact R
theorem tx_elems {l : List (Int × Value)} (g : ∀ e ∈ l, IsTx w e) : ElemsOf (PySem.strKind P w) l := fun e m => by
  obtain ⟨x, t, e1, e2⟩ := g e m
  exact ⟨⟨x, by rw [e1]; exact strKind_is P w x t, e2⟩, by rw [e1] <;> rfl⟩
theorem tx_is {e : Int × Value} (g : IsTx w e) (x : Str) : (PySem.strKind P w).is x e.2 = true ↔ wOf e = x := by
  obtain ⟨y, t, e1, _⟩ := g
  unfold wOf
  rw [e1]
  show Value.isStrOf x (.str y t) = true ↔ y = x
  simp [Value.isStrOf]
  try exact eq_comm
theorem tx_mem {l : List (Int × Value)} (g : ∀ e ∈ l, IsTx w e) (x : Str) : x ∈ l.map wOf ↔ ∃ e ∈ l, (PySem.strKind P w).is x e.2 = true := by
  rw [List.mem_map]
  exact ⟨fun ⟨e, m, q⟩ => ⟨e, m, (tx_is (g e m) x).2 q⟩, fun ⟨e, m, q⟩ => ⟨e, m, (tx_is (g e m) x).1 q⟩⟩
end
section
variable {P : Program} {w : World} {A : Around} {E : Value → Shared → Prop} {s : Shared} {a : Addr} {S : Str → Bool} {c : Nat}
theorem tx_tail {g : Bool → Sem Unit} (gw : ∀ (b : Bool) (s1 : Shared) (Q1 : Unit → Shared → Prop), Q1 () s1 → wpAny (model P w) A (g b) Q1 E s1)
    {o : Obj} {es : Array (Int × Value)} {ep : Nat} {t : SetTable} (ha : s.heap.get? a = some o) (hx : o.ExactSet) (hd : o.data = .set es ep t)
    {es1 : Array (Int × Value)} {t2 : SetTable} {S1 : Str → Bool} (g1 : ∀ e ∈ es1.toList, IsTx w e) (n1 : (es1.toList.map wOf).Nodup) (m1 : ∀ x, S1 x = true ↔ x ∈ es1.toList.map wOf)
    (b1 : es1.size < scanBound) (f2 : t2.fits es1.size = true) (r2 : Ris t2.place.toList) (l2 : w.params.followText "set-order" = true ∨ t2.led = true) {dummy : Bool} {R : Option Bool → Shared → Prop}
    (go : ∀ h1, Heap.SameBut a s.heap h1 → SetS w h1 a S1 es1.size → R (some true) { s with heap := h1 }) :
    wpAny (model P w) A (do
        storeSet a es1 t2
        if (!dummy && t2.tooFull) = true then do
            g (relayAll t2 es1 (SetTable.grown es1.size)).2.2
            storeSet a (relayAll t2 es1 (SetTable.grown es1.size)).1 (relayAll t2 es1 (SetTable.grown es1.size)).2.1
            pure (some true)
          else pure (some true)) R E s := by
  refine wpAny_bind (wpAny_storeSet_of ha hd ?_ (fits_of_scanBound b1))
  have at1 := store_at (es' := es1) (t' := t2) ha hd
  have but1 := Heap.SameBut.update s.heap a (Obj.putSet es1 t2)
  split
  · have p3 := relayAll_perm t2 es1 (SetTable.grown es1.size)
    have f3 := relayAll_fits t2 es1 (SetTable.grown es1.size)
    have r3 := relayAll_ris t2 es1 (SetTable.grown es1.size)
    have l3 := relayAll_led t2 es1 (SetTable.grown es1.size)
    generalize relayAll t2 es1 (SetTable.grown es1.size) = Y at p3 f3 r3 l3 ⊢
    obtain ⟨es2, t3, y⟩ := Y
    dsimp only at p3 f3 r3 l3 ⊢
    have sz2 : es2.size = es1.size := by rw [← Array.length_toList, p3.length_eq, Array.length_toList]
    have b2 : es2.size < scanBound := sz2 ▸ b1
    refine wpAny_bind (gw _ _ _ ?_)
    refine wpAny_bind (wpAny_storeSet_of at1 rfl ?_ (fits_of_scanBound b2))
    have at2 := store_at (es' := es2) (t' := t3) at1 rfl
    exact wpAny_pure (go _ (but1.trans (Heap.SameBut.update _ a _)) ⟨_, es2, _, t3, at2, hx, rfl, fun e m => g1 e (p3.mem_iff.mp m), (p3.map wOf).nodup_iff.mpr n1, fun x => (m1 x).trans (p3.map wOf).mem_iff.symm, b2, f3, sz2, r3,
      l2.imp id fun z => l3.trans z⟩)
  · exact wpAny_pure (go _ but1 ⟨_, es1, _, t2, at1, hx, rfl, g1, n1, m1, b1, f2, rfl, r2, l2⟩)
theorem tx_add {x : Str} {tk : Tok} {Q : Bool → Shared → Prop} (R : SetS w s.heap a S c) (room : c + 1 < scanBound)
    (go : ∀ h1, Heap.SameBut a s.heap h1 → SetS w h1 a (fun y => S y || decide (y = x)) (if S x = true then c else c + 1) → Q (!S x) { s with heap := h1 }) :
    wpAny (model P w) A (setAddHashed a (.str x tk) ((PySem.strKind P w).hash x)) Q E s := by
  obtain ⟨o, es, ep, t, ha, hx, hd, g, nd, hm, hb, hf, hn, hr, hl⟩ := R
  have isx : (PySem.strKind P w).is x (.str x tk) = true := strKind_is P w x tk
  have sca : (Value.str x tk).scannable = true := rfl
  have els : ElemsOf (PySem.strKind P w) es.toList := tx_elems g
  unfold setAddHashed setAddHashedIn
  refine wpAny_holding (wpAny_bind (wpAny_setState_of ha hd hf ?_))
  dsimp only
  rw [byScan_of sca hb els]
  simp only [↓reduceIte]
  unfold setAddByScan
  refine wpAny_bind ?_
  refine wpAny_bind (wpAny_rule ?_)
  refine wpAny_bind (wpAny_setScan_of isx ha hd hf els ?_)
  cases found : List.findIdx? (fun e => (PySem.strKind P w).is x e.2) es.toList with
  | some j =>
    dsimp only
    obtain ⟨jl, pj, _⟩ := List.findIdx?_eq_some_iff_getElem.mp found
    have Sx : S x = true := (hm x).2 ((tx_mem (P := P) (w := w) g x).2 ⟨es.toList[j], List.getElem_mem jl, pj⟩)
    refine wpAny_pure (wpAny_pure ?_)
    have q := go s.heap (Heap.SameBut.refl a s.heap) ⟨o, es, ep, t, ha, hx, hd, g, nd, fun y => by
      rw [Bool.or_eq_true, decide_eq_true_eq, ← hm y]
      exact ⟨fun z => z.elim id (fun e => e ▸ Sx), .inl⟩, hb, hf, by rw [if_pos Sx]; exact hn, hr, hl⟩
    rw [Sx] at q
    exact q
  | none =>
    dsimp only
    have out : x ∉ es.toList.map wOf := fun z => by
      obtain ⟨e, m, q⟩ := (tx_mem (P := P) (w := w) g x).1 z
      have := List.findIdx?_eq_none_iff.mp found e m
      rw [q] at this
      cases this
    have Sx : S x = false := by
      cases q : S x with
      | false => rfl
      | true => exact absurd ((hm x).1 q) out
    have gave : ∀ (b : Bool) {s1 : Shared} {Q1 : Unit → Shared → Prop}, Q1 () s1 → wpAny (model P w) A (match b with | true => rule "set.scan.the-table-gave-way" | false => pure ()) Q1 E s1 :=
      fun b s1 Q1 q => by cases b <;> first | exact wpAny_pure q | exact wpAny_rule q
    have p1 := layNew_perm t es ((PySem.strKind P w).hash x) (.str x tk)
    have f1 := layNew_fits t es ((PySem.strKind P w).hash x) (.str x tk)
    have r1 := layNew_ris t es ((PySem.strKind P w).hash x) (.str x tk) hr
    have l1 := layNew_led t es ((PySem.strKind P w).hash x) (.str x tk)
    generalize layNew t es ((PySem.strKind P w).hash x) (.str x tk) = Y at p1 f1 r1 l1 ⊢
    obtain ⟨es1, t1, dm, y⟩ := Y
    dsimp only at p1 f1 r1 l1 ⊢
    rw [Array.toList_push] at p1
    have pc : es1.toList.Perm (((PySem.strKind P w).hash x, Value.str x tk) :: es.toList) := p1.trans (List.perm_append_singleton _ _)
    have pk : (es1.toList.map wOf).Perm (x :: es.toList.map wOf) := pc.map wOf
    have g1 : ∀ e ∈ es1.toList, IsTx w e := fun e m => by
      rcases List.mem_cons.mp (pc.mem_iff.mp m) with z | z
      · rw [z]; exact ⟨x, tk, rfl, rfl⟩
      · exact g e z
    have n1 : (es1.toList.map wOf).Nodup := pk.nodup_iff.mpr (List.nodup_cons.mpr ⟨out, nd⟩)
    have m1 : ∀ y, (S y || decide (y = x)) = true ↔ y ∈ es1.toList.map wOf := fun y => by
      rw [Bool.or_eq_true, decide_eq_true_eq, hm y, pk.mem_iff, List.mem_cons]
      exact Or.comm
    have sz1 : es1.size = c + 1 := by rw [← Array.length_toList, pc.length_eq, List.length_cons, Array.length_toList, hn]
    have b1 : es1.size < scanBound := sz1 ▸ room
    have led1 : w.params.followText "set-order" = true ∨ t1.led = true := hl.imp id fun z => l1.trans z
    have fin : ∀ h1, Heap.SameBut a s.heap h1 → SetS w h1 a (fun y => S y || decide (y = x)) es1.size → Q true { s with heap := h1 } := fun h1 sb r => by
      have q := go h1 sb
      rw [Sx] at q
      rw [sz1] at r
      exact q r
    refine wpAny_bind (gave _ ?_)
    split
    · refine wpAny_bind ?_
      rw [hashByValue_scannable 8 sca]
      refine wpAny_pure ?_
      refine tx_tail ?_ ha hx hd g1 n1 m1 b1 ?_ ?_ ?_ ?_
      · exact fun b s1 Q1 q => by cases b <;> first | exact wpAny_pure q | exact wpAny_rule q
      · first | (split <;> first | exact f1 | exact SetTable.fits_plain_off f1) | exact f1
      · first | (split <;> exact r1) | exact r1
      · first | (split <;> exact led1) | exact led1
      · intro h1 sb r; dsimp only; exact wpAny_pure (fin h1 sb r)
    · refine wpAny_bind (wpAny_pure ?_)
      simp only [↓reduceIte]
      refine tx_tail ?_ ha hx hd g1 n1 m1 b1 f1 r1 led1 ?_
      · exact fun b s1 Q1 q => by cases b <;> first | exact wpAny_pure q | exact wpAny_rule q
      · intro h1 sb r; dsimp only; exact wpAny_pure (fin h1 sb r)
theorem txNew {w : World} {h : Heap} {a : Addr} {xs : List Str} (g : h.get? a = some (nu w)) : SetS w h a (fun y => decide (y ∈ xs.take 0)) 0 :=
  ⟨_, #[], 0, _, g, ⟨rfl, rfl, rfl⟩, rfl, (fun e m => by simp at m), (by simp), (fun x => by simp), (by decide), (by rfl), rfl, List.Pairwise.nil, by
    show _ ∨ (!w.params.followText "set-order") = true
    cases w.params.followText "set-order"
    · exact .inr rfl
    · exact .inl rfl⟩
/-- the texts in, one after the other -/
theorem tx_update {I : Addr} {fp wr : List Addr} {G : Array GenState → Array GenState → Prop} {n : Nat} {Pv : Nat → Value → Prop} {St : Nat → Shared → Prop} {R : Result → Shared → Prop}
    (W : WalksS P w A.in1 I fp wr G n Pv St) (a : Addr) (off : a ∉ fp) (xs : List Str) (hn : n = xs.length) (room : xs.length + 1 < scanBound) (val : ∀ i v, Pv i v → ∃ x t, xs[i]? = some x ∧ v = .str x t) :
    ∀ (k i : Nat) (s : Shared), n - i = k → i ≤ n → St i s → (∃ c, c ≤ i ∧ SetS w s.heap a (fun y => decide (y ∈ xs.take i)) c) →
      (∀ s1 c, Moved (a :: wr) G s s1 → c ≤ n → SetS w s1.heap a (fun y => decide (y ∈ xs)) c → R (.ok (.ret .none)) s1) →
      codeAny (model P w) A (.builtin "set.update.loop" ⟨[.ref a, .ref I], []⟩) R s := by
  have aw : a ∉ wr := fun h => off (W.sub _ h)
  have more : ∀ b ∈ wr, b ∈ a :: wr := fun b m => List.mem_cons_of_mem _ m
  intro k
  induction k with
  | zero =>
    intro i s ek le st ⟨c, hc, hS⟩ go
    obtain rfl : i = n := by omega
    refine codeAny_builtin F.entry_set_update_loop ?_
    rw [Around.under_plainId F.plain_set_update_loop _]
    show wpAny _ A.in1 (pyNext (.ref I) >>= _) _ _ s
    refine wpAny_bind (W.done s _ _ st fun s1 mv => ?_)
    show wpAny _ A.in1 (ret Value.none) _ _ s1
    rw [show xs.take i = xs from List.take_of_length_le (by omega)] at hS
    exact wpAny_pure (go s1 c (mv.mono more) hc (hS.moved fun o e => mv.heap a o aw e))
  | succ k ih =>
    intro i s ek le st ⟨c, hc, hS⟩ go
    have lt : i < n := by omega
    refine codeAny_builtin F.entry_set_update_loop ?_
    rw [Around.under_plainId F.plain_set_update_loop _]
    show wpAny _ A.in1 (pyNext (.ref I) >>= _) _ _ s
    refine wpAny_bind (W.item i s _ _ lt st fun v s1 hv st1 mv => ?_)
    obtain ⟨x, t, hx, rfl⟩ := val i v hv
    have hS1 : SetS w s1.heap a (fun y => decide (y ∈ xs.take i)) c := hS.moved fun o e => mv.heap a o aw e
    show wpAny _ A.in1 (holding [Value.str x t] (setAdd a (.str x t)) >>= _) _ _ s1
    refine wpAny_bind (wpAny_holding ?_)
    unfold setAdd
    refine wpAny_holding ?_
    refine wpAny_bind ((PySem.strKind P w).pyHash (k := x) (strKind_is _ _ _ _) ?_)
    refine tx_add (s := { s1 with toks := s1.toks + 1 }) hS1 (by omega) fun h1 sb hS2 => ?_
    have hS3 : SetS w h1 a (fun y => decide (y ∈ xs.take (i + 1))) (if decide (x ∈ xs.take i) = true then c else c + 1) := hS2.like fun y => by
      rw [List.take_add_one, hx]
      simp [List.mem_append]
    have c3 : (if decide (x ∈ xs.take i) = true then c else c + 1) ≤ i + 1 := by
      split <;> omega
    refine wpAny_pure ⟨plainId_quiet F.plain_set_update_loop _, ih (i + 1) _ (by omega) lt (W.frame _ s1 _ _ st1 (Nat.le_succ _) fun b m o e => ?_) ⟨_, c3, hS3⟩ fun s2 c2 mv2 hc2 hS4 => ?_⟩
    · rw [sb.2 b (fun z : b = a => off (z ▸ m))]
      exact e
    · refine go s2 c2 (Moved.trans W.gtrans ((mv.mono more).then_heap (Nat.le_succ _) fun b o m e => ?_) mv2) hc2 hS4
      rw [sb.2 b (fun z : b = a => m (z ▸ List.mem_cons_self))]
      exact e
theorem str_at : ∀ {vs : List Value} {xs : List Str}, StrsAre vs xs → ∀ (i : Nat) (v : Value), vs[i]? = some v → ∃ x t, xs[i]? = some x ∧ v = .str x t
  | _, _, .nil, _, _, h => nomatch h
  | _, _, .cons x t _, 0, _, h => by cases h; exact ⟨x, t, rfl, rfl⟩
  | _, _, .cons _ _ r, i + 1, v, h => str_at r i v h
set_option maxHeartbeats 3200000 in
theorem set_list_tx {l : Addr} {vs : Array Value} (xs : List Str) {Q : Value → Shared → Prop} (calm : A.handled = none) (at_ : s.heap.IsList l vs)
    (are : StrsAre vs.toList xs) (few : xs.length + 1 < scanBound)
    (go : ∀ (h' : Heap) (tk c : Nat), SetS w h' s.heap.objs.size (fun y => decide (y ∈ xs)) c → c ≤ xs.length →
      (∀ b o, s.heap.get? b = some o → h'.get? b = some o) → Q (.ref s.heap.objs.size) { s with heap := h', toks := tk }) :
    wpAny (model P w) A (call (.type "set") [.ref l]) Q E s := by
  have same : vs.size = xs.length := (Array.length_toList (xs := vs)).symm.trans (StrsAre.length are)
  obtain ⟨c0, tl0, mro0⟩ := F.called_set.mro
  have f1 := F.called_set.made
  have f2 := F.called_set.sub
  refine wpAny_call (codeAny_of_tree ?_)
  show wpAny _ _ (callAny (.type "set") _) _ _ _
  refine wpAny_pure ⟨Code.quiet_builtin _ (by decide +kernel), codeAny_builtin F.entry_type_call ?_⟩
  rw [Around.under_plain (weight_type_call_type "set" [.ref l] []) rfl]
  have f3 := F.called_set.notType
  have f4 := F.called_set.canCreate
  have f5 := F.typeCall_set_1 (.ref l)
  repeat (any_goals (first | assumption | wp_step))
  -- the new set
  refine codeAny_mono (code_set_led1 (.ref l) (E := E) (Q₁ := fun x t => x = .ref s.heap.objs.size ∧ t = { s with heap := s.heap.push (nu w) }) ⟨rfl, rfl⟩) fun r t hr => ?_
  match r, hr with
  | .error _, hr => exact hr
  | .ok .next, hr => exact hr.elim
  | .ok .brk, hr => exact hr.elim
  | .ok .cont, hr => exact hr.elim
  | .ok (.ret x), hr =>
    obtain ⟨e1, e2⟩ := hr
    subst e1 e2
    have g0 : (s.heap.push (nu w)).get? s.heap.objs.size = some (nu w) := Heap.get?_push_size _ rfl
    have ty0 : Shared.TypeIs { s with heap := s.heap.push (nu w) } (.ref s.heap.objs.size) "set" := ⟨_, g0, rfl⟩
    have f6 := F.called_set.init.lookup
    have f7 := F.called_set.init.bind (.ref s.heap.objs.size)
    repeat (any_goals (first | assumption | wp_step))
    -- it is filled
    refine codeAny_mono (codeAny_call_builtin (R := wants (fun r t => r = .none ∧ ∃ h' tk c, t = { s with heap := h', toks := tk } ∧ SetS w h' s.heap.objs.size (fun y => decide (y ∈ xs)) c ∧ c ≤ xs.length ∧
        ∀ b o, s.heap.get? b = some o → h'.get? b = some o) E) F.called_set.init.plain F.entry_set_init (check_set_init_1 ty0 ?_)) fun r t ht => ?_
    · obtain ⟨⟨oc, od, odt, osl⟩, ho, hoc, n, hod⟩ := at_
      simp only at hoc hod
      subst hoc hod
      have ho1 : (s.heap.push (nu w)).get? l = some { cls := .type "list", dict := od, data := .seq vs n, slots := osl } := Heap.get?_push_of_some _ ho
      have f8 := F.sub_list_set
      have f9 := F.sub_list_frozenset
      have f10 : (Value.type "list" == Value.type "dict") = false := by decide
      have isl : (s.heap.push (nu w)).IsList l vs := ⟨_, ho1, rfl, n, rfl⟩
      unfold Builtin.«set.__init__» noKeywords Builtin.Frozenset.updateFrom
      generalize hit : pyIter = it
      wp_walk
      subst hit
      refine wpAny_pyIter_list isl ?_
      refine wpAny_bind (wpAny_runValue ?_)
      have low : l < s.heap.objs.size := Heap.lt_size ho
      have calm3 : A.in1.in1.in1.handled = none := by simp [calm]
      have ne1 : l ≠ (s.heap.push (nu w)).objs.size := by
        rw [Heap.size_push]
        exact Nat.ne_of_lt (Nat.lt_succ_of_lt low)
      have off : s.heap.objs.size ∉ [(s.heap.push (nu w)).objs.size, l] := by
        intro hm
        rw [Heap.size_push] at hm
        rcases List.mem_cons.mp hm with q | hm
        · exact absurd q (Nat.ne_of_lt (Nat.lt_succ_self _))
        · exact absurd (List.mem_singleton.mp hm) (Nat.ne_of_gt low)
      refine tx_update ((Walks.list calm3 _ l ne1 vs).toS) s.heap.objs.size off xs same few (fun i v hv => ?_) (vs.size - 0) 0 _ (by omega) (Nat.zero_le _)
        ⟨⟨_, Heap.get?_push_size _ rfl, rfl, rfl⟩, isl.push _⟩ ⟨0, Nat.le_refl 0, txNew (Heap.get?_push_of_some _ g0)⟩ fun t' c moved le set' => ?_
      · have hi : i < xs.length := same ▸ (Array.getElem?_eq_some_iff.mp hv).1
        exact str_at are i v (by rw [Array.getElem?_toList]; exact hv)
      · obtain ⟨h', g2, d', tk', os'⟩ := t'
        obtain rfl : g2 = s.gens := moved.gens
        obtain rfl : d' = s.drawn := moved.drawn
        obtain rfl : os' = s.os := moved.os
        show wpAny _ _ _ _ _ _
        refine wpAny_pure ?_
        show wpAny _ _ (ret Value.none) _ _ _
        refine wpAny_pure ⟨rfl, h', tk', c, rfl, set', by omega, fun b o e => ?_⟩
        have lb : b < s.heap.objs.size := Heap.lt_size e
        refine moved.heap b o (fun hm => ?_) (Heap.get?_push_of_some _ (Heap.get?_push_of_some _ e))
        rcases List.mem_cons.mp hm with q | hm
        · exact absurd q (Nat.ne_of_lt lb)
        · have q := List.mem_singleton.mp hm
          have q2 : b = s.heap.objs.size + 1 := q.trans (Heap.size_push ..)
          rw [q2] at lb
          exact absurd lb (Nat.not_lt.mpr (Nat.le_succ _))
    · match r, ht with
      | .error _, ht => exact ht
      | .ok .next, ht => exact ht.elim
      | .ok .brk, ht => exact ht.elim
      | .ok .cont, ht => exact ht.elim
      | .ok (.ret x), ht =>
        obtain ⟨rfl, h', tk, c, rfl, set', le, keep⟩ := ht
        repeat (any_goals (first | assumption | wp_step))
        exact go _ _ _ set' le keep
/-- sorted(set), fewer than 64 texts -/
theorem sorted_tx {Q : Value → Shared → Prop} (R : SetS w s.heap a S c) (calm : A.handled = none) (few : c < 64)
    (go : ∀ s1 p (out : Array Value) (k : Nat) (ys : List Str), (∀ b o, s.heap.get? b = some o → s1.heap.get? b = some o) → s1.gens = s.gens → s1.os = s.os → s.heap.objs.size ≤ p →
      s1.heap.get? p = some (seqObj "list" out k) → StrsAre out.toList ys → sortedS ys = true → ys.Nodup → (∀ x, x ∈ ys ↔ S x = true) → ys.length = c → Q (.ref p) s1) :
    wpAny (model P w) A (call (.builtin "sorted") [.ref a]) Q E s := by
  obtain ⟨o, es, ep, t, ha, hx, hd, g, nd, hm, hb, hf, hn, hr, hl⟩ := R
  refine Calls.call_function_entry kind_sorted plain_sorted entry_sorted (args_sorted1 _) ?_
  unfold Builtin.«sorted»
  refine wpAny_bind (m := checkCount "sorted" 1 1 _) (wpAny_pure ?_)
  refine wpAny_bind (collect_set (A := A.in1) calm ⟨o, ha, hx.1, hd⟩ hf hb hr hl fun s1 vs k1 hz g1 o1 pm => ?_)
  have lvs : vs.length = c := by rw [pm.length_eq, List.length_map, Array.length_toList]; exact hn
  have tx : ∀ vs : List Value, (∀ v ∈ vs, ∃ x t, v = Value.str x t) → ∃ ys : List Str, StrsAre vs ys ∧ ys = vs.map fun v => wOf (0, v) := fun vs => by
    induction vs with
    | nil => exact fun _ => ⟨[], .nil, rfl⟩
    | cons v vs ih =>
      intro h
      obtain ⟨x, t, rfl⟩ := h v List.mem_cons_self
      obtain ⟨ys, h1, h2⟩ := ih fun v m => h v (List.mem_cons_of_mem _ m)
      exact ⟨x :: ys, .cons x t h1, by rw [h2]; rfl⟩
  obtain ⟨xs, hS, hxs⟩ := tx vs fun v m => by
    obtain ⟨e, he, q⟩ := List.mem_map.mp (pm.mem_iff.mp m)
    obtain ⟨x, t, e1, _⟩ := g e he
    exact ⟨x, t, by rw [← q]; exact e1⟩
  have px : xs.Perm (es.toList.map wOf) := by
    rw [hxs]
    have q := pm.map fun v => wOf (0, v)
    rw [List.map_map] at q
    exact q
  refine wpAny_bind (wpAny_newList ?_ (by rw [lvs, sizeLine_eq]; omega))
  have atL : (s1.heap.push (seqObj "list" vs.toArray 0)).get? s1.heap.objs.size = some (seqObj "list" vs.toArray 0) := Heap.get?_push_size _ rfl
  refine wpAny_bind (wpAny_holding (wpAny_call_entry slot_list_sort ⟨_, atL, rfl⟩ entry_list_sort
    (list_sort_treeK strKind_oneLt atL hS.keysOf (fun v1 v2 rest e => keyKind_strs (by rw [← e]; exact hS)) (by rw [lvs]; exact few) fun st hp hs => ⟨_, rfl, ?_⟩) (args_list_sort _)))
  obtain ⟨ys, y1, y2, y3⟩ := sorted_out_str hS hp hs
  obtain ⟨k, hk⟩ := sortedHeap_at (vs := vs) (out := (arrOf st).map (·.2)) atL
  have py : ys.Perm (es.toList.map wOf) := y2.trans px
  refine wpAny_pure ⟨_, rfl, go _ s1.heap.objs.size _ k ys (fun b u e => ?_) g1 o1 hz hk y1 y3 (py.nodup_iff.mpr nd) (fun x => by rw [py.mem_iff, ← hm x]) ?_⟩
  · have q := k1 b u e
    have lt := Heap.lt_size q
    show (sortedHeap (s1.heap.push (seqObj "list" vs.toArray 0)) s1.heap.objs.size vs _).get? b = some u
    rw [sortedHeap_old (Nat.ne_of_lt lt) (by rw [size_push']; exact Nat.lt_succ_of_lt lt)]
    exact Heap.get?_push_of_some _ q
  · rw [py.length_eq, List.length_map, Array.length_toList]
    exact hn
end
/-- the set of texts at a -/
def SetSO (w : World) (a : Addr) (S : Str → Bool) (c : Nat) : HO := .ext fun h => SetS w h a S c
section
variable {X : Cx}
theorem setSO_new {w : World} {P : Program} {H : Hp} {h : Heap} {a : Addr} {S : Str → Bool} {c : Nat} (R : SetS w h a S c) : ObjOk P w H h a (SetSO w a S c) := by
  have ⟨o, _, _, _, ha, _⟩ := R
  exact ⟨R, ⟨o, ha⟩, fun h1 h2 p k => SetS.moved p k⟩
/-- set(l), l a list of texts -/
def rSetS (K : PySem.W.Frag) (w : World) : List V → Hp → VK → Prop := fun vs H Q => ∃ (p : Addr) (xs : List Str), vs = [V.ref p] ∧ SqL K H p (xs.map V.str) ∧ xs.length ≤ 1000 ∧
    ∀ (a : Addr) (c : Nat), c ≤ xs.length → H a = none → Q (V.ref a) (upd H a (SetSO w a (fun y => decide (y ∈ xs)) c))
theorem cr_setS (calm : X.calm = true) : CallR X (.type "set") (rSetS X.K X.w) := by
  intro pins s σ H vs us Q I r ⟨p, xs, e, sq, few, q⟩
  subst e
  rw [Vals.ref1 r]
  have bound : xs.length + 1 < scanBound := Nat.lt_of_le_of_lt (Nat.add_le_add_right few 1) (by decide)
  obtain ⟨its, rv, ⟨o, n, ho, hc, hd, hdat⟩, _⟩ := I.list sq
  exact set_list_tx xs (I.ok.hd calm) ⟨o, ho, hc, n, hdat⟩ rv.strs bound fun h' tk c R le k =>
    ⟨.ref s.heap.objs.size, _, I.laid k (Nat.le_refl _) (setSO_new R), rfl, q _ c le (I.hok.fresh (Nat.le_refl _))⟩
/-- sorted(set), of texts -/
def rSortSetS (w : World) : List V → Hp → VK → Prop := fun vs H Q => ∃ (a : Addr) (S : Str → Bool) (c : Nat), vs = [V.ref a] ∧ H a = some (SetSO w a S c) ∧ c < 64 ∧
  ∀ (ys : List Str) (p : Addr), sortedS ys = true → ys.Nodup → (∀ x, x ∈ ys ↔ S x = true) → ys.length = c → H p = none → Q (.ref p) (upd H p (.lst (ys.map V.str)))
theorem cr_sortSetS (calm : X.calm = true) : CallR X (.builtin "sorted") (rSortSetS X.w) := by
  intro pins s σ H vs us Q I r ⟨a, S, c, e, ha, few, q⟩
  subst e
  have R : SetS X.w s.heap a S c := (I.hok a _ ha).1
  rw [Vals.ref1 r]
  refine sorted_tx R (I.ok.hd calm) few fun s1 p out k ys kp g o hp hk hs so nd hm hl => ?_
  have lys : (ys.map V.str).length ≤ sizeLine := by rw [List.length_map, hl, sizeLine_eq]; omega
  have np : H p = none := I.hok.fresh hp
  have J : Inv X pins σ (upd H p (.lst (ys.map V.str))) { s with heap := s1.heap, gens := s1.gens, drawn := s1.drawn, toks := s1.toks } :=
    I.call (ch := []) (Un.laid kp hp np) (I.hok.laid kp hp ⟨lys, out.toList, k, vals_of_strs hs, hk⟩) (by rw [g]; exact I.bare) (fun _ z => nomatch z)
  have e : s1 = { s with heap := s1.heap, gens := s1.gens, drawn := s1.drawn, toks := s1.toks } := by
    cases s1
    cases s
    cases o
    rfl
  rw [e]
  exact ⟨.ref p, _, J, rfl, q ys p so nd hm hl np⟩
end
end Tl
set_option Elab.async false
set_option linter.all false
set_option autoImplicit false
set_option maxRecDepth 100000
set_option maxHeartbeats 3200000
/-! set(t), t a tuple of tuples of ints -/
namespace Tl
open PySem PySem.Spec PyProof.Rows L2
section
variable {P : Program} {w : World} {A : Around} {E : Value → Shared → Prop} {s : Shared}
theorem set_tup_tups {l : Addr} {vs : Array Value} (ks : List (Addr × List Int)) {Q : Value → Shared → Prop} (calm : A.handled = none) (at_ : s.heap.IsTuple l vs)
    (are : vs.toList = ks.map fun p => Value.ref p.1) (ats : ∀ p ∈ ks, IsT P w s.heap p.2 p.1) (few : ks.length < 64) (hu : A.units + 3 < cLine)
    (go : ∀ (h' : Heap) (tk : Nat) L es ep t, SetTR P w h' s.heap.objs.size L es ep t → Got ks ks.length L →
      (∀ b o, s.heap.get? b = some o → h'.get? b = some o) → Q (.ref s.heap.objs.size) { s with heap := h', toks := tk }) :
    wpAny (model P w) A (call (.type "set") [.ref l]) Q E s := by
  have same : vs.size = ks.length := by
    have := congrArg List.length are
    rwa [Array.length_toList, List.length_map] at this
  obtain ⟨c0, tl0, mro0⟩ := F.called_set.mro
  have f1 := F.called_set.made
  have f2 := F.called_set.sub
  refine wpAny_call (codeAny_of_tree ?_)
  show wpAny _ _ (callAny (.type "set") _) _ _ _
  refine wpAny_pure ⟨Code.quiet_builtin _ (by decide +kernel), codeAny_builtin F.entry_type_call ?_⟩
  rw [Around.under_plain (weight_type_call_type "set" [.ref l] []) rfl]
  have f3 := F.called_set.notType
  have f4 := F.called_set.canCreate
  have f5 := F.typeCall_set_1 (.ref l)
  repeat (any_goals (first | assumption | wp_step))
  -- the new set
  refine codeAny_mono (code_set_led1 (.ref l) (E := E) (Q₁ := fun x t => x = .ref s.heap.objs.size ∧ t = { s with heap := s.heap.push (nu w) }) ⟨rfl, rfl⟩) fun r t hr => ?_
  match r, hr with
  | .error _, hr => exact hr
  | .ok .next, hr => exact hr.elim
  | .ok .brk, hr => exact hr.elim
  | .ok .cont, hr => exact hr.elim
  | .ok (.ret x), hr =>
    obtain ⟨e1, e2⟩ := hr
    subst e1 e2
    have g0 : (s.heap.push (nu w)).get? s.heap.objs.size = some (nu w) := Heap.get?_push_size _ rfl
    have ty0 : Shared.TypeIs { s with heap := s.heap.push (nu w) } (.ref s.heap.objs.size) "set" := ⟨_, g0, rfl⟩
    have f6 := F.called_set.init.lookup
    have f7 := F.called_set.init.bind (.ref s.heap.objs.size)
    repeat (any_goals (first | assumption | wp_step))
    -- it is filled
    refine codeAny_mono (codeAny_call_builtin (R := wants (fun r t => r = .none ∧ ∃ h' tk L es ep t2, t = { s with heap := h', toks := tk } ∧ SetTR P w h' s.heap.objs.size L es ep t2 ∧ Got ks ks.length L ∧
        ∀ b o, s.heap.get? b = some o → h'.get? b = some o) E) F.called_set.init.plain F.entry_set_init (check_set_init_1 ty0 ?_)) fun r t ht => ?_
    · obtain ⟨⟨oc, od, odt, osl⟩, ho, hoc, n, hod⟩ := at_
      simp only at hoc hod
      subst hoc hod
      have ho1 : (s.heap.push (nu w)).get? l = some { cls := .type "tuple", dict := od, data := .seq vs n, slots := osl } := Heap.get?_push_of_some _ ho
      have f8 := F.sub_tuple_set
      have f9 := F.sub_tuple_frozenset
      have f10 : (Value.type "tuple" == Value.type "dict") = false := by decide
      have isl : (s.heap.push (nu w)).IsTuple l vs := ⟨_, ho1, rfl, n, rfl⟩
      unfold Builtin.«set.__init__» noKeywords Builtin.Frozenset.updateFrom
      generalize hit : pyIter = it
      wp_walk
      subst hit
      refine wpAny_pyIter_tuple isl ?_
      refine wpAny_bind (wpAny_runValue ?_)
      have low : l < s.heap.objs.size := Heap.lt_size ho
      have calm3 : A.in1.in1.in1.handled = none := by simp [calm]
      have ne1 : l ≠ (s.heap.push (nu w)).objs.size := by
        rw [Heap.size_push]
        exact Nat.ne_of_lt (Nat.lt_succ_of_lt low)
      have off : s.heap.objs.size ∉ [(s.heap.push (nu w)).objs.size, l] := by
        intro hm
        rw [Heap.size_push] at hm
        rcases List.mem_cons.mp hm with q | hm
        · exact absurd q (Nat.ne_of_lt (Nat.lt_succ_self _))
        · exact absurd (List.mem_singleton.mp hm) (Nat.ne_of_gt low)
      have free : ∀ b, s.heap.objs.size ≤ b → s.heap.get? b = none := fun b hb => Heap.get?_none_of_le hb
      refine set_update_tups ((Walks.tuple calm3 _ l ne1 vs).toS) s.heap.objs.size off ks same few (fun i v hv => ?_) s.heap ats (free _ (Nat.le_refl _)) (fun b m => free b (by
          rw [List.mem_singleton.mp m, Heap.size_push]
          exact Nat.le_succ _)) hu (vs.size - 0) 0 _ (by omega) (Nat.zero_le _)
        ⟨⟨_, Heap.get?_push_size _ rfl, rfl, rfl⟩, isl.push _⟩ (fun b o e => Heap.get?_push_of_some _ (Heap.get?_push_of_some _ e)) ⟨[], #[], 0, _, setTR_fresh (Heap.get?_push_of_some _ g0), Got.zero ks⟩ fun t' L es ep t2 moved set' got keep => ?_
      · have e : vs.toList[i]? = some v := by rw [Array.getElem?_toList]; exact hv
        rw [are, List.getElem?_map] at e
        cases k : ks[i]? with
        | none => rw [k] at e; cases e
        | some p =>
          rw [k] at e
          exact ⟨p, rfl, (Option.some.inj e).symm⟩
      · obtain ⟨h', g2, d', tk', os'⟩ := t'
        obtain rfl : g2 = s.gens := moved.gens
        obtain rfl : d' = s.drawn := moved.drawn
        obtain rfl : os' = s.os := moved.os
        show wpAny _ _ _ _ _ _
        refine wpAny_pure ?_
        show wpAny _ _ (ret Value.none) _ _ _
        rw [same] at got
        exact wpAny_pure ⟨rfl, h', tk', L, es, ep, t2, rfl, set', got, keep⟩
    · match r, ht with
      | .error _, ht => exact ht
      | .ok .next, ht => exact ht.elim
      | .ok .brk, ht => exact ht.elim
      | .ok .cont, ht => exact ht.elim
      | .ok (.ret x), ht =>
        obtain ⟨rfl, h', tk, L, es, ep, t2, rfl, set', got, keep⟩ := ht
        repeat (any_goals (first | assumption | wp_step))
        exact go _ _ _ _ _ _ set' got keep
end
section
variable {X : Cx}
def rSetTT (K : PySem.W.Frag) (P : Program) (w : World) : List V → Hp → VK → Prop := fun xs H Q => ∃ (l : Addr) (ks : List (Addr × List Int)), xs = [V.ref l] ∧ SqT K H l (ks.map fun p => V.ref p.1) ∧ (∀ p ∈ ks, SqT K H p.1 (p.2.map V.int)) ∧ ks.length < 64 ∧
  ∀ a L, H a = none → (∀ p ∈ L, p ∈ ks) → (∀ p ∈ ks, p.2 ∈ L.map (·.2)) → Q (.ref a) (upd H a (SetTO P w a L))
theorem cr_setTT (calm : X.calm = true) (hu : X.A.units + 64 < cLine) : CallR X (.type "set") (rSetTT X.K X.prog X.w) := by
  intro pins s σ H xs us Q I r ⟨l, ks, e, hl, hk, few, q⟩
  subst e
  rw [Vals.ref1 r]
  obtain ⟨its, rv, pl, _⟩ := I.tuple hl
  refine set_tup_tups (P := X.prog) (w := X.w) ks (I.ok.hd calm) pl (by simpa using refs_of_vals rv) (fun p m => I.isT (hk p m)) few (by omega) fun h' tk L es ep t R g k => ?_
  refine ⟨.ref s.heap.objs.size, _, I.laid (t' := tk) k (Nat.le_refl _) (setTO_new R.t0), rfl, q _ L (I.hok.fresh (Nat.le_refl _)) (fun p m => List.mem_of_mem_take (g.sub p m)) fun p m => g.all p (by rw [List.take_length]; exact m)⟩
end
end Tl
set_option Elab.async false
set_option linter.all false
set_option autoImplicit false
set_option maxRecDepth 100000
set_option maxHeartbeats 2000000
/-! lists in order, each item once -/
namespace Tl
open PySem PySem.Spec PyProof.Rows L2
theorem pw_unique {α : Type} {R : α → α → Prop} (irr : ∀ a, ¬ R a a) (tr : ∀ a b c, R a b → R b c → R a c) : ∀ xs ys : List α, xs.Pairwise R → ys.Pairwise R → (∀ x, x ∈ xs ↔ x ∈ ys) → xs = ys
  | [], [], _, _, _ => rfl
  | [], y :: ys, _, _, h => absurd ((h y).mpr List.mem_cons_self) (by simp)
  | x :: xs, [], _, _, h => absurd ((h x).mp List.mem_cons_self) (by simp)
  | x :: xs, y :: ys, hx, hy, h => by
    obtain ⟨x1, x2⟩ := List.pairwise_cons.mp hx
    obtain ⟨y1, y2⟩ := List.pairwise_cons.mp hy
    have e : x = y := by
      rcases List.mem_cons.mp ((h x).mp List.mem_cons_self) with e | m
      · exact e
      · rcases List.mem_cons.mp ((h y).mpr List.mem_cons_self) with e | m2
        · exact e.symm
        · exact absurd (tr _ _ _ (y1 x m) (x1 y m2)) (irr y)
    subst e
    congr 1
    refine pw_unique irr tr xs ys x2 y2 fun z => ⟨fun m => ?_, fun m => ?_⟩
    · rcases List.mem_cons.mp ((h z).mp (List.mem_cons_of_mem _ m)) with e | m2
      · subst e
        exact absurd (x1 z m) (irr z)
      · exact m2
    · rcases List.mem_cons.mp ((h z).mpr (List.mem_cons_of_mem _ m)) with e | m2
      · subst e
        exact absurd (y1 z m) (irr z)
      · exact m2
theorem pw_consec {α : Type} {R : α → α → Prop} (tr : ∀ a b c, R a b → R b c → R a c) (xs : List α) : (∀ (i : Nat) (h : i + 1 < xs.length), R (xs[i]'(by omega)) (xs[i + 1]'h)) ↔ xs.Pairwise R := by
  constructor
  · intro c
    rw [List.pairwise_iff_getElem]
    have go : ∀ (n i : Nat) (h : i + n + 1 < xs.length), R (xs[i]'(by omega)) (xs[i + n + 1]'h) := by
      intro n
      induction n with
      | zero => exact fun i h => c i h
      | succ n ih => exact fun i h => tr _ _ _ (ih i (by omega)) (c (i + n + 1) (by omega))
    intro i j hi hj lt
    obtain ⟨n, rfl⟩ : ∃ n, j = i + n + 1 := ⟨j - i - 1, by omega⟩
    exact go n i hj
  · exact fun p i h => List.pairwise_iff_getElem.mp p i (i + 1) (by omega) h (by omega)
theorem eqv_strs : ∀ xs ys : List Str, PyData.eqvAll (xs.map PyData.str) (ys.map PyData.str) = decide (xs = ys)
  | [], [] => by simp [PyData.eqvAll]
  | [], y :: ys => by simp [PyData.eqvAll]
  | x :: xs, [] => by simp [PyData.eqvAll]
  | x :: xs, y :: ys => by
    rw [List.map_cons, List.map_cons, PyData.eqvAll, eqv_strs xs ys, PyData.eqv, Bool.eq_iff_iff]
    simp
def pr2 (e : Int × Int) : PyData := .tuple [.int e.1, .int e.2]
theorem eqv_prs : ∀ xs ys : List (Int × Int), PyData.eqvAll (xs.map pr2) (ys.map pr2) = decide (xs = ys)
  | [], [] => by simp [PyData.eqvAll]
  | [], y :: ys => by simp [PyData.eqvAll]
  | x :: xs, [] => by simp [PyData.eqvAll]
  | x :: xs, y :: ys => by
    rw [List.map_cons, List.map_cons, PyData.eqvAll, eqv_prs xs ys, pr2, pr2, PyData.eqv, PyData.eqvAll, PyData.eqvAll, PyData.eqvAll, PyData.eqv, PyData.eqv, Bool.eq_iff_iff]
    obtain ⟨a, b⟩ := x
    obtain ⟨c, e⟩ := y
    simp
theorem eqv_is : ∀ xs ys : List Int, PyData.eqvAll (xs.map PyData.int) (ys.map PyData.int) = decide (xs = ys)
  | [], [] => by simp [PyData.eqvAll]
  | [], y :: ys => by simp [PyData.eqvAll]
  | x :: xs, [] => by simp [PyData.eqvAll]
  | x :: xs, y :: ys => by
    rw [List.map_cons, List.map_cons, PyData.eqvAll, eqv_is xs ys, PyData.eqv, Bool.eq_iff_iff]
    simp
end Tl
set_option Elab.async false
set_option linter.all false
set_option autoImplicit false
set_option maxRecDepth 100000
set_option maxHeartbeats 4000000
namespace K01
open PySem PySem.Spec PyProof.Rows L2 Tl
open C8 (Cal pe_c)
/-! ### the law's own look at a world -/
theorem ascD_iff {α : Type} {f : α → PyData} {R : α → α → Prop} (hR : ∀ a b, ltD (f a) (f b) = true ↔ R a b) (tr : ∀ a b c, R a b → R b c → R a c) (xs : List α) : ascD (xs.map f) = true ↔ xs.Pairwise R := by
  rw [← pw_consec tr]
  unfold ascD
  rw [List.all_eq_true, List.length_map]
  constructor
  · intro h i hi
    have := h _ (List.mem_map.mpr ⟨i, List.mem_range.mpr (by omega), rfl⟩)
    rw [id, List.getD_eq_getElem?_getD, List.getD_eq_getElem?_getD, List.getElem?_map, List.getElem?_map, List.getElem?_eq_getElem (show i < xs.length by omega), List.getElem?_eq_getElem hi] at this
    exact (hR _ _).mp this
  · intro h x hx
    obtain ⟨i, hi, rfl⟩ := List.mem_map.mp hx
    have hi := List.mem_range.mp hi
    rw [id, List.getD_eq_getElem?_getD, List.getD_eq_getElem?_getD, List.getElem?_map, List.getElem?_map, List.getElem?_eq_getElem (show i < xs.length by omega), List.getElem?_eq_getElem (show i + 1 < xs.length by omega)]
    exact (hR _ _).mpr (h i (by omega))
theorem asc_strs (xs ys : List Str) (hy : ys.Pairwise sl) (m : ∀ x, x ∈ ys ↔ x ∈ xs) : PyData.eqv (.list (xs.map .str)) (.list (ys.map .str)) = ascD (xs.map .str) := by
  rw [show PyData.eqv (.list (xs.map .str)) (.list (ys.map .str)) = PyData.eqvAll (xs.map .str) (ys.map .str) from by rw [PyData.eqv], eqv_strs, Bool.eq_iff_iff, decide_eq_true_eq]
  rw [ascD_iff (R := sl) (fun a b => by unfold ltD sl; exact decide_eq_true_iff) (fun _ _ _ => sl_trans)]
  exact ⟨fun e => e ▸ hy, fun h => pw_unique (R := sl) (fun a => List.lt_irrefl _) (fun _ _ _ => sl_trans) xs ys h hy fun x => (m x).symm⟩
theorem asc_is (xs ys : List Int) (hy : ys.Pairwise (· < ·)) (m : ∀ x, x ∈ ys ↔ x ∈ xs) : PyData.eqv (.list (xs.map .int)) (.list (ys.map .int)) = ascD (xs.map .int) := by
  rw [show PyData.eqv (.list (xs.map .int)) (.list (ys.map .int)) = PyData.eqvAll (xs.map .int) (ys.map .int) from by rw [PyData.eqv], eqv_is, Bool.eq_iff_iff, decide_eq_true_eq]
  rw [ascD_iff (R := (· < ·)) (fun a b => by unfold ltD; exact decide_eq_true_iff) (fun _ _ _ a b => Int.lt_trans a b)]
  exact ⟨fun e => e ▸ hy, fun h => pw_unique (fun a => Int.lt_irrefl a) (fun _ _ _ a b => Int.lt_trans a b) xs ys h hy fun x => (m x).symm⟩
theorem lex_two (p q : Int × Int) : ltD (pr2 p) (pr2 q) = true ↔ Lex p q := by
  obtain ⟨a, b⟩ := p
  obtain ⟨c, e⟩ := q
  show HT.lexLt [a, b] [c, e] = true ↔ (a < c ∨ (a = c ∧ b < e))
  rw [HT.lexLt_cons, HT.lexLt_cons, HT.lexLt_nil_nil]
  by_cases h : a = c
  · rw [if_pos h]
    by_cases h2 : b = e
    · rw [if_pos h2]
      simp
      omega
    · rw [if_neg h2, decide_eq_true_eq]
      omega
  · rw [if_neg h, decide_eq_true_eq]
    omega
theorem lex_tr (a b c : Int × Int) (h1 : Lex a b) (h2 : Lex b c) : Lex a c := by
  unfold Lex at *
  omega
theorem asc_ps (xs ys : List (Int × Int)) (hy : ys.Pairwise Lex) (m : ∀ x, x ∈ ys ↔ x ∈ xs) : PyData.eqv (.list (xs.map pr2)) (.list (ys.map pr2)) = ascD (xs.map pr2) := by
  rw [show PyData.eqv (.list (xs.map pr2)) (.list (ys.map pr2)) = PyData.eqvAll (xs.map pr2) (ys.map pr2) from by rw [PyData.eqv], eqv_prs, Bool.eq_iff_iff, decide_eq_true_eq]
  rw [ascD_iff (R := Lex) lex_two lex_tr]
  exact ⟨fun e => e ▸ hy, fun h => pw_unique (fun a z => by unfold Lex at z; omega) lex_tr xs ys h hy fun x => (m x).symm⟩
theorem fit_len {k : Nat} (hk : k ≤ 45) {x : Str} (h : fit k (.str x) = true) : x.length ≤ 1000 := by
  have := (fit_str.mp h).1
  omega
theorem asc_ok {x : Str} (h : asc x = true) : PyData.strOk x = true := by
  unfold PyData.strOk
  rw [Array.all_eq_true']
  intro c hc
  exact decide_eq_true (Nat.lt_trans (asc_lt h (Array.mem_toList_iff.mpr hc)) (by decide))
section
variable {P : Program} {w : World} {K : PySem.W.Frag} {mg : Str → Option Value} {base : Heap}
def spWordF (K : PySem.W.Frag) : Sp := fun vs H Q _ => ∃ (v : V) (d : PyData) (M : Addr → Prop) (k : Nat), vs = [v] ∧ Av K M H v d ∧ fit k d = true ∧ k ≤ 45 ∧ ∀ H', L2.Same H H' → Q (.bl (wordD d)) H'
theorem cLawIsWordA (T : Txt K mg) : Cal P w K mg base 1 "_law_is_word" (spWordF K) [] := by
  refine cal_of T.lawIsWord scLawIsWord (fun _ _ _ _ _ _ us hl => match us, hl with | [_], _ => rfl) (fun vs H Q E h => ?_) (fun f cdv A outer s H vs Q E hr h => ?_)
  · obtain ⟨x, d, M, k, rfl, _⟩ := h
    rfl
  obtain ⟨v, dv, M, k, rfl, hv, hf, hk, q0⟩ := h
  have hu64 := hr.units
  refine ⟨_, (pss_cons (ps_if (PW.pt (pw_or (pt_not (pt_val (pe_callB call_isi (by rfl) T.isinstance (by decide +kernel) (pa_cons (pv 0) (pa_cons (pe_bltn (v := V.ty "str") (u := Value.type "str") (by rfl) T.str (by decide +kernel) rfl) pa_nil))))) (pw_or (pt_not (pt_chain op_lt op_lt pe_int (pe_callB call_len_str (by rfl) T.len (by decide +kernel) (pa_cons (pv 0) pa_nil)) pe_int)) (pw_or1 (pt_cmpR op_in_seq (pv 0) (pe_tup (pa_cons pe_str (pa_cons pe_str (pa_cons pe_str (pa_cons pe_str (pa_cons pe_str (pa_cons pe_str pa_nil))))))) rfl)))))
 (pss_one (ps_ret pe_bl))
 pss_nil)
 (pss_one (ps_ret (pe_cmpR (op_eqD hu64) (pe_lc (own := [("sign", 1)]) (by rfl) scLawIsWord.nd (pi_str (pv 0)) (blkOk_by (own := [("sign", 1)]) (N := ["thing", "sign"]) (sc := defScope sLawIsWord) (by decide +kernel)) (fun _ _ _ _ _ => (pg_name (i := 1) scLawIsWord.nd rfl (.inl rfl))) (fun _ _ _ _ _ => pts_one (pt_cmpR op_notIn_sign (pv 1) pe_str rfl)) (fun _ _ _ _ _ => (pv 1))) (pe_lst pa_nil) (nomark _))))), ?_⟩
  refine ⟨v, rfl, v, .ty "str", .type (tyN dv), .type "str", isStr dv, rfl, .ty _, ty_av hv, kit_ty (kb_str dv), isStr dv, rfl, ?_⟩
  cases hv with
  | str x =>
    have len := fit_len hk hf
    have ok := asc_ok (fit_str.mp hf).2
    have q : ∀ H', L2.Same H H' → Q (.bl (isW x)) H' := q0
    have sz : x.length ≤ sizeLine := Nat.le_of_lt (small1000 len)
    refine iteF ?_
    refine ⟨.str x, rfl, x, rfl, sz, 0, _, rfl, rfl, _, rfl, ?_⟩
    by_cases h0 : 0 < x.length
    case neg =>
      rw [show decide ((0 : Int) < (x.length : Int)) = false from decide_eq_false (by omega)]
      refine iteF ⟨_, rfl, iteT (iteT ?_)⟩
      rw [show false = isW x by unfold isW; rw [decide_eq_false h0, Bool.false_and]]
      exact q H (L2.Same.refl H)
    rw [show decide ((0 : Int) < (x.length : Int)) = true from decide_eq_true (by omega)]
    refine iteT ⟨_, _, rfl, rfl, _, rfl, ?_⟩
    by_cases h1 : x.length < 11
    case neg =>
      rw [show decide ((x.length : Int) < (11 : Int)) = false from decide_eq_false (by omega)]
      refine iteT (iteT ?_)
      rw [show false = isW x by unfold isW; rw [decide_eq_false h1, Bool.false_and, Bool.and_false]]
      exact q H (L2.Same.refl H)
    rw [show decide ((x.length : Int) < (11 : Int)) = true from decide_eq_true (by omega)]
    refine iteF ⟨.str x, rfl, by show 6 ≤ sizeLine; decide, fun t nt => ?_⟩
    refine ⟨t, six.map V.str, rfl, .inr (tupOf upd_same), rfl, flat_strs six, _, rfl, ?_⟩
    have s1 : L2.Same H (upd H t (.tup (six.map V.str))) := same_up nt
    rw [inV_six]
    by_cases h2 : (six.any fun y => decide (y = x)) = true
    · rw [h2]
      refine iteT ?_
      rw [show false = isW x by unfold isW; rw [h2]; simp]
      exact q _ s1
    have h2' : (six.any fun y => decide (y = x)) = false := Bool.eq_false_iff.mpr h2
    rw [h2']
    refine iteF ?_
    refine ⟨.str x, rfl, x, rfl, fun D nD => ?_⟩
    have nD0 : H D = none := s1.free nD
    refine lc_it (n := x.cps.size) (fun i G2 => L2.Same H G2 ∧ G2 D = some (.lst (((x.cps.toList.take i).filter fun c => !lett c).map fun c => V.str ⟨#[c]⟩)))
      ⟨same_mut s1 nD0, by rw [upd_same]; rfl⟩ (fun i G2 hi _ => hi) (fun G2 _ => Nat.le_refl _) (fun i v G2 G3 hi z y => ?_) (fun G2 z => ?_)
    · obtain ⟨e, c, hc, rfl⟩ := y
      subst e
      obtain ⟨z1, z2⟩ := z
      have hc' : x.cps.toList[i]? = some c := by rw [Array.getElem?_toList]; exact hc
      refine ⟨rfl, .str ⟨#[c]⟩, rfl, c, _, rfl, rfl, _, rfl, ?_⟩
      show if (!decide (c ∈ alpha)) = true then _ else _
      rw [mem_alpha]
      by_cases hl : lett c = true
      · rw [hl]
        refine iteF ⟨z1, ?_⟩
        rw [List.take_add_one, hc', List.filter_append]
        simp only [Option.toList_some, List.filter_cons, hl, Bool.not_true, Bool.false_eq_true, if_false, List.filter_nil, List.append_nil]
        exact z2
      · have hl' : lett c = false := Bool.eq_false_iff.mpr hl
        rw [hl']
        refine iteT ⟨.str ⟨#[c]⟩, rfl, _, z2, ?_, same_mut z1 nD0, ?_⟩
        · rw [List.length_map]
          refine Nat.lt_of_le_of_lt (Nat.le_trans (List.length_filter_le _ _) ?_) (show 100 < sizeLine by decide)
          rw [List.length_take]
          have : x.cps.size < 11 := h1
          omega
        · rw [upd_same, List.take_add_one, hc', List.filter_append, List.map_append]
          simp only [Option.toList_some, List.filter_cons, hl', Bool.not_false, if_true, List.filter_nil, List.map_cons, List.map_nil]
    · obtain ⟨z1, z2⟩ := z
      rw [show x.cps.toList.take x.cps.size = x.cps.toList from List.take_of_length_le (by rw [Array.length_toList]; exact Nat.le_refl _)] at z2
      refine ⟨Nat.zero_le _, fun e ne => ?_⟩
      have z2' : (upd G2 e (.lst [])) D = _ := (upd_ne (ne_of_none z2 ne)).trans z2
      generalize hL : (x.cps.toList.filter fun c => !lett c) = L at z2 z2'
      have len11 : L.length ≤ 1000 := by
        rw [← hL]
        refine Nat.le_trans (List.length_filter_le _ _) ?_
        rw [Array.length_toList]
        exact len
      have el : L.map (fun c => V.str ⟨#[c]⟩) = (L.map fun c => (⟨#[c]⟩ : Str)).map V.str := by rw [List.map_map]; rfl
      rw [el] at z2'
      refine ⟨.list ((L.map fun c => (⟨#[c]⟩ : Str)).map PyData.str), .list [], .lst (lst_of z2') (dp_strs _), .lst (lst_of upd_same) .nil, ?_, shaped_nil, ?_⟩
      · refine shaped_strs _ fun y hy => ?_
        obtain ⟨c, hc, rfl⟩ := List.mem_map.mp hy
        rw [← hL] at hc
        have hm := (List.mem_filter.mp hc).1
        unfold PyData.strOk at ok
        rw [Array.all_eq_true'] at ok
        have := ok c (Array.mem_toList_iff.mp hm)
        simpa [PyData.strOk] using this
      have ev : PyData.eqv (.list ((L.map fun c => (⟨#[c]⟩ : Str)).map PyData.str)) (.list []) = isW x := by
        show PyData.eqvAll _ [] = _
        rw [eqv_nil]
        unfold isW
        rw [decide_eq_true h0, decide_eq_true h1, h2', Bool.eq_iff_iff]
        simp [List.isEmpty_iff, List.map_eq_nil_iff, ← hL, List.filter_eq_nil_iff, List.all_eq_true]
        constructor
        · intro h i hi
          exact h _ (Array.getElem_mem hi)
        · intro h a ha
          obtain ⟨i, hi, rfl⟩ := Array.getElem_of_mem ha
          exact h i hi
      rw [ev]
      exact q _ (same_add z1 ne)
  | _ => exact iteT (q0 H (L2.Same.refl H))
end
end K01
set_option Elab.async false
set_option linter.all false
set_option autoImplicit false
set_option maxRecDepth 100000
set_option maxHeartbeats 2000000
/-! how great written values are -/
namespace Tl
open PySem PySem.Spec PyProof.Rows L2
def Ex.lit : Ex → Bool
  | .con d => isCon d
  | .var _ => true
  | .ixs _ _ => true
  | .tup l => l.lit
  | .lst l => l.lit
  | .nil => true
  | .cons a b => a.lit && b.lit
  | .neg (.con (.int _)) => true
  | _ => false
def sumS : List (Nat × Nat) → Nat
  | [] => 0
  | s :: r => s.1 + 1 + sumS r
def maxS : List (Nat × Nat) → Nat
  | [] => 0
  | s :: r => max s.2 (maxS r)
def Ex.sz : Ex → List (Nat × Nat)
  | .con d => [(d.bulk, d.depth)]
  | .var _ => [(12, 0)]
  | .ixs _ _ => [(12, 0)]
  | .tup l => [(sumS l.sz, maxS l.sz + 1)]
  | .lst l => [(sumS l.sz, maxS l.sz + 1)]
  | .nil => []
  | .cons a b => a.sz ++ b.sz
  | .neg _ => [(0, 0)]
  | _ => []
def Ex.fitB (k : Nat) : Ex → Bool
  | .con d => fit k d
  | .tup l => decide (l.sz.length ≤ k) && l.fitB k
  | .lst l => decide (l.sz.length ≤ k) && l.fitB k
  | .cons a b => a.fitB k && b.fitB k
  | .neg (.con (.int i)) => fit k (.int (-i))
  | _ => true
def Small (k : Nat) (d : PyData) (s : Nat × Nat) : Prop := fit k d = true ∧ d.bulk ≤ s.1 ∧ d.depth ≤ s.2
def rhoF (k : Nat) : Rho → Prop
  | .no => True
  | .dat d => Small k d (12, 0)
  | .seq ds => ∀ d ∈ ds, Small k d (12, 0)
inductive Smalls (k : Nat) : List PyData → List (Nat × Nat) → Prop
  | nil : Smalls k [] []
  | cons {d : PyData} {s : Nat × Nat} {ds : List PyData} {ss : List (Nat × Nat)} : Small k d s → Smalls k ds ss → Smalls k (d :: ds) (s :: ss)
theorem Smalls.app {k : Nat} : ∀ {ds es : List PyData} {ss ts : List (Nat × Nat)}, Smalls k ds ss → Smalls k es ts → Smalls k (ds ++ es) (ss ++ ts)
  | _, _, _, _, .nil, h => h
  | _, _, _, _, .cons a b, h => .cons a (b.app h)
theorem Smalls.sum {k : Nat} : ∀ {ds : List PyData} {ss : List (Nat × Nat)}, Smalls k ds ss → PyData.bulkAll ds ≤ sumS ss ∧ PyData.depthAll ds ≤ maxS ss ∧ ds.length = ss.length ∧ ∀ d ∈ ds, fit k d = true
  | _, _, .nil => ⟨by simp [PyData.bulkAll], by simp [PyData.depthAll], rfl, fun d m => nomatch m⟩
  | _, _, .cons a b => by
    obtain ⟨h1, h2, h3, h4⟩ := b.sum
    obtain ⟨a1, a2, a3⟩ := a
    refine ⟨?_, ?_, by rw [List.length_cons, List.length_cons, h3], fun d m => ?_⟩
    · rw [PyData.bulkAll, sumS]
      omega
    · rw [PyData.depthAll, maxS]
      omega
    · rcases List.mem_cons.mp m with rfl | m
      · exact a1
      · exact h4 d m
theorem Smalls.get {k : Nat} {ds : List PyData} {ss : List (Nat × Nat)} (h : Smalls k ds ss) : ∀ d ∈ ds, ∃ s ∈ ss, Small k d s := by
  induction h with
  | nil => exact fun d m => nomatch m
  | cons a b ih =>
    intro d m
    rcases List.mem_cons.mp m with rfl | m
    · exact ⟨_, List.mem_cons_self, a⟩
    · obtain ⟨s, h1, h2⟩ := ih d m
      exact ⟨s, List.mem_cons_of_mem _ h1, h2⟩
theorem smalls_one {k : Nat} {d : PyData} {s : Nat × Nat} (h : Small k d s) : Smalls k [d] [s] := .cons h .nil
theorem Ex.szs {k : Nat} {ρ : List Rho} (hρ : ∀ r ∈ ρ, rhoF k r) : ∀ (L : Ex) (ds : List PyData), L.lit = true → L.fitB k = true → L.ev ρ = some ds → Smalls k ds L.sz := by
  intro L
  induction L with
  | con d =>
    intro ds l f e
    cases e
    exact smalls_one ⟨f, Nat.le_refl _, Nat.le_refl _⟩
  | var i =>
    intro ds l f e
    obtain ⟨d, h1, rfl⟩ := some1_eq e
    cases hr : ρ[i]? with
    | none => rw [hr] at h1; cases h1
    | some r =>
      rw [hr] at h1
      cases r <;> cases h1
      exact smalls_one (hρ _ (List.mem_of_getElem? hr))
  | ixs i j =>
    intro ds l f e
    obtain ⟨d, h1, rfl⟩ := some1_eq e
    obtain ⟨es, h2, h3⟩ := Option.bind_eq_some_iff.mp h1
    have m := atI_mem h3
    cases hr : ρ[i]? with
    | none => rw [hr] at h2; cases h2
    | some r =>
      rw [hr] at h2
      have hz := hρ _ (List.mem_of_getElem? hr)
      cases r with
      | no => cases h2
      | seq es' => cases h2; exact smalls_one (hz _ m)
      | dat d' =>
        cases d' <;> cases h2
        have := hz.2.2
        simp [PyData.depth] at this
  | tup l ih =>
    intro ds li f e
    obtain ⟨es, h1, h2⟩ := Option.map_eq_some_iff.mp e
    subst h2
    rw [Ex.fitB, Bool.and_eq_true, decide_eq_true_eq] at f
    obtain ⟨g1, g2, g3, g4⟩ := (ih es li f.2 h1).sum
    exact smalls_one ⟨fit_tup.mpr ⟨by omega, g4⟩, by simp only [PyData.bulk]; exact g1, by simp only [PyData.depth]; omega⟩
  | lst l ih =>
    intro ds li f e
    obtain ⟨es, h1, h2⟩ := Option.map_eq_some_iff.mp e
    subst h2
    rw [Ex.fitB, Bool.and_eq_true, decide_eq_true_eq] at f
    obtain ⟨g1, g2, g3, g4⟩ := (ih es li f.2 h1).sum
    exact smalls_one ⟨fit_lst.mpr ⟨by omega, g4⟩, by simp only [PyData.bulk]; exact g1, by simp only [PyData.depth]; omega⟩
  | nil =>
    intro ds l f e
    cases e
    exact .nil
  | cons a b iha ihb =>
    intro ds l f e
    rw [Ex.lit, Bool.and_eq_true] at l
    rw [Ex.fitB, Bool.and_eq_true] at f
    obtain ⟨x, h1, h2⟩ := Option.bind_eq_some_iff.mp e
    obtain ⟨y, h3, h4⟩ := Option.map_eq_some_iff.mp h2
    subst h4
    exact (iha _ l.1 f.1 (one_eq h1)).app (ihb _ l.2 f.2 h3)
  | neg a ih =>
    intro ds l f e
    cases a with
    | con d =>
      cases d with
      | int i =>
        cases e
        exact smalls_one ⟨f, by simp [PyData.bulk], by simp [PyData.depth]⟩
      | _ => cases l
    | _ => cases l
  | _ => intro ds l; cases l
/-- menus -/
theorem Ex.menu {k b p : Nat} {ρ : List Rho} (hρ : ∀ r ∈ ρ, rhoF k r) {L : Ex} {ds : List PyData} (l : L.lit = true) (f : L.fitB k = true) (e : L.ev ρ = some ds) (bd : L.sz.all (fun s => decide (s.1 ≤ b) && decide (s.2 ≤ p)) = true) : ∀ d ∈ ds, fit k d = true ∧ d.bulk ≤ b ∧ d.depth ≤ p := fun d m => by
  obtain ⟨s, h1, h2, h3, h4⟩ := (Ex.szs hρ L ds l f e).get d m
  have := List.all_eq_true.mp bd s h1
  rw [Bool.and_eq_true, decide_eq_true_eq, decide_eq_true_eq] at this
  exact ⟨h2, by omega, by omega⟩
end Tl
set_option Elab.async false
set_option linter.all false
set_option autoImplicit false
set_option maxRecDepth 100000
set_option maxHeartbeats 2000000
/-! a list of any values grows -/
namespace Tl
open PySem PySem.Spec PyProof.Rows L2
theorem pe_mone {X : Cx} {k : Int} {n : Nat} {p q : Pos} : PE X (.UnaryOp .USub (.Constant (.int k) n p) q) (fun σ H Q => Q (.int (-k)) H) := (pe_un un_neg pe_int).wk fun σ H Q q => ⟨_, rfl, q⟩
/-- the list at p holds any values; it alone is written -/
structure Bag (K : PySem.W.Frag) (M : Addr → Prop) (H0 H : Hp) (p : Addr) (xs : List V) (ds : List PyData) : Prop where
  np : H0 p = none
  g : H p = some (.lst xs)
  av : Avs K (With M p) H xs ds
  pr : Pre M H
  same : L2.Same H0 H
section
variable {K : PySem.W.Frag} {M : Addr → Prop} {H0 H H' : Hp} {p : Addr} {xs : List V} {ds : List PyData}
theorem Bag.pw (b : Bag K M H0 H p xs ds) : Pre (With M p) H := pre_wi b.pr b.g
theorem Bag.len (b : Bag K M H0 H p xs ds) : xs.length = ds.length := b.av.len
/-- begun -/
theorem bag_new {vs : List V} {es : List PyData} {G : Hp} (s : L2.Same H0 G) (h : Avs K M G vs es) (pr : Pre M G) (np : G p = none) : Bag K M H0 (upd G p (.lst vs)) p vs es :=
  ⟨s.free np, upd_same, (h.wi np).s (same_up np), pr.same (same_up np), s.trans (same_up np)⟩
/-- other things laid -/
theorem Bag.st (b : Bag K M H0 H p xs ds) (s : L2.Same H H') : Bag K M H0 H' p xs ds := ⟨b.np, s _ _ b.g, b.av.s s, b.pr.same s, b.same.trans s⟩
/-- grown -/
theorem Bag.add {vs : List V} {es : List PyData} (b : Bag K M H0 H p xs ds) (h : Avs K (With M p) H vs es) : Bag K M H0 (upd H p (.lst (xs ++ vs))) p (xs ++ vs) (ds ++ es) := by
  refine ⟨b.np, upd_same, (b.av.app h).k (keep_p b.g), ⟨b.pr.1, fun a m n => ?_⟩, fun a o e => ?_⟩
  · by_cases z : a = p
    · subst z
      rw [upd_same] at n
      cases n
    · rw [upd_ne z] at n
      exact b.pr.2 a m n
  · have z : a ≠ p := fun z => by
      subst z
      rw [b.np] at e
      cases e
    rw [upd_ne z]
    exact b.same _ _ e
/-- its values, as others see them -/
theorem Bag.out (b : Bag K M H0 H p xs ds) : Avs K M H xs ds := b.av.wo
theorem Bag.avw (b : Bag K M H0 H p xs ds) {v : V} {d : PyData} (h : Av K M H0 v d) : Av K (With M p) H v d := (h.wi b.np).s b.same
/-- p.extend([..]), written values -/
theorem Bag.ext {L : Ex} {σ : L2.St} {Q : VK} {ρ : List Rho} {B : Nat} {es : List PyData} (b : Bag K M H0 H p xs ds) (en : EnvA K (With M p) H σ ρ) (zz : EnvZ B ρ) (ok : L.ok B = true) (ev : L.ev ρ = some es) (small : ds.length + es.length ≤ 1000)
    (q : ∀ zs H', Bag K M H0 H' p zs (ds ++ es) → Q .non H') : tCons (tLst (tExs K L)) tNil σ H (fun vs H2 => rExtend (.ref p) vs H2 Q) := by
  refine ⟨With M p, b.pw, B, ρ, es, en, zz, ok, ev, fun vs X s h => ⟨Nat.le_trans (show vs.length ≤ 1000 by rw [h.len]; omega) (by decide), fun p2 np2 => ?_⟩⟩
  have b1 := (b.st s).st (same_up (o := .lst vs) np2)
  refine ⟨p, p2, xs, vs, rfl, rfl, b1.g, upd_same, Nat.le_trans (show _ ≤ 1000 by rw [b.len, h.len]; exact small) (by decide), q _ _ (b1.add (h.s (same_up np2)))⟩
end
/-- what all values of a menu are -/
def AllS (k b p : Nat) (ds : List PyData) : Prop := ∀ d ∈ ds, fit k d = true ∧ d.bulk ≤ b ∧ d.depth ≤ p
theorem AllS.app {k b p : Nat} {ds es : List PyData} (h : AllS k b p ds) (g : AllS k b p es) : AllS k b p (ds ++ es) := fun d m => (List.mem_append.mp m).elim (h d) (g d)
theorem exs_menu {K : PySem.W.Frag} {L : Ex} {σ : L2.St} {H : Hp} {Q : List V → Hp → Prop} (M : Addr → Prop) (k b p : Nat) {ρ : List Rho} {ds : List PyData} (pr : Pre M H) (en : EnvA K M H σ ρ) (rf : ∀ r ∈ ρ, rhoF k r) (hk : k ≤ 45) (ok : L.ok 900 = true) (ev : L.ev ρ = some ds)
    (li : L.lit = true) (fb : L.fitB k = true) (bd : L.sz.all (fun s => decide (s.1 ≤ b) && decide (s.2 ≤ p)) = true) (q : ∀ vs H', L2.Same H H' → Avs K M H' vs ds → AllS k b p ds → Q vs H') : tExs K L σ H Q := by
  refine ⟨M, pr, 900, ρ, ds, en, fun r m => ?_, ok, ev, fun vs H' s h => q vs H' s h (Ex.menu rf li fb ev bd)⟩
  have := rf r m
  cases r with
  | no => trivial
  | dat d => exact fit_hz hk this.1
  | seq ds => exact fun d m => fit_hz hk (this d m).1
theorem Bag.extS {K : PySem.W.Frag} {M : Addr → Prop} {H0 H : Hp} {p : Addr} {xs : List V} {ds : List PyData} {L : Ex} {σ : L2.St} {Q : VK} (k b q' : Nat) {ρ : List Rho} {es : List PyData} (bg : Bag K M H0 H p xs ds) (en : EnvA K (With M p) H σ ρ) (rf : ∀ r ∈ ρ, rhoF k r) (hk : k ≤ 45) (ok : L.ok 900 = true) (ev : L.ev ρ = some es)
    (li : L.lit = true) (fb : L.fitB k = true) (bd : L.sz.all (fun s => decide (s.1 ≤ b) && decide (s.2 ≤ q')) = true) (small : ds.length + es.length ≤ 1000)
    (q : ∀ zs H', Bag K M H0 H' p zs (ds ++ es) → AllS k b q' es → Q .non H') : tCons (tLst (tExs K L)) tNil σ H (fun vs H2 => rExtend (.ref p) vs H2 Q) := by
  refine bg.ext en (B := 900) (fun r m => ?_) ok ev small fun zs H' b' => q zs H' b' (Ex.menu rf li fb ev bd)
  have := rf r m
  cases r with
  | no => trivial
  | dat d => exact fit_hz hk this.1
  | seq ds => exact fun d m => fit_hz hk (this d m).1
end Tl
namespace Tl
open PySem PySem.Spec PyProof.Rows L2
theorem tEx_go {K : PySem.W.Frag} {L : Ex} {σ : L2.St} {H : Hp} {Q : VK} (M : Addr → Prop) {ρ : List Rho} {d : PyData} (pr : Pre M H) (en : EnvA K M H σ ρ) (zz : EnvZ 900 ρ) (ok : L.ok 900 = true) (ev : L.ev ρ = some [d]) (q : ∀ v H', L2.Same H H' → Av K M H' v d → Q v H') : tEx K L σ H Q :=
  ⟨M, pr, 900, ρ, d, en, zz, ok, ev, q⟩
section
variable {K : PySem.W.Frag} {M : Addr → Prop} {H0 H H' : Hp} {p : Addr} {xs : List V} {ds : List PyData}
theorem keep_o1 (g : H p = some (.lst xs)) (o : ∀ a u, a ≠ p → H a = some u → H' a = some u) : Keep (With M p) H H' := ⟨fun a u e k => o a u (fun z => by
  subst z
  rw [g] at e
  cases e
  rcases k with ⟨_, k⟩ | ⟨_, _, k⟩ <;> cases k) e, fun a u n e => o a u (fun z => n (.inr z)) e⟩
/-- p.append(v) -/
theorem Bag.appE {L : Ex} {σ : L2.St} {Q : VK} {ρ : List Rho} {d : PyData} (b : Bag K M H0 H p xs ds) (en : EnvA K (With M p) H σ ρ) (zz : EnvZ 900 ρ) (ok : L.ok 900 = true) (ev : L.ev ρ = some [d]) (small : ds.length ≤ 999)
    (q : ∀ zs H', Bag K M H0 H' p zs (ds ++ [d]) → (∀ a u, a ≠ p → H a = some u → H' a = some u) → Q .non H') : tCons (tEx K L) tNil σ H (fun vs H2 => rAppend (.ref p) vs H2 Q) := by
  refine tEx_go (With M p) b.pw en zz ok ev fun v X s h => ?_
  have b1 := b.st s
  refine ⟨p, xs, v, rfl, rfl, b1.g, Nat.lt_of_le_of_lt (show _ ≤ 999 by rw [b.len]; exact small) (by decide), q _ _ (b1.add (.cons h .nil)) fun a u n e => ?_⟩
  rw [upd_ne n]
  exact s _ _ e
end
end Tl
namespace Tl
open PySem PySem.Spec PyProof.Rows L2
def dropA (p : Addr) (H : Hp) : Hp := fun a => if a = p then none else H a
theorem dropA_eq {p : Addr} {H : Hp} : dropA p H p = none := if_pos rfl
theorem dropA_ne {p a : Addr} {H : Hp} (h : a ≠ p) : dropA p H a = H a := if_neg h
theorem dropA_same {p : Addr} {H : Hp} : L2.Same (dropA p H) H := fun a u e => by
  by_cases z : a = p
  · subst z
    rw [dropA_eq] at e
    cases e
  · rw [dropA_ne z] at e
    exact e
section
variable {K : PySem.W.Frag} {M : Addr → Prop} {H0 H H' : Hp} {p : Addr} {xs : List V} {ds : List PyData}
/-- other things may have been written: a new beginning -/
theorem Bag.re (b : Bag K M H0 H p xs ds) (k : Keep (With M p) H H') (g : H' p = some (.lst xs)) (pr : Pre M H') : Bag K M (dropA p H') H' p xs ds ∧ Keep M H0 (dropA p H') := by
  have ne : ∀ {a : Addr} {u : HO}, H0 a = some u → a ≠ p := fun e z => by
    subst z
    rw [b.np] at e
    cases e
  refine ⟨⟨dropA_eq, g, b.av.k k, pr, dropA_same⟩, fun a u e t => ?_, fun a u n e => ?_⟩
  · rw [dropA_ne (ne e)]
    exact k.1 a u (b.same _ _ e) t
  · rw [dropA_ne (ne e)]
    exact k.2 a u (fun z => z.elim n (ne e)) (b.same _ _ e)
end
end Tl
namespace Tl
open PySem PySem.Spec PyProof.Rows L2
/-- a loop over the places and the items of a list -/
theorem for_enumLs {K : PySem.W.Frag} {a : Addr} {xs : List V} {g : TG} {tb : TS} {D : Ends} {σ : L2.St} {H : Hp} (Pv : Nat → L2.St → Hp → Prop) (h0 : Pv 0 σ H) (hl : ∀ i σ H, i ≤ xs.length → Pv i σ H → SqL K H a xs)
    (hs : ∀ i x σ H T, xs[i]? = some x → Pv i σ H → H T = none → g (.ref T) σ (upd H T (.tup [.int (i : Nat), x])) fun σ2 H2 => tb { D with nx := Pv (i + 1), ct := Pv (i + 1), bk := D.nx } σ2 H2) (hd : ∀ σ H, Pv xs.length σ H → D.nx σ H) :
    ∃ W : Nat → Nat → L2.St → Hp → Prop, (∃ m, W 0 m σ H) ∧ ∀ i m σ H, W i m σ H →
      ((Ite K a).stop i H ∧ D.nx σ H) ∨ ((Ite K a).go i H ∧ ∃ N : L2.St → Hp → Prop, (∀ σ' H', N σ' H' → ∃ m', m' < m ∧ W (i + 1) m' σ' H') ∧ ∀ x H', (Ite K a).yld i H x H' → g x σ H' fun σ2 H2 => tb { D with nx := N, ct := N, bk := D.nx } σ2 H2) := by
  refine ⟨fun i m σ H => m + i = xs.length ∧ Pv i σ H, ⟨xs.length, rfl, h0⟩, fun i m σ H ⟨e, p⟩ => ?_⟩
  cases m with
  | zero =>
    obtain rfl : i = xs.length := by omega
    exact .inl ⟨⟨xs, hl _ _ _ (Nat.le_refl _) p, Nat.le_refl _⟩, hd σ H p⟩
  | succ m =>
    have li : i < xs.length := by omega
    refine .inr ⟨⟨xs, xs[i], hl _ _ _ (by omega) p, List.getElem?_eq_getElem li⟩, Pv (i + 1), fun σ' H' p' => ⟨m, Nat.lt_succ_self m, by omega, p'⟩, fun v H' y => ?_⟩
    obtain ⟨T, x, rfl, nT, rfl, hx⟩ := y
    exact hs i x σ H T (hx xs (hl _ _ _ (by omega) p)) p nT
end Tl
set_option Elab.async false
set_option linter.all false
set_option autoImplicit false
set_option maxRecDepth 100000
set_option maxHeartbeats 4000000
namespace K01
open PySem PySem.Spec PyProof.Rows L2 Tl
open C8 (Cal pe_c)
/-! ### odd values, values that are no worlds -/
theorem word_small {x : Str} (h : isW x = true) {k : Nat} (hk : 1 ≤ k) : Small k (.str x) (12, 0) := by
  have ⟨h0, h1, h2⟩ := isW_lt h
  have h3 : x.cps.size < 11 := h1
  refine ⟨fit_str.mpr ⟨by omega, List.all_eq_true.mpr fun c m => decide_eq_true ?_⟩, by simp only [PyData.bulk]; omega, by simp [PyData.depth]⟩
  have := List.all_eq_true.mp h2 c m
  unfold lett at this
  rw [Bool.and_eq_true, decide_eq_true_eq, decide_eq_true_eq] at this
  omega
theorem word_hz {x : Str} (h : isW x = true) : Tl.hz 900 (.str x) = true := fit_hz (k := 30) (by decide) (word_small h (by decide)).1
theorem avs_strs {K : PySem.W.Frag} {M : Addr → Prop} {H : Hp} : ∀ ws : List Str, Avs K M H (ws.map V.str) (ws.map .str)
  | [] => .nil
  | w :: ws => .cons (.str w) (avs_strs ws)
section
variable {P : Program} {w : World} {K : PySem.W.Frag} {mg : Str → Option Value} {base : Heap}
def spOdd (K : PySem.W.Frag) : Sp := fun vs H Q _ => ∃ (b : Addr) (w0 w1 w2 w3 : Str) (M : Addr → Prop), vs = [.ref b] ∧ H b = some (.lst ([w0, w1, w2, w3].map V.str)) ∧ (∀ x ∈ [w0, w1, w2, w3], isW x = true) ∧ Pre M H ∧
  ∀ (o : Addr) (os : List V) (ods : List PyData) (H' : Hp), H o = none → L2.Same H H' → H' o = some (.lst os) → Avs K M H' os ods → os ≠ [] → os.length ≤ 1000 → (∀ x ∈ ods, OddD x) → Q (.ref o) H'
theorem cLawOdd (T : Txt K mg) : Cal P w K mg base 1 "_law_odd" (spOdd K) [] := by
  refine cal_of T.lawOdd scLawOdd (fun _ _ _ _ _ _ us hl => match us, hl with | [_], _ => rfl) (fun vs H Q E h => ?_) (fun f cdv A outer s H vs Q E hr h => ?_)
  · obtain ⟨b, w0, w1, w2, w3, M, rfl, _⟩ := h
    rfl
  obtain ⟨b, w0, w1, w2, w3, M, rfl, gb, hw, pr, q⟩ := h
  refine ⟨_, (pss_cons (ps_set (i := 1) scLawOdd.nd rfl (.inl rfl) (pe_lst (exs_cons (K := K) ex_non (exs_cons ex_bl (exs_cons ex_bl (exs_cons ex_int (exs_cons ex_int (exs_cons (ex_neg rfl ex_int) (exs_cons ex_pow (exs_cons ex_str (exs_cons ex_str (exs_cons ex_str (exs_cons ex_mulA (exs_cons ex_str (exs_cons ex_str (exs_cons (ex_tup exs_nil) (exs_cons (ex_tup (exs_cons ex_int exs_nil)) (exs_cons (ex_lst exs_nil) (exs_cons ex_dct (exs_cons (ex_tup (exs_cons ex_str exs_nil)) (exs_cons (ex_tup (exs_cons ex_str exs_nil)) exs_nil)))))))))))))))))))))
 (pss_one (ps_ret (pe_op op_cat (pv 1) (pe_lst (exs_cons (K := K) (ex_tup (exs_cons ex_str (exs_cons (ex_ixs rfl (pv 0) pe_int (fun _ _ => rfl)) exs_nil))) (exs_cons (ex_tup (exs_cons ex_str (exs_cons ex_str exs_nil))) (exs_cons (ex_tup (exs_cons ex_str (exs_cons (ex_ixs rfl (pv 0) pe_int (fun _ _ => rfl)) exs_nil))) (exs_cons (ex_tup (exs_cons ex_str (exs_cons (ex_tup (exs_cons ex_str exs_nil)) exs_nil))) (exs_cons (ex_ixs rfl (pv 0) pe_int (fun _ _ => rfl)) (exs_cons (ex_ixs rfl (pv 0) (pe_mone) (fun _ _ => rfl)) (exs_cons (ex_tup (exs_cons (ex_ixs rfl (pv 0) pe_int (fun _ _ => rfl)) exs_nil)) exs_nil)))))))))))), ?_⟩
  have rf : ∀ r ∈ [Rho.seq ([w0, w1, w2, w3].map .str)], rhoF 2 r := fun r h => by
    cases List.mem_singleton.mp h
    intro d m
    obtain ⟨x, hx, rfl⟩ := List.mem_map.mp m
    exact word_small (hw x hx) (by decide)
  have en : ∀ {G : Hp} {t : Option V}, G b = some (.lst ([w0, w1, w2, w3].map V.str)) → EnvA K M G [some (.ref b), t] [.seq ([w0, w1, w2, w3].map .str)] := fun g => ⟨⟨b, _, rfl, lst_of g, fun H' s => lst_of (s _ _ g), avs_strs _⟩, trivial⟩
  refine exs_menu M 2 59 2 pr (en gb) rf (by decide) (by decide +kernel) rfl (by decide +kernel) (by decide +kernel) (by decide +kernel) fun vs1 X1 s1 h1 a1 => ⟨by rw [h1.len]; exact Nat.le_trans (show 19 ≤ 1000 by decide) (by decide), fun p1 np1 => ?_⟩
  have s2 := same_up (o := .lst vs1) np1
  have g1 : upd X1 p1 (.lst vs1) p1 = some (.lst vs1) := upd_same
  have h1' := h1.s s2
  generalize upd X1 p1 (.lst vs1) = X2 at s2 g1 h1' ⊢
  have s12 := s1.trans s2
  refine ⟨.ref p1, rfl, exs_menu M 2 59 2 (pr.same s12) (en (s12 _ _ gb)) rf (by decide) (by decide +kernel) rfl (by decide +kernel) (by decide +kernel) (by decide +kernel) fun vs2 X3 s3 h2 a2 => ⟨by rw [h2.len]; exact Nat.le_trans (show 7 ≤ 1000 by decide) (by decide), fun p2 np2 => ?_⟩⟩
  have s4 := same_up (o := .lst vs2) np2
  have g2 : upd X3 p2 (.lst vs2) p2 = some (.lst vs2) := upd_same
  have h2' := h2.s s4
  generalize upd X3 p2 (.lst vs2) = X4 at s4 g2 h2' ⊢
  have s34 := s3.trans s4
  have hA := (h1'.s s34).app h2'
  refine ⟨p1, p2, vs1, vs2, rfl, rfl, s34 _ _ g1, g2, by rw [h1.len, h2.len]; exact Nat.le_trans (show 26 ≤ 1000 by decide) (by decide), fun o no => ?_⟩
  have s5 := same_up (o := .lst (vs1 ++ vs2)) no
  have sA := (s12.trans s34).trans s5
  refine q o _ _ _ ((s12.trans s34).free no) sA upd_same (hA.s s5) (fun e => ?_) ?_ fun x m => ?_
  · have := (h1.len).symm.trans (congrArg List.length (List.append_eq_nil_iff.mp e).1)
    cases this
  · rw [List.length_append, h1.len, h2.len]
    exact (show 26 ≤ 1000 by decide)
  · have := a1.app a2 x m
    exact ⟨this.1, this.2.1, this.2.2⟩
end
end K01
set_option Elab.async false
set_option linter.all false
set_option autoImplicit false
set_option maxRecDepth 100000
set_option maxHeartbeats 4000000
namespace K01
open PySem PySem.Spec PyProof.Rows L2 Tl
open C8 (Cal pe_c)
/-! ### mixed -/
section
variable {P : Program} {w : World} {K : PySem.W.Frag} {mg : Str → Option Value} {base : Heap}
/-- pairs of ints, laid; the second one is below n -/
def Mks (n : Nat) (H : Hp) (ts : List V) : Prop := ∀ x ∈ ts, ∃ (t : Addr) (i j : Int), x = .ref t ∧ H t = some (.tup [.int i, .int j]) ∧ 0 ≤ j ∧ j < (n : Int)
theorem Mks.off {n : Nat} {d l : Addr} {H H' : Hp} {ts : List V} (h : Mks n H ts) (o : Off d l H H') (D : Deck H d l) : Mks n H' ts := fun x m => by
  obtain ⟨t, i, j, e, g, b⟩ := h x m
  exact ⟨t, i, j, e, o.stay D _ _ g (.inl ⟨_, rfl⟩), b⟩
theorem Mks.up {n : Nat} {H : Hp} {p : Addr} {o : HO} {xs ts : List V} (h : Mks n H ts) (e : H p = some (.lst xs)) : Mks n (upd H p o) ts := fun x m => by
  obtain ⟨t, i, j, e2, g, b⟩ := h x m
  refine ⟨t, i, j, e2, ?_, b⟩
  have : t ≠ p := fun z => by
    rw [z, e] at g
    cases g
  rw [upd_ne this]
  exact g
def spMixed (K : PySem.W.Frag) : Sp := fun vs H Q _ => ∃ (d l b : Addr) (xs : List V), vs = [.ref d, .ref b] ∧ Deck H d l ∧ SqL K H b xs ∧ b ≠ d ∧ b ≠ l ∧ xs.length ≤ 100 ∧
  ∀ (r : Addr) (ys : List V) (H' : Hp), H r = none → Off d l H H' → Deck H' d l → H' r = some (.lst ys) → (∀ y ∈ ys, y ∈ xs) → ys.length ≤ 100 → Q (.ref r) H'
theorem cLawMixed (T : Txt K mg) : Cal P w K mg base 2 "_law_mixed" (spMixed K) [] := by
  refine cal_of T.lawMixed scLawMixed (fun _ _ _ _ _ _ us hl => match us, hl with | [_, _], _ => rfl) (fun vs H Q E h => ?_) (fun f cdv A outer s H vs Q E hr h => ?_)
  · obtain ⟨d, l, b, xs, rfl, _⟩ := h
    rfl
  obtain ⟨d, l, b, xs, rfl, D, sb, bd, bl, len, q⟩ := h
  refine ⟨_, (pss_cons (ps_set (i := 2) scLawMixed.nd rfl (.inl rfl) (pe_callB cr_sortedP (by rfl) T.sorted (by decide +kernel) (pa_cons (pe_lc (own := [("at", 3)]) (by rfl) scLawMixed.nd (pi_range1 rfl T.range (pa_cons (pe_callB call_len_seq (by rfl) T.len (by decide +kernel) (pa_cons (pv 1) pa_nil)) pa_nil)) (blkOk_by (own := [("at", 3)]) (N := ["deck", "some", "marks", "at", "mark"]) (sc := defScope sLawMixed) (by decide +kernel)) (fun _ _ _ _ _ => (pg_name (i := 3) scLawMixed.nd rfl (.inl rfl))) (fun _ _ _ _ _ => pts_nil) (fun _ _ _ _ _ => (pe_tup (pa_cons (pe_c (cLawDraw T) hr (by decide) rfl (pa_cons (pv 0) (pa_cons pe_int pa_nil))) (pa_cons (pv 3) pa_nil))))) pa_nil)))
 (pss_one (ps_ret (pe_lc (own := [("mark", 4), ("at", 3)]) (by rfl) scLawMixed.nd (pi_list (pv 2)) (blkOk_by (own := [("mark", 4), ("at", 3)]) (N := ["deck", "some", "marks", "at", "mark"]) (sc := defScope sLawMixed) (by decide +kernel)) (fun _ _ _ _ _ => (pg_tupK (K := K) (n := 2) rfl rfl (pgs_cons (pg_name (i := 4) scLawMixed.nd rfl (.inl rfl)) (pgs_cons (pg_name (i := 3) scLawMixed.nd rfl (.inl rfl)) pgs_nil)))) (fun _ _ _ _ _ => pts_nil) (fun _ _ _ _ _ => (pe_ix (ix_seqK (K := K) rfl) (pv 1) (pv 3) (fun _ _ => rfl))))))), ?_⟩
  refine ⟨.ref b, rfl, b, xs, rfl, .inl sb, (xs.length : Int), rfl, by omega, by omega, fun C nC => ?_⟩
  obtain ⟨Cd, Cl⟩ := D.off nC
  refine lc_range (lo := 0) (n := ((xs.length : Int)).toNat) (fun i Y => Off d l H Y ∧ Deck Y d l ∧ ∃ ts, Y C = some (.lst ts) ∧ Mks xs.length Y ts ∧ ts.length ≤ i)
    ⟨(Off.refl d l H).mut nC, D.mut Cd Cl, [], upd_same, (fun x m => nomatch m), Nat.zero_le _⟩ (fun i Y hi z => ?_) (fun Y z => ?_)
  · obtain ⟨oY, DY, ts, gY, mk, lt⟩ := z
    have hi : i < xs.length := by omega
    refine ⟨rfl, .ref d, rfl, d, l, 1000, rfl, DY, by omega, by omega, fun j Y2 j0 j1 o2 D2 => ⟨.int (0 + (i : Int)), rfl, by show 2 ≤ sizeLine; decide, fun t nt => ?_⟩⟩
    have g2 := o2 _ _ Cd Cl gY
    have tC : C ≠ t := ne_of_none g2 nt
    have o3 : Off d l Y (upd Y2 t (.tup [.int j, .int (0 + (i : Int))])) := o2.trans (off_new nt)
    have D3 := D2.new nt (o := .tup [.int j, .int (0 + (i : Int))])
    have g3 : upd Y2 t (.tup [.int j, .int (0 + (i : Int))]) C = some (.lst ts) := (upd_ne tC).trans g2
    have mk3 := mk.off o3 DY
    have gt : upd Y2 t (.tup [.int j, .int (0 + (i : Int))]) t = some (.tup [.int j, .int (0 + (i : Int))]) := upd_same
    generalize upd Y2 t (.tup [.int j, .int (0 + (i : Int))]) = Y3 at o3 D3 g3 mk3 gt
    refine ⟨ts, g3, Nat.lt_of_le_of_lt (show _ ≤ 100 by omega) (by decide), (oY.trans o3).mut nC, D3.mut Cd Cl, ts ++ [.ref t], upd_same, ?_, by rw [List.length_append, List.length_singleton]; omega⟩
    refine Mks.up (fun x m => ?_) g3
    rcases List.mem_append.mp m with m | m
    · exact mk3 x m
    · cases List.mem_singleton.mp m
      exact ⟨t, j, 0 + (i : Int), rfl, gt, by omega, by omega⟩
  obtain ⟨oY, DY, ts, gY, mk, lt⟩ := z
  refine ⟨C, ts, rfl, lst_of gY, fun x m => ?_, fun ys p perm np => ?_⟩
  · obtain ⟨t, i, j, e, g, _⟩ := mk x m
    exact ⟨t, i, j, e, g⟩
  have s1 := same_up (o := .lst ys) np
  have gp : upd Y p (.lst ys) p = some (.lst ys) := upd_same
  have D1 := DY.same s1
  have o1 : Off d l H (upd Y p (.lst ys)) := oY.trans (s1.off (d := d) (l := l))
  have mk1 : Mks xs.length (upd Y p (.lst ys)) ys := fun x m => by
    obtain ⟨t, i, j, e, g, h⟩ := mk x (perm.mem_iff.mp m)
    exact ⟨t, i, j, e, s1 _ _ g, h⟩
  have ly : ys.length ≤ 100 := by
    rw [perm.length_eq]
    omega
  generalize upd Y p (.lst ys) = Z at gp D1 o1 mk1 ⊢
  refine ⟨.ref p, rfl, p, rfl, ⟨_, lst_of gp⟩, fun C2 nC2 => ?_⟩
  refine lc_list (K := K) (a := p) (xs := ys) (fun i Y => L2.Same Z Y ∧ ∃ zs, Y C2 = some (.lst zs) ∧ (∀ z ∈ zs, z ∈ xs) ∧ zs.length ≤ i) ⟨same_up nC2, [], upd_same, (fun z m => nomatch m), Nat.zero_le _⟩ (fun i Y _ z => lst_of (z.1 _ _ gp)) (fun i x Y hx z => ?_) (fun Y z => ?_)
  · obtain ⟨sY, zs, gY, mz, lz⟩ := z
    obtain ⟨t, u, j, rfl, gt, j0, j1⟩ := mk1 x (List.mem_of_getElem? hx)
    have hi : i < ys.length := (List.getElem?_eq_some_iff.mp hx).1
    obtain ⟨n, rfl⟩ := Int.eq_ofNat_of_zero_le j0
    have hn : n < xs.length := by omega
    have hb : SqL K Y b xs := by
      refine seq_off (fun o z => ?_) sb
      exact sY _ _ (o1 _ _ bd bl z)
    refine ⟨t, _, rfl, tupOf (sY _ _ gt), rfl, .int u, [.int n], rfl, .int n, [], rfl, rfl, rfl, .ref b, rfl, .int n, rfl, .inl ⟨b, xs, n, xs[n], rfl, rfl, hb, atI_nat (List.getElem?_eq_getElem hn), zs, gY, Nat.lt_of_le_of_lt (show _ ≤ 100 by omega) (by decide), same_mut sY nC2, zs ++ [xs[n]], upd_same, fun z m => ?_, by rw [List.length_append, List.length_singleton]; omega⟩⟩
    rcases List.mem_append.mp m with m | m
    · exact mz z m
    · cases List.mem_singleton.mp m
      exact List.getElem_mem hn
  · obtain ⟨sY, zs, gY, mz, lz⟩ := z
    exact q C2 zs Y (o1.free (D1.off nC2).1 (D1.off nC2).2 nC2) (o1.trans (sY.off (d := d) (l := l))) (D1.same sY) gY mz (by omega)
end
end K01
set_option Elab.async false
set_option linter.all false
set_option autoImplicit false
set_option maxRecDepth 100000
set_option maxHeartbeats 4000000
/-! any value beside a text; a tuple of any values beside a tuple of one text -/
namespace Tl
open PySem PySem.Spec PyProof.Rows L2 PySem.SeqAt
theorem dict_eq_declines_str (l : Addr) (dat : Data) (dd : Option Addr) (sl : Array (Option Value)) (b : Str) (u : Tok) :
    Meets (Builtin.«dict.__eq__» ⟨[.ref l, .str b u], []⟩) (fun _ R s => s.heap.get? l = some { cls := .type "dict", dict := dd, data := dat, slots := sl } ∧ R (.ok (.ret .notImplemented)) s) :=
  .of_wp fun prog w A R s h => by obtain ⟨hp, g, d, tk, os⟩ := s; obtain ⟨hl, h⟩ := h; have f1 := F.sub_str_dict; wp_walk using wpAny_loadPart' hl; exact ⟨_, rfl, h⟩
theorem str_eq_declines_dict (b : Str) (u : Tok) (l : Addr) (es : Array PySem.DictEntry) (ep : Nat) (dd : Option Addr) (sl : Array (Option Value)) :
    Meets (Builtin.«str.__eq__» ⟨[.str b u, .ref l], []⟩) (fun _ R s => s.heap.get? l = some { cls := .type "dict", dict := dd, data := .dict es ep, slots := sl } ∧ R (.ok (.ret .notImplemented)) s) :=
  .of_wp fun prog w A R s h => by obtain ⟨hp, g, d, tk, os⟩ := s; obtain ⟨hl, h⟩ := h; wp_walk using wpAny_loadPart' hl, wpAny_load hl; exact ⟨_, rfl, h⟩
section
variable {A : Around} {s : Shared}
theorem RcAt_dict_str {l : Addr} {o : Obj} {es : Array PySem.DictEntry} {ep : Nat} (b : Str) (u : Tok) (ho : s.heap.get? l = some o) (hc : o.cls = .type "dict") (hd : o.data = .dict es ep) (hu : A.units < cLine) : RcAt A s (.ref l) (.str b u) false := fun prog w E Q h => by
  obtain ⟨cls, dd, data, sl⟩ := o
  simp only at hc hd
  subst hc hd
  exact rc_eq_decline_or (k := false) ⟨_, ho, rfl⟩ (PySem.typeIs_str s b u) (by decide) F.sub_str_dict F.slot_dict_eq F.slot_str_eq_refl
    (fun _ hq => call_meets F.slot_dict_eq ⟨_, ho, rfl⟩ F.entry_dict_eq (F.args_dict_eq_2 _ _) (dict_eq_declines_str l (.dict es ep) dd sl b u) ⟨ho, hq⟩)
    (fun _ hq => call_meets F.slot_str_eq_refl (PySem.typeIs_str s b u) F.entry_str_eq (F.args_str_eq_2 _ _) (str_eq_declines_dict b u l es ep dd sl) ⟨ho, hq⟩)
    (fun _ hq => wpAny_of_eq (rfl : isSame (.ref l) (.str b u) = pure false) hq) (.inr hu) h
theorem EqAt_dict_str {l : Addr} {o : Obj} {es : Array PySem.DictEntry} {ep : Nat} (b : Str) (u : Tok) (ho : s.heap.get? l = some o) (hc : o.cls = .type "dict") (hd : o.data = .dict es ep) (hu : A.units < cLine) : EqAt A s (.ref l) (.str b u) false := fun prog w E Q h => by
  unfold eqBool
  refine wpAny_holding ?_
  refine wpAny_ite_split (fun hab => absurd (eq_of_beq hab) nofun) (fun _ => ?_)
  exact wpAny_bind (RcAt_dict_str b u ho hc hd hu prog w E _ (wpAny_truthy_bool h))
end
def isS (t : Str) : PyData → Bool
  | .str x => x == t
  | _ => false
section
variable {X : Cx} {pins : List (Addr × Obj)} {σ : L2.St} {H : Hp} {s : Shared} {M : Addr → Prop}
theorem eqat_av (I : Inv X pins σ H s) {v : V} {u : Value} {d : PyData} (A : Around) (hA : A.units < cLine) (h : Av X.K M H v d) (r : RelV v u) (t : Str) (tk : Tok) : EqAt A s u (.str t tk) (isS t d) := by
  cases h with
  | non => cases r; exact EqAt.none_str t tk
  | bl b => cases r; exact EqAt.bool_str b t tk
  | int i => obtain ⟨t2, rfl⟩ := r; exact EqAt.int_str i t2 t tk
  | str x => obtain ⟨t2, rfl⟩ := r; exact EqAt.str_str x t2 t tk
  | lst m h1 h2 =>
    cases r
    obtain ⟨its, rv, pl, _⟩ := I.list (.inl h1)
    exact EqAt.list_str t tk pl.isList hA
  | tup h1 h2 =>
    cases r
    obtain ⟨its, rv, pl, _⟩ := I.tuple h1
    exact EqAt.tuple_str t tk pl hA
  | dct m h1 =>
    cases r
    obtain ⟨_, _, vs, rel, o, es, ep, g2, g3, g4, _⟩ := dk_rd I.hok h1
    exact EqAt_dict_str t tk g2 g3.1 g4 hA
theorem rcat_av (I : Inv X pins σ H s) {v : V} {u : Value} {d : PyData} (A : Around) (hA : A.units < cLine) (h : Av X.K M H v d) (r : RelV v u) (t : Str) (tk : Tok) : RcAt A s u (.str t tk) (isS t d) := by
  cases h with
  | non => cases r; exact RcAt.none_str t tk
  | bl b => cases r; exact RcAt.bool_str b t tk
  | int i => obtain ⟨t2, rfl⟩ := r; exact RcAt.int_str i t2 t tk
  | str x => obtain ⟨t2, rfl⟩ := r; exact RcAt.str_str x t2 t tk
  | lst m h1 h2 =>
    cases r
    obtain ⟨its, rv, pl, _⟩ := I.list (.inl h1)
    exact RcAt.list_str t tk pl.isList hA
  | tup h1 h2 =>
    cases r
    obtain ⟨its, rv, pl, _⟩ := I.tuple h1
    exact RcAt.tuple_str t tk pl hA
  | dct m h1 =>
    cases r
    obtain ⟨_, _, vs, rel, o, es, ep, g2, g3, g4, _⟩ := dk_rd I.hok h1
    exact RcAt_dict_str t tk g2 g3.1 g4 hA
end
/-- x == a text -/
def rEqS (K : PySem.W.Frag) : R2 := fun x y H Q => ∃ (M : Addr → Prop) (d : PyData) (t : Str), Av K M H x d ∧ y = .str t ∧ Q (.bl (isS t d)) H
/-- a tuple beside a tuple of one text -/
def rEq1 (K : PySem.W.Frag) : R2 := fun x y H Q => ∃ (M : Addr → Prop) (a b : Addr) (xs : List V) (ds : List PyData) (t : Str), x = .ref a ∧ y = .ref b ∧ SqT K H a xs ∧ Avs K M H xs ds ∧ SqT K H b [.str t] ∧ Q (.bl (match ds with | [d] => isS t d | _ => false)) H
section
variable {X : Cx}
theorem op_eqS {K : PySem.W.Frag} (hK : X.K = K) (hu : X.A.units < cLine) : OpR X (compareOp .Eq) (rEqS K) := by
  subst hK
  intro pins s σ H x y v u Q I rx ry h
  obtain ⟨M, d, t, hd, rfl, q⟩ := h
  obtain ⟨tk, rfl⟩ := ry
  exact rcat_av I X.A hu hd rx t tk _ _ _ _ ⟨.bl (isS t d), H, I, rfl, q⟩
theorem op_eq1 {K : PySem.W.Frag} (hK : X.K = K) (hu : X.A.units + 1 < cLine) : OpR X (compareOp .Eq) (rEq1 K) := by
  subst hK
  intro pins s σ H x y v u Q I rx ry h
  obtain ⟨M, a, b, xs, ds, t, rfl, rfl, ha, hs, hb, q⟩ := h
  cases rx
  cases ry
  obtain ⟨its, rv, pl, _⟩ := I.tuple ha
  obtain ⟨it2, rv2, pl2, _⟩ := I.tuple hb
  obtain ⟨tk, e2⟩ : ∃ tk, it2 = [Value.str t tk] := by
    cases rv2 with
    | cons r1 r2 =>
      cases r2
      obtain ⟨tk, rfl⟩ := r1
      exact ⟨tk, rfl⟩
  subst e2
  have lx := rv.length
  have ld := hs.len
  refine SeqAt.RcAt.tuples (items := its.toArray) (items2 := #[Value.str t tk]) (e := fun _ => isS t (ds.getD 0 .none)) pl pl2 (by omega) (fun j h1 h2 => ?_) _ _ _ _ ⟨.bl _, H, I, ?_, q⟩
  · have j0 : j = 0 := by
      have : j < 1 := h2
      omega
    subst j0
    cases rv with
    | nil => exact absurd h1 (Nat.not_lt_zero _)
    | cons r1 r2 =>
      cases hs with
      | cons g1 g2 => exact eqat_av I _ (by show X.A.units + 1 < cLine; exact hu) g1 r1 t tk
  · show Value.bool _ = Value.bool _
    congr 1
    match ds, ld with
    | [], ld =>
      have : its.length = 0 := by
        rw [← lx, ld]
        rfl
      have : its = [] := List.length_eq_zero_iff.mp this
      subst this
      rfl
    | [d], ld =>
      have : its.length = 1 := by rw [← lx, ld]; rfl
      match its, this with
      | [w], _ => simp
    | d :: e :: r, ld =>
      have : its.length = r.length + 2 := by rw [← lx, ld]; rfl
      match its, this with
      | w :: z :: q, e =>
        show (List.all _ _ && ((w :: z :: q).toArray.size == 1)) = false
        rw [show ((w :: z :: q).toArray.size == 1) = false from rfl, Bool.and_false]
end
end Tl
set_option Elab.async false
set_option linter.all false
set_option autoImplicit false
set_option maxRecDepth 100000
set_option maxHeartbeats 4000000
namespace Tl
open PySem PySem.Spec PyProof.Rows L2
/-- [x for x in t if p(x)]: empty or not -/
theorem bad_lc {K : PySem.W.Frag} {M : Addr → Prop} {a : Addr} {xs : List V} {ds : List PyData} {g : TG} {tt : TT} {te : TE} {vs : List Nat} {σ : L2.St} {Z : Hp} {D : Addr} {Qd : Hp → Prop} (p : PyData → Bool) (ha : SqT K Z a xs) (hx : Avs K M Z xs ds) (nD : Z D = none) (len : ds.length ≤ 100)
    (hs : ∀ (x : V) (d : PyData) (X : Hp) (R : VK) (N : Hp → Prop), L2.Same Z X → Av K M X x d → d ∈ ds → (∀ X', L2.Same X X' → if p d = true then R x X' else N X') → g x (wipe σ vs) X fun σ2 H2 => wipe σ2 vs = wipe σ vs ∧ tt σ2 H2 fun b H3 => if b = true then te σ2 H3 R else N H3)
    (hd : ∀ X ys, L2.Same Z X → X D = some (.lst ys) → ys.isEmpty = ds.all (fun d => !p d) → Qd X) :
    ∃ W : Nat → Nat → Hp → Prop, (∃ m, W 0 m (upd Z D (.lst []))) ∧ ∀ i m H, W i m H →
      ((Itt K a).stop i H ∧ Qd H) ∨ ((Itt K a).go i H ∧ ∃ Nx : Hp → Prop, (∀ H', Nx H' → ∃ m', m' < m ∧ W (i + 1) m' H') ∧ ∀ x H', (Itt K a).yld i H x H' → g x (wipe σ vs) H' fun σ2 H2 => wipe σ2 vs = wipe σ vs ∧ tt σ2 H2 fun b H3 =>
        if b = true then te σ2 H3 fun y H4 => ∃ acc, H4 D = some (.lst acc) ∧ acc.length < sizeLine ∧ Nx (upd H4 D (.lst (acc ++ [y]))) else Nx H3) := by
  have lxs := hx.len
  refine lc_tup (K := K) (a := a) (xs := xs) (fun i X => L2.Same Z X ∧ ∃ ys, X D = some (.lst ys) ∧ ys.isEmpty = (ds.take i).all (fun d => !p d) ∧ ys.length ≤ i) ⟨same_up nD, [], upd_same, rfl, Nat.le_refl _⟩ (fun i X _ z => (Tl.Same.stay z.1).tup ha) (fun i x X hi z => ?_) (fun X z => ?_)
  · obtain ⟨sX, ys, gX, ey, ly⟩ := z
    obtain ⟨d, hd, av⟩ := hx.at hi
    have lt : i < xs.length := (List.getElem?_eq_some_iff.mp hi).1
    refine hs x d X _ _ sX (av.s sX) (List.mem_of_getElem? hd) fun X' e => ?_
    refine ite2 (fun yes => ?_) (fun no => ?_)
    · refine ⟨_, e _ _ gX, Nat.lt_of_le_of_lt (show _ ≤ 100 by omega) (by decide), same_mut (sX.trans e) nD, _, upd_same, ?_, by rw [List.length_append, List.length_singleton]; omega⟩
      rw [List.take_add_one, hd, List.all_append]
      simp [yes]
    · refine ⟨sX.trans e, ys, e _ _ gX, ?_, by omega⟩
      rw [List.take_add_one, hd, List.all_append, ← ey]
      simp [no]
  · obtain ⟨sX, ys, gX, ey, ly⟩ := z
    rw [List.take_of_length_le (by omega)] at ey
    exact hd X ys sX gX ey
end Tl
set_option Elab.async false
set_option linter.all false
set_option autoImplicit false
set_option maxRecDepth 100000
set_option maxHeartbeats 4000000
namespace K01
open PySem PySem.Spec PyProof.Rows L2 Tl
open C8 (Cal pe_c)
/-! ### what concepts are -/
theorem fit_lens {k : Nat} (hk : k ≤ 45) : ∀ {d : PyData}, fit k d = true → lens 60 d = true
  | .none, _ => rfl
  | .bool _, _ => rfl
  | .int _, _ => rfl
  | .str x, z => by
    rw [lens, decide_eq_true_eq]
    exact fit_len hk z
  | .list ds, z => by
    have ⟨z1, z2⟩ := fit_lst.mp z
    rw [lens, Bool.and_eq_true, decide_eq_true_eq]
    exact ⟨by omega, go hk ds z2⟩
  | .tuple ds, z => by
    have ⟨z1, z2⟩ := fit_tup.mp z
    rw [lens, Bool.and_eq_true, decide_eq_true_eq]
    exact ⟨by omega, go hk ds z2⟩
  | .dict _, _ => rfl
where go {k : Nat} (hk : k ≤ 45) : ∀ ds : List PyData, (∀ d ∈ ds, fit k d = true) → lens.lensAll 60 ds = true
  | [], _ => rfl
  | d :: ds, z => by
    rw [lens.lensAll, Bool.and_eq_true]
    exact ⟨fit_lens hk (z d List.mem_cons_self), go hk ds fun e m => z e (List.mem_cons_of_mem _ m)⟩
def innerL : List PyData → Option (List PyData)
  | [a] => if isS "all" a || isS "none" a then some [] else none
  | [a, b] => if isS "word" a && wordD b then some [] else none
  | [a, b, c] => if isS "and" a then some [b, c] else if isS "some" a && wordD b then some [c] else none
  | _ => none
def innerD : PyData → Option (List PyData)
  | .tuple ds => innerL ds
  | _ => none
def conF : Nat → PyData → Bool
  | 0, _ => false
  | n + 1, d => match innerD d with
    | none => false
    | some es => es.all (conF n)
theorem inner_sub {d : PyData} {es : List PyData} (h : innerD d = some es) : (∀ e ∈ es, e.depth < d.depth) ∧ PyData.bulkAll es ≤ d.bulk ∧ ∀ k, fit k d = true → ∀ e ∈ es, fit k e = true := by
  cases d with
  | tuple ds =>
    have key : ∀ es : List PyData, (∃ n, es = ds.drop n) ∨ es = [] → (∀ e ∈ es, e.depth < (PyData.tuple ds).depth) ∧ PyData.bulkAll es ≤ (PyData.tuple ds).bulk ∧ ∀ k, fit k (.tuple ds) = true → ∀ e ∈ es, fit k e = true := fun es h => by
      rcases h with ⟨n, rfl⟩ | rfl
      · refine ⟨fun e m => ?_, ?_, fun k f e m => (fit_tup.mp f).2 e (List.mem_of_mem_drop m)⟩
        · have := depth_le.mp (Nat.le_refl _) e (List.mem_of_mem_drop m)
          simp only [PyData.depth]
          omega
        · have := bulk_cut ds n
          simp only [PyData.bulk]
          omega
      · exact ⟨fun e m => (nomatch m), by rw [PyData.bulkAll]; exact Nat.zero_le _, fun k _ e m => (nomatch m)⟩
    have h : innerL ds = some es := h
    match ds, h with
    | [a], h =>
      simp only [innerL] at h
      split at h <;> cases h
      exact key _ (.inr rfl)
    | [a, b], h =>
      simp only [innerL] at h
      split at h <;> cases h
      exact key _ (.inr rfl)
    | [a, b, c], h =>
      simp only [innerL] at h
      split at h
      · cases h
        exact key _ (.inl ⟨1, rfl⟩)
      · split at h <;> cases h
        exact key _ (.inl ⟨2, rfl⟩)
  | _ => cases h
theorem con_fuel : ∀ (n m : Nat) (d : PyData), d.depth < n → d.depth < m → conF n d = conF m d
  | 0, _, d, h, _ => absurd h (Nat.not_lt_zero _)
  | _ + 1, 0, d, _, h => absurd h (Nat.not_lt_zero _)
  | n + 1, m + 1, d, h1, h2 => by
    unfold conF
    cases hi : innerD d with
    | none => rfl
    | some es =>
      have := (inner_sub hi).1
      show es.all (conF n) = es.all (conF m)
      rw [Bool.eq_iff_iff, List.all_eq_true, List.all_eq_true]
      constructor
      · intro h e me
        have hd := this e me
        rw [← con_fuel n m e (by omega) (by omega)]
        exact h e me
      · intro h e me
        have hd := this e me
        rw [con_fuel n m e (by omega) (by omega)]
        exact h e me
def conD (d : PyData) : Bool := conF (d.depth + 1) d
theorem con_none {d : PyData} (h : innerD d = none) : conD d = false := by
  unfold conD conF
  rw [h]
theorem con_some {d : PyData} {es : List PyData} (h : innerD d = some es) : conD d = es.all conD := by
  unfold conD
  rw [conF, h]
  show es.all (conF d.depth) = _
  have := (inner_sub h).1
  rw [Bool.eq_iff_iff, List.all_eq_true, List.all_eq_true]
  constructor
  · intro g e me
    have hd := this e me
    show conF (e.depth + 1) e = true
    rw [con_fuel _ d.depth e (by omega) (by omega)]
    exact g e me
  · intro g e me
    have hd := this e me
    rw [con_fuel d.depth (e.depth + 1) e (by omega) (by omega)]
    exact g e me
/-! ### the program -/
section
variable {P : Program} {w : World} {K : PySem.W.Frag} {mg : Str → Option Value} {base : Heap}
def spInner (K : PySem.W.Frag) : Sp := fun vs H Q _ => ∃ (v : V) (d : PyData) (M : Addr → Prop) (k : Nat), vs = [v] ∧ Av K M H v d ∧ fit k d = true ∧ k ≤ 45 ∧
  (innerD d = none → ∀ H', L2.Same H H' → Q .non H') ∧ ∀ es, innerD d = some es → ∀ (r : Addr) (ys : List V) (H' : Hp), L2.Same H H' → SqT K H' r ys → Avs K M H' ys es → Q (.ref r) H'
theorem cInner (T : Txt K mg) : Cal P w K mg base 3 "_inner" (spInner K) [] := by
  refine cal_of T.inner scInner (fun _ _ _ _ _ _ us hl => match us, hl with | [_], _ => rfl) (fun vs H Q E h => ?_) (fun f cdv A outer s H vs Q E hr h => ?_)
  · obtain ⟨v, d, M, k, rfl, _⟩ := h
    rfl
  obtain ⟨v, d, M, k, rfl, hv, hf, hk, qN, qS⟩ := h
  have hu := hu_of hr
  refine ⟨_, (pss_cons (ps_if (pt_not (pt_val (pe_callB call_isi (by rfl) T.isinstance (by decide +kernel) (pa_cons (pv 0) (pa_cons (pe_bltn (v := V.ty "tuple") (u := Value.type "tuple") (by rfl) T.tuple (by decide +kernel) rfl) pa_nil)))))
 (pss_one (ps_ret pe_non))
 pss_nil)
 (pss_cons (ps_if (PW.pt (pw_or (pt_cmpR (op_eq1 (K := K) rfl hu) (pv 0) (pe_tup (pa_cons pe_str pa_nil)) (nomark _)) (pw_or1 (pt_cmpR (op_eq1 (K := K) rfl hu) (pv 0) (pe_tup (pa_cons pe_str pa_nil)) (nomark _)))))
 (pss_one (ps_ret (pe_tup pa_nil)))
 pss_nil)
 (pss_cons (ps_if (PW.pt (pw_and (pt_cmpR op_eq (pe_callB call_len_seq (by rfl) T.len (by decide +kernel) (pa_cons (pv 0) pa_nil)) pe_int (nomark _)) (pw_and (pt_cmpR (op_eqS (K := K) rfl (Nat.lt_of_succ_lt hu)) (pe_ix ix_tup (pv 0) pe_int (fun _ _ => rfl)) pe_str (nomark _)) (pw_and1 (pt_val (pe_c (cIsWord T) hr (by decide) rfl (pa_cons (pe_ix ix_tup (pv 0) pe_int (fun _ _ => rfl)) pa_nil)))))))
 (pss_one (ps_ret (pe_tup pa_nil)))
 pss_nil)
 (pss_cons (ps_if (PW.pt (pw_and (pt_cmpR op_eq (pe_callB call_len_seq (by rfl) T.len (by decide +kernel) (pa_cons (pv 0) pa_nil)) pe_int (nomark _)) (pw_and1 (pt_cmpR (op_eqS (K := K) rfl (Nat.lt_of_succ_lt hu)) (pe_ix ix_tup (pv 0) pe_int (fun _ _ => rfl)) pe_str (nomark _)))))
 (pss_one (ps_ret (pe_slice sl_tupA (pv 0) (po_some pe_int) po_none)))
 pss_nil)
 (pss_cons (ps_if (PW.pt (pw_and (pt_cmpR op_eq (pe_callB call_len_seq (by rfl) T.len (by decide +kernel) (pa_cons (pv 0) pa_nil)) pe_int (nomark _)) (pw_and (pt_cmpR (op_eqS (K := K) rfl (Nat.lt_of_succ_lt hu)) (pe_ix ix_tup (pv 0) pe_int (fun _ _ => rfl)) pe_str (nomark _)) (pw_and1 (pt_val (pe_c (cIsWord T) hr (by decide) rfl (pa_cons (pe_ix ix_tup (pv 0) pe_int (fun _ _ => rfl)) pa_nil)))))))
 (pss_one (ps_ret (pe_slice sl_tupA (pv 0) (po_some pe_int) po_none)))
 pss_nil)
 (pss_one (ps_ret pe_non))))))), ?_⟩
  refine ⟨v, rfl, v, .ty "tuple", .type (tyN d), .type "tuple", isTup d, rfl, .ty _, ty_av hv, kit_ty (kb_tup d), isTup d, rfl, ?_⟩
  cases hv with
  | @tup a xs ds ha hs =>
    have lxs := hs.len
    have ⟨l45, fds⟩ := fit_tup.mp hf
    have eI : innerD (.tuple ds) = innerL ds := rfl
    rw [eI] at qN qS
    -- ("all",), ("none",)
    refine iteF ⟨.ref a, rfl, by show 1 ≤ sizeLine; decide, fun t1 nt1 => ?_⟩
    have s1 := same_up (o := .tup [.str "all"]) nt1
    refine ⟨M, a, t1, xs, ds, "all", rfl, rfl, (Tl.Same.stay s1).tup ha, hs.s s1, tupOf upd_same, _, rfl, ?_⟩
    generalize upd H t1 (.tup [.str "all"]) = H1 at s1 ⊢
    refine ifB (fun h1 => ?_) (fun h1 => ?_)
    · match ds, h1 with
      | [e], h1 =>
        have h1 : isS "all" e = true := h1
        refine ⟨Nat.zero_le _, fun r nr => qS [] (by simp only [innerL]; rw [h1]; rfl) r [] _ (s1.trans (same_up nr)) (tupOf upd_same) .nil⟩
    refine ⟨.ref a, rfl, by show 1 ≤ sizeLine; decide, fun t2 nt2 => ?_⟩
    have s2 := s1.trans (same_up (o := .tup [.str "none"]) nt2)
    refine ⟨M, a, t2, xs, ds, "none", rfl, rfl, (Tl.Same.stay s2).tup ha, hs.s s2, tupOf upd_same, _, rfl, ?_⟩
    generalize upd H1 t2 (.tup [.str "none"]) = H2 at s2 ⊢
    refine ifB (fun h2 => ?_) (fun h2 => ?_)
    · match ds, h2 with
      | [e], h2 =>
        have h2 : isS "none" e = true := h2
        refine ⟨Nat.zero_le _, fun r nr => qS [] (by simp only [innerL]; rw [h2, Bool.or_true]; rfl) r [] _ (s2.trans (same_up nr)) (tupOf upd_same) .nil⟩
    have ha2 := (Tl.Same.stay s2).tup ha
    have hs2 := hs.s s2
    have len2 : ∀ (m : Int), (xs.length : Int) ≠ m → decide (V.int (xs.length : Int) = V.int m) = false := fun m n => decide_eq_false fun z => n (V.int.inj z)
    refine ⟨.ref a, rfl, a, xs, rfl, .inr ha2, rfl, _, rfl, ?_⟩
    by_cases e2 : ds.length = 2
    · obtain ⟨d0, d1, rfl⟩ : ∃ d0 d1, ds = [d0, d1] := by
        match ds, e2 with
        | [a, b], _ => exact ⟨a, b, rfl⟩
      cases hs2 with
      | @cons y0 _ _ _ hy0 hs2 => cases hs2 with
        | @cons y1 _ _ _ hy1 hs2 =>
          cases hs2
          have no2 : ∀ G, L2.Same H2 G → innerL [d0, d1] = none → (if decide (V.int (([y0, y1] : List V).length : Int) = V.int 3) = true then False else True) := fun _ _ _ => trivial
          refine iteT ⟨.ref a, rfl, a, _, 0, _, rfl, rfl, ha2, atI_nat (j := 0) rfl, M, d0, "word", hy0, rfl, _, rfl, ?_⟩
          have rest : ∀ G, L2.Same H2 G → innerL [d0, d1] = none → Q .non G := fun G s n => qN n G (s2.trans s)
          refine ifB (fun hw => ?_) (fun hw => ?_)
          · refine ⟨.ref a, rfl, a, _, 1, _, rfl, rfl, ha2, atI_nat (j := 1) rfl, y1, d1, M, rfl, hy1, fit_lens hk (fds d1 (by simp)), fun G sG => ⟨wordD d1, rfl, ?_⟩⟩
            have haG := (Tl.Same.stay sG).tup ha2
            refine ifB (fun hd => ?_) (fun hd => ?_)
            · refine ⟨Nat.zero_le _, fun r nr => qS [] (by simp only [innerL]; rw [hw, hd]; rfl) r [] _ ((s2.trans sG).trans (same_up nr)) (tupOf upd_same) .nil⟩
            · refine ⟨.ref a, rfl, a, _, rfl, .inr haG, rfl, _, rfl, iteF ?_⟩
              refine ⟨.ref a, rfl, a, _, rfl, .inr haG, rfl, _, rfl, iteF ?_⟩
              exact rest G sG (by simp only [innerL]; rw [hw, hd]; rfl)
          · refine ⟨.ref a, rfl, a, _, rfl, .inr ha2, rfl, _, rfl, iteF ?_⟩
            refine ⟨.ref a, rfl, a, _, rfl, .inr ha2, rfl, _, rfl, iteF ?_⟩
            exact rest H2 (L2.Same.refl H2) (by simp only [innerL]; rw [hw]; rfl)
    rw [len2 2 (by omega)]
    refine iteF ⟨.ref a, rfl, a, xs, rfl, .inr ha2, rfl, _, rfl, ?_⟩
    by_cases e3 : ds.length = 3
    · obtain ⟨d0, d1, d2, rfl⟩ : ∃ d0 d1 d2, ds = [d0, d1, d2] := by
        match ds, e3 with
        | [a, b, c], _ => exact ⟨a, b, c, rfl⟩
      cases hs2 with
      | @cons y0 _ _ _ hy0 hs2 => cases hs2 with
        | @cons y1 _ _ _ hy1 hs2 => cases hs2 with
          | @cons y2 _ _ _ hy2 hs2 =>
            cases hs2
            refine iteT ⟨.ref a, rfl, a, _, 0, _, rfl, rfl, ha2, atI_nat (j := 0) rfl, M, d0, "and", hy0, rfl, _, rfl, ?_⟩
            refine ifB (fun ha => ?_) (fun hna => ?_)
            · refine ⟨.ref a, rfl, 1, rfl, ?_⟩
              dsimp only [tNoPart]
              refine sl_any ha2 fun r G sG hr => ?_
              rw [show (1 : Int) = ((1 : Nat) : Int) from rfl] at hr
              exact qS [d1, d2] (by simp only [innerL]; rw [ha]; rfl) r [y1, y2] G (s2.trans sG) hr (.cons (hy1.s sG) (.cons (hy2.s sG) .nil))
            · refine ⟨.ref a, rfl, a, _, rfl, .inr ha2, rfl, _, rfl, iteT ?_⟩
              refine ⟨.ref a, rfl, a, _, 0, _, rfl, rfl, ha2, atI_nat (j := 0) rfl, M, d0, "some", hy0, rfl, _, rfl, ?_⟩
              refine ifB (fun hs => ?_) (fun hns => ?_)
              · refine ⟨.ref a, rfl, a, _, 1, _, rfl, rfl, ha2, atI_nat (j := 1) rfl, y1, d1, M, rfl, hy1, fit_lens hk (fds d1 (by simp)), fun G sG => ⟨wordD d1, rfl, ?_⟩⟩
                have haG := (Tl.Same.stay sG).tup ha2
                refine ifB (fun hd => ?_) (fun hd => ?_)
                · refine ⟨.ref a, rfl, 2, rfl, ?_⟩
                  dsimp only [tNoPart]
                  refine sl_any haG fun r G2 sG2 hr => ?_
                  exact qS [d2] (by simp only [innerL]; rw [hna, hs, hd]; rfl) r [y2] G2 ((s2.trans sG).trans sG2) hr (.cons ((hy2.s sG).s sG2) .nil)
                · exact qN (by simp only [innerL]; rw [hna, hs, hd]; rfl) G (s2.trans sG)
              · exact qN (by simp only [innerL]; rw [hna, hns]; rfl) H2 s2
    rw [len2 3 (by omega)]
    refine iteF ⟨.ref a, rfl, a, xs, rfl, .inr ha2, rfl, _, rfl, ?_⟩
    rw [len2 3 (by omega)]
    refine iteF (qN ?_ H2 s2)
    match ds, e2, e3, h1, h2 with
    | [], _, _, _, _ => rfl
    | [e], _, _, h1, h2 =>
      have h1 : isS "all" e = false := h1
      have h2 : isS "none" e = false := h2
      simp only [innerL]
      rw [h1, h2]
      rfl
    | [_, _], e2, _, _, _ => exact absurd rfl e2
    | [_, _, _], _, e3, _, _ => exact absurd rfl e3
    | _ :: _ :: _ :: _ :: _, _, _, _, _ => rfl
  | _ => exact iteT (qN rfl H (L2.Same.refl H))
end
end K01
set_option Elab.async false
set_option linter.all false
set_option autoImplicit false
set_option maxRecDepth 100000
set_option maxHeartbeats 4000000
namespace K01
open PySem PySem.Spec PyProof.Rows L2 Tl
open C8 (Cal pe_c)
theorem last_or {α : Type} : ∀ xs : List α, xs = [] ∨ ∃ ys y, xs = ys ++ [y]
  | [] => .inl rfl
  | x :: xs => .inr (by
    rcases last_or xs with rfl | ⟨ys, y, rfl⟩
    · exact ⟨[], x, rfl⟩
    · exact ⟨x :: ys, y, rfl⟩)
theorem refne (a : Addr) : decide (V.ref a = V.non) = false := decide_eq_false fun e => nomatch e
theorem avs_last {K : PySem.W.Frag} {M : Addr → Prop} {H : Hp} : ∀ {xs : List V} {y : V} {ds : List PyData}, Avs K M H (xs ++ [y]) ds → ∃ es e, ds = es ++ [e] ∧ Avs K M H xs es ∧ Av K M H y e
  | [], y, _, h => by
    cases h with
    | cons r t => cases t; exact ⟨[], _, rfl, .nil, r⟩
  | x :: xs, y, _, h => by
    cases h with
    | cons r t =>
      obtain ⟨es, e, rfl, h1, h2⟩ := avs_last t
      exact ⟨_ :: es, e, rfl, .cons r h1, h2⟩
theorem bulk_len : ∀ ds : List PyData, ds.length ≤ PyData.bulkAll ds
  | [] => Nat.zero_le _
  | d :: ds => by
    have := bulk_len ds
    rw [PyData.bulkAll, List.length_cons]
    omega
section
variable {P : Program} {w : World} {K : PySem.W.Frag} {mg : Str → Option Value} {base : Heap}
/-- any value in, its kind out -/
def spKind (K : PySem.W.Frag) (f : PyData → Bool) : Sp := fun vs H Q _ => ∃ (v : V) (d : PyData) (M : Addr → Prop) (k : Nat), vs = [v] ∧ Av K M H v d ∧ fit k d = true ∧ k ≤ 45 ∧ d.bulk ≤ 3500 ∧ ∀ H', L2.Same H H' → Q (.bl (f d)) H'
theorem fIsConcept (T : Txt K mg) : CalF P w K mg base 4 "is_concept" sIsConcept ["thing"] (spKind K conD) := by
  refine calF_of T.isConcept scIsConcept (fun vs H Q E h => ?_) (fun f cdv A outer s H vs Q E hr h => ?_)
  · obtain ⟨v, d, M, k, rfl, _⟩ := h
    rfl
  obtain ⟨v, d, M, k, rfl, hv, hf, hk, hb, q⟩ := h
  refine ⟨_, (pss_cons (ps_set (i := 1) scIsConcept.nd rfl (.inl rfl) (pe_lst (pa_cons (pv 0) pa_nil)))
 (pss_cons (ps_while PassesOwn.never (pt_truth (pv 1) (fun _ => rfl))
 (pss_cons (ps_set (i := 2) scIsConcept.nd rfl (.inl rfl) (pe_c (cInner T) hr (by decide) rfl (pa_cons (pe_bm0 PySem.F.plainAttrs_list PySem.F.slot_list_pop PySem.F.type_list_pop mt_pop (pv 1)) pa_nil)))
 (pss_cons (ps_if (pt_cmpR op_isN (pv 2) pe_non (nomark _))
 (pss_one (ps_ret pe_bl))
 pss_nil)
 (pss_one (ps_expr (pe_bm PySem.F.plainAttrs_list PySem.F.slot_list_extend PySem.F.type_list_extend mt_extT (pv 1) (pa_cons (pv 2) pa_nil)))))))
 (pss_one (ps_ret pe_bl)))), ?_⟩
  refine ⟨v, rfl, by show 1 ≤ sizeLine; decide, fun l nl => ?_⟩
  refine ⟨fun m σ X => ∃ (xs : List V) (ds : List PyData) (t : Option V), σ = [some v, some (.ref l), t] ∧ L2.Same H X ∧ X l = some (.lst xs) ∧ Avs K (With M l) X xs ds ∧ (∀ e ∈ ds, fit k e = true) ∧ conD d = ds.all conD ∧ PyData.bulkAll ds = m ∧ m ≤ 3501,
    ⟨d.bulk + 1, [v], [d], none, rfl, same_up nl, upd_same, .cons ((hv.wi nl).s (same_up nl)) .nil, (fun x hx => by cases List.mem_singleton.mp hx; exact hf), by simp, bulk_one d, by omega⟩, ?_⟩
  rintro m σ X ⟨xs, ds, t, rfl, sX, gX, hp, fits, ec, rfl, le⟩
  refine ⟨.ref l, rfl, !xs.isEmpty, .inl ⟨xs, lst_of gX, rfl⟩, ?_⟩
  rcases last_or xs with rfl | ⟨ys, y, rfl⟩
  · cases hp
    have q' := q X sX
    rw [ec] at q'
    exact iteF q'
  rw [show (!(ys ++ [y]).isEmpty) = true by simp]
  obtain ⟨es, e, rfl, hp', hy⟩ := avs_last hp
  refine iteT ⟨fun σ' X' => ∃ m', m' < PyData.bulkAll (es ++ [e]) ∧ ∃ (xs : List V) (ds : List PyData) (t : Option V), σ' = [some v, some (.ref l), t] ∧ L2.Same H X' ∧ X' l = some (.lst xs) ∧ Avs K (With M l) X' xs ds ∧ (∀ e ∈ ds, fit k e = true) ∧ conD d = ds.all conD ∧ PyData.bulkAll ds = m' ∧ m' ≤ 3501, fun _ _ z => z, ?_⟩
  have fe : fit k e = true := fits e (by simp)
  have be : PyData.bulkAll (es ++ [e]) = PyData.bulkAll es + (e.bulk + 1) := by rw [bulk_app, bulk_one]
  have ed : (ys ++ [y]).dropLast = ys := by simp
  refine ⟨.ref l, rfl, .inl ⟨rfl, _, lst_of gX⟩, l, _, y, rfl, rfl, gX, by simp, ?_⟩
  have k1 : Keep (With M l) X (upd X l (.lst (ys ++ [y]).dropLast)) := keep_p gX
  have s1 : L2.Same H (upd X l (.lst (ys ++ [y]).dropLast)) := same_mut sX nl
  have g1 : upd X l (.lst (ys ++ [y]).dropLast) l = some (.lst ys) := by rw [upd_same, ed]
  generalize upd X l (.lst (ys ++ [y]).dropLast) = X1 at k1 s1 g1 ⊢
  refine ⟨y, e, With M l, k, rfl, hy.k k1, fe, hk, fun n X2 s2 => ?_, fun fs hs r zs X2 s2 hz hzs => ?_⟩
  · refine ⟨.non, rfl, rfl, _, rfl, iteT ?_⟩
    have q' := q X2 (s1.trans s2)
    rw [ec, List.all_append] at q'
    simp only [List.all_cons, con_none n, Bool.false_and, Bool.and_false] at q'
    exact q'
  have g2 := s2 _ _ g1
  refine ⟨.ref r, rfl, rfl, _, rfl, ?_⟩
  rw [refne]
  obtain ⟨i1, i2, i3⟩ := inner_sub hs
  have l1 := hp'.len
  have l2 := hzs.len
  have l3 := bulk_len es
  have l4 := bulk_len fs
  refine iteF ⟨.ref l, rfl, .inl ⟨rfl, _, lst_of g2⟩, .ref r, rfl, l, r, ys, zs, rfl, rfl, g2, hz, ?_, ?_⟩
  · exact Nat.le_trans (show _ ≤ 4000 by omega) (by decide)
  · have k3 : Keep (With M l) X2 (upd X2 l (.lst (ys ++ zs))) := keep_p g2
    refine ⟨PyData.bulkAll (es ++ fs), by rw [be, bulk_app]; omega, ys ++ zs, es ++ fs, _, rfl, same_mut (s1.trans s2) nl, upd_same, (((hp'.k k1).s s2).k k3).app (hzs.k k3), fun x hx => ?_, ?_, rfl, by rw [bulk_app]; omega⟩
    · rcases List.mem_append.mp hx with hx | hx
      · exact fits x (List.mem_append_left _ hx)
      · exact i3 k fe x hx
    · rw [ec, List.all_append, List.all_append]
      simp only [List.all_cons, List.all_nil, Bool.and_true, con_some hs]
theorem cIsConcept (T : Txt K mg) : Cal P w K mg base 4 "is_concept" (spKind K conD) [] := (fIsConcept T).cal fun _ _ _ _ _ _ us hl => match us, hl with | [_], _ => rfl
/-! books -/
def axD : PyData → Bool
  | .tuple [a, b] => conD a && conD b
  | _ => false
def bookD : PyData → Bool
  | .tuple ds => ds.all axD
  | _ => false
theorem ax_no {d : PyData} (h : pairD d = false) : axD d = false := by
  cases d with
  | tuple ds =>
    match ds, h with
    | [a, b], h => cases h
    | [], _ => rfl
    | [_], _ => rfl
    | _ :: _ :: _ :: _, _ => rfl
  | _ => rfl
theorem bulk_mem {d : PyData} : ∀ {ds : List PyData}, d ∈ ds → d.bulk + 1 ≤ PyData.bulkAll ds
  | e :: es, m => by
    rw [PyData.bulkAll]
    rcases List.mem_cons.mp m with rfl | m
    · omega
    · have := bulk_mem m
      omega
theorem bulk_tup (ds : List PyData) : (PyData.tuple ds).bulk = PyData.bulkAll ds := by rw [PyData.bulk]
theorem fIsBook (T : Txt K mg) : CalF P w K mg base 5 "is_book" sIsBook ["thing"] (spKind K bookD) := by
  refine calF_of T.isBook scIsBook (fun vs H Q E h => ?_) (fun f cdv A outer s H vs Q E hr h => ?_)
  · obtain ⟨v, d, M, k, rfl, _⟩ := h
    rfl
  obtain ⟨v, d, M, k, rfl, hv, hf, hk, hb, q⟩ := h
  refine ⟨_, (pss_cons (ps_if (pt_not (pt_val (pe_callB call_isi (by rfl) T.isinstance (by decide +kernel) (pa_cons (pv 0) (pa_cons (pe_bltn (v := V.ty "tuple") (u := Value.type "tuple") (by rfl) T.tuple (by decide +kernel) rfl) pa_nil)))))
 (pss_one (ps_ret pe_bl))
 pss_nil)
 (pss_cons (ps_for PassesOwn.never rfl (pi_tup (pv 0)) (pg_name (i := 1) scIsBook.nd rfl (.inl rfl))
 (pss_one (ps_if (PW.pt (pw_or (pt_not (pt_val (pe_c (cIsPair T) hr (by decide) rfl (pa_cons (pv 1) pa_nil)))) (pw_or (pt_not (pt_val (pe_c (cIsConcept T) hr (by decide) rfl (pa_cons (pe_ix ix_tup (pv 1) pe_int (fun _ _ => rfl)) pa_nil)))) (pw_or1 (pt_not (pt_val (pe_c (cIsConcept T) hr (by decide) rfl (pa_cons (pe_ix ix_tup (pv 1) pe_int (fun _ _ => rfl)) pa_nil))))))))
 (pss_one (ps_ret pe_bl))
 pss_nil)))
 (pss_one (ps_ret pe_bl)))), ?_⟩
  refine ⟨v, rfl, v, .ty "tuple", .type (tyN d), .type "tuple", isTup d, rfl, .ty _, ty_av hv, kit_ty (kb_tup d), isTup d, rfl, ?_⟩
  cases hv with
  | @tup a xs ds ha hs =>
    have ⟨l45, fds⟩ := fit_tup.mp hf
    have lxs := hs.len
    have e : bookD (.tuple ds) = ds.all axD := rfl
    rw [e] at q
    rw [bulk_tup] at hb
    refine iteF ⟨.ref a, rfl, a, rfl, ⟨_, ha⟩, ?_⟩
    refine for_tup (K := K) (a := a) (xs := xs) (fun i σ X => (∃ t, σ = [some (.ref a), t]) ∧ L2.Same H X ∧ (ds.take i).all axD = true) ⟨⟨_, rfl⟩, L2.Same.refl H, rfl⟩ (fun i σ X _ z => ?_) (fun i x σ X hx z => ?_) (fun σ X z => ?_)
    · obtain ⟨_, sX, _⟩ := z
      exact (Tl.Same.stay sX).tup ha
    · obtain ⟨⟨t, rfl⟩, sX, ok⟩ := z
      obtain ⟨dx, hdx, avx⟩ := hs.at hx
      have mdx := List.mem_of_getElem? hdx
      have fdx := fds dx mdx
      have bdx := bulk_mem mdx
      have avx := avx.s sX
      have bad : axD dx = false → ∀ X', L2.Same H X' → Q (.bl false) X' := fun h X' s => by
        have q' := q X' s
        rw [all_bad hdx h] at q'
        exact q'
      refine ⟨x, rfl, x, dx, M, rfl, avx, pairD dx, rfl, ?_⟩
      cases hp : pairD dx with
      | false => exact iteT (bad (ax_no hp) X sX)
      | true =>
        obtain ⟨es, rfl⟩ : ∃ ds, dx = .tuple ds := by cases dx <;> first | exact ⟨_, rfl⟩ | cases hp
        obtain ⟨da, db, rfl⟩ := pair_len hp
        obtain ⟨p, y, z, rfl, hp2, hy, hz⟩ := av_two avx
        have ⟨_, fab⟩ := fit_tup.mp fdx
        rw [bulk_tup] at bdx
        have ba := bulk_mem (d := da) (ds := [da, db]) (by simp)
        have bb := bulk_mem (d := db) (ds := [da, db]) (by simp)
        have er : axD (.tuple [da, db]) = (conD da && conD db) := rfl
        refine iteF ⟨.ref p, rfl, p, _, 0, _, rfl, rfl, hp2, atI_nat (j := 0) rfl, y, da, M, k, rfl, hy, fab da (by simp), hk, by omega, fun X2 s2 => ⟨conD da, rfl, ?_⟩⟩
        cases hw : conD da with
        | false => exact iteT (bad (by rw [er, hw, Bool.false_and]) X2 (sX.trans s2))
        | true =>
          refine iteF ⟨.ref p, rfl, p, _, 1, _, rfl, rfl, (Tl.Same.stay s2).tup hp2, atI_nat (j := 1) rfl, z, db, M, k, rfl, hz.s s2, fab db (by simp), hk, by omega, fun X3 s3 => ⟨conD db, rfl, ?_⟩⟩
          cases hi : conD db with
          | false => exact iteT (bad (by rw [er, hw, hi]; rfl) X3 ((sX.trans s2).trans s3))
          | true =>
            refine iteF ⟨⟨_, rfl⟩, (sX.trans s2).trans s3, ?_⟩
            rw [List.take_add_one, hdx, List.all_append, ok]
            simp [er, hw, hi]
    · obtain ⟨⟨t, rfl⟩, sX, ok⟩ := z
      rw [List.take_of_length_le (show ds.length ≤ xs.length by omega)] at ok
      have q' := q X sX
      rw [ok] at q'
      exact q'
  | _ => exact iteT (q H (L2.Same.refl H))
theorem cIsBook (T : Txt K mg) : Cal P w K mg base 5 "is_book" (spKind K bookD) [] := (fIsBook T).cal fun _ _ _ _ _ _ us hl => match us, hl with | [_], _ => rfl
end
end K01
set_option Elab.async false
set_option linter.all false
set_option autoImplicit false
set_option maxRecDepth 100000
set_option maxHeartbeats 4000000
namespace K01
open PySem PySem.Spec PyProof.Rows L2 Tl
open C8 (Cal pe_c)
/-! ### vocabularies -/
def wordsD : PyData → Bool
  | .tuple ds => ds.all wordD && ascD ds
  | _ => false
def vocD : PyData → Bool
  | .tuple [a, b] => wordsD a && wordsD b
  | _ => false
theorem voc_no {d : PyData} (h : pairD d = false) : vocD d = false := by
  cases d with
  | tuple ds =>
    match ds, h with
    | [a, b], h => cases h
    | [], _ => rfl
    | [_], _ => rfl
    | _ :: _ :: _ :: _, _ => rfl
  | _ => rfl
theorem words_strs : ∀ {ds : List PyData}, ds.all wordD = true → ∃ ws : List Str, ds = ws.map .str ∧ ∀ x ∈ ws, isW x = true
  | [], _ => ⟨[], rfl, fun x m => nomatch m⟩
  | d :: ds, h => by
    rw [List.all_cons, Bool.and_eq_true] at h
    obtain ⟨ws, e, g⟩ := words_strs h.2
    cases d with
    | str x => exact ⟨x :: ws, by rw [e]; rfl, fun y m => by
        rcases List.mem_cons.mp m with rfl | m
        · exact h.1
        · exact g y m⟩
    | _ => cases h.1
section
variable {P : Program} {w : World} {K : PySem.W.Frag} {mg : Str → Option Value} {base : Heap}
theorem cAreWords (T : Txt K mg) : Cal P w K mg base 3 "_are_words" (spKind K wordsD) [] := by
  refine cal_of T.areWords scAreWords (fun _ _ _ _ _ _ us hl => match us, hl with | [_], _ => rfl) (fun vs H Q E h => ?_) (fun f cdv A outer s H vs Q E hr h => ?_)
  · obtain ⟨v, d, M, k, rfl, _⟩ := h
    rfl
  obtain ⟨v, d, M, k, rfl, hv, hf, hk, hb, q⟩ := h
  refine ⟨_, (pss_one (ps_ret (pe_and (pe_callB call_isi (by rfl) T.isinstance (by decide +kernel) (pa_cons (pv 0) (pa_cons (pe_bltn (v := V.ty "tuple") (u := Value.type "tuple") (by rfl) T.tuple (by decide +kernel) rfl) pa_nil))) (pe_and (pe_callB (cr_all rfl) (by rfl) T.all (by decide +kernel) (pa_cons (pe_lc (own := [("word", 1)]) (by rfl) scAreWords.nd (pi_tup (pv 0)) (blkOk_by (own := [("word", 1)]) (N := ["thing", "word"]) (sc := defScope sAreWords) (by decide +kernel)) (fun _ _ _ _ _ => (pg_name (i := 1) scAreWords.nd rfl (.inl rfl))) (fun _ _ _ _ _ => pts_nil) (fun _ _ _ _ _ => (pe_c (cIsWord T) hr (by decide) rfl (pa_cons (pv 1) pa_nil)))) pa_nil)) (pe_one (pe_c (cIsAscending T) hr (by decide) rfl (pa_cons (pv 0) pa_nil))))))), ?_⟩
  refine ⟨v, rfl, v, .ty "tuple", .type (tyN d), .type "tuple", isTup d, rfl, .ty _, ty_av hv, kit_ty (kb_tup d), isTup d, rfl, ?_⟩
  cases hv with
  | @tup a xs ds ha hs =>
    have ⟨l45, fds⟩ := fit_tup.mp hf
    have lxs := hs.len
    have e : wordsD (.tuple ds) = (ds.all wordD && ascD ds) := rfl
    rw [e] at q
    refine iteT ⟨.ref a, rfl, a, rfl, ⟨_, ha⟩, fun C nC => ?_⟩
    refine lc_tup (K := K) (a := a) (xs := xs) (fun i Y => L2.Same H Y ∧ Y C = some (.lst (((ds.take i).map wordD).map V.bl))) ⟨same_up nC, upd_same⟩ (fun i Y _ z => (Tl.Same.stay z.1).tup ha) (fun i x Y hx z => ?_) (fun Y z => ?_)
    · obtain ⟨sY, gY⟩ := z
      obtain ⟨dx, hdx, avx⟩ := hs.at hx
      have hi : i < xs.length := (List.getElem?_eq_some_iff.mp hx).1
      refine ⟨rfl, x, rfl, x, dx, M, rfl, avx.s sY, fit_lens hk (fds dx (List.mem_of_getElem? hdx)), fun Y2 s2 => ⟨_, s2 _ _ gY, ?_, same_mut (sY.trans s2) nC, ?_⟩⟩
      · rw [List.length_map, List.length_map, List.length_take]
        exact Nat.lt_of_le_of_lt (show _ ≤ 100 by omega) (by decide)
      · rw [upd_same, List.take_add_one, hdx, List.map_append, List.map_append]
        rfl
    obtain ⟨sY, gY⟩ := z
    rw [List.take_of_length_le (by omega)] at gY
    refine ⟨C, _, rfl, lst_of gY, (ds.map wordD).all id, rfl, ?_⟩
    have e2 : (ds.map wordD).all id = ds.all wordD := by rw [List.all_map]; rfl
    rw [e2]
    refine ifB (fun h1 => ?_) (fun h1 => ?_)
    · rw [h1, Bool.true_and] at q
      refine ⟨.ref a, rfl, a, xs, ds, M, rfl, .inr ((Tl.Same.stay sY).tup ha), hs.s sY, by omega, fun x hx y hy => ?_, fun H' s => q H' (sY.trans s)⟩
      obtain ⟨ws, rfl, _⟩ := words_strs h1
      obtain ⟨u, _, rfl⟩ := List.mem_map.mp hx
      obtain ⟨z, _, rfl⟩ := List.mem_map.mp hy
      exact .str u z
    · rw [h1, Bool.false_and] at q
      exact q Y sY
  | _ => exact iteF (q H (L2.Same.refl H))
theorem fIsVocabulary (T : Txt K mg) : CalF P w K mg base 4 "is_vocabulary" sIsVocabulary ["thing"] (spKind K vocD) := by
  refine calF_of T.isVocabulary scIsVocabulary (fun vs H Q E h => ?_) (fun f cdv A outer s H vs Q E hr h => ?_)
  · obtain ⟨v, d, M, k, rfl, _⟩ := h
    rfl
  obtain ⟨v, d, M, k, rfl, hv, hf, hk, hb, q⟩ := h
  refine ⟨_, (pss_one (ps_ret (pe_and (pe_c (cIsPair T) hr (by decide) rfl (pa_cons (pv 0) pa_nil)) (pe_and (pe_c (cAreWords T) hr (by decide) rfl (pa_cons (pe_ix ix_tup (pv 0) pe_int (fun _ _ => rfl)) pa_nil)) (pe_one (pe_c (cAreWords T) hr (by decide) rfl (pa_cons (pe_ix ix_tup (pv 0) pe_int (fun _ _ => rfl)) pa_nil))))))), ?_⟩
  refine ⟨v, rfl, v, d, M, rfl, hv, pairD d, rfl, ?_⟩
  refine ifB (fun hp => ?_) (fun hp => ?_)
  · obtain ⟨es, rfl⟩ : ∃ ds, d = .tuple ds := by cases d <;> first | exact ⟨_, rfl⟩ | cases hp
    obtain ⟨da, db, rfl⟩ := pair_len hp
    obtain ⟨p, y, z, rfl, hp2, hy, hz⟩ := av_two hv
    have ⟨_, fab⟩ := fit_tup.mp hf
    rw [bulk_tup] at hb
    have ba := bulk_mem (d := da) (ds := [da, db]) (by simp)
    have bb := bulk_mem (d := db) (ds := [da, db]) (by simp)
    have er : vocD (.tuple [da, db]) = (wordsD da && wordsD db) := rfl
    rw [er] at q
    refine ⟨.ref p, rfl, p, _, 0, _, rfl, rfl, hp2, atI_nat (j := 0) rfl, y, da, M, k, rfl, hy, fab da (by simp), hk, by omega, fun X2 s2 => ⟨wordsD da, rfl, ?_⟩⟩
    refine ifB (fun h1 => ?_) (fun h1 => ?_)
    · rw [h1, Bool.true_and] at q
      exact ⟨.ref p, rfl, p, _, 1, _, rfl, rfl, (Tl.Same.stay s2).tup hp2, atI_nat (j := 1) rfl, z, db, M, k, rfl, hz.s s2, fab db (by simp), hk, by omega, fun X3 s3 => q X3 (s2.trans s3)⟩
    · rw [h1, Bool.false_and] at q
      exact q X2 s2
  · have q' := q H (L2.Same.refl H)
    rw [voc_no hp] at q'
    exact q'
theorem cIsVocabulary (T : Txt K mg) : Cal P w K mg base 4 "is_vocabulary" (spKind K vocD) [] := (fIsVocabulary T).cal fun _ _ _ _ _ _ us hl => match us, hl with | [_], _ => rfl
end
end K01
set_option Elab.async false
set_option linter.all false
set_option autoImplicit false
set_option maxRecDepth 100000
set_option maxHeartbeats 4000000
namespace K01
open PySem PySem.Spec PyProof.Rows L2 Tl
open C8 (Cal pe_c)
/-! ### the law's own look at concepts -/
def kinds : List (Key × V) := [(.inr "all", .int 1), (.inr "none", .int 1), (.inr "word", .int 2), (.inr "and", .int 3), (.inr "some", .int 3)]
def kindN (t : Str) : Nat := if t = "all" then 1 else if t = "none" then 1 else if t = "word" then 2 else if t = "and" then 3 else if t = "some" then 3 else 0
theorem kinds_get (t : Str) : (valV (mergeK [] kinds) (.inr t)).getD (.int 0) = .int (kindN t : Nat) := by
  have e : mergeK [] kinds = kinds := by decide +kernel
  rw [e]
  unfold kinds kindN
  have inj : ∀ {x : Str}, ¬ t = x → ¬ (Sum.inr x : Key) = .inr t := fun n z => n (Sum.inr.inj z).symm
  by_cases h1 : t = "all"
  · subst h1; rfl
  rw [valV_neg (inj h1), if_neg h1]
  by_cases h2 : t = "none"
  · subst h2; rfl
  rw [valV_neg (inj h2), if_neg h2]
  by_cases h3 : t = "word"
  · subst h3; rfl
  rw [valV_neg (inj h3), if_neg h3]
  by_cases h4 : t = "and"
  · subst h4; rfl
  rw [valV_neg (inj h4), if_neg h4]
  by_cases h5 : t = "some"
  · subst h5; rfl
  rw [valV_neg (inj h5), if_neg h5, valV_nil]
  rfl
theorem isS_str (x t : Str) : isS x (.str t) = decide (t = x) := by
  show (t == x) = decide (t = x)
  rfl
/-- what the law's look at one value says -/
theorem kind_le (t : Str) : kindN t ≤ 3 := by
  unfold kindN
  repeat' split
  all_goals omega
theorem inner_str (t : Str) (r : List PyData) : innerL (.str t :: r) =
    if r.length + 1 = kindN t ∧ ¬ ((t = "word" ∨ t = "some") ∧ wordD (r.getD 0 .none) = false) then some (if t = "and" then r else r.drop 1) else none := by
  by_cases hl : 3 ≤ r.length
  · have h3 := kind_le t
    rw [if_neg (fun z => by have := z.1; omega)]
    match r, hl with
    | _ :: _ :: _ :: _, _ => rfl
  unfold kindN
  by_cases h1 : t = "all"
  · subst h1
    match r with
    | [] => rfl
    | [_] => rfl
    | [_, _] => rfl
    | _ :: _ :: _ :: _ => exact absurd (Nat.le_add_left _ _) hl
  by_cases h2 : t = "none"
  · subst h2
    match r with
    | [] => rfl
    | [_] => rfl
    | [_, _] => rfl
    | _ :: _ :: _ :: _ => exact absurd (Nat.le_add_left _ _) hl
  by_cases h3 : t = "word"
  · subst h3
    match r with
    | [] => rfl
    | [b] =>
      show (if (isS "word" (.str "word") && wordD b) = true then some [] else none) = _
      cases hb : wordD b
      · show (none : Option (List PyData)) = if _ then _ else none
        rw [if_neg]
        rintro ⟨_, n⟩
        exact n ⟨.inl rfl, hb⟩
      · show some [] = if _ then _ else none
        rw [if_pos ⟨rfl, fun z => by
          have := z.2
          rw [show ([b] : List PyData).getD 0 .none = b from rfl, hb] at this
          cases this⟩]
        rfl
    | [_, _] => rfl
    | _ :: _ :: _ :: _ => exact absurd (Nat.le_add_left _ _) hl
  by_cases h4 : t = "and"
  · subst h4
    match r with
    | [] => rfl
    | [_] => rfl
    | [_, _] => rfl
    | _ :: _ :: _ :: _ => exact absurd (Nat.le_add_left _ _) hl
  by_cases h5 : t = "some"
  · subst h5
    match r with
    | [] => rfl
    | [_] => rfl
    | [b, c] =>
      show (if isS "and" (.str "some") = true then some [b, c] else if (isS "some" (.str "some") && wordD b) = true then some [c] else none) = _
      cases hb : wordD b
      · show (none : Option (List PyData)) = if _ then _ else none
        rw [if_neg]
        rintro ⟨_, n⟩
        exact n ⟨.inr rfl, hb⟩
      · show some [c] = if _ then _ else none
        rw [if_pos ⟨rfl, fun z => by
          have := z.2
          rw [show ([b, c] : List PyData).getD 0 .none = b from rfl, hb] at this
          cases this⟩]
        rfl
    | _ :: _ :: _ :: _ => exact absurd (Nat.le_add_left _ _) hl
  rw [if_neg h1, if_neg h2, if_neg h3, if_neg h4, if_neg h5, if_neg (fun z => by have := z.1; omega)]
  match r with
  | [] =>
    simp only [innerL, isS_str]
    rw [decide_eq_false h1, decide_eq_false h2]
    rfl
  | [b] =>
    simp only [innerL, isS_str]
    rw [decide_eq_false h3]
    rfl
  | [b, c] =>
    simp only [innerL, isS_str]
    rw [decide_eq_false h4, decide_eq_false h5]
    rfl
  | _ :: _ :: _ :: _ => rfl
theorem inner_notstr {a : PyData} {r : List PyData} (h : isStr a = false) : innerL (a :: r) = none := by
  have e : ∀ x, isS x a = false := fun x => by cases a <;> first | rfl | cases h
  match r with
  | [] => simp only [innerL, e]; rfl
  | [b] => simp only [innerL, e]; rfl
  | [b, c] => simp only [innerL, e]; rfl
  | _ :: _ :: _ :: _ => rfl
theorem cut_fromK {xs : List V} (k : Nat) : cutV xs (some (k : Int)) none = xs.drop k := by
  unfold cutV
  rw [HT.sIx_none, HT.sIx_nat]
  by_cases h : k ≤ xs.length
  · rw [Nat.min_eq_left h, List.take_of_length_le (by rw [List.length_drop]; omega)]
  · rw [Nat.min_eq_right (by omega), List.drop_of_length_le (Nat.le_refl _), List.drop_of_length_le (by omega), List.take_nil]
theorem cut_from1 {x : V} {xs : List V} : cutV (x :: xs) (some 1) none = xs := cut_fromK 1
theorem cut_from2 {x : V} {xs : List V} : cutV (x :: xs) (some 2) none = xs.drop 1 := cut_fromK 2
theorem avs_drop {K : PySem.W.Frag} {M : Addr → Prop} {H : Hp} : ∀ {xs : List V} {ds : List PyData}, Avs K M H xs ds → ∀ n, Avs K M H (xs.drop n) (ds.drop n)
  | _, _, h, 0 => h
  | _, _, .nil, _ + 1 => .nil
  | _, _, .cons _ h, n + 1 => avs_drop h n
section
variable {P : Program} {w : World} {K : PySem.W.Frag} {mg : Str → Option Value} {base : Heap}
theorem cLawIsConcept (T : Txt K mg) : Cal P w K mg base 2 "_law_is_concept" (spKind K conD) [] := by
  refine cal_of T.lawIsConcept scLawIsConcept (fun _ _ _ _ _ _ us hl => match us, hl with | [_], _ => rfl) (fun vs H Q E h => ?_) (fun f cdv A outer s H vs Q E hr h => ?_)
  · obtain ⟨v, d, M, k, rfl, _⟩ := h
    rfl
  obtain ⟨v, d, M, k, rfl, hv, hf, hk, hb, q⟩ := h
  have hu := hu_of hr
  have hu1 := Nat.lt_of_succ_lt hu
  refine ⟨_, (pss_cons (ps_set (i := 1) scLawIsConcept.nd rfl (.inl rfl) (pe_lst (pa_cons (pv 0) pa_nil)))
 (pss_cons (ps_for PassesOwn.never rfl (pi_range1 rfl T.range (pa_cons pe_int pa_nil)) (pg_name (i := 2) scLawIsConcept.nd rfl (.inl rfl))
 (pss_cons (ps_if (pt_cmpR (op_eqNilL (K := K) rfl hu1) (pv 1) (pe_lst pa_nil) (nomark _))
 (pss_one ps_break)
 pss_nil)
 (pss_cons (ps_set (i := 3) scLawIsConcept.nd rfl (.inl rfl) (pe_bm0 PySem.F.plainAttrs_list PySem.F.slot_list_pop PySem.F.type_list_pop mt_pop (pv 1)))
 (pss_cons (ps_if (PW.pt (pw_or (pt_not (pt_val (pe_callB call_isi (by rfl) T.isinstance (by decide +kernel) (pa_cons (pv 3) (pa_cons (pe_bltn (v := V.ty "tuple") (u := Value.type "tuple") (by rfl) T.tuple (by decide +kernel) rfl) pa_nil))))) (pw_or (pt_cmpR (op_eqNilT (K := K) rfl hu1) (pv 3) (pe_tup pa_nil) (nomark _)) (pw_or1 (pt_not (pt_val (pe_callB call_isi (by rfl) T.isinstance (by decide +kernel) (pa_cons (pe_ix ix_tup (pv 3) pe_int (fun _ _ => rfl)) (pa_cons (pe_bltn (v := V.ty "str") (u := Value.type "str") (by rfl) T.str (by decide +kernel) rfl) pa_nil)))))))))
 (pss_one (ps_ret pe_bl))
 pss_nil)
 (pss_cons (ps_if (pt_cmpR op_ne (pe_callB call_len_seq (by rfl) T.len (by decide +kernel) (pa_cons (pv 3) pa_nil)) (pe_dget2 hu (pe_disp (pps_cons pe_str pe_int (pps_cons pe_str pe_int (pps_cons pe_str pe_int (pps_cons pe_str pe_int (pps_cons pe_str pe_int pps_nil))))) (by rfl) (by rfl) (fun z => by cases z) (by decide)) (pe_ix ix_tup (pv 3) pe_int (fun _ _ => rfl)) pe_int ⟨rfl, rfl, rfl, rfl⟩) (nomark _))
 (pss_one (ps_ret pe_bl))
 pss_nil)
 (pss_cons (ps_if (PW.pt (pw_and (pt_cmpR op_in_seq (pe_ix ix_tup (pv 3) pe_int (fun _ _ => rfl)) (pe_tup (pa_cons pe_str (pa_cons pe_str pa_nil))) rfl) (pw_and1 (pt_not (pt_val (pe_c (cLawIsWordA T) hr (by decide) rfl (pa_cons (pe_ix ix_tup (pv 3) pe_int (fun _ _ => rfl)) pa_nil)))))))
 (pss_one (ps_ret pe_bl))
 pss_nil)
 (pss_one (ps_expr (pe_bm PySem.F.plainAttrs_list PySem.F.slot_list_extend PySem.F.type_list_extend mt_extend (pv 1) (pa_cons (pe_ifExp (pt_cmpR op_eq (pe_ix ix_tup (pv 3) pe_int (fun _ _ => rfl)) pe_str (nomark _)) (pe_callTy call_list_of (by rfl) T.list (by decide +kernel) (pa_cons (pe_slice sl_tupA (pv 3) (po_some pe_int) po_none) pa_nil)) (pe_callTy call_list_of (by rfl) T.list (by decide +kernel) (pa_cons (pe_slice sl_tupA (pv 3) (po_some pe_int) po_none) pa_nil))) pa_nil))))))))))
 (pss_one (ps_ret (pe_cmpR (op_eqNilL (K := K) rfl hu1) (pv 1) (pe_lst pa_nil) (nomark _)))))), ?_⟩
  refine ⟨v, rfl, by show 1 ≤ sizeLine; decide, fun l nl => ?_⟩
  refine ⟨4000, rfl, by omega, by omega, ?_⟩
  refine for_range (lo := 0) (n := 4000) (fun i σ X => ∃ (xs : List V) (ds : List PyData) (t2 t3 : Option V), σ = [some v, some (.ref l), t2, t3] ∧ L2.Same H X ∧ X l = some (.lst xs) ∧ Avs K (With M l) X xs ds ∧ (∀ e ∈ ds, fit k e = true) ∧ conD d = ds.all conD ∧ PyData.bulkAll ds + i ≤ 3501)
    ⟨[v], [d], none, none, rfl, same_up nl, upd_same, .cons ((hv.wi nl).s (same_up nl)) .nil, (fun x hx => by cases List.mem_singleton.mp hx; exact hf), by simp, by rw [bulk_one]; omega⟩ (fun i σ X hi z => ?_) (fun σ X z => ?_)
  · obtain ⟨xs, ds, t2, t3, rfl, sX, gX, hp, fits, ec, le⟩ := z
    refine ⟨.ref l, rfl, Nat.zero_le _, fun n nn => ?_⟩
    have s0 := same_up (o := .lst []) nn
    have gn : upd X n (.lst []) n = some (.lst []) := upd_same
    have sX0 := sX.trans s0
    have gX0 := s0 _ _ gX
    have hp0 := hp.s s0
    generalize upd X n (.lst []) = X0 at s0 gn sX0 gX0 hp0 ⊢
    refine ⟨l, n, xs, rfl, rfl, lst_of gX0, lst_of gn, _, rfl, ?_⟩
    rcases last_or xs with rfl | ⟨ys, y, rfl⟩
    · cases hp0
      refine iteT ?_
      -- the break: nothing is left
      refine ⟨.ref l, rfl, Nat.zero_le _, fun n2 nn2 => ⟨l, n2, [], rfl, rfl, lst_of ((same_up nn2) _ _ gX0), lst_of upd_same, ?_⟩⟩
      have q' := q _ (sX0.trans (same_up (o := .lst []) nn2))
      rw [ec] at q'
      exact q'
    rw [show (ys ++ [y]).isEmpty = false by simp]
    obtain ⟨es, e, rfl, hp', hy⟩ := avs_last hp0
    have fe : fit k e = true := fits e (by simp)
    have be : PyData.bulkAll (es ++ [e]) = PyData.bulkAll es + (e.bulk + 1) := by rw [bulk_app, bulk_one]
    have ed : (ys ++ [y]).dropLast = ys := by simp
    refine iteF ⟨.ref l, rfl, .inl ⟨rfl, _, lst_of gX0⟩, l, _, y, rfl, rfl, gX0, by simp, ?_⟩
    have k1 : Keep (With M l) X0 (upd X0 l (.lst (ys ++ [y]).dropLast)) := keep_p gX0
    have s1 : L2.Same H (upd X0 l (.lst (ys ++ [y]).dropLast)) := same_mut sX0 nl
    have g1 : upd X0 l (.lst (ys ++ [y]).dropLast) l = some (.lst ys) := by rw [upd_same, ed]
    generalize upd X0 l (.lst (ys ++ [y]).dropLast) = X1 at k1 s1 g1 ⊢
    have hy1 := hy.k k1
    have no : innerD e = none → ∀ Y, L2.Same X1 Y → Q (.bl false) Y := fun n Y s => by
      have q' := q Y (s1.trans s)
      rw [ec, List.all_append] at q'
      simp only [List.all_cons, con_none n, Bool.false_and, Bool.and_false] at q'
      exact q'
    refine ⟨y, rfl, y, .ty "tuple", .type (tyN e), .type "tuple", isTup e, rfl, .ty _, ty_av hy1, kit_ty (kb_tup e), isTup e, rfl, ?_⟩
    cases hy1 with
    | @tup a as fs ha has =>
      have laf := has.len
      refine iteF ⟨.ref a, rfl, Nat.zero_le _, fun u nu => ?_⟩
      have s2 := same_up (o := .tup []) nu
      have gu : SqT K (upd X1 u (.tup [])) u [] := tupOf upd_same
      have ha2 := (Tl.Same.stay s2).tup ha
      have has2 := has.s s2
      have g2 := s2 _ _ g1
      generalize upd X1 u (.tup []) = X2 at s2 gu ha2 has2 g2 ⊢
      refine ⟨a, u, as, rfl, rfl, ha2, gu, _, rfl, ?_⟩
      cases has2 with
      | nil => exact iteT (no rfl X2 s2)
      | @cons z zs d0 r hz hzs =>
        refine iteF ⟨.ref a, rfl, a, _, 0, _, rfl, rfl, ha2, atI_nat (j := 0) rfl, z, .ty "str", .type (tyN d0), .type "str", isStr d0, rfl, .ty _, ty_av hz, kit_ty (kb_str d0), isStr d0, rfl, ?_⟩
        cases hd0 : isStr d0 with
        | false => exact iteT (no (inner_notstr hd0) X2 s2)
        | true =>
          obtain ⟨t, rfl⟩ : ∃ t, d0 = .str t := by cases d0 <;> first | exact ⟨_, rfl⟩ | cases hd0
          cases hz
          refine iteF ⟨.ref a, rfl, a, _, rfl, .inr ha2, fun dd ndd => ?_⟩
          have eI : innerD (.tuple (.str t :: r)) = innerL (.str t :: r) := rfl
          have lr := hzs.len
          refine ⟨upd_same, kinds, rfl, by decide, ?_⟩
          have s3 : L2.Same X2 (upd (upd X2 dd (.dK [])) dd (.dK (mergeK [] kinds))) := same_mut (same_up ndd) ndd
          have g3 : upd (upd X2 dd (.dK [])) dd (.dK (mergeK [] kinds)) dd = some (.dK (mergeK [] kinds)) := upd_same
          generalize upd (upd X2 dd (.dK [])) dd (.dK (mergeK [] kinds)) = X3 at s3 g3 ⊢
          have ha3 := (Tl.Same.stay s3).tup ha2
          have hzs3 := hzs.s s3
          have gl3 := s3 _ _ g2
          have s13 := s2.trans s3
          refine ⟨dd, rfl, .inl ⟨_, .inl g3⟩, .ref a, rfl, a, _, 0, _, rfl, rfl, ha3, atI_nat (j := 0) rfl, _, DGet.k (k := .inr t) g3, ?_⟩
          rw [kinds_get t]
          refine ⟨rfl, _, rfl, ?_⟩
          have eS := inner_str t r
          by_cases hn : r.length + 1 = kindN t
          case neg =>
            rw [show (!decide (V.int (((.str t :: zs : List V).length : Nat) : Int) = V.int (kindN t : Nat))) = true by
              rw [decide_eq_false (fun z => hn (by
                have z1 := V.int.inj z
                have z2 : (.str t :: zs : List V).length = kindN t := by omega
                rw [← z2, List.length_cons, lr]))]
              rfl]
            exact iteT (no (eI.trans (eS.trans (if_neg fun z => hn z.1))) X3 s13)
          rw [show (!decide (V.int (((.str t :: zs : List V).length : Nat) : Int) = V.int (kindN t : Nat))) = false by
            rw [decide_eq_true (by rw [show (.str t :: zs : List V).length = kindN t by rw [List.length_cons, lr, hn]])]
            rfl]
          refine iteF ⟨.ref a, rfl, a, _, 0, _, rfl, rfl, ha3, atI_nat (j := 0) rfl, by show 2 ≤ sizeLine; decide, fun w2 nw2 => ?_⟩
          have s4 := same_up (o := .tup [.str "word", .str "some"]) nw2
          refine ⟨w2, [.str "word", .str "some"], rfl, .inr (tupOf upd_same), rfl, flat_strs ["word", "some"], _, rfl, ?_⟩
          have s14 := s13.trans s4
          have ha4 := (Tl.Same.stay s4).tup ha3
          have hzs4 := hzs3.s s4
          have gl4 := s4 _ _ gl3
          generalize upd X3 w2 (.tup [.str "word", .str "some"]) = X4 at s4 s14 ha4 hzs4 gl4 ⊢
          have eW : inV (.str t) [.str "word", .str "some"] = decide (t = "word" ∨ t = "some") := by
            have e0 := inV_ws t ["word", "some"]
            refine e0.trans ?_
            congr 1
            simp only [List.mem_cons, List.not_mem_nil, or_false]
          rw [eW]
          have fr : ∀ x ∈ r, fit k x = true := fun x mx => (fit_tup.mp fe).2 x (List.mem_cons_of_mem _ mx)
          -- what is left grows
          have grow : ∀ Y, L2.Same X4 Y → ¬ ((t = "word" ∨ t = "some") ∧ wordD (r.getD 0 .none) = false) → ∀ (σ0 : List (Option V)), σ0 = [some v, some (.ref l), some (.int (0 + (i : Int))), some (.ref a)] → ∀ ys2 gs, (if t = "and" then gs = r ∧ ys2 = zs else gs = r.drop 1 ∧ ys2 = zs.drop 1) → ∀ (c2 : Addr), Y c2 = some (.lst ys2) → Avs K (With M l) Y ys2 gs →
              ∃ (l' b' : Addr) (xs' zs' : List V), V.ref l = .ref l' ∧ [V.ref c2] = [.ref b'] ∧ Y l' = some (.lst xs') ∧ Y b' = some (.lst zs') ∧ xs'.length + zs'.length ≤ sizeLine ∧
                ∃ (xs : List V) (ds : List PyData) (t2 t3 : Option V), σ0 = [some v, some (.ref l), t2, t3] ∧ L2.Same H (upd Y l' (.lst (xs' ++ zs'))) ∧ (upd Y l' (.lst (xs' ++ zs'))) l = some (.lst xs) ∧ Avs K (With M l) (upd Y l' (.lst (xs' ++ zs'))) xs ds ∧ (∀ e ∈ ds, fit k e = true) ∧ conD d = ds.all conD ∧ PyData.bulkAll ds + (i + 1) ≤ 3501 := by
            intro Y sY hc σ0 e0 ys2 gs hg c2 g2 h2
            have eq : innerD (.tuple (.str t :: r)) = some gs := by
              rw [eI, eS, if_pos ⟨hn, hc⟩]
              by_cases ta : t = "and"
              · rw [if_pos ta] at hg ⊢
                rw [hg.1]
              · rw [if_neg ta] at hg ⊢
                rw [hg.1]
            obtain ⟨i1, i2, i3⟩ := inner_sub eq
            have lY := sY _ _ gl4
            have sA := s14.trans sY
            have l1 := hp'.len
            have l2 := h2.len
            have l3 := bulk_len es
            have l4 := bulk_len gs
            refine ⟨l, c2, ys, ys2, rfl, rfl, lY, g2, Nat.le_trans (show _ ≤ 4000 by omega) (by decide), ys ++ ys2, es ++ gs, _, _, e0, same_mut (s1.trans sA) nl, upd_same, (((hp'.k k1).s sA).app h2).k (keep_p lY), fun x hx => ?_, ?_, by rw [bulk_app]; omega⟩
            · rcases List.mem_append.mp hx with hx | hx
              · exact fits x (List.mem_append_left _ hx)
              · exact i3 k fe x hx
            · rw [ec, List.all_append, List.all_append]
              simp only [List.all_cons, List.all_nil, Bool.and_true, con_some eq]
          refine ifB (fun hw => ?_) (fun hw => ?_)
          · have hw := of_decide_eq_true hw
            have hr1 : 1 ≤ r.length := by
              rcases hw with e | e
              · subst e
                have : kindN "word" = 2 := by decide
                omega
              · subst e
                have : kindN "some" = 3 := by decide
                omega
            match r, zs, hzs4, hr1 with
            | e1 :: r1, z1 :: zs1, .cons hz1 hzs1, _ =>
              refine ⟨.ref a, rfl, a, _, 1, _, rfl, rfl, ha4, atI_nat (j := 1) rfl, _, e1, _, k, rfl, hz1, fr e1 (by simp), hk, fun Y sY => ?_⟩
              refine ⟨_, rfl, ?_⟩
              cases hwd : wordD e1 with
              | false =>
                exact iteT (no (eI.trans (eS.trans (if_neg fun z => z.2 ⟨hw, hwd⟩))) Y (s14.trans sY))
              | true =>
                refine iteF ?_
                have haY := (Tl.Same.stay sY).tup ha4
                have hzY : Avs K (With M l) Y (z1 :: zs1) (e1 :: r1) := (Avs.cons hz1 hzs1).s sY
                have hc : ¬ ((t = "word" ∨ t = "some") ∧ wordD ((e1 :: r1).getD 0 .none) = false) := fun z => by
                  have := z.2
                  rw [show (e1 :: r1).getD 0 PyData.none = e1 from rfl, hwd] at this
                  cases this
                refine ⟨.ref l, rfl, .inl ⟨rfl, _, lst_of (sY _ _ gl4)⟩, ?_⟩
                refine ⟨.ref a, rfl, a, _, 0, _, rfl, rfl, haY, atI_nat (j := 0) rfl, rfl, _, rfl, ?_⟩
                rw [show decide (V.str t = V.str "and") = decide (t = "and") by rw [Bool.eq_iff_iff, decide_eq_true_iff, decide_eq_true_iff]; exact ⟨V.str.inj, congrArg V.str⟩]
                by_cases ta : t = "and"
                · rw [decide_eq_true ta]
                  refine iteT ⟨.ref a, rfl, 1, rfl, ?_⟩
                  dsimp only [tNoPart]
                  refine sl_any haY fun r0 G sG hr0 => ?_
                  rw [cut_from1] at hr0
                  refine ⟨r0, _, rfl, .inr hr0, fun c nc => ?_⟩
                  exact grow _ (sY.trans (sG.trans (same_up nc))) hc _ rfl _ _ (by rw [if_pos ta]; exact ⟨rfl, rfl⟩) c upd_same ((hzY.s sG).s (same_up nc))
                · rw [decide_eq_false ta]
                  refine iteF ⟨.ref a, rfl, 2, rfl, ?_⟩
                  dsimp only [tNoPart]
                  refine sl_any haY fun r0 G sG hr0 => ?_
                  rw [cut_from2] at hr0
                  refine ⟨r0, _, rfl, .inr hr0, fun c nc => ?_⟩
                  exact grow _ (sY.trans (sG.trans (same_up nc))) hc _ rfl _ _ (by rw [if_neg ta]; exact ⟨rfl, rfl⟩) c upd_same (((avs_drop hzY 1).s sG).s (same_up nc))
          · have hw : ¬ (t = "word" ∨ t = "some") := of_decide_eq_false (by simpa using hw)
            have sY := L2.Same.refl X4
            have haY := ha4
            have hzY := hzs4
            have hc : ¬ ((t = "word" ∨ t = "some") ∧ wordD (r.getD 0 .none) = false) := fun z => hw z.1
            refine ⟨.ref l, rfl, .inl ⟨rfl, _, lst_of (sY _ _ gl4)⟩, ?_⟩
            refine ⟨.ref a, rfl, a, _, 0, _, rfl, rfl, haY, atI_nat (j := 0) rfl, rfl, _, rfl, ?_⟩
            rw [show decide (V.str t = V.str "and") = decide (t = "and") by rw [Bool.eq_iff_iff, decide_eq_true_iff, decide_eq_true_iff]; exact ⟨V.str.inj, congrArg V.str⟩]
            by_cases ta : t = "and"
            · rw [decide_eq_true ta]
              refine iteT ⟨.ref a, rfl, 1, rfl, ?_⟩
              dsimp only [tNoPart]
              refine sl_any haY fun r0 G sG hr0 => ?_
              rw [cut_from1] at hr0
              refine ⟨r0, _, rfl, .inr hr0, fun c nc => ?_⟩
              exact grow _ (sY.trans (sG.trans (same_up nc))) hc _ rfl _ _ (by rw [if_pos ta]; exact ⟨rfl, rfl⟩) c upd_same ((hzY.s sG).s (same_up nc))
            · rw [decide_eq_false ta]
              refine iteF ⟨.ref a, rfl, 2, rfl, ?_⟩
              dsimp only [tNoPart]
              refine sl_any haY fun r0 G sG hr0 => ?_
              rw [cut_from2] at hr0
              refine ⟨r0, _, rfl, .inr hr0, fun c nc => ?_⟩
              exact grow _ (sY.trans (sG.trans (same_up nc))) hc _ rfl _ _ (by rw [if_neg ta]; exact ⟨rfl, rfl⟩) c upd_same (((avs_drop hzY 1).s sG).s (same_up nc))
    | _ => exact iteT (no rfl X1 (L2.Same.refl X1))
  · obtain ⟨xs, ds, t2, t3, rfl, sX, gX, hp, fits, ec, le⟩ := z
    omega
end
end K01
set_option Elab.async false
set_option linter.all false
set_option autoImplicit false
set_option maxRecDepth 100000
set_option maxHeartbeats 2000000
/-! set(t), t a tuple of texts -/
namespace Tl
open PySem PySem.Spec PyProof.Rows L2
section
variable {P : Program} {w : World} {A : Around} {E : Value → Shared → Prop} {s : Shared} {a : Addr} {S : Str → Bool} {c : Nat}
set_option maxHeartbeats 3200000 in
theorem set_tup_tx {l : Addr} {vs : Array Value} (xs : List Str) {Q : Value → Shared → Prop} (calm : A.handled = none) (at_ : s.heap.IsTuple l vs)
    (are : StrsAre vs.toList xs) (few : xs.length + 1 < scanBound)
    (go : ∀ (h' : Heap) (tk c : Nat), SetS w h' s.heap.objs.size (fun y => decide (y ∈ xs)) c → c ≤ xs.length →
      (∀ b o, s.heap.get? b = some o → h'.get? b = some o) → Q (.ref s.heap.objs.size) { s with heap := h', toks := tk }) :
    wpAny (model P w) A (call (.type "set") [.ref l]) Q E s := by
  have same : vs.size = xs.length := (Array.length_toList (xs := vs)).symm.trans (StrsAre.length are)
  obtain ⟨c0, tl0, mro0⟩ := F.called_set.mro
  have f1 := F.called_set.made
  have f2 := F.called_set.sub
  refine wpAny_call (codeAny_of_tree ?_)
  show wpAny _ _ (callAny (.type "set") _) _ _ _
  refine wpAny_pure ⟨Code.quiet_builtin _ (by decide +kernel), codeAny_builtin F.entry_type_call ?_⟩
  rw [Around.under_plain (weight_type_call_type "set" [.ref l] []) rfl]
  have f3 := F.called_set.notType
  have f4 := F.called_set.canCreate
  have f5 := F.typeCall_set_1 (.ref l)
  repeat (any_goals (first | assumption | wp_step))
  -- the new set
  refine codeAny_mono (code_set_led1 (.ref l) (E := E) (Q₁ := fun x t => x = .ref s.heap.objs.size ∧ t = { s with heap := s.heap.push (nu w) }) ⟨rfl, rfl⟩) fun r t hr => ?_
  match r, hr with
  | .error _, hr => exact hr
  | .ok .next, hr => exact hr.elim
  | .ok .brk, hr => exact hr.elim
  | .ok .cont, hr => exact hr.elim
  | .ok (.ret x), hr =>
    obtain ⟨e1, e2⟩ := hr
    subst e1 e2
    have g0 : (s.heap.push (nu w)).get? s.heap.objs.size = some (nu w) := Heap.get?_push_size _ rfl
    have ty0 : Shared.TypeIs { s with heap := s.heap.push (nu w) } (.ref s.heap.objs.size) "set" := ⟨_, g0, rfl⟩
    have f6 := F.called_set.init.lookup
    have f7 := F.called_set.init.bind (.ref s.heap.objs.size)
    repeat (any_goals (first | assumption | wp_step))
    -- it is filled
    refine codeAny_mono (codeAny_call_builtin (R := wants (fun r t => r = .none ∧ ∃ h' tk c, t = { s with heap := h', toks := tk } ∧ SetS w h' s.heap.objs.size (fun y => decide (y ∈ xs)) c ∧ c ≤ xs.length ∧
        ∀ b o, s.heap.get? b = some o → h'.get? b = some o) E) F.called_set.init.plain F.entry_set_init (check_set_init_1 ty0 ?_)) fun r t ht => ?_
    · obtain ⟨⟨oc, od, odt, osl⟩, ho, hoc, n, hod⟩ := at_
      simp only at hoc hod
      subst hoc hod
      have ho1 : (s.heap.push (nu w)).get? l = some { cls := .type "tuple", dict := od, data := .seq vs n, slots := osl } := Heap.get?_push_of_some _ ho
      have f8 := F.sub_tuple_set
      have f9 := F.sub_tuple_frozenset
      have f10 : (Value.type "tuple" == Value.type "dict") = false := by decide
      have isl : (s.heap.push (nu w)).IsTuple l vs := ⟨_, ho1, rfl, n, rfl⟩
      unfold Builtin.«set.__init__» noKeywords Builtin.Frozenset.updateFrom
      generalize hit : pyIter = it
      wp_walk
      subst hit
      refine wpAny_pyIter_tuple isl ?_
      refine wpAny_bind (wpAny_runValue ?_)
      have low : l < s.heap.objs.size := Heap.lt_size ho
      have calm3 : A.in1.in1.in1.handled = none := by simp [calm]
      have ne1 : l ≠ (s.heap.push (nu w)).objs.size := by
        rw [Heap.size_push]
        exact Nat.ne_of_lt (Nat.lt_succ_of_lt low)
      have off : s.heap.objs.size ∉ [(s.heap.push (nu w)).objs.size, l] := by
        intro hm
        rw [Heap.size_push] at hm
        rcases List.mem_cons.mp hm with q | hm
        · exact absurd q (Nat.ne_of_lt (Nat.lt_succ_self _))
        · exact absurd (List.mem_singleton.mp hm) (Nat.ne_of_gt low)
      refine tx_update ((Walks.tuple calm3 _ l ne1 vs).toS) s.heap.objs.size off xs same few (fun i v hv => ?_) (vs.size - 0) 0 _ (by omega) (Nat.zero_le _)
        ⟨⟨_, Heap.get?_push_size _ rfl, rfl, rfl⟩, isl.push _⟩ ⟨0, Nat.le_refl 0, txNew (Heap.get?_push_of_some _ g0)⟩ fun t' c moved le set' => ?_
      · have hi : i < xs.length := same ▸ (Array.getElem?_eq_some_iff.mp hv).1
        exact str_at are i v (by rw [Array.getElem?_toList]; exact hv)
      · obtain ⟨h', g2, d', tk', os'⟩ := t'
        obtain rfl : g2 = s.gens := moved.gens
        obtain rfl : d' = s.drawn := moved.drawn
        obtain rfl : os' = s.os := moved.os
        show wpAny _ _ _ _ _ _
        refine wpAny_pure ?_
        show wpAny _ _ (ret Value.none) _ _ _
        refine wpAny_pure ⟨rfl, h', tk', c, rfl, set', by omega, fun b o e => ?_⟩
        have lb : b < s.heap.objs.size := Heap.lt_size e
        refine moved.heap b o (fun hm => ?_) (Heap.get?_push_of_some _ (Heap.get?_push_of_some _ e))
        rcases List.mem_cons.mp hm with q | hm
        · exact absurd q (Nat.ne_of_lt lb)
        · have q := List.mem_singleton.mp hm
          have q2 : b = s.heap.objs.size + 1 := q.trans (Heap.size_push ..)
          rw [q2] at lb
          exact absurd lb (Nat.not_lt.mpr (Nat.le_succ _))
    · match r, ht with
      | .error _, ht => exact ht
      | .ok .next, ht => exact ht.elim
      | .ok .brk, ht => exact ht.elim
      | .ok .cont, ht => exact ht.elim
      | .ok (.ret x), ht =>
        obtain ⟨rfl, h', tk, c, rfl, set', le, keep⟩ := ht
        repeat (any_goals (first | assumption | wp_step))
        exact go _ _ _ set' le keep
end
section
variable {X : Cx}
def rSetST (K : PySem.W.Frag) (w : World) : List V → Hp → VK → Prop := fun vs H Q => ∃ (p : Addr) (xs : List Str), vs = [V.ref p] ∧ SqT K H p (xs.map V.str) ∧ xs.length ≤ 1000 ∧
    ∀ (a : Addr) (c : Nat), c ≤ xs.length → H a = none → Q (V.ref a) (upd H a (SetSO w a (fun y => decide (y ∈ xs)) c))
theorem cr_setST (calm : X.calm = true) : CallR X (.type "set") (rSetST X.K X.w) := by
  intro pins s σ H vs us Q I r ⟨p, xs, e, sq, few, q⟩
  subst e
  rw [Vals.ref1 r]
  have bound : xs.length + 1 < scanBound := Nat.lt_of_le_of_lt (Nat.add_le_add_right few 1) (by decide)
  obtain ⟨its, rv, ⟨o, ho, hc, n, hdat⟩, _⟩ := I.tuple sq
  exact set_tup_tx xs (I.ok.hd calm) ⟨o, ho, hc, n, hdat⟩ rv.strs bound fun h' tk c R le k =>
    ⟨.ref s.heap.objs.size, _, I.laid k (Nat.le_refl _) (setSO_new R), rfl, q _ c le (I.hok.fresh (Nat.le_refl _))⟩
end
end Tl
set_option Elab.async false
set_option linter.all false
set_option autoImplicit false
set_option maxRecDepth 100000
set_option maxHeartbeats 4000000
namespace K01
open PySem PySem.Spec PyProof.Rows L2 Tl
open C8 (Cal pe_c)
/-! ### the law's own look at books and vocabularies -/
theorem avs_strsE {K : PySem.W.Frag} {M : Addr → Prop} {H : Hp} : ∀ {ns : List Str} {xs : List V}, Avs K M H xs (ns.map .str) → xs = ns.map V.str
  | [], _, h => by cases h; rfl
  | n :: ns, _, h => by
    cases h with
    | cons h1 h2 =>
      cases h1
      rw [avs_strsE h2]
      rfl
theorem pair_ne {ds : List PyData} (h : ds.length ≠ 2) : pairD (.tuple ds) = false := decide_eq_false h
section
variable {P : Program} {w : World} {K : PySem.W.Frag} {mg : Str → Option Value} {base : Heap}
theorem cLawIsBook (T : Txt K mg) : Cal P w K mg base 3 "_law_is_book" (spKind K bookD) [] := by
  refine cal_of T.lawIsBook scLawIsBook (fun _ _ _ _ _ _ us hl => match us, hl with | [_], _ => rfl) (fun vs H Q E h => ?_) (fun f cdv A outer s H vs Q E hr h => ?_)
  · obtain ⟨v, d, M, k, rfl, _⟩ := h
    rfl
  obtain ⟨v, d, M, k, rfl, hv, hf, hk, hb, q⟩ := h
  refine ⟨_, (pss_cons (ps_if (pt_not (pt_val (pe_callB call_isi (by rfl) T.isinstance (by decide +kernel) (pa_cons (pv 0) (pa_cons (pe_bltn (v := V.ty "tuple") (u := Value.type "tuple") (by rfl) T.tuple (by decide +kernel) rfl) pa_nil)))))
 (pss_one (ps_ret pe_bl))
 pss_nil)
 (pss_cons (ps_for PassesOwn.never rfl (pi_tup (pv 0)) (pg_name (i := 1) scLawIsBook.nd rfl (.inl rfl))
 (pss_one (ps_if (PW.pt (pw_or (pt_not (pt_val (pe_callB call_isi (by rfl) T.isinstance (by decide +kernel) (pa_cons (pv 1) (pa_cons (pe_bltn (v := V.ty "tuple") (u := Value.type "tuple") (by rfl) T.tuple (by decide +kernel) rfl) pa_nil))))) (pw_or (pt_cmpR op_ne (pe_callB call_len_seq (by rfl) T.len (by decide +kernel) (pa_cons (pv 1) pa_nil)) pe_int (nomark _)) (pw_or (pt_not (pt_val (pe_c (cLawIsConcept T) hr (by decide) rfl (pa_cons (pe_ix ix_tup (pv 1) pe_int (fun _ _ => rfl)) pa_nil)))) (pw_or1 (pt_not (pt_val (pe_c (cLawIsConcept T) hr (by decide) rfl (pa_cons (pe_ix ix_tup (pv 1) pe_int (fun _ _ => rfl)) pa_nil)))))))))
 (pss_one (ps_ret pe_bl))
 pss_nil)))
 (pss_one (ps_ret pe_bl)))), ?_⟩
  refine ⟨v, rfl, v, .ty "tuple", .type (tyN d), .type "tuple", isTup d, rfl, .ty _, ty_av hv, kit_ty (kb_tup d), isTup d, rfl, ?_⟩
  cases hv with
  | @tup a xs ds ha hs =>
    have ⟨l45, fds⟩ := fit_tup.mp hf
    have lxs := hs.len
    have e : bookD (.tuple ds) = ds.all axD := rfl
    rw [e] at q
    rw [bulk_tup] at hb
    refine iteF ⟨.ref a, rfl, a, rfl, ⟨_, ha⟩, ?_⟩
    refine for_tup (K := K) (a := a) (xs := xs) (fun i σ X => (∃ t, σ = [some (.ref a), t]) ∧ L2.Same H X ∧ (ds.take i).all axD = true) ⟨⟨_, rfl⟩, L2.Same.refl H, rfl⟩ (fun i σ X _ z => ?_) (fun i x σ X hx z => ?_) (fun σ X z => ?_)
    · obtain ⟨_, sX, _⟩ := z
      exact (Tl.Same.stay sX).tup ha
    · obtain ⟨⟨t, rfl⟩, sX, ok⟩ := z
      obtain ⟨dx, hdx, avx⟩ := hs.at hx
      have mdx := List.mem_of_getElem? hdx
      have fdx := fds dx mdx
      have bdx := bulk_mem mdx
      have avx := avx.s sX
      have bad : axD dx = false → ∀ X', L2.Same H X' → Q (.bl false) X' := fun h X' s => by
        have q' := q X' s
        rw [all_bad hdx h] at q'
        exact q'
      refine ⟨x, rfl, x, .ty "tuple", .type (tyN dx), .type "tuple", isTup dx, rfl, .ty _, ty_av avx, kit_ty (kb_tup dx), isTup dx, rfl, ?_⟩
      cases avx with
      | @tup p ys es hp hys =>
        have lys := hys.len
        refine iteF ⟨.ref p, rfl, p, ys, rfl, .inr hp, rfl, _, rfl, ?_⟩
        by_cases h2 : es.length = 2
        case neg =>
          rw [show (!decide (V.int (ys.length : Int) = V.int 2)) = true by
            rw [decide_eq_false (fun z => by have := V.int.inj z; omega)]
            rfl]
          exact iteT (bad (ax_no (pair_ne h2)) X sX)
        rw [show (!decide (V.int (ys.length : Int) = V.int 2)) = false by
          rw [decide_eq_true (by rw [show (ys.length : Int) = 2 by omega])]
          rfl]
        obtain ⟨da, db, rfl⟩ : ∃ da db, es = [da, db] := by
          match es, h2 with
          | [a, b], _ => exact ⟨a, b, rfl⟩
        have ⟨_, fab⟩ := fit_tup.mp fdx
        rw [bulk_tup] at bdx
        have ba := bulk_mem (d := da) (ds := [da, db]) (by simp)
        have bb := bulk_mem (d := db) (ds := [da, db]) (by simp)
        have er : axD (.tuple [da, db]) = (conD da && conD db) := rfl
        cases hys with
        | @cons y t1 _ _ hy hys => cases hys with
          | @cons z t2 _ _ hz hys =>
            cases hys
            refine iteF ⟨.ref p, rfl, p, _, 0, _, rfl, rfl, hp, atI_nat (j := 0) rfl, y, da, M, k, rfl, hy, fab da (by simp), hk, by omega, fun X2 s2 => ⟨conD da, rfl, ?_⟩⟩
            cases hw : conD da with
            | false => exact iteT (bad (by rw [er, hw, Bool.false_and]) X2 (sX.trans s2))
            | true =>
              refine iteF ⟨.ref p, rfl, p, _, 1, _, rfl, rfl, (Tl.Same.stay s2).tup hp, atI_nat (j := 1) rfl, z, db, M, k, rfl, hz.s s2, fab db (by simp), hk, by omega, fun X3 s3 => ⟨conD db, rfl, ?_⟩⟩
              cases hi : conD db with
              | false => exact iteT (bad (by rw [er, hw, hi]; rfl) X3 ((sX.trans s2).trans s3))
              | true =>
                refine iteF ⟨⟨_, rfl⟩, (sX.trans s2).trans s3, ?_⟩
                rw [List.take_add_one, hdx, List.all_append, ok]
                simp [er, hw, hi]
      | _ => exact iteT (bad rfl X sX)
    · obtain ⟨⟨t, rfl⟩, sX, ok⟩ := z
      rw [List.take_of_length_le (show ds.length ≤ xs.length by omega)] at ok
      have q' := q X sX
      rw [ok] at q'
      exact q'
  | _ => exact iteT (q H (L2.Same.refl H))
theorem cLawIsVocabulary (T : Txt K mg) : Cal P w K mg base 2 "_law_is_vocabulary" (spKind K vocD) [] := by
  refine cal_of T.lawIsVocabulary scLawIsVocabulary (fun _ _ _ _ _ _ us hl => match us, hl with | [_], _ => rfl) (fun vs H Q E h => ?_) (fun f cdv A outer s H vs Q E hr h => ?_)
  · obtain ⟨v, d, M, k, rfl, _⟩ := h
    rfl
  obtain ⟨v, d, M, k, rfl, hv, hf, hk, hb, q⟩ := h
  have hu := hu_of hr
  have hu64 := hr.units
  refine ⟨_, (pss_cons (ps_if (PW.pt (pw_or (pt_not (pt_val (pe_callB call_isi (by rfl) T.isinstance (by decide +kernel) (pa_cons (pv 0) (pa_cons (pe_bltn (v := V.ty "tuple") (u := Value.type "tuple") (by rfl) T.tuple (by decide +kernel) rfl) pa_nil))))) (pw_or1 (pt_cmpR op_ne (pe_callB call_len_seq (by rfl) T.len (by decide +kernel) (pa_cons (pv 0) pa_nil)) pe_int (nomark _)))))
 (pss_one (ps_ret pe_bl))
 pss_nil)
 (pss_cons (ps_for PassesOwn.never rfl (pi_tup (pv 0)) (pg_name (i := 1) scLawIsVocabulary.nd rfl (.inl rfl))
 (pss_cons (ps_if (PW.pt (pw_or (pt_not (pt_val (pe_callB call_isi (by rfl) T.isinstance (by decide +kernel) (pa_cons (pv 1) (pa_cons (pe_bltn (v := V.ty "tuple") (u := Value.type "tuple") (by rfl) T.tuple (by decide +kernel) rfl) pa_nil))))) (pw_or1 (pt_cmpR (op_neNilL (K := K) rfl (Nat.lt_of_succ_lt hu)) (pe_lc (own := [("word", 2)]) (by rfl) scLawIsVocabulary.nd (pi_tup (pv 1)) (blkOk_by (own := [("word", 2)]) (N := ["thing", "words", "word"]) (sc := defScope sLawIsVocabulary) (by decide +kernel)) (fun _ _ _ _ _ => (pg_name (i := 2) scLawIsVocabulary.nd rfl (.inl rfl))) (fun _ _ _ _ _ => pts_one (pt_not (pt_val (pe_c (cLawIsWordA T) hr (by decide) rfl (pa_cons (pv 2) pa_nil))))) (fun _ _ _ _ _ => (pv 2))) (pe_lst pa_nil) (nomark _)))))
 (pss_one (ps_ret pe_bl))
 pss_nil)
 (pss_one (ps_if (pt_cmpR (op_neD hu64) (pe_callTy call_list_of (by rfl) T.list (by decide +kernel) (pa_cons (pv 1) pa_nil)) (pe_callB (cr_sortSetS rfl) (by rfl) T.sorted (by decide +kernel) (pa_cons (pe_callTy (cr_setST rfl) (by rfl) T.set (by decide +kernel) (pa_cons (pv 1) pa_nil)) pa_nil)) (nomark _))
 (pss_one (ps_ret pe_bl))
 pss_nil))))
 (pss_one (ps_ret pe_bl)))), ?_⟩
  refine ⟨v, rfl, v, .ty "tuple", .type (tyN d), .type "tuple", isTup d, rfl, .ty _, ty_av hv, kit_ty (kb_tup d), isTup d, rfl, ?_⟩
  cases hv with
  | @tup a xs ds ha hs =>
    have ⟨l45, fds⟩ := fit_tup.mp hf
    have lxs := hs.len
    refine iteF ⟨.ref a, rfl, a, xs, rfl, .inr ha, rfl, _, rfl, ?_⟩
    by_cases h2 : ds.length = 2
    case neg =>
      rw [show (!decide (V.int (xs.length : Int) = V.int 2)) = true by
        rw [decide_eq_false (fun z => by have := V.int.inj z; omega)]
        rfl]
      have q' := q H (L2.Same.refl H)
      rw [voc_no (pair_ne h2)] at q'
      exact iteT q'
    rw [show (!decide (V.int (xs.length : Int) = V.int 2)) = false by
      rw [decide_eq_true (by rw [show (xs.length : Int) = 2 by omega])]
      rfl]
    have e : vocD (.tuple ds) = ds.all wordsD := by
      match ds, h2 with
      | [a, b], _ => simp [vocD]
    rw [e] at q
    refine iteF ⟨.ref a, rfl, a, rfl, ⟨_, ha⟩, ?_⟩
    refine for_tup (K := K) (a := a) (xs := xs) (fun i σ X => (∃ t t2, σ = [some (.ref a), t, t2]) ∧ L2.Same H X ∧ (ds.take i).all wordsD = true) ⟨⟨_, _, rfl⟩, L2.Same.refl H, rfl⟩ (fun i σ X _ z => ?_) (fun i x σ X hx z => ?_) (fun σ X z => ?_)
    · obtain ⟨_, sX, _⟩ := z
      exact (Tl.Same.stay sX).tup ha
    · obtain ⟨⟨t, t2, rfl⟩, sX, ok⟩ := z
      obtain ⟨dx, hdx, avx⟩ := hs.at hx
      have mdx := List.mem_of_getElem? hdx
      have fdx := fds dx mdx
      have avx := avx.s sX
      have bad : wordsD dx = false → ∀ X', L2.Same X X' → Q (.bl false) X' := fun h X' s => by
        have q' := q X' (sX.trans s)
        rw [all_bad hdx h] at q'
        exact q'
      refine ⟨x, rfl, x, .ty "tuple", .type (tyN dx), .type "tuple", isTup dx, rfl, .ty _, ty_av avx, kit_ty (kb_tup dx), isTup dx, rfl, ?_⟩
      cases avx with
      | @tup u us es hu1 hus =>
        have ⟨le, fes⟩ := fit_tup.mp fdx
        have ew : wordsD (.tuple es) = (es.all wordD && ascD es) := rfl
        refine iteF ⟨.ref u, rfl, u, rfl, ⟨_, hu1⟩, fun D nD => ?_⟩
        refine bad_lc (K := K) (M := M) (fun d => !wordD d) hu1 hus nD (by omega) (fun x d X1 R N s1 av md c => ?_) (fun X1 zs s1 g1 e1 => ?_)
        · refine ⟨rfl, x, rfl, x, d, M, k, rfl, av, fes d md, hk, fun X2 s2 => ⟨wordD d, rfl, ?_⟩⟩
          have c := c X2 s2
          refine ite2 (fun yes => ?_) (fun n => ?_)
          · rw [if_pos yes] at c
            exact ⟨x, rfl, c⟩
          · rw [if_neg n] at c
            exact c
        rw [show (fun d => !!wordD d) = wordD from funext fun d => Bool.not_not _] at e1
        refine ⟨Nat.zero_le _, fun e ne => ?_⟩
        have s3 := same_up (o := .lst []) ne
        refine ⟨D, e, zs, rfl, rfl, lst_of (s3 _ _ g1), lst_of upd_same, _, rfl, ?_⟩
        rw [e1]
        have s13 := s1.trans s3
        cases hall : es.all wordD with
        | false => exact iteT (bad (by rw [ew, hall, Bool.false_and]) _ s13)
        | true =>
          refine iteF ?_
          obtain ⟨ms, rfl, mb⟩ := words_strs hall
          have eus := avs_strsE hus
          subst eus
          have hu3 := (Tl.Same.stay s13).tup hu1
          have lms : ms.length ≤ 45 := by rw [List.length_map] at le; omega
          refine ⟨.ref u, rfl, u, _, rfl, .inr hu3, fun l nl => ?_⟩
          have s4 := same_up (o := .lst (ms.map V.str)) nl
          have g4 : upd (upd X1 e (.lst [])) l (.lst (ms.map V.str)) l = some (.lst (ms.map V.str)) := upd_same
          refine ⟨.ref u, rfl, u, ms, rfl, (Tl.Same.stay s4).tup hu3, by omega, fun sa c hc na => ?_⟩
          have s5 := same_up (o := SetSO w sa (fun y => decide (y ∈ ms)) c) na
          refine ⟨sa, _, c, rfl, upd_same, by omega, fun ys r hs1 hs2 hs3 hs4 nr => ?_⟩
          have s6 := same_up (o := .lst (ys.map V.str)) nr
          have mem : ∀ x, x ∈ ys ↔ x ∈ ms := fun x => by rw [hs3, decide_eq_true_eq]
          refine ⟨.list (ms.map .str), .list (ys.map .str), .lst (lst_of (s6 _ _ (s5 _ _ g4))) (dp_strs ms), .lst (lst_of upd_same) (dp_strs ys), shaped_strs ms fun y hy => lett_ok (isW_lt (mb y hy)).2.2, shaped_strs ys fun y hy => lett_ok (isW_lt (mb y ((mem y).mp hy))).2.2, _, rfl, ?_⟩
          rw [asc_strs ms ys (sorted_sl hs1 hs2) mem]
          have s16 := ((s13.trans s4).trans s5).trans s6
          cases hasc : ascD (ms.map .str) with
          | false => exact iteT (bad (by rw [ew, hasc, Bool.and_false]) _ s16)
          | true =>
            refine iteF ⟨⟨_, _, rfl⟩, sX.trans s16, ?_⟩
            rw [List.take_add_one, hdx, List.all_append, ok]
            simp only [Option.toList, List.all_cons, List.all_nil, ew, hall, hasc]
            rfl
      | _ => exact iteT (bad rfl X (L2.Same.refl X))
    · obtain ⟨⟨t, t2, rfl⟩, sX, ok⟩ := z
      rw [List.take_of_length_le (show ds.length ≤ xs.length by omega)] at ok
      have q' := q X sX
      rw [ok] at q'
      exact q'
  | _ => exact iteT (q H (L2.Same.refl H))
end
end K01
set_option Elab.async false
set_option linter.all false
set_option autoImplicit false
set_option maxRecDepth 100000
set_option maxHeartbeats 4000000
namespace K01
open PySem PySem.Spec PyProof.Rows L2 Tl
open C8 (Cal pe_c)
/-! ### drawn concepts -/
def spCon (K : PySem.W.Frag) (n : Nat) : Sp := fun vs H Q _ => ∃ (d l b : Addr) (ws : List Str), vs = [.ref d, .ref b, .int n] ∧ Deck H d l ∧ Words K H d l b ws ∧
  ∀ (v : V) (c : C) (H' : Hp), Con K H' v c → COk c → dep c ≤ n + 1 → nodes c + 1 ≤ 2 ^ (n + 1) → Off d l H H' → Deck H' d l → Q v H'
def spC (K : PySem.W.Frag) : Nat → Sp
  | 0 => fun _ _ _ _ => False
  | n + 1 => spCon K n
section
variable {P : Program} {w : World} {K : PySem.W.Frag} {mg : Str → Option Value} {base : Heap}
theorem cCon1 (T : Txt K mg) (n : Nat) (ih : Cal P w K mg base (n + 2) "_law_concept" (spC K n) []) : Cal P w K mg base (n + 3) "_law_concept" (spCon K n) [] := by
  refine cal_of T.lawConcept scLawConcept (fun _ _ _ _ _ _ us hl => match us, hl with | [_, _, _], _ => rfl) (fun vs H Q E h => ?_) (fun f cdv A outer s H vs Q E hr h => ?_)
  · obtain ⟨d, l, b, ws, rfl, _⟩ := h
    rfl
  obtain ⟨d, l, b, ws, rfl, D, W, q⟩ := h
  refine ⟨_, (C8.pss_cut (ps_set (i := 3) scLawConcept.nd rfl (.inl rfl) (pe_ifExp (pt_cmpR op_gt (pv 2) pe_int (nomark _)) (pe_c (cLawDraw T) hr (by omega) rfl (pa_cons (pv 0) (pa_cons pe_int pa_nil))) (pe_c (cLawDraw T) hr (by omega) rfl (pa_cons (pv 0) (pa_cons pe_int pa_nil)))))
 (pss_cons (ps_if (pt_cmpR op_lt (pv 3) pe_int (nomark _))
 (pss_one (ps_ret (pe_tup (pa_cons pe_str (pa_cons (pe_c (cLawPick T) hr (by omega) rfl (pa_cons (pv 0) (pa_cons (pv 1) pa_nil))) pa_nil)))))
 pss_nil)
 (pss_cons (ps_if (pt_cmpR op_eq (pv 3) pe_int (nomark _))
 (pss_one (ps_ret (pe_ifExp (pt_cmpR op_eq (pe_c (cLawDraw T) hr (by omega) rfl (pa_cons (pv 0) (pa_cons pe_int pa_nil))) pe_int (nomark _)) (pe_tup (pa_cons pe_str pa_nil)) (pe_tup (pa_cons pe_str pa_nil)))))
 pss_nil)
 (pss_cons (ps_if (pt_cmpR op_lt (pv 3) pe_int (nomark _))
 (pss_one (ps_ret (pe_tup (pa_cons pe_str (pa_cons (pe_c (cLawPick T) hr (by omega) rfl (pa_cons (pv 0) (pa_cons (pv 1) pa_nil))) (pa_cons (pe_c ih hr (by omega) rfl (pa_cons (pv 0) (pa_cons (pv 1) (pa_cons (pe_op op_sub (pv 2) pe_int) pa_nil)))) pa_nil))))))
 pss_nil)
 (pss_one (ps_ret (pe_tup (pa_cons pe_str (pa_cons (pe_c ih hr (by omega) rfl (pa_cons (pv 0) (pa_cons (pv 1) (pa_cons (pe_op op_sub (pv 2) pe_int) pa_nil)))) (pa_cons (pe_c ih hr (by omega) rfl (pa_cons (pv 0) (pa_cons (pv 1) (pa_cons (pe_op op_sub (pv 2) pe_int) pa_nil)))) pa_nil)))))))))), ?_⟩
  refine ⟨fun σ G => ∃ (y : Int), σ = [some (.ref d), some (.ref b), some (.int n), some (.int y)] ∧ 0 ≤ y ∧ (n = 0 → y < 4) ∧ Off d l H G ∧ Deck G d l, ?_, ?_⟩
  · refine ⟨.int n, rfl, _, _, rfl, rfl, _, rfl, ite2 (fun c => ?_) (fun c => ?_)⟩
    · have c := of_decide_eq_true c
      exact ⟨.ref d, rfl, d, l, 9, rfl, D, by omega, by omega, fun y G y0 y1 o1 D1 => ⟨y, rfl, y0, fun z => by omega, o1, D1⟩⟩
    · exact ⟨.ref d, rfl, d, l, 4, rfl, D, by omega, by omega, fun y G y0 y1 o1 D1 => ⟨y, rfl, y0, fun z => y1, o1, D1⟩⟩
  rintro σ' G ⟨y, rfl, y0, y4, o1, D1⟩
  have W1 := W.off o1
  refine ⟨.int y, rfl, y, 3, rfl, rfl, _, rfl, ite2 (fun c => ?_) (fun c1 => ?_)⟩
  · refine ⟨.ref d, rfl, .ref b, rfl, picked D1 W1 fun x G2 hx _ o2 D2 => ⟨by show 2 ≤ sizeLine; decide, fun p np => ?_⟩⟩
    refine q _ (.word x) _ (mk_word (tupOf upd_same)) hx (Nat.succ_le_succ (Nat.zero_le _)) ?_ ((o1.trans o2).trans (off_new np)) (D2.new np)
    show 1 + 1 ≤ 2 ^ (n + 1)
    rw [Nat.pow_succ]
    have := Nat.two_pow_pos n
    omega
  have p2 := Nat.two_pow_pos n
  refine ⟨.int y, rfl, rfl, _, rfl, ite2 (fun c => ?_) (fun c2 => ?_)⟩
  · refine ⟨.ref d, rfl, d, l, 2, rfl, D1, by omega, by omega, fun j G2 j0 j1 o2 D2 => ⟨rfl, _, rfl, ite2 (fun _ => ?_) (fun _ => ?_)⟩⟩
    · refine ⟨by show 1 ≤ sizeLine; decide, fun p np => ?_⟩
      refine q _ .all _ (mk_all (tupOf upd_same)) trivial (Nat.succ_le_succ (Nat.zero_le _)) ?_ ((o1.trans o2).trans (off_new np)) (D2.new np)
      show 1 + 1 ≤ 2 ^ (n + 1)
      rw [Nat.pow_succ]
      omega
    · refine ⟨by show 1 ≤ sizeLine; decide, fun p np => ?_⟩
      refine q _ .non _ (mk_non (tupOf upd_same)) trivial (Nat.succ_le_succ (Nat.zero_le _)) ?_ ((o1.trans o2).trans (off_new np)) (D2.new np)
      show 1 + 1 ≤ 2 ^ (n + 1)
      rw [Nat.pow_succ]
      omega
  -- deeper
  have h4 : ¬ y < 4 := by
    have c1 := of_decide_eq_false (Bool.eq_false_iff.mpr c1)
    have c2 := of_decide_eq_false (Bool.eq_false_iff.mpr c2)
    have c2 : ¬ y = 3 := fun e => c2 (congrArg V.int e)
    omega
  cases n with
  | zero => exact absurd (y4 rfl) h4
  | succ m =>
    have em : ((m + 1 : Nat) : Int) - 1 = ((m : Nat) : Int) := by omega
    have pm : 2 ^ (m + 1 + 1) = 2 ^ (m + 1) + 2 ^ (m + 1) := by rw [Nat.pow_succ]; omega
    refine ⟨.int y, rfl, y, 6, rfl, rfl, _, rfl, ite2 (fun c => ?_) (fun _ => ?_)⟩
    · refine ⟨.ref d, rfl, .ref b, rfl, picked D1 W1 fun x G2 hx _ o2 D2 => ?_⟩
      refine ⟨.ref d, rfl, .ref b, rfl, .int _, rfl, _, 1, rfl, rfl, d, l, b, ws, ?_, D2, W1.off o2, fun v c G3 hc ok hd hn o3 D3 => ⟨by show 3 ≤ sizeLine; decide, fun p np => ?_⟩⟩
      · show [V.ref d, V.ref b, V.int (((m + 1 : Nat) : Int) - 1)] = [V.ref d, V.ref b, V.int (m : Int)]
        rw [em]
      · refine q _ (.some x c) _ (mk_some (tupOf upd_same) (hc.st (stay_new np))) ⟨hx, ok⟩ (Nat.succ_le_succ hd) ?_ (((o1.trans o2).trans o3).trans (off_new np)) (D3.new np)
        show nodes c + 1 + 1 ≤ _
        rw [pm]
        have := Nat.two_pow_pos (m + 1)
        omega
    · refine ⟨.ref d, rfl, .ref b, rfl, .int _, rfl, _, 1, rfl, rfl, d, l, b, ws, ?_, D1, W1, fun v c G3 hc ok hd hn o3 D3 => ?_⟩
      · show [V.ref d, V.ref b, V.int (((m + 1 : Nat) : Int) - 1)] = [V.ref d, V.ref b, V.int (m : Int)]
        rw [em]
      refine ⟨.ref d, rfl, .ref b, rfl, .int _, rfl, _, 1, rfl, rfl, d, l, b, ws, ?_, D3, W1.off o3, fun u e G4 he ok' hd' hn' o4 D4 => ⟨by show 3 ≤ sizeLine; decide, fun p np => ?_⟩⟩
      · show [V.ref d, V.ref b, V.int (((m + 1 : Nat) : Int) - 1)] = [V.ref d, V.ref b, V.int (m : Int)]
        rw [em]
      refine q _ (.and c e) _ (mk_and (tupOf upd_same) ((hc.st (o4.stay D3)).st (stay_new np)) (he.st (stay_new np))) ⟨ok, ok'⟩ (Nat.succ_le_succ (Nat.max_le.mpr ⟨hd, hd'⟩)) ?_ (((o1.trans o3).trans o4).trans (off_new np)) (D4.new np)
      show nodes c + nodes e + 1 + 1 ≤ _
      rw [pm]
      omega
theorem cLawConcept (T : Txt K mg) : ∀ n : Nat, Cal P w K mg base (n + 2) "_law_concept" (spC K n) []
  | 0 => calUp (cal_false T.lawConcept (ps := ["deck", "words", "deep"]) (fun _ _ _ _ _ _ us hl => match us, hl with | [_, _, _], _ => rfl)) (Nat.zero_le _)
  | n + 1 => cCon1 T n (cLawConcept T n)
end
section
variable {P : Program} {w : World} {K : PySem.W.Frag} {mg : Str → Option Value} {base : Heap}
/-! ### _law_long -/
def spLong (K : PySem.W.Frag) : Sp := fun vs H Q _ => ∃ (d l b : Addr) (ws : List Str), vs = [.ref d, .ref b] ∧ Deck H d l ∧ Words K H d l b ws ∧
  ∀ (v : V) (c : C) (H' : Hp), Con K H' v c → COk c → dep c ≤ 12 → nodes c ≤ 30 → Off d l H H' → Deck H' d l → Q v H'
theorem cLawLong (T : Txt K mg) : Cal P w K mg base 3 "_law_long" (spLong K) [] := by
  refine cal_of T.lawLong scLawLong (fun _ _ _ _ _ _ us hl => match us, hl with | [_, _], _ => rfl) (fun vs H Q E h => ?_) (fun f cdv A outer s H vs Q E hr h => ?_)
  · obtain ⟨d, l, b, ws, rfl, _⟩ := h
    rfl
  obtain ⟨d, l, b, ws, rfl, D, W, q⟩ := h
  refine ⟨_, (pss_cons (ps_set (i := 2) scLawLong.nd rfl (.inl rfl) (pe_tup (pa_cons pe_str (pa_cons (pe_c (cLawPick T) hr (by decide) rfl (pa_cons (pv 0) (pa_cons (pv 1) pa_nil))) pa_nil))))
 (pss_cons (ps_for PassesOwn.never rfl (pi_range1 rfl T.range (pa_cons (pe_op op_add pe_int (pe_c (cLawDraw T) hr (by decide) rfl (pa_cons (pv 0) (pa_cons pe_int pa_nil)))) pa_nil)) (pg_name (i := 3) scLawLong.nd rfl (.inl rfl))
 (pss_cons (ps_set (i := 4) scLawLong.nd rfl (.inl rfl) (pe_tup (pa_cons pe_str (pa_cons (pe_c (cLawPick T) hr (by decide) rfl (pa_cons (pv 0) (pa_cons (pv 1) pa_nil))) pa_nil))))
 (pss_one (ps_set (i := 2) scLawLong.nd rfl (.inl rfl) (pe_c (cLawPick T) hr (by decide) rfl (pa_cons (pv 0) (pa_cons (pe_lst (pa_cons (pe_tup (pa_cons pe_str (pa_cons (pe_ix ix_tup (pv 4) pe_int (fun _ _ => rfl)) (pa_cons (pv 2) pa_nil)))) (pa_cons (pe_tup (pa_cons pe_str (pa_cons (pv 2) (pa_cons (pv 4) pa_nil)))) (pa_cons (pe_tup (pa_cons pe_str (pa_cons (pv 4) (pa_cons (pv 2) pa_nil)))) (pa_cons (pe_tup (pa_cons pe_str (pa_cons (pe_ix ix_list (pv 1) pe_int (fun _ _ => rfl)) (pa_cons (pv 2) pa_nil)))) pa_nil))))) pa_nil)))))))
 (pss_one (ps_ret (pv 2))))), ?_⟩
  refine ⟨.ref d, rfl, .ref b, rfl, picked D W fun x G hx _ o1 D1 => ⟨by show 2 ≤ sizeLine; decide, fun p np => ?_⟩⟩
  refine ⟨.ref d, rfl, d, l, 7, rfl, D1.new np, by omega, by omega, fun k G2 k0 k7 o2 D2 => ⟨4, k, rfl, rfl, 4 + k, rfl, by omega, by omega, ?_⟩⟩
  have hp : Con K G2 (.ref p) (.word x) := (mk_word (K := K) (tupOf upd_same)).st (o2.stay (D1.new np))
  have o12 : Off d l H G2 := (o1.trans (off_new np)).trans o2
  refine for_range (lo := 0) (n := (4 + k).toNat) (fun i σ G => ∃ (v : V) (c : C) (t y : Option V), σ = [some (.ref d), some (.ref b), some v, t, y] ∧ Con K G v c ∧ COk c ∧ dep c ≤ 1 + i ∧ nodes c ≤ 1 + 2 * i ∧ Off d l H G ∧ Deck G d l)
    ⟨.ref p, .word x, none, none, rfl, hp, hx, by show 1 ≤ 1 + 0; omega, by show 1 ≤ 1 + 2 * 0; omega, o12, D2⟩ (fun i σ G3 hi z => ?_) (fun σ G3 z => ?_)
  · obtain ⟨v, c, t, y, rfl, hc, ok, hd, hn, o3, D3⟩ := z
    refine ⟨.ref d, rfl, .ref b, rfl, picked D3 (W.off o3) fun x2 G4 hx2 _ o4 D4 => ⟨by show 2 ≤ sizeLine; decide, fun e ne => ?_⟩⟩
    have he : SqT K (upd G4 e (.tup [.str "word", .str x2])) e [.str "word", .str x2] := tupOf upd_same
    have D5 := D4.new ne (o := .tup [.str "word", .str x2])
    have o5 : Off d l H (upd G4 e (.tup [.str "word", .str x2])) := (o3.trans o4).trans (off_new ne)
    have hc5 : Con K (upd G4 e (.tup [.str "word", .str x2])) v c := (hc.st (o4.stay D3)).st (stay_new ne)
    generalize upd G4 e (.tup [.str "word", .str x2]) = G5 at he D5 o5 hc5
    have hce : Con K G5 (.ref e) (.word x2) := mk_word he
    -- the four
    refine ⟨.ref d, rfl, .ref e, rfl, e, _, 1, .str x2, rfl, rfl, he, rfl, v, rfl, by show 3 ≤ sizeLine; decide, fun p1 n1 => ?_⟩
    refine ⟨v, rfl, .ref e, rfl, by show 3 ≤ sizeLine; decide, fun p2 n2 => ?_⟩
    refine ⟨.ref e, rfl, v, rfl, by show 3 ≤ sizeLine; decide, fun p3 n3 => ?_⟩
    have W5 := W.off o5
    obtain ⟨w0, wr, ew⟩ : ∃ w0 wr, ws = w0 :: wr := by
      cases ws with
      | nil => exact absurd rfl W.2.2.2.1
      | cons a r => exact ⟨a, r, rfl⟩
    have hw0 : isW w0 = true := W.2.2.2.2.2 w0 (by rw [ew]; exact List.mem_cons_self)
    have s1 : L2.Same G5 (upd G5 p1 (.tup [.str "some", .str x2, v])) := same_up n1
    have s2 := same_add s1 (o := .tup [.str "and", v, .ref e]) n2
    have s3 := same_add s2 (o := .tup [.str "and", .ref e, v]) n3
    refine ⟨.ref b, rfl, b, _, 0, .str w0, rfl, rfl, s3.seq W5.1, by rw [ew]; exact atI_nat (j := 0) rfl, v, rfl, by show 3 ≤ sizeLine; decide, fun p4 n4 => ?_⟩
    have s4 := same_add s3 (o := .tup [.str "some", .str w0, v]) n4
    refine ⟨by show 4 ≤ sizeLine; decide, fun u nu => ?_⟩
    have s5 := same_add s4 (o := .lst [.ref p1, .ref p2, .ref p3, .ref p4]) nu
    have D6 := D5.same s5
    have fu := s4.free nu
    obtain ⟨ud, ul⟩ := D5.off fu
    have k1 := (same_add ((same_add ((same_add (L2.Same.refl _) (o := .tup [.str "and", v, .ref e]) n2)) (o := .tup [.str "and", .ref e, v]) n3)) (o := .tup [.str "some", .str w0, v]) n4)
    refine ⟨d, l, u, _, rfl, D6, lst_of upd_same, ud, ul, by simp, by show 4 ≤ 100000; decide, fun r G7 hr7 o7 D7 => ?_⟩
    have st7 : Stay (upd (upd (upd (upd (upd G5 p1 (.tup [.str "some", .str x2, v])) p2 (.tup [.str "and", v, .ref e])) p3 (.tup [.str "and", .ref e, v])) p4 (.tup [.str "some", .str w0, v])) u (.lst [.ref p1, .ref p2, .ref p3, .ref p4])) G7 := o7.stay D6
    have hv7 : Con K G7 v c := (hc5.st (Tl.Same.stay s5)).st st7
    have he7 : Con K G7 (.ref e) (.word x2) := (hce.st (Tl.Same.stay s5)).st st7
    have o8 : Off d l H G7 := (o5.trans s5.off).trans o7
    have t1 : G7 p1 = some (.tup [.str "some", .str x2, v]) := st7 _ _ (same_add k1 nu _ _ upd_same) (.inl ⟨_, rfl⟩)
    have t2 : G7 p2 = some (.tup [.str "and", v, .ref e]) := st7 _ _ (same_add (same_add (same_add (L2.Same.refl _) n3) n4) nu _ _ upd_same) (.inl ⟨_, rfl⟩)
    have t3 : G7 p3 = some (.tup [.str "and", .ref e, v]) := st7 _ _ (same_add (same_add (L2.Same.refl _) n4) nu _ _ upd_same) (.inl ⟨_, rfl⟩)
    have t4 : G7 p4 = some (.tup [.str "some", .str w0, v]) := st7 _ _ (same_add (L2.Same.refl _) nu _ _ upd_same) (.inl ⟨_, rfl⟩)
    simp only [List.mem_cons, List.not_mem_nil, or_false] at hr7
    rcases hr7 with rfl | rfl | rfl | rfl
    · exact ⟨_, .some x2 c, _, _, rfl, mk_some (tupOf t1) hv7, ⟨hx2, ok⟩, by show dep c + 1 ≤ _; omega, by show nodes c + 1 ≤ _; omega, o8, D7⟩
    · exact ⟨_, .and c (.word x2), _, _, rfl, mk_and (tupOf t2) hv7 he7, ⟨ok, hx2⟩, by show Nat.max (dep c) 1 + 1 ≤ _; have : Nat.max (dep c) 1 ≤ 1 + i := Nat.max_le.mpr ⟨hd, by omega⟩; omega, by show nodes c + 1 + 1 ≤ _; omega, o8, D7⟩
    · exact ⟨_, .and (.word x2) c, _, _, rfl, mk_and (tupOf t3) he7 hv7, ⟨hx2, ok⟩, by show Nat.max 1 (dep c) + 1 ≤ _; have : Nat.max 1 (dep c) ≤ 1 + i := Nat.max_le.mpr ⟨by omega, hd⟩; omega, by show 1 + nodes c + 1 ≤ _; omega, o8, D7⟩
    · exact ⟨_, .some w0 c, _, _, rfl, mk_some (tupOf t4) hv7, ⟨hw0, ok⟩, by show dep c + 1 ≤ _; omega, by show nodes c + 1 ≤ _; omega, o8, D7⟩
  · obtain ⟨v, c, t, y, rfl, hc, ok, hd, hn, o3, D3⟩ := z
    exact ⟨v, rfl, q v c G3 hc ok (by omega) (by omega) o3 D3⟩
end
/-! ### books -/
theorem memP {α β : Type} {F : α → β → Prop} : ∀ {xs : List α} {ys : List β} {x : α}, Paired F xs ys → x ∈ xs → ∃ y, y ∈ ys ∧ F x y
  | _, _, _, .cons r t, m => by
    rcases List.mem_cons.mp m with rfl | m
    · exact ⟨_, List.mem_cons_self, r⟩
    · obtain ⟨y, h1, h2⟩ := memP t m
      exact ⟨y, List.mem_cons_of_mem _ h1, h2⟩
def AxK (K : PySem.W.Frag) (H : Hp) (x : V) (e : C × C) : Prop := ∃ p u y, x = .ref p ∧ SqT K H p [u, y] ∧ Con K H u e.1 ∧ Con K H y e.2
theorem ax_st {K : PySem.W.Frag} {H H' : Hp} {x : V} {e : C × C} (s : Stay H H') (h : AxK K H x e) : AxK K H' x e := by
  obtain ⟨p, u, y, e1, h1, h2, h3⟩ := h
  exact ⟨p, u, y, e1, s.tup h1, h2.st s, h3.st s⟩
def Bk (K : PySem.W.Frag) (H : Hp) (v : V) (bs : List (C × C)) : Prop := ∃ a xs, v = .ref a ∧ SqT K H a xs ∧ Paired (AxK K H) xs bs
def Sm (e : C × C) : Prop := COk e.1 ∧ dep e.1 ≤ 3 ∧ COk e.2 ∧ dep e.2 ≤ 3
section
variable {P : Program} {w : World} {K : PySem.W.Frag} {mg : Str → Option Value} {base : Heap}
def spBookL (K : PySem.W.Frag) : Sp := fun vs H Q _ => ∃ (d l b : Addr) (ws : List Str) (m : Int), vs = [.ref d, .ref b, .int m, .int 2] ∧ Deck H d l ∧ Words K H d l b ws ∧ 0 ≤ m ∧ m ≤ 20 ∧
  ∀ (v : V) (bs : List (C × C)) (H' : Hp), Bk K H' v bs → (∀ e ∈ bs, Sm e) → bs.length ≤ m → Off d l H H' → Deck H' d l → Q v H'
theorem cLawBook (T : Txt K mg) : Cal P w K mg base 6 "_law_book" (spBookL K) [] := by
  refine cal_of T.lawBook scLawBook (fun _ _ _ _ _ _ us hl => match us, hl with | [_, _, _, _], _ => rfl) (fun vs H Q E h => ?_) (fun f cdv A outer s H vs Q E hr h => ?_)
  · obtain ⟨d, l, b, ws, m, rfl, _⟩ := h
    rfl
  obtain ⟨d, l, b, ws, m, rfl, D, W, m0, m20, q⟩ := h
  have hu := hu_of hr
  refine ⟨_, (pss_cons (ps_set (i := 4) scLawBook.nd rfl (.inl rfl) (pe_lst pa_nil))
 (pss_cons (ps_for PassesOwn.never rfl (pi_range1 rfl T.range (pa_cons (pe_c (cLawDraw T) hr (by decide) rfl (pa_cons (pv 0) (pa_cons (pe_op op_add (pv 2) pe_int) pa_nil))) pa_nil)) (pg_name (i := 5) scLawBook.nd rfl (.inl rfl))
 (pss_cons (ps_set (i := 6) scLawBook.nd rfl (.inl rfl) (pe_tup (pa_cons (pe_c (cLawConcept T 3) hr (by decide) rfl (pa_cons (pv 0) (pa_cons (pv 1) (pa_cons (pv 3) pa_nil)))) (pa_cons (pe_c (cLawConcept T 3) hr (by decide) rfl (pa_cons (pv 0) (pa_cons (pv 1) (pa_cons (pv 3) pa_nil)))) pa_nil))))
 (pss_one (ps_expr (pe_bm PySem.F.plainAttrs_list PySem.F.slot_list_append PySem.F.type_list_append mt_append (pv 4) (pa_cons (pe_ifExp (PW.pt (pw_and (pt_cmpR (op_neNilL (K := K) rfl (Nat.lt_of_succ_lt hu)) (pv 4) (pe_lst pa_nil) (nomark _)) (pw_and1 (pt_cmpR op_eq (pe_c (cLawDraw T) hr (by decide) rfl (pa_cons (pv 0) (pa_cons pe_int pa_nil))) pe_int (nomark _))))) (pe_c (cLawPick T) hr (by decide) rfl (pa_cons (pv 0) (pa_cons (pv 4) pa_nil))) (pv 6)) pa_nil))))))
 (pss_one (ps_ret (pe_callTy call_tuple_of (by rfl) T.tuple (by decide +kernel) (pa_cons (pv 4) pa_nil)))))), ?_⟩
  refine ⟨Nat.zero_le _, fun p np => ?_⟩
  obtain ⟨pd, pl⟩ := D.off np
  refine ⟨.ref d, rfl, .int m, rfl, m, 1, rfl, rfl, d, l, m + 1, rfl, D.new np, by omega, by omega, fun k G k0 k1 o1 D1 => ?_⟩
  refine ⟨k, rfl, by omega, by omega, ?_⟩
  have gp : G p = some (.lst []) := o1 _ _ pd pl upd_same
  refine for_range (lo := 0) (n := k.toNat) (fun i σ X => (∃ t5 t6, σ = [some (.ref d), some (.ref b), some (.int m), some (.int 2), some (.ref p), t5, t6]) ∧ Off d l H X ∧ Deck X d l ∧ ∃ xs bs, X p = some (.lst xs) ∧ Paired (AxK K X) xs bs ∧ bs.length = i ∧ ∀ e ∈ bs, Sm e)
    ⟨⟨_, _, rfl⟩, (off_new np).trans o1, D1, [], [], gp, .nil, rfl, fun e h => nomatch h⟩ (fun i σ X hi z => ?_) (fun σ X z => ?_)
  · obtain ⟨⟨t5, t6, rfl⟩, oX, DX, xs, bs, gX, hp, lb, sm⟩ := z
    have WX := W.off oX
    refine ⟨.ref d, rfl, .ref b, rfl, .int 2, rfl, d, l, b, ws, rfl, DX, WX, fun u1 c1 X1 hc1 ok1 dp1 nn1 o2 D2 => ?_⟩
    refine ⟨.ref d, rfl, .ref b, rfl, .int 2, rfl, d, l, b, ws, rfl, D2, WX.off o2, fun u2 c2 X2 hc2 ok2 dp2 nn2 o3 D3 => ?_⟩
    refine ⟨by show 2 ≤ sizeLine; decide, fun a na => ?_⟩
    have dp1 : dep c1 ≤ 3 := dp1
    have dp2 : dep c2 ≤ 3 := dp2
    have nn1 : nodes c1 + 1 ≤ 8 := nn1
    have nn2 : nodes c2 + 1 ≤ 8 := nn2
    have s4 := same_up (o := .tup [u1, u2]) na
    have hax : AxK K (upd X2 a (.tup [u1, u2])) (.ref a) (c1, c2) := ⟨a, u1, u2, rfl, tupOf upd_same, (hc1.st (o3.stay D2)).st (Tl.Same.stay s4), hc2.st (Tl.Same.stay s4)⟩
    have o4 : Off d l X (upd X2 a (.tup [u1, u2])) := (o2.trans o3).trans (s4.off (d := d) (l := l))
    have D4 := D3.new na (o := .tup [u1, u2])
    generalize upd X2 a (.tup [u1, u2]) = X3 at s4 hax o4 D4 ⊢
    have g3 := o4 _ _ pd pl gX
    have hp3 := Paired.mapP hp fun _ _ z => ax_st (o4.stay DX) z
    -- appended
    have fin : ∀ (x : V) (e : C × C) (Y : Hp), AxK K Y x e → Sm e → Off d l X3 Y → Deck Y d l →
        rAppend (.ref p) [x] Y fun _ X' => (∃ t5 t6', [some (.ref d), some (.ref b), some (.int m), some (.int 2), some (.ref p), some (V.int (0 + (i : Int))), some (.ref a)] = [some (.ref d), some (.ref b), some (.int m), some (.int 2), some (.ref p), t5, t6']) ∧ Off d l H X' ∧ Deck X' d l ∧ ∃ xs bs, X' p = some (.lst xs) ∧ Paired (AxK K X') xs bs ∧ bs.length = i + 1 ∧ ∀ e ∈ bs, Sm e := fun x e Y hx he oY DY => by
      have gY := oY _ _ pd pl g3
      have stY : Stay Y (upd Y p (.lst (xs ++ [x]))) := stay_mut (by rw [gY]; trivial)
      refine ⟨p, xs, x, rfl, rfl, gY, ?_, ⟨_, _, rfl⟩, ((oX.trans o4).trans oY).mut np, DY.mut pd pl, xs ++ [x], bs ++ [e], upd_same, snoc (Paired.mapP hp3 fun _ _ z => ax_st ((oY.stay D4).trans stY) z) (ax_st stY hx), by rw [List.length_append, lb]; rfl, fun e' he' => ?_⟩
      · rw [hp.length, lb]
        exact Nat.lt_of_lt_of_le (show i < 100 by omega) (by decide)
      · rcases List.mem_append.mp he' with h | h
        · exact sm e' h
        · rw [List.mem_singleton.mp h]
          exact he
    have plain : ∀ (Y : Hp), Off d l X3 Y → Deck Y d l → _ := fun Y oY DY => fin (.ref a) (c1, c2) Y (ax_st (oY.stay D4) hax) ⟨ok1, dp1, ok2, dp2⟩ oY DY
    refine ⟨.ref p, rfl, .inl ⟨rfl, _, lst_of g3⟩, .ref p, rfl, Nat.zero_le _, fun z nz => ?_⟩
    have s5 := same_up (o := .lst []) nz
    refine ⟨p, z, xs, rfl, rfl, lst_of (s5 _ _ g3), lst_of upd_same, _, rfl, ?_⟩
    have D5 := D4.new nz (o := .lst [])
    have o5 := s5.off (d := d) (l := l)
    generalize upd X3 z (.lst []) = X4 at s5 D5 o5 ⊢
    refine ite2 (fun ne => ?_) (fun _ => iteF ⟨.ref a, rfl, plain X4 o5 D5⟩)
    refine ⟨.ref d, rfl, d, l, 8, rfl, D5, by omega, by omega, fun j X5 j0 j1 o6 D6 => ⟨rfl, _, rfl, ite2 (fun _ => ?_) (fun _ => ?_)⟩⟩
    · refine ⟨.ref d, rfl, .ref p, rfl, d, l, p, xs, rfl, D6, lst_of (o6 _ _ pd pl (s5 _ _ g3)), pd, pl, fun e => ?_, ?_, fun x X6 hx o7 D7 => ?_⟩
      · subst e
        cases hp
        exact absurd ne (by decide)
      · rw [hp.length, lb]
        omega
      · obtain ⟨e, he, r⟩ := memP hp3 hx
        exact fin x e X6 (ax_st (((o5.trans o6).trans o7).stay D4) r) (sm e he) ((o5.trans o6).trans o7) D7
    · exact ⟨.ref a, rfl, plain X5 (o5.trans o6) D6⟩
  · obtain ⟨⟨t5, t6, rfl⟩, oX, DX, xs, bs, gX, hp, lb, sm⟩ := z
    refine ⟨.ref p, rfl, p, xs, rfl, .inl ⟨lst_of gX, fun r nr => ?_⟩⟩
    have s1 := same_up (o := .tup xs) nr
    exact q (.ref r) bs _ ⟨r, xs, rfl, tupOf upd_same, Paired.mapP hp fun _ _ z => ax_st (Tl.Same.stay s1) z⟩ sm (by omega) (oX.trans (s1.off (d := d) (l := l))) (DX.new nr)
end
end K01
set_option Elab.async false
set_option linter.all false
set_option autoImplicit false
set_option maxRecDepth 100000
set_option maxHeartbeats 2000000
/-! how great written values are, names of any size -/
namespace Tl
open PySem PySem.Spec PyProof.Rows L2
def Ex.sz2 (τ : List (Nat × Nat)) : Ex → List (Nat × Nat)
  | .con d => [(d.bulk, d.depth)]
  | .var i => [τ.getD i (0, 0)]
  | .ixs i _ => [τ.getD i (0, 0)]
  | .tup l => [(sumS (l.sz2 τ), maxS (l.sz2 τ) + 1)]
  | .lst l => [(sumS (l.sz2 τ), maxS (l.sz2 τ) + 1)]
  | .nil => []
  | .cons a b => a.sz2 τ ++ b.sz2 τ
  | .neg _ => [(0, 0)]
  | _ => []
def Ex.fitB2 (k : Nat) (τ : List (Nat × Nat)) : Ex → Bool
  | .con d => fit k d
  | .tup l => decide ((l.sz2 τ).length ≤ k) && l.fitB2 k τ
  | .lst l => decide ((l.sz2 τ).length ≤ k) && l.fitB2 k τ
  | .cons a b => a.fitB2 k τ && b.fitB2 k τ
  | .neg (.con (.int i)) => fit k (.int (-i))
  | _ => true
def rhoT (k : Nat) (s : Nat × Nat) : Rho → Prop
  | .no => True
  | .dat d => Small k d s
  | .seq ds => ∀ d ∈ ds, Small k d s
inductive RT (k : Nat) : List Rho → List (Nat × Nat) → Prop
  | nil : RT k [] []
  | cons {r : Rho} {s : Nat × Nat} {ρ : List Rho} {τ : List (Nat × Nat)} : rhoT k s r → RT k ρ τ → RT k (r :: ρ) (s :: τ)
theorem RT.get {k : Nat} : ∀ {ρ : List Rho} {τ : List (Nat × Nat)}, RT k ρ τ → ∀ (i : Nat) (r : Rho), ρ[i]? = some r → rhoT k (τ.getD i (0, 0)) r
  | _, _, .nil, _, _, h => nomatch h
  | _, _, .cons a b, 0, _, h => by cases h; exact a
  | _, _, .cons a b, i + 1, r, h => b.get i r h
theorem small_in {k : Nat} {ds : List PyData} {s : Nat × Nat} {d : PyData} (h : Small k (.tuple ds) s) (m : d ∈ ds) : Small k d s := by
  obtain ⟨h1, h2, h3⟩ := h
  refine ⟨(fit_tup.mp h1).2 d m, ?_, ?_⟩
  · have : ∀ es : List PyData, d ∈ es → d.bulk ≤ PyData.bulkAll es := fun es => by
      induction es with
      | nil => exact fun m => nomatch m
      | cons e es ih =>
        intro m
        rw [PyData.bulkAll]
        rcases List.mem_cons.mp m with rfl | m
        · omega
        · have := ih m
          omega
    have := this ds m
    simp only [PyData.bulk] at h2
    omega
  · simp only [PyData.depth] at h3
    have := depth_le.mp (Nat.le_refl _) d m
    omega
theorem Ex.szs2 {k : Nat} {ρ : List Rho} {τ : List (Nat × Nat)} (hρ : RT k ρ τ) : ∀ (L : Ex) (ds : List PyData), L.lit = true → L.fitB2 k τ = true → L.ev ρ = some ds → Smalls k ds (L.sz2 τ) := by
  intro L
  induction L with
  | con d =>
    intro ds l f e
    cases e
    exact smalls_one ⟨f, Nat.le_refl _, Nat.le_refl _⟩
  | var i =>
    intro ds l f e
    obtain ⟨d, h1, rfl⟩ := some1_eq e
    exact smalls_one (hρ.get i _ (rdat_eq h1))
  | ixs i j =>
    intro ds l f e
    obtain ⟨d, h1, rfl⟩ := some1_eq e
    obtain ⟨es, h2, h3⟩ := Option.bind_eq_some_iff.mp h1
    have m := atI_mem h3
    cases hr : ρ[i]? with
    | none => rw [hr] at h2; cases h2
    | some r =>
      rw [hr] at h2
      have hz := hρ.get i _ hr
      cases r with
      | no => cases h2
      | seq es' => cases h2; exact smalls_one (hz _ m)
      | dat d' =>
        cases d' <;> cases h2
        exact smalls_one (small_in hz m)
  | tup l ih =>
    intro ds li f e
    obtain ⟨es, h1, h2⟩ := Option.map_eq_some_iff.mp e
    subst h2
    rw [Ex.fitB2, Bool.and_eq_true, decide_eq_true_eq] at f
    obtain ⟨g1, g2, g3, g4⟩ := (ih es li f.2 h1).sum
    exact smalls_one ⟨fit_tup.mpr ⟨by omega, g4⟩, by simp only [PyData.bulk]; exact g1, by simp only [PyData.depth]; omega⟩
  | lst l ih =>
    intro ds li f e
    obtain ⟨es, h1, h2⟩ := Option.map_eq_some_iff.mp e
    subst h2
    rw [Ex.fitB2, Bool.and_eq_true, decide_eq_true_eq] at f
    obtain ⟨g1, g2, g3, g4⟩ := (ih es li f.2 h1).sum
    exact smalls_one ⟨fit_lst.mpr ⟨by omega, g4⟩, by simp only [PyData.bulk]; exact g1, by simp only [PyData.depth]; omega⟩
  | nil =>
    intro ds l f e
    cases e
    exact .nil
  | cons a b iha ihb =>
    intro ds l f e
    rw [Ex.lit, Bool.and_eq_true] at l
    rw [Ex.fitB2, Bool.and_eq_true] at f
    obtain ⟨x, h1, h2⟩ := Option.bind_eq_some_iff.mp e
    obtain ⟨y, h3, h4⟩ := Option.map_eq_some_iff.mp h2
    subst h4
    exact (iha _ l.1 f.1 (one_eq h1)).app (ihb _ l.2 f.2 h3)
  | neg a ih =>
    intro ds l f e
    cases a with
    | con d =>
      cases d with
      | int i =>
        cases e
        exact smalls_one ⟨f, by simp [PyData.bulk], by simp [PyData.depth]⟩
      | _ => cases l
    | _ => cases l
  | _ => intro ds l; cases l
theorem Ex.menu2 {k b p : Nat} {ρ : List Rho} {τ : List (Nat × Nat)} (hρ : RT k ρ τ) {L : Ex} {ds : List PyData} (l : L.lit = true) (f : L.fitB2 k τ = true) (e : L.ev ρ = some ds) (bd : (L.sz2 τ).all (fun s => decide (s.1 ≤ b) && decide (s.2 ≤ p)) = true) : AllS k b p ds := fun d m => by
  obtain ⟨s, h1, h2, h3, h4⟩ := (Ex.szs2 hρ L ds l f e).get d m
  have := List.all_eq_true.mp bd s h1
  rw [Bool.and_eq_true, decide_eq_true_eq, decide_eq_true_eq] at this
  exact ⟨h2, by omega, by omega⟩
theorem RT.z {k : Nat} (hk : k ≤ 45) : ∀ {ρ : List Rho} {τ : List (Nat × Nat)}, RT k ρ τ → EnvZ 900 ρ
  | _, _, .nil => fun r m => nomatch m
  | _, _, .cons (r := r) a b => fun r' m => by
    rcases List.mem_cons.mp m with rfl | m
    · cases r' with
      | no => trivial
      | dat d => exact fit_hz hk a.1
      | seq ds => exact fun d m => fit_hz hk (a d m).1
    · exact b.z hk r' m
/-- a menu; L2 is L with some of its texts named (their values stand behind the names of ρ) -/
theorem exs_menu2 {K : PySem.W.Frag} {L L' : Ex} {σ : L2.St} {H : Hp} {Q : List V → Hp → Prop} (M : Addr → Prop) (k b p : Nat) {ρ ρ' : List Rho} {τ τ' : List (Nat × Nat)} {ds : List PyData} (pr : Pre M H) (en : EnvA K M H σ ρ) (r1 : RT k ρ τ) (r2 : RT k ρ' τ') (hk : k ≤ 45) (ok : L.ok 900 = true) (ev : L.ev ρ = some ds) (ev' : L'.ev ρ' = some ds)
    (li : L'.lit = true) (fb : L'.fitB2 k τ' = true) (bd : (L'.sz2 τ').all (fun s => decide (s.1 ≤ b) && decide (s.2 ≤ p)) = true) (q : ∀ vs H', L2.Same H H' → Avs K M H' vs ds → AllS k b p ds → Q vs H') : tExs K L σ H Q :=
  ⟨M, pr, 900, ρ, ds, en, r1.z hk, ok, ev, fun vs H' s h => q vs H' s h (Ex.menu2 r2 li fb ev' bd)⟩
theorem Bag.extS2 {K : PySem.W.Frag} {M : Addr → Prop} {H0 H : Hp} {p : Addr} {xs : List V} {ds : List PyData} {L L' : Ex} {σ : L2.St} {Q : VK} (k b q' : Nat) {ρ ρ' : List Rho} {τ τ' : List (Nat × Nat)} {es : List PyData} (bg : Bag K M H0 H p xs ds) (en : EnvA K (With M p) H σ ρ) (r1 : RT k ρ τ) (r2 : RT k ρ' τ') (hk : k ≤ 45) (ok : L.ok 900 = true) (ev : L.ev ρ = some es) (ev' : L'.ev ρ' = some es)
    (li : L'.lit = true) (fb : L'.fitB2 k τ' = true) (bd : (L'.sz2 τ').all (fun s => decide (s.1 ≤ b) && decide (s.2 ≤ q')) = true) (small : ds.length + es.length ≤ 1000)
    (q : ∀ zs H', Bag K M H0 H' p zs (ds ++ es) → AllS k b q' es → Q .non H') : tCons (tLst (tExs K L)) tNil σ H (fun vs H2 => rExtend (.ref p) vs H2 Q) :=
  bg.ext en (B := 900) (r1.z hk) ok ev small fun zs H' b' => q zs H' b' (Ex.menu2 r2 li fb ev' bd)
end Tl
set_option Elab.async false
set_option linter.all false
set_option autoImplicit false
set_option maxRecDepth 100000
set_option maxHeartbeats 4000000
namespace K01
open PySem PySem.Spec PyProof.Rows L2 Tl
open C8 (Cal pe_c)
/-! ### written values that are none -/
def spNo (K : PySem.W.Frag) (B D : Nat) : Sp := fun vs H Q _ => ∃ (d l b : Addr) (w0 w1 w2 w3 : Str) (M : Addr → Prop), vs = [.ref d, .ref b] ∧ Deck H d l ∧ M d ∧ M l ∧ Pre M H ∧ H b = some (.lst ([w0, w1, w2, w3].map V.str)) ∧ (∀ x ∈ [w0, w1, w2, w3], isW x = true) ∧
  ∀ (v' : V) (d' : PyData) (H' : Hp), Off d l H H' → Deck H' d l → Av K M H' v' d' → Small 36 d' (B, D) → Q v' H'
theorem small_wn {x y : Str} (h : isW x = true) (l : y.cps.size ≤ 2) (a : asc y = true) : Small 36 (.str (x ++ y)) (14, 0) := by
  have ⟨h1, h2, _⟩ := word_small h (k := 36) (by decide)
  have ⟨f1, f2⟩ := fit_str.mp h1
  have e : (x ++ y).cps.size = x.cps.size + y.cps.size := Array.size_append
  have h2 : x.cps.size ≤ 12 := by simpa only [PyData.bulk] using h2
  exact ⟨fit_str.mpr ⟨by show (x ++ y).cps.size ≤ _; omega, asc_app f2 a⟩, by simp only [PyData.bulk]; omega, by simp [PyData.depth]⟩
def rMulT : R2 := fun x y H Q => x = .str "a" ∧ y = .int 10 ∧ Q (.str "aaaaaaaaaa") H
theorem op_mulT {X : Cx} : OpR X (binaryOp .Mult) rMulT := by
  intro pins s σ H x y v u Q I rx ry ⟨ex, ey, q⟩
  subst ex ey
  obtain ⟨t, rfl⟩ := rx
  obtain ⟨t', rfl⟩ := ry
  refine PySem.P.mul_str (by decide) (fun _ _ => by decide) (fun _ _ => by decide +kernel) ?_
  rw [if_neg (by decide), if_neg (by decide +kernel)]
  exact ⟨by decide +kernel, ⟨.str "aaaaaaaaaa", H, I.tok _, ⟨_, by rfl⟩, q⟩⟩
theorem ex_mulT {X : Cx} {K : PySem.W.Frag} {k1 k2 : Nat} {p1 p2 p : Pos} : PE X (.BinOp (.Constant (.str "a") k1 p1) .Mult (.Constant (.int 10) k2 p2) p) (tEx K (.con (.str "aaaaaaaaaa"))) :=
  (pe_op op_mulT pe_str pe_int).wk fun σ H Q ⟨_, _, B, ρ, d, _, _, _, e, q⟩ => by cases e; exact ⟨rfl, rfl, q.now (.str _)⟩
theorem avs_pick {K : PySem.W.Frag} {M : Addr → Prop} {H : Hp} {ds : List PyData} : ∀ {ys : List V}, (∀ y ∈ ys, ∃ e ∈ ds, Av K M H y e) → ∃ es, Avs K M H ys es ∧ ∀ e ∈ es, e ∈ ds
  | [], _ => ⟨[], .nil, fun e m => nomatch m⟩
  | y :: ys, h => by
    obtain ⟨e, me, he⟩ := h y List.mem_cons_self
    obtain ⟨es, h1, h2⟩ := avs_pick (ys := ys) fun z m => h z (List.mem_cons_of_mem _ m)
    exact ⟨e :: es, .cons he h1, fun x m => by
      rcases List.mem_cons.mp m with rfl | m
      · exact me
      · exact h2 x m⟩
section
variable {P : Program} {w : World} {K : PySem.W.Frag} {mg : Str → Option Value} {base : Heap}
theorem cLawNoConcept (T : Txt K mg) : Cal P w K mg base 3 "_law_no_concept" (spNo K 60 4) [] := by
  refine cal_of T.lawNoConcept scLawNoConcept (fun _ _ _ _ _ _ us hl => match us, hl with | [_, _], _ => rfl) (fun vs H Q E h => ?_) (fun f cdv A outer s H vs Q E hr h => ?_)
  · obtain ⟨d, l, b, w0, w1, w2, w3, M, rfl, _⟩ := h
    rfl
  obtain ⟨d, l, b, w0, w1, w2, w3, M, rfl, D, md, ml, pr, gb, hw, q⟩ := h
  refine ⟨_, (pss_cons (ps_par (i := 2) (j := 3) rfl scLawNoConcept.nd rfl rfl (by decide) rfl rfl (pa_cons (pe_ix ix_list (pv 1) pe_int (fun _ _ => rfl)) (pa_cons (pe_ix ix_list (pv 1) pe_mone (fun _ _ => rfl)) pa_nil)) rfl)
 (pss_cons (ps_set (i := 4) scLawNoConcept.nd rfl (.inl rfl) (pe_lst (exs_cons (K := K) ex_non (exs_cons ex_str (exs_cons (ex_var (pv 2)) (exs_cons (ex_tup exs_nil) (exs_cons (ex_tup (exs_cons ex_str exs_nil)) (exs_cons (ex_tup (exs_cons ex_str (exs_cons (ex_var (pv 2)) (exs_cons (ex_var (pv 3)) exs_nil)))) (exs_cons (ex_tup (exs_cons ex_str (exs_cons ex_str exs_nil))) (exs_cons (ex_tup (exs_cons ex_str (exs_cons ex_str exs_nil))) (exs_cons (ex_lst (exs_cons ex_str exs_nil)) (exs_cons (ex_lst (exs_cons ex_str (exs_cons (ex_var (pv 2)) exs_nil))) (exs_cons (ex_tup (exs_cons ex_str (exs_cons (ex_var (pv 2)) exs_nil))) (exs_cons (ex_tup (exs_cons ex_str (exs_cons (ex_tup exs_nil) exs_nil))) exs_nil))))))))))))))
 (pss_cons (ps_expr (pe_bm PySem.F.plainAttrs_list PySem.F.slot_list_extend PySem.F.type_list_extend mt_extend (pv 4) (pa_cons (pe_lst (exs_cons (K := K) (ex_tup (exs_cons ex_str (exs_cons (ex_tup (exs_cons ex_str exs_nil)) exs_nil))) (exs_cons (ex_tup (exs_cons ex_str (exs_cons (ex_tup (exs_cons ex_str exs_nil)) (exs_cons (ex_tup (exs_cons ex_str (exs_cons (ex_var (pv 2)) exs_nil))) (exs_cons (ex_tup (exs_cons ex_str exs_nil)) exs_nil))))) (exs_cons (ex_tup (exs_cons ex_str (exs_cons (ex_var (pv 2)) exs_nil))) (exs_cons (ex_tup (exs_cons ex_str (exs_cons ex_str (exs_cons (ex_tup (exs_cons ex_str exs_nil)) exs_nil)))) (exs_cons (ex_tup (exs_cons ex_str (exs_cons (ex_var (pv 2)) (exs_cons (ex_var (pv 3)) exs_nil)))) (exs_cons ex_int exs_nil))))))) pa_nil)))
 (pss_cons (ps_expr (pe_bm PySem.F.plainAttrs_list PySem.F.slot_list_extend PySem.F.type_list_extend mt_extend (pv 4) (pa_cons (pe_lst (exs_cons (K := K) (ex_tup (exs_cons ex_str (exs_cons (ex_tup (exs_cons ex_str exs_nil)) (exs_cons (ex_var (pv 2)) exs_nil)))) (exs_cons (ex_tup (exs_cons ex_str (exs_cons (ex_tup (exs_cons ex_str exs_nil)) (exs_cons ex_non exs_nil)))) (exs_cons (ex_tup (exs_cons ex_str (exs_cons (ex_var (pv 2)) (exs_cons (ex_var (pv 3)) exs_nil)))) (exs_cons (ex_tup (exs_cons ex_str (exs_cons (ex_var (pv 2)) (exs_cons (ex_tup (exs_cons ex_str exs_nil)) exs_nil)))) (exs_cons (ex_tup (exs_cons ex_str (exs_cons (ex_var (pv 2)) (exs_cons (ex_lst (exs_cons ex_str exs_nil)) exs_nil)))) (exs_cons ex_dct (exs_cons ex_bl exs_nil)))))))) pa_nil)))
 (pss_cons (ps_expr (pe_bm PySem.F.plainAttrs_list PySem.F.slot_list_extend PySem.F.type_list_extend mt_extend (pv 4) (pa_cons (pe_lst (exs_cons (K := K) (ex_tup (exs_cons ex_str (exs_cons (ex_tup (exs_cons ex_str exs_nil)) (exs_cons (ex_tup (exs_cons ex_str exs_nil)) exs_nil)))) (exs_cons (ex_tup (exs_cons (ex_tup (exs_cons ex_str exs_nil)) exs_nil)) (exs_cons (ex_tup (exs_cons ex_str (exs_cons (ex_add rfl (ex_var (pv 2)) ex_str) exs_nil))) (exs_cons (ex_tup (exs_cons ex_str (exs_cons ex_str exs_nil))) (exs_cons (ex_tup (exs_cons ex_str (exs_cons ex_mulA exs_nil))) (exs_cons (ex_tup (exs_cons ex_str (exs_cons ex_non exs_nil))) exs_nil))))))) pa_nil)))
 (pss_one (ps_ret (pe_c (cLawPick T) hr (by decide) rfl (pa_cons (pv 0) (pa_cons (pv 4) pa_nil)))))))))), ?_⟩
  have hw0 : isW w0 = true := hw w0 (by simp)
  have hw3 : isW w3 = true := hw w3 (by simp)
  refine ⟨.ref b, rfl, b, _, 0, .str w0, rfl, rfl, lst_of gb, atI_nat (j := 0) rfl, .ref b, rfl, b, _, -1, .str w3, rfl, rfl, lst_of gb, rfl, ⟨_, _, rfl, ?_⟩⟩
  have r1 : RT 36 [Rho.no, .no, .dat (.str w0), .dat (.str w3)] [(0, 0), (0, 0), (12, 0), (12, 0)] := .cons trivial (.cons trivial (.cons (word_small hw0 (by decide)) (.cons (word_small hw3 (by decide)) .nil)))
  have r2 : RT 36 [Rho.no, .no, .dat (.str w0), .dat (.str w3), .no, .dat (.str (w0 ++ "\n"))] [(0, 0), (0, 0), (12, 0), (12, 0), (0, 0), (14, 0)] := .cons trivial (.cons trivial (.cons (word_small hw0 (by decide)) (.cons (word_small hw3 (by decide)) (.cons trivial (.cons (small_wn hw0 (by decide) (by decide)) .nil)))))
  have en : ∀ {N : Addr → Prop} {G : Hp} {t : Option V}, EnvA K N G [some (.ref d), some (.ref b), some (.str w0), some (.str w3), t] [.no, .no, .dat (.str w0), .dat (.str w3)] := ⟨⟨_, rfl, .str _⟩, ⟨_, rfl, .str _⟩, trivial⟩
  refine exs_menu2 (L' := (.cons (.con .none) (.cons (.con (.str "")) (.cons (.var 2) (.cons (.tup .nil) (.cons (.tup (.cons (.con (.str "word")) .nil)) (.cons (.tup (.cons (.con (.str "word")) (.cons (.var 2) (.cons (.var 3) .nil)))) (.cons (.tup (.cons (.con (.str "word")) (.cons (.con (.str "all")) .nil))) (.cons (.tup (.cons (.con (.str "word")) (.cons (.con (.str "A")) .nil))) (.cons (.lst (.cons (.con (.str "all")) .nil)) (.cons (.lst (.cons (.con (.str "word")) (.cons (.var 2) .nil))) (.cons (.tup (.cons (.con (.str "all")) (.cons (.var 2) .nil))) (.cons (.tup (.cons (.con (.str "none")) (.cons (.tup .nil) .nil))) .nil))))))))))))) M 36 60 4 pr en r1 r2 (by decide) (by decide +kernel) rfl rfl (by decide +kernel) (by decide +kernel) (by decide +kernel) fun vs1 X1 s1 h1 a1 => ⟨by rw [h1.len]; exact Nat.le_trans (show 12 ≤ 1000 by decide) (by decide), fun p np => ?_⟩
  have b1 := bag_new s1 h1 (pr.same s1) np
  refine ⟨.ref p, rfl, .inl ⟨rfl, _, lst_of b1.g⟩, b1.extS2 (L' := (.cons (.tup (.cons (.con (.str "and")) (.cons (.tup (.cons (.con (.str "all")) .nil)) .nil))) (.cons (.tup (.cons (.con (.str "and")) (.cons (.tup (.cons (.con (.str "all")) .nil)) (.cons (.tup (.cons (.con (.str "word")) (.cons (.var 2) .nil))) (.cons (.tup (.cons (.con (.str "all")) .nil)) .nil))))) (.cons (.tup (.cons (.con (.str "some")) (.cons (.var 2) .nil))) (.cons (.tup (.cons (.con (.str "some")) (.cons (.con (.str "is")) (.cons (.tup (.cons (.con (.str "all")) .nil)) .nil)))) (.cons (.tup (.cons (.con (.str "some")) (.cons (.var 2) (.cons (.var 3) .nil)))) (.cons (.con (.int 7)) .nil))))))) 36 60 4 en r1 r2 (by decide) (by decide +kernel) rfl rfl (by decide +kernel) (by decide +kernel) (by decide +kernel) (by simp) fun zs2 X2 b2 a2 => ?_⟩
  refine ⟨.ref p, rfl, .inl ⟨rfl, _, lst_of b2.g⟩, b2.extS2 (L' := (.cons (.tup (.cons (.con (.str "some")) (.cons (.tup (.cons (.con (.str "all")) .nil)) (.cons (.var 2) .nil)))) (.cons (.tup (.cons (.con (.str "and")) (.cons (.tup (.cons (.con (.str "all")) .nil)) (.cons (.con .none) .nil)))) (.cons (.tup (.cons (.con (.str "and")) (.cons (.var 2) (.cons (.var 3) .nil)))) (.cons (.tup (.cons (.con (.str "Some")) (.cons (.var 2) (.cons (.tup (.cons (.con (.str "all")) .nil)) .nil)))) (.cons (.tup (.cons (.con (.str "some")) (.cons (.var 2) (.cons (.lst (.cons (.con (.str "all")) .nil)) .nil)))) (.cons (.con (.dict [])) (.cons (.con (.bool true)) .nil)))))))) 36 60 4 en r1 r2 (by decide) (by decide +kernel) rfl rfl (by decide +kernel) (by decide +kernel) (by decide +kernel) (by simp) fun zs3 X3 b3 a3 => ?_⟩
  refine ⟨.ref p, rfl, .inl ⟨rfl, _, lst_of b3.g⟩, b3.extS2 (L' := (.cons (.tup (.cons (.con (.str "each")) (.cons (.tup (.cons (.con (.str "all")) .nil)) (.cons (.tup (.cons (.con (.str "all")) .nil)) .nil)))) (.cons (.tup (.cons (.tup (.cons (.con (.str "all")) .nil)) .nil)) (.cons (.tup (.cons (.con (.str "word")) (.cons (.var 5) .nil))) (.cons (.tup (.cons (.con (.str "word")) (.cons (.con (.str "")) .nil))) (.cons (.tup (.cons (.con (.str "word")) (.cons (.con (.str "aaaaaaaaaaa")) .nil))) (.cons (.tup (.cons (.con (.str "word")) (.cons (.con .none) .nil))) .nil))))))) 36 60 4 en r1 r2 (by decide) (by decide +kernel) rfl rfl (by decide +kernel) (by decide +kernel) (by decide +kernel) (by simp) fun zs4 X4 b4 a4 => ?_⟩
  have aA := ((a1.app a2).app a3).app a4
  have D5 := D.same b4.same
  have pd := D.off b4.np
  refine ⟨.ref d, rfl, .ref p, rfl, d, l, p, zs4, rfl, D5, lst_of b4.g, pd.1, pd.2, (fun e => by
    have := b4.len
    rw [e] at this
    cases this), by rw [b4.len]; simp, fun x X6 mx o6 D6 => ?_⟩
  obtain ⟨e, me, he⟩ := b4.out.mem mx
  exact q x e X6 ((b4.same.off (d := d) (l := l)).trans o6) D6 (he.k (off_keep o6 D5 md ml)) (aA e me)
theorem cLawNoVocabulary (T : Txt K mg) : Cal P w K mg base 3 "_law_no_vocabulary" (spNo K 60 4) [] := by
  refine cal_of T.lawNoVocabulary scLawNoVocabulary (fun _ _ _ _ _ _ us hl => match us, hl with | [_, _], _ => rfl) (fun vs H Q E h => ?_) (fun f cdv A outer s H vs Q E hr h => ?_)
  · obtain ⟨d, l, b, w0, w1, w2, w3, M, rfl, _⟩ := h
    rfl
  obtain ⟨d, l, b, w0, w1, w2, w3, M, rfl, D, md, ml, pr, gb, hw, q⟩ := h
  refine ⟨_, (pss_cons (ps_asg (pe_slice sl_list (pe_callB cr_sortedS (by rfl) T.sorted (by decide +kernel) (pa_cons (pv 1) pa_nil)) po_none (po_some pe_int)) (pg_lst rfl (pgs_cons (pg_name (i := 2) scLawNoVocabulary.nd rfl (.inl rfl)) (pgs_cons (pg_name (i := 3) scLawNoVocabulary.nd rfl (.inl rfl)) pgs_nil))))
 (pss_cons (ps_set (i := 4) scLawNoVocabulary.nd rfl (.inl rfl) (pe_lst (exs_cons (K := K) ex_non (exs_cons ex_str (exs_cons (ex_tup exs_nil) (exs_cons (ex_tup (exs_cons (ex_tup (exs_cons (ex_var (pv 2)) exs_nil)) exs_nil)) (exs_cons (ex_tup (exs_cons (ex_tup (exs_cons (ex_var (pv 2)) exs_nil)) (exs_cons (ex_tup (exs_cons (ex_var (pv 3)) exs_nil)) (exs_cons (ex_tup exs_nil) exs_nil)))) (exs_cons (ex_lst (exs_cons (ex_tup (exs_cons (ex_var (pv 2)) exs_nil)) (exs_cons (ex_tup (exs_cons (ex_var (pv 3)) exs_nil)) exs_nil))) (exs_cons (ex_tup (exs_cons (ex_lst (exs_cons (ex_var (pv 2)) exs_nil)) (exs_cons (ex_tup exs_nil) exs_nil))) (exs_cons (ex_tup (exs_cons (ex_tup exs_nil) (exs_cons (ex_lst (exs_cons (ex_var (pv 3)) exs_nil)) exs_nil))) (exs_cons (ex_tup (exs_cons (ex_tup (exs_cons (ex_var (pv 3)) (exs_cons (ex_var (pv 2)) exs_nil))) (exs_cons (ex_tup exs_nil) exs_nil))) (exs_cons (ex_tup (exs_cons (ex_tup (exs_cons (ex_var (pv 2)) (exs_cons (ex_var (pv 2)) exs_nil))) (exs_cons (ex_tup exs_nil) exs_nil))) (exs_cons (ex_tup (exs_cons (ex_var (pv 2)) (exs_cons (ex_var (pv 3)) exs_nil))) (exs_cons ex_dct (exs_cons ex_bl exs_nil)))))))))))))))
 (pss_cons (ps_expr (pe_bm PySem.F.plainAttrs_list PySem.F.slot_list_extend PySem.F.type_list_extend mt_extend (pv 4) (pa_cons (pe_lst (exs_cons (K := K) (ex_tup (exs_cons (ex_tup exs_nil) (exs_cons (ex_tup (exs_cons (ex_var (pv 3)) (exs_cons (ex_var (pv 2)) exs_nil))) exs_nil))) (exs_cons (ex_tup (exs_cons (ex_tup (exs_cons ex_str exs_nil)) (exs_cons (ex_tup exs_nil) exs_nil))) (exs_cons (ex_tup (exs_cons (ex_tup exs_nil) (exs_cons (ex_tup (exs_cons ex_str exs_nil)) exs_nil))) (exs_cons (ex_tup (exs_cons (ex_tup (exs_cons (ex_var (pv 2)) (exs_cons ex_str exs_nil))) (exs_cons (ex_tup exs_nil) exs_nil))) (exs_cons (ex_tup (exs_cons (ex_tup (exs_cons ex_non exs_nil)) (exs_cons (ex_tup exs_nil) exs_nil))) (exs_cons (ex_tup (exs_cons (ex_tup (exs_cons ex_str exs_nil)) (exs_cons (ex_tup exs_nil) exs_nil))) (exs_cons (ex_tup (exs_cons (ex_tup (exs_cons (ex_add rfl (ex_var (pv 2)) ex_str) exs_nil)) (exs_cons (ex_tup exs_nil) exs_nil))) (exs_cons (ex_tup (exs_cons (ex_tup exs_nil) (exs_cons (ex_tup (exs_cons ex_int exs_nil)) exs_nil))) (exs_cons ex_int exs_nil)))))))))) pa_nil)))
 (pss_one (ps_ret (pe_c (cLawPick T) hr (by decide) rfl (pa_cons (pv 0) (pa_cons (pv 4) pa_nil)))))))), ?_⟩
  refine ⟨.ref b, rfl, b, _, rfl, lst_of gb, Nat.lt_of_le_of_lt (Nat.le_of_eq rfl) (show 4 < 64 by decide), fun ys p perm so np => ?_⟩
  obtain ⟨y0, y1, y2, y3, rfl⟩ : ∃ y0 y1 y2 y3, ys = [y0, y1, y2, y3] := by
    have := perm.length_eq
    match ys, this with
    | [a, b, c, e], _ => exact ⟨a, b, c, e, rfl⟩
  have hy0 : isW y0 = true := hw y0 (perm.mem_iff.mp (by simp))
  have hy1 : isW y1 = true := hw y1 (perm.mem_iff.mp (by simp))
  have s1 := same_up (o := .lst ([y0, y1, y2, y3].map V.str)) np
  refine ⟨2, rfl, p, _, rfl, lst_of upd_same, fun p2 np2 => ⟨p2, _, rfl, lst_of upd_same, rfl, .str y0, [.str y1], rfl, .str y1, [], rfl, rfl, ?_⟩⟩
  have s2 := s1.trans (same_up (o := .lst (cutV ([y0, y1, y2, y3].map V.str) none (some 2))) np2)
  generalize upd (upd H p (.lst ([y0, y1, y2, y3].map V.str))) p2 (.lst (cutV ([y0, y1, y2, y3].map V.str) none (some 2))) = X at s2 ⊢
  have r1 : RT 36 [Rho.no, .no, .dat (.str y0), .dat (.str y1)] [(0, 0), (0, 0), (12, 0), (12, 0)] := .cons trivial (.cons trivial (.cons (word_small hy0 (by decide)) (.cons (word_small hy1 (by decide)) .nil)))
  have r2 : RT 36 [Rho.no, .no, .dat (.str y0), .dat (.str y1), .no, .dat (.str (y0 ++ "\n"))] [(0, 0), (0, 0), (12, 0), (12, 0), (0, 0), (14, 0)] := .cons trivial (.cons trivial (.cons (word_small hy0 (by decide)) (.cons (word_small hy1 (by decide)) (.cons trivial (.cons (small_wn hy0 (by decide) (by decide)) .nil)))))
  have en : ∀ {N : Addr → Prop} {G : Hp} {t : Option V}, EnvA K N G [some (.ref d), some (.ref b), some (.str y0), some (.str y1), t] [.no, .no, .dat (.str y0), .dat (.str y1)] := ⟨⟨_, rfl, .str _⟩, ⟨_, rfl, .str _⟩, trivial⟩
  refine exs_menu2 (L' := (.cons (.con .none) (.cons (.con (.str "")) (.cons (.tup .nil) (.cons (.tup (.cons (.tup (.cons (.var 2) .nil)) .nil)) (.cons (.tup (.cons (.tup (.cons (.var 2) .nil)) (.cons (.tup (.cons (.var 3) .nil)) (.cons (.tup .nil) .nil)))) (.cons (.lst (.cons (.tup (.cons (.var 2) .nil)) (.cons (.tup (.cons (.var 3) .nil)) .nil))) (.cons (.tup (.cons (.lst (.cons (.var 2) .nil)) (.cons (.tup .nil) .nil))) (.cons (.tup (.cons (.tup .nil) (.cons (.lst (.cons (.var 3) .nil)) .nil))) (.cons (.tup (.cons (.tup (.cons (.var 3) (.cons (.var 2) .nil))) (.cons (.tup .nil) .nil))) (.cons (.tup (.cons (.tup (.cons (.var 2) (.cons (.var 2) .nil))) (.cons (.tup .nil) .nil))) (.cons (.tup (.cons (.var 2) (.cons (.var 3) .nil))) (.cons (.con (.dict [])) (.cons (.con (.bool true)) .nil)))))))))))))) M 36 60 4 (pr.same s2) en r1 r2 (by decide) (by decide +kernel) rfl rfl (by decide +kernel) (by decide +kernel) (by decide +kernel) fun vs1 X1 s3 h1 a1 => ⟨by rw [h1.len]; exact Nat.le_trans (show 13 ≤ 1000 by decide) (by decide), fun p np => ?_⟩
  have b1 := bag_new (s2.trans s3) h1 ((pr.same s2).same s3) np
  refine ⟨.ref p, rfl, .inl ⟨rfl, _, lst_of b1.g⟩, b1.extS2 (L' := (.cons (.tup (.cons (.tup .nil) (.cons (.tup (.cons (.var 3) (.cons (.var 2) .nil))) .nil))) (.cons (.tup (.cons (.tup (.cons (.con (.str "all")) .nil)) (.cons (.tup .nil) .nil))) (.cons (.tup (.cons (.tup .nil) (.cons (.tup (.cons (.con (.str "is")) .nil)) .nil))) (.cons (.tup (.cons (.tup (.cons (.var 2) (.cons (.con (.str "A")) .nil))) (.cons (.tup .nil) .nil))) (.cons (.tup (.cons (.tup (.cons (.con .none) .nil)) (.cons (.tup .nil) .nil))) (.cons (.tup (.cons (.tup (.cons (.con (.str "")) .nil)) (.cons (.tup .nil) .nil))) (.cons (.tup (.cons (.tup (.cons (.var 5) .nil)) (.cons (.tup .nil) .nil))) (.cons (.tup (.cons (.tup .nil) (.cons (.tup (.cons (.con (.int 1)) .nil)) .nil))) (.cons (.con (.int 7)) .nil)))))))))) 36 60 4 en r1 r2 (by decide) (by decide +kernel) rfl rfl (by decide +kernel) (by decide +kernel) (by decide +kernel) (by simp) fun zs2 X2 b2 a2 => ?_⟩
  have aA := a1.app a2
  have D5 := D.same b2.same
  have pd := D.off b2.np
  refine ⟨.ref d, rfl, .ref p, rfl, d, l, p, zs2, rfl, D5, lst_of b2.g, pd.1, pd.2, (fun e => by
    have := b2.len
    rw [e] at this
    cases this), by rw [b2.len]; simp, fun x X6 mx o6 D6 => ?_⟩
  obtain ⟨e, me, he⟩ := b2.out.mem mx
  exact q x e X6 ((b2.same.off (d := d) (l := l)).trans o6) D6 (he.k (off_keep o6 D5 md ml)) (aA e me)
theorem cLawNoBook (T : Txt K mg) : Cal P w K mg base 4 "_law_no_book" (spNo K 250 8) [] := by
  refine cal_of T.lawNoBook scLawNoBook (fun _ _ _ _ _ _ us hl => match us, hl with | [_, _], _ => rfl) (fun vs H Q E h => ?_) (fun f cdv A outer s H vs Q E hr h => ?_)
  · obtain ⟨d, l, b, w0, w1, w2, w3, M, rfl, _⟩ := h
    rfl
  obtain ⟨d, l, b, w0, w1, w2, w3, M, rfl, D, md, ml, pr, gb, hw, q⟩ := h
  refine ⟨_, (pss_cons (ps_par (i := 2) (j := 3) rfl scLawNoBook.nd rfl rfl (by decide) rfl rfl (pa_cons (pe_tup (pa_cons pe_str (pa_cons (pe_ix ix_list (pv 1) pe_int (fun _ _ => rfl)) pa_nil))) (pa_cons (pe_c (cLawNoConcept T) hr (by decide) rfl (pa_cons (pv 0) (pa_cons (pv 1) pa_nil))) pa_nil)) rfl)
 (pss_cons (ps_set (i := 4) scLawNoBook.nd rfl (.inl rfl) (pe_lst (exs_cons (K := K) ex_non (exs_cons ex_str (exs_cons (ex_lst (exs_cons (ex_tup (exs_cons (ex_var (pv 2)) (exs_cons (ex_var (pv 2)) exs_nil))) exs_nil)) (exs_cons (ex_tup (exs_cons (ex_var (pv 2)) (exs_cons (ex_var (pv 2)) exs_nil))) (exs_cons (ex_tup (exs_cons (ex_tup (exs_cons (ex_var (pv 2)) exs_nil)) exs_nil)) (exs_cons (ex_tup (exs_cons (ex_tup (exs_cons (ex_var (pv 2)) (exs_cons (ex_var (pv 2)) (exs_cons (ex_var (pv 2)) exs_nil)))) exs_nil)) (exs_cons (ex_tup (exs_cons (ex_lst (exs_cons (ex_var (pv 2)) (exs_cons (ex_var (pv 2)) exs_nil))) exs_nil)) (exs_cons (ex_tup (exs_cons (ex_tup (exs_cons (ex_var (pv 2)) (exs_cons (ex_var (pv 3)) exs_nil))) exs_nil)) (exs_cons (ex_tup (exs_cons (ex_tup (exs_cons (ex_var (pv 3)) (exs_cons (ex_var (pv 2)) exs_nil))) exs_nil)) (exs_cons (ex_tup (exs_cons (ex_tup (exs_cons (ex_var (pv 2)) (exs_cons (ex_var (pv 2)) exs_nil))) (exs_cons (ex_var (pv 2)) exs_nil))) (exs_cons ex_dct (exs_cons ex_int (exs_cons ex_bl (exs_cons (ex_tup (exs_cons ex_non exs_nil)) exs_nil))))))))))))))))
 (pss_one (ps_ret (pe_c (cLawPick T) hr (by decide) rfl (pa_cons (pv 0) (pa_cons (pe_op op_cat (pv 4) (pe_lst (exs_cons (K := K) (ex_tup (exs_cons (ex_tup (exs_cons (ex_var (pv 2)) (exs_cons (ex_var (pv 2)) exs_nil))) (exs_cons (ex_tup (exs_cons (ex_var (pv 2)) (exs_cons (ex_var (pv 3)) exs_nil))) exs_nil))) (exs_cons (ex_tup (exs_cons (ex_tup exs_nil) (exs_cons (ex_tup (exs_cons (ex_var (pv 2)) (exs_cons (ex_var (pv 2)) exs_nil))) exs_nil))) exs_nil)))) pa_nil))))))), ?_⟩
  have hw0 : isW w0 = true := hw w0 (by simp)
  refine ⟨.ref b, rfl, b, _, 0, .str w0, rfl, rfl, lst_of gb, atI_nat (j := 0) rfl, by show 2 ≤ sizeLine; decide, fun t nt => ?_⟩
  have s1 := same_up (o := .tup [.str "word", .str w0]) nt
  have ht : SqT K (upd H t (.tup [.str "word", .str w0])) t [.str "word", .str w0] := tupOf upd_same
  generalize upd H t (.tup [.str "word", .str w0]) = X0 at s1 ht ⊢
  have D1 := D.same s1
  refine ⟨.ref d, rfl, .ref b, rfl, d, l, b, w0, w1, w2, w3, M, rfl, D1, md, ml, pr.same s1, s1 _ _ gb, hw, fun u wd X1 o1 D2 hu su => ⟨_, _, rfl, ?_⟩⟩
  have hA : Av K M X1 (.ref t) (.tuple [.str "word", .str w0]) := .tup ((o1.stay D1).tup ht) (.cons (.str _) (.cons (.str _) .nil))
  have sA : Small 36 (.tuple [.str "word", .str w0]) (18, 1) := by
    have := Ex.menu2 (k := 36) (b := 18) (p := 1) (ρ := [.dat (.str w0)]) (τ := [(12, 0)]) (.cons (word_small hw0 (by decide)) .nil) (L := .cons (.tup (.cons (.con (.str "word")) (.cons (.var 0) .nil))) .nil) (by decide +kernel) (by decide +kernel) rfl (by decide +kernel)
    exact this _ List.mem_cons_self
  have pr1 := pre_off (pr.same s1) o1 D2
  have oA : Off d l H X1 := (s1.off (d := d) (l := l)).trans o1
  have r1 : RT 36 [Rho.no, .no, .dat (.tuple [.str "word", .str w0]), .dat wd] [(0, 0), (0, 0), (18, 1), (60, 4)] := .cons trivial (.cons trivial (.cons sA (.cons su .nil)))
  have en : EnvA K M X1 [some (.ref d), some (.ref b), some (.ref t), some u, none] [.no, .no, .dat (.tuple [.str "word", .str w0]), .dat wd] := ⟨⟨_, rfl, hA⟩, ⟨_, rfl, hu⟩, trivial⟩
  refine exs_menu2 (L' := (.cons (.con .none) (.cons (.con (.str "")) (.cons (.lst (.cons (.tup (.cons (.var 2) (.cons (.var 2) .nil))) .nil)) (.cons (.tup (.cons (.var 2) (.cons (.var 2) .nil))) (.cons (.tup (.cons (.tup (.cons (.var 2) .nil)) .nil)) (.cons (.tup (.cons (.tup (.cons (.var 2) (.cons (.var 2) (.cons (.var 2) .nil)))) .nil)) (.cons (.tup (.cons (.lst (.cons (.var 2) (.cons (.var 2) .nil))) .nil)) (.cons (.tup (.cons (.tup (.cons (.var 2) (.cons (.var 3) .nil))) .nil)) (.cons (.tup (.cons (.tup (.cons (.var 3) (.cons (.var 2) .nil))) .nil)) (.cons (.tup (.cons (.tup (.cons (.var 2) (.cons (.var 2) .nil))) (.cons (.var 2) .nil))) (.cons (.con (.dict [])) (.cons (.con (.int 0)) (.cons (.con (.bool true)) (.cons (.tup (.cons (.con .none) .nil)) .nil))))))))))))))) M 36 250 8 pr1 en r1 r1 (by decide) (by decide +kernel) rfl rfl (by decide +kernel) (by decide +kernel) (by decide +kernel) fun vs1 X2 s2 h1 a1 => ⟨by rw [h1.len]; exact Nat.le_trans (show 14 ≤ 1000 by decide) (by decide), fun p np => ?_⟩
  have s3 := same_up (o := .lst vs1) np
  have g3 : upd X2 p (.lst vs1) p = some (.lst vs1) := upd_same
  have h13 := h1.s s3
  generalize upd X2 p (.lst vs1) = X3 at s3 g3 h13 ⊢
  have s23 := s2.trans s3
  have en3 : EnvA K M X3 [some (.ref d), some (.ref b), some (.ref t), some u, some (.ref p)] [.no, .no, .dat (.tuple [.str "word", .str w0]), .dat wd] := ⟨⟨_, rfl, hA.s s23⟩, ⟨_, rfl, hu.s s23⟩, trivial⟩
  refine ⟨.ref d, rfl, .ref p, rfl, exs_menu2 (L' := (.cons (.tup (.cons (.tup (.cons (.var 2) (.cons (.var 2) .nil))) (.cons (.tup (.cons (.var 2) (.cons (.var 3) .nil))) .nil))) (.cons (.tup (.cons (.tup .nil) (.cons (.tup (.cons (.var 2) (.cons (.var 2) .nil))) .nil))) .nil))) M 36 250 8 (pr1.same s23) en3 r1 r1 (by decide) (by decide +kernel) rfl rfl (by decide +kernel) (by decide +kernel) (by decide +kernel) fun vs2 X4 s4 h2 a2 => ⟨by rw [h2.len]; exact Nat.le_trans (show 2 ≤ 1000 by decide) (by decide), fun p2 np2 => ?_⟩⟩
  have s5 := same_up (o := .lst vs2) np2
  have g5 : upd X4 p2 (.lst vs2) p2 = some (.lst vs2) := upd_same
  have h25 := h2.s s5
  generalize upd X4 p2 (.lst vs2) = X5 at s5 g5 h25 ⊢
  have s45 := s4.trans s5
  refine ⟨p, p2, vs1, vs2, rfl, rfl, s45 _ _ g3, g5, by rw [h1.len, h2.len]; exact Nat.le_trans (show 16 ≤ 1000 by decide) (by decide), fun o no => ?_⟩
  have s6 := same_up (o := .lst (vs1 ++ vs2)) no
  have g6 : upd X5 o (.lst (vs1 ++ vs2)) o = some (.lst (vs1 ++ vs2)) := upd_same
  have hAll := ((h13.s s45).app h25).s s6
  have aA := a1.app a2
  have sZ := s23.trans (s45.trans s6)
  have DZ := D2.same sZ
  have pd := (D2.same (s23.trans s45)).off no
  generalize upd X5 o (.lst (vs1 ++ vs2)) = X6 at s6 g6 hAll sZ DZ ⊢
  refine ⟨d, l, o, _, rfl, DZ, lst_of g6, pd.1, pd.2, (fun e => by
    have := hAll.len
    rw [e] at this
    cases this), by rw [hAll.len]; simp, fun x X7 mx o7 D7 => ?_⟩
  obtain ⟨e, me, he⟩ := hAll.mem mx
  exact q x e X7 ((oA.trans (sZ.off (d := d) (l := l))).trans o7) D7 (he.k (off_keep o7 DZ md ml)) (aA e me)
def spSomeW (K : PySem.W.Frag) : Sp := fun vs H Q _ => ∃ (b : Addr) (w0 w1 w2 w3 : Str) (M : Addr → Prop), vs = [.ref b] ∧ H b = some (.lst ([w0, w1, w2, w3].map V.str)) ∧ (∀ x ∈ [w0, w1, w2, w3], isW x = true) ∧ Pre M H ∧
  ∀ (o : Addr) (os : List V) (ods : List PyData) (H' : Hp), H o = none → L2.Same H H' → H' o = some (.lst os) → Avs K M H' os ods → ods.length = 27 → AllS 36 60 4 ods → Q (.ref o) H'
theorem cLawSomeWords (T : Txt K mg) : Cal P w K mg base 1 "_law_some_words" (spSomeW K) [] := by
  refine cal_of T.lawSomeWords scLawSomeWords (fun _ _ _ _ _ _ us hl => match us, hl with | [_], _ => rfl) (fun vs H Q E h => ?_) (fun f cdv A outer s H vs Q E hr h => ?_)
  · obtain ⟨b, w0, w1, w2, w3, M, rfl, _⟩ := h
    rfl
  obtain ⟨b, w0, w1, w2, w3, M, rfl, gb, hw, pr, q⟩ := h
  refine ⟨_, (pss_cons (ps_set (i := 1) scLawSomeWords.nd rfl (.inl rfl) (pe_ix ix_list (pv 0) pe_int (fun _ _ => rfl)))
 (pss_cons (ps_set (i := 2) scLawSomeWords.nd rfl (.inl rfl) (pe_lst (exs_cons (K := K) ex_str (exs_cons ex_str (exs_cons ex_str (exs_cons ex_str (exs_cons ex_str (exs_cons ex_str (exs_cons ex_str (exs_cons ex_str (exs_cons ex_str (exs_cons ex_mulT (exs_cons ex_mulA (exs_cons ex_str (exs_cons ex_str (exs_cons ex_str (exs_cons ex_str (exs_cons ex_str (exs_cons ex_str exs_nil)))))))))))))))))))
 (pss_one (ps_ret (pe_op op_cat (pv 2) (pe_lst (exs_cons (K := K) (ex_var (pv 1)) (exs_cons (ex_up (ex_var (pv 1))) (exs_cons (ex_add rfl (ex_var (pv 1)) ex_str) (exs_cons (ex_lst (exs_cons (ex_var (pv 1)) exs_nil)) (exs_cons (ex_tup (exs_cons (ex_var (pv 1)) exs_nil)) (exs_cons ex_non (exs_cons ex_int (exs_cons ex_bl (exs_cons ex_dct (exs_cons (ex_add rfl (ex_var (pv 1)) (ex_slT rfl (ex_var (pv 1)) ex_int)) exs_nil)))))))))))))))), ?_⟩
  have hw0 : isW w0 = true := hw w0 (by simp)
  have sw := word_small hw0 (k := 36) (by decide)
  have ⟨lw, aw⟩ := fit_str.mp sw.1
  have bw : w0.cps.size ≤ 12 := by simpa only [PyData.bulk] using sw.2.1
  refine ⟨.ref b, rfl, b, _, 0, .str w0, rfl, rfl, lst_of gb, atI_nat (j := 0) rfl, ?_⟩
  have r1 : RT 36 [Rho.no, .dat (.str w0)] [(0, 0), (12, 0)] := .cons trivial (.cons sw .nil)
  have su : Small 36 (.str (Txt.upper w0)) (14, 0) := by
    have ⟨u1, u2⟩ := up_len aw
    have u3 : (Txt.upper w0).cps.size = w0.cps.size := u1
    exact ⟨fit_str.mpr ⟨by rw [u1]; exact lw, u2⟩, by simp only [PyData.bulk]; omega, by simp [PyData.depth]⟩
  have sc : Small 36 (.str (w0 ++ cutS w0 none (some 1))) (30, 0) := by
    have u1 : (cutS w0 none (some 1)).cps.size ≤ w0.cps.size := cutS_length w0 _ _
    have e : (w0 ++ cutS w0 none (some 1)).cps.size = w0.cps.size + (cutS w0 none (some 1)).cps.size := Array.size_append
    exact ⟨fit_str.mpr ⟨by show (w0 ++ cutS w0 none (some 1)).cps.size ≤ _; omega, asc_app aw (asc_cut aw _ _)⟩, by simp only [PyData.bulk]; omega, by simp [PyData.depth]⟩
  have r2 : RT 36 [Rho.no, .dat (.str w0), .no, .dat (.str (Txt.upper w0)), .dat (.str (w0 ++ " ")), .dat (.str (w0 ++ cutS w0 none (some 1)))] [(0, 0), (12, 0), (0, 0), (14, 0), (14, 0), (30, 0)] := .cons trivial (.cons sw (.cons trivial (.cons su (.cons (small_wn hw0 (by decide) (by decide)) (.cons sc .nil)))))
  have en : ∀ {N : Addr → Prop} {G : Hp} {t : Option V}, EnvA K N G [some (.ref b), some (.str w0), t] [.no, .dat (.str w0)] := ⟨⟨_, rfl, .str _⟩, trivial⟩
  refine exs_menu2 (L' := (.cons (.con (.str "all")) (.cons (.con (.str "none")) (.cons (.con (.str "some")) (.cons (.con (.str "and")) (.cons (.con (.str "each")) (.cons (.con (.str "is")) (.cons (.con (.str "")) (.cons (.con (.str "alls")) (.cons (.con (.str "nonee")) (.cons (.con (.str "aaaaaaaaaa")) (.cons (.con (.str "aaaaaaaaaaa")) (.cons (.con (.str "A")) (.cons (.con (.str "a b")) (.cons (.con (.str "a1")) (.cons (.con (.str "a-b")) (.cons (.con (.str "a\n")) (.cons (.con (.str " a")) .nil)))))))))))))))))) M 36 60 4 pr en r1 r2 (by decide) (by decide +kernel) rfl rfl (by decide +kernel) (by decide +kernel) (by decide +kernel) fun vs1 X1 s1 h1 a1 => ⟨by rw [h1.len]; exact Nat.le_trans (show 17 ≤ 1000 by decide) (by decide), fun p1 np1 => ?_⟩
  have s2 := same_up (o := .lst vs1) np1
  have g1 : upd X1 p1 (.lst vs1) p1 = some (.lst vs1) := upd_same
  have h1' := h1.s s2
  generalize upd X1 p1 (.lst vs1) = X2 at s2 g1 h1' ⊢
  have s12 := s1.trans s2
  refine ⟨.ref p1, rfl, exs_menu2 (L' := (.cons (.var 1) (.cons (.var 3) (.cons (.var 4) (.cons (.lst (.cons (.var 1) .nil)) (.cons (.tup (.cons (.var 1) .nil)) (.cons (.con .none) (.cons (.con (.int 7)) (.cons (.con (.bool true)) (.cons (.con (.dict [])) (.cons (.var 5) .nil))))))))))) M 36 60 4 (pr.same s12) en r1 r2 (by decide) (by decide +kernel) rfl rfl (by decide +kernel) (by decide +kernel) (by decide +kernel) fun vs2 X3 s3 h2 a2 => ⟨by rw [h2.len]; exact Nat.le_trans (show 10 ≤ 1000 by decide) (by decide), fun p2 np2 => ?_⟩⟩
  have s4 := same_up (o := .lst vs2) np2
  have g2 : upd X3 p2 (.lst vs2) p2 = some (.lst vs2) := upd_same
  have h2' := h2.s s4
  generalize upd X3 p2 (.lst vs2) = X4 at s4 g2 h2' ⊢
  have s34 := s3.trans s4
  have hA := (h1'.s s34).app h2'
  refine ⟨p1, p2, vs1, vs2, rfl, rfl, s34 _ _ g1, g2, by rw [h1.len, h2.len]; exact Nat.le_trans (show 27 ≤ 1000 by decide) (by decide), fun o no => ?_⟩
  have s5 := same_up (o := .lst (vs1 ++ vs2)) no
  have sA := (s12.trans s34).trans s5
  exact q o _ _ _ ((s12.trans s34).free no) sA upd_same (hA.s s5) rfl (a1.app a2)
end
end K01
set_option Elab.async false
set_option linter.all false
set_option autoImplicit false
set_option maxRecDepth 100000
set_option maxHeartbeats 4000000
namespace K01
open PySem PySem.Spec PyProof.Rows L2 Tl
open C8 (Cal pe_c)
/-! ### how great drawn values are -/
section
variable {K : PySem.W.Frag} {M : Addr → Prop} {H : Hp}
mutual
theorem av_dt : ∀ (d : PyData) (v : V), Dt K H v d → Av K M H v d
  | .none, _, h => by cases h; exact .non
  | .bool _, _, h => by cases h; exact .bl _
  | .int _, _, h => by cases h; exact .int _
  | .str _, _, h => by cases h; exact .str _
  | .list _, _, h => by cases h
  | .tuple ds, _, h => by
    cases h with
    | tup h1 h2 => exact .tup h1 (avs_dt ds _ h2)
  | .dict _, _, h => by cases h
theorem avs_dt : ∀ (ds : List PyData) (vs : List V), Dts K H vs ds → Avs K M H vs ds
  | [], _, h => by cases h; exact .nil
  | d :: ds, _, h => by
    cases h with
    | cons h1 h2 => exact .cons (av_dt d _ h1) (avs_dt ds _ h2)
end
end
theorem bulk_tup0 (ds : List PyData) : (PyData.tuple ds).bulk = PyData.bulkAll ds := by simp only [PyData.bulk]
theorem w_bulk {x : Str} (h : isW x = true) : (PyData.str x).bulk ≤ 12 := (word_small h (k := 36) (by decide)).2.1
theorem con_fit : ∀ {c : C}, COk c → fit 36 c.d = true
  | .all, _ => by decide +kernel
  | .non, _ => by decide +kernel
  | .word x, h => fit_tup.mpr ⟨by show 2 ≤ 36; decide, fun d m => by
      simp only [List.mem_cons, List.not_mem_nil, or_false] at m
      rcases m with rfl | rfl
      · decide +kernel
      · exact (word_small h (by decide)).1⟩
  | .some r c, h => fit_tup.mpr ⟨by show 3 ≤ 36; decide, fun d m => by
      simp only [List.mem_cons, List.not_mem_nil, or_false] at m
      rcases m with rfl | rfl | rfl
      · decide +kernel
      · exact (word_small h.1 (by decide)).1
      · exact con_fit h.2⟩
  | .and a b, h => fit_tup.mpr ⟨by show 3 ≤ 36; decide, fun d m => by
      simp only [List.mem_cons, List.not_mem_nil, or_false] at m
      rcases m with rfl | rfl | rfl
      · decide +kernel
      · exact con_fit h.1
      · exact con_fit h.2⟩
theorem b_str (s : Str) (n : Nat) (h : s.cps.size = n) : (PyData.str s).bulk = n := by simp only [PyData.bulk]; exact h
theorem dep_pos : ∀ c : C, 1 ≤ dep c
  | .all => Nat.le_refl _
  | .non => Nat.le_refl _
  | .word _ => Nat.le_refl _
  | .some _ _ => Nat.le_add_left _ _
  | .and _ _ => Nat.le_add_left _ _
theorem con_b1 : ∀ {c : C}, COk c → c.d.bulk ≤ 20 * nodes c
  | .all, _ => by decide +kernel
  | .non, _ => by decide +kernel
  | .word x, h => by
    have := w_bulk h
    have e := b_str "word" 4 (by decide +kernel)
    simp only [C.d, bulk_tup0, PyData.bulkAll, nodes]
    omega
  | .some r c, h => by
    have := w_bulk h.1
    have e := b_str "some" 4 (by decide +kernel)
    have i := con_b1 h.2
    simp only [C.d, bulk_tup0, PyData.bulkAll, nodes]
    omega
  | .and a b, h => by
    have e := b_str "and" 3 (by decide +kernel)
    have i := con_b1 h.1
    have j := con_b1 h.2
    simp only [C.d, bulk_tup0, PyData.bulkAll, nodes]
    omega
theorem con_b2 : ∀ {c : C} {n : Nat}, COk c → dep c ≤ n + 1 → c.d.bulk + 6 ≤ 24 * 2 ^ n
  | .all, n, _, _ => by
    have := Nat.two_pow_pos n
    have e : (C.all.d).bulk = 4 := by decide +kernel
    omega
  | .non, n, _, _ => by
    have := Nat.two_pow_pos n
    have e : (C.non.d).bulk = 5 := by decide +kernel
    omega
  | .word x, n, h, _ => by
    have := w_bulk h
    have e := b_str "word" 4 (by decide +kernel)
    have := Nat.two_pow_pos n
    simp only [C.d, bulk_tup0, PyData.bulkAll]
    omega
  | .some r c, 0, h, l => by
    have := dep_pos c
    have l : dep c + 1 ≤ 1 := l
    omega
  | .some r c, n + 1, h, l => by
    have := w_bulk h.1
    have e := b_str "some" 4 (by decide +kernel)
    have l : dep c + 1 ≤ n + 1 + 1 := l
    have i := con_b2 (n := n) h.2 (by omega)
    have := Nat.two_pow_pos n
    rw [Nat.pow_succ]
    simp only [C.d, bulk_tup0, PyData.bulkAll]
    omega
  | .and a b, 0, h, l => by
    have := dep_pos a
    have l : Nat.max (dep a) (dep b) + 1 ≤ 1 := l
    have : dep a ≤ Nat.max (dep a) (dep b) := Nat.le_max_left _ _
    omega
  | .and a b, n + 1, h, l => by
    have l : Nat.max (dep a) (dep b) + 1 ≤ n + 1 + 1 := l
    have la : dep a ≤ Nat.max (dep a) (dep b) := Nat.le_max_left _ _
    have lb : dep b ≤ Nat.max (dep a) (dep b) := Nat.le_max_right _ _
    have e := b_str "and" 3 (by decide +kernel)
    have i := con_b2 (n := n) h.1 (by omega)
    have j := con_b2 (n := n) h.2 (by omega)
    rw [Nat.pow_succ]
    simp only [C.d, bulk_tup0, PyData.bulkAll]
    omega
theorem con_p : ∀ c : C, c.d.depth ≤ dep c
  | .all => by decide +kernel
  | .non => by decide +kernel
  | .word x => by simp only [C.d, PyData.depth, PyData.depthAll, dep]; exact Nat.le_refl _
  | .some r c => by
    have := con_p c
    simp only [C.d, PyData.depth, PyData.depthAll, dep]
    omega
  | .and a b => by
    have := con_p a
    have := con_p b
    simp only [C.d, PyData.depth, PyData.depthAll, dep]
    have la : dep a ≤ Nat.max (dep a) (dep b) := Nat.le_max_left _ _
    have lb : dep b ≤ Nat.max (dep a) (dep b) := Nat.le_max_right _ _
    omega
/-- what each of the three drawn things is -/
abbrev Dr (d : PyData) : Prop := Small 36 d (740, 14)
theorem dr_con {c : C} (ok : COk c) (hd : dep c ≤ 12) (hn : nodes c ≤ 30) : Dr c.d := ⟨con_fit ok, by have := con_b1 ok; show c.d.bulk ≤ 740; omega, by have := con_p c; show c.d.depth ≤ 14; omega⟩
def axT (e : C × C) : PyData := .tuple [e.1.d, e.2.d]
theorem ax_small {e : C × C} (h : Sm e) : fit 36 (axT e) = true ∧ (axT e).bulk ≤ 182 ∧ (axT e).depth ≤ 4 := by
  obtain ⟨o1, d1, o2, d2⟩ := h
  have b1 := con_b2 (n := 2) o1 d1
  have b2 := con_b2 (n := 2) o2 d2
  have p1 := con_p e.1
  have p2 := con_p e.2
  refine ⟨fit_tup.mpr ⟨by show 2 ≤ 36; decide, fun d m => ?_⟩, ?_, ?_⟩
  · simp only [List.mem_cons, List.not_mem_nil, or_false] at m
    rcases m with rfl | rfl
    · exact con_fit o1
    · exact con_fit o2
  · simp only [axT, bulk_tup0, PyData.bulkAll]
    omega
  · simp only [axT, PyData.depth, PyData.depthAll]
    omega
theorem dr_book {bs : List (C × C)} (h : ∀ e ∈ bs, Sm e) (l : bs.length ≤ 4) : Dr (.tuple (bs.map axT)) := by
  have hb : ∀ bs : List (C × C), (∀ e ∈ bs, Sm e) → PyData.bulkAll (bs.map axT) ≤ 183 * bs.length := fun bs => by
    induction bs with
    | nil => intro _; rw [List.map_nil, PyData.bulkAll]; exact Nat.zero_le _
    | cons e bs ih =>
      intro h
      have := (ax_small (h e List.mem_cons_self)).2.1
      have := ih fun e m => h e (List.mem_cons_of_mem _ m)
      rw [List.map_cons, PyData.bulkAll, List.length_cons]
      omega
  refine ⟨fit_tup.mpr ⟨by rw [List.length_map]; omega, fun d m => ?_⟩, ?_, ?_⟩
  · obtain ⟨e, he, rfl⟩ := List.mem_map.mp m
    exact (ax_small (h e he)).1
  · rw [bulk_tup0]
    have := hb bs h
    show _ ≤ 740
    omega
  · have : PyData.depthAll (bs.map axT) ≤ 4 := depth_le.mpr fun d m => by
      obtain ⟨e, he, rfl⟩ := List.mem_map.mp m
      exact (ax_small (h e he)).2.2
    simp only [PyData.depth]
    omega
theorem av_book {K : PySem.W.Frag} {M : Addr → Prop} {H : Hp} {v : V} {bs : List (C × C)} (h : Bk K H v bs) : Av K M H v (.tuple (bs.map axT)) := by
  obtain ⟨a, xs, rfl, ha, hp⟩ := h
  refine .tup ha ?_
  clear ha
  induction hp with
  | nil => exact .nil
  | cons r t ih =>
    obtain ⟨p, u, y, rfl, h1, h2, h3⟩ := r
    exact .cons (.tup h1 (.cons (av_dt _ _ h2) (.cons (av_dt _ _ h3) .nil))) ih
theorem dr_voc {xs ys : List Str} (hx : ∀ x ∈ xs, isW x = true) (hy : ∀ x ∈ ys, isW x = true) (lx : xs.length ≤ 4) (ly : ys.length ≤ 4) : Dr (.tuple [.tuple (xs.map .str), .tuple (ys.map .str)]) := by
  have one : ∀ xs : List Str, (∀ x ∈ xs, isW x = true) → xs.length ≤ 4 → fit 36 (.tuple (xs.map .str)) = true ∧ (PyData.tuple (xs.map .str)).bulk ≤ 60 ∧ (PyData.tuple (xs.map .str)).depth ≤ 1 := fun xs hx l => by
    have hb : ∀ xs : List Str, (∀ x ∈ xs, isW x = true) → PyData.bulkAll (xs.map .str) ≤ 13 * xs.length := fun bs => by
      induction bs with
      | nil => intro _; rw [List.map_nil, PyData.bulkAll]; exact Nat.zero_le _
      | cons e bs ih =>
        intro h
        have := w_bulk (h e List.mem_cons_self)
        have := ih fun e m => h e (List.mem_cons_of_mem _ m)
        rw [List.map_cons, PyData.bulkAll, List.length_cons]
        omega
    refine ⟨fit_tup.mpr ⟨by rw [List.length_map]; omega, fun d m => ?_⟩, ?_, ?_⟩
    · obtain ⟨e, he, rfl⟩ := List.mem_map.mp m
      exact (word_small (hx e he) (by decide)).1
    · rw [bulk_tup0]
      have := hb xs hx
      omega
    · have : PyData.depthAll (xs.map .str) ≤ 0 := depth_le.mpr fun d m => by
        obtain ⟨e, he, rfl⟩ := List.mem_map.mp m
        simp [PyData.depth]
      simp only [PyData.depth]
      omega
  have a := one xs hx lx
  have b := one ys hy ly
  refine ⟨fit_tup.mpr ⟨by show 2 ≤ 36; decide, fun d m => ?_⟩, ?_, ?_⟩
  · simp only [List.mem_cons, List.not_mem_nil, or_false] at m
    rcases m with rfl | rfl
    · exact a.1
    · exact b.1
  · rw [bulk_tup0]
    simp only [PyData.bulkAll]
    show _ ≤ 740
    omega
  · show _ ≤ 14
    have e : (PyData.tuple [.tuple (xs.map .str), .tuple (ys.map .str)]).depth = max (PyData.tuple (xs.map .str)).depth (max (PyData.tuple (ys.map .str)).depth 0) + 1 := by
      rw [PyData.depth, PyData.depthAll, PyData.depthAll, PyData.depthAll]
    rw [e]
    omega
/-! ### where the law's body is -/
structure Stt (K : PySem.W.Frag) (M : Addr → Prop) (X : Hp) (d l b od p : Addr) (os : List V) (ods : List PyData) (ws : List Str) (n : Nat) : Prop where
  D : Deck X d l
  gb : X b = some (.lst (ws.map V.str))
  o : OddL K (With M p) X d l od os ods
  pr : Pre (With M p) X
  it : ∃ zs dz, X p = some (.lst zs) ∧ Avs K (With M p) X zs dz ∧ AllS 38 3500 60 dz ∧ dz.length ≤ n
/-- what does not change -/
structure Fix (M : Addr → Prop) (d l b od p : Addr) : Prop where
  md : M d
  ml : M l
  pd : p ≠ d
  pl : p ≠ l
  bd : b ≠ d
  bl : b ≠ l
  bp : b ≠ p
  op : od ≠ p
section
variable {K : PySem.W.Frag} {M : Addr → Prop} {X Y : Hp} {d l b od p : Addr} {os : List V} {ods : List PyData} {ws : List Str} {n : Nat}
theorem Fix.mD (F : Fix M d l b od p) : With M p d := .inl F.md
theorem Fix.mL (F : Fix M d l b od p) : With M p l := .inl F.ml
theorem Stt.off (S : Stt K M X d l b od p os ods ws n) (F : Fix M d l b od p) (o : Off d l X Y) (D : Deck Y d l) : Stt K M Y d l b od p os ods ws n := by
  obtain ⟨zs, dz, g, av, al, le⟩ := S.it
  exact ⟨D, o _ _ F.bd F.bl S.gb, S.o.off o S.D F.mD F.mL, pre_off S.pr o D, zs, dz, o _ _ F.pd F.pl g, av.k (off_keep o S.D F.mD F.mL), al, le⟩
theorem Stt.same (S : Stt K M X d l b od p os ods ws n) (F : Fix M d l b od p) (s : L2.Same X Y) : Stt K M Y d l b od p os ods ws n := S.off F (s.off (d := d) (l := l)) (S.D.same s)
/-- more of them -/
theorem Stt.ext {c : Addr} {vs : List V} {es : List PyData} {m : Nat} {Q : VK} (S : Stt K M X d l b od p os ods ws n) (F : Fix M d l b od p) (g : X c = some (.lst vs)) (h : Avs K (With M p) X vs es) (a : AllS 38 3500 60 es) (hm : n + es.length ≤ m) (hm2 : m ≤ 1000)
    (q : ∀ Y, Keep (With M p) X Y → Stt K M Y d l b od p os ods ws m → Q .non Y) : rExtend (.ref p) [.ref c] X Q := by
  obtain ⟨zs, dz, gp, av, al, le⟩ := S.it
  refine ⟨p, c, zs, vs, rfl, rfl, gp, g, ?_, q _ (keep_p gp) ⟨S.D.mut F.pd F.pl, ?_, ?_, ?_, zs ++ vs, dz ++ es, upd_same, (av.app h).k (keep_p gp), al.app a, ?_⟩⟩
  · rw [av.len, h.len]
    exact Nat.le_trans (show _ ≤ 1000 by omega) (by decide)
  · rw [upd_ne F.bp]
    exact S.gb
  · have h := S.o
    refine ⟨seq_off (fun o z => ?_) h.sq, h.nd, h.nl, h.av.k (keep_p gp), h.ne, h.len, h.all⟩
    rw [upd_ne F.op]
    exact z
  · refine ⟨S.pr.1, fun z m n => ?_⟩
    by_cases e : z = p
    · subst e
      rw [upd_same] at n
      cases n
    · rw [upd_ne e] at n
      exact S.pr.2 z m n
  · rw [List.length_append]
    omega
theorem Stt.words (S : Stt K M X d l b od p os ods ws n) (F : Fix M d l b od p) (h : ∀ x ∈ ws, isW x = true) (ne : ws ≠ []) (le : ws.length ≤ 100) : Words K X d l b ws := ⟨lst_of S.gb, F.bd, F.bl, ne, le, h⟩
end
def gIW {α : Type} : List α → List α → List α
  | [], [x] => [x]
  | _, _ => []
theorem kbIsWord : KBindH "is_word" sIsWord ["thing"] ["thing"] gIW := fun kV doc pm an cdv ct us ws h => by
  match us, ws, h with
  | [], [_], _ => rfl
  | [], [], h => cases h
  | [], _ :: _ :: _, h => cases h
  | _ :: _, _, h => cases h
theorem kbIsConcept : KBindH "is_concept" sIsConcept ["thing"] ["thing"] gIW := fun kV doc pm an cdv ct us ws h => by
  match us, ws, h with
  | [], [_], _ => rfl
  | [], [], h => cases h
  | [], _ :: _ :: _, h => cases h
  | _ :: _, _, h => cases h
theorem kbIsBook : KBindH "is_book" sIsBook ["thing"] ["thing"] gIW := fun kV doc pm an cdv ct us ws h => by
  match us, ws, h with
  | [], [_], _ => rfl
  | [], [], h => cases h
  | [], _ :: _ :: _, h => cases h
  | _ :: _, _, h => cases h
theorem kbIsVocabulary : KBindH "is_vocabulary" sIsVocabulary ["thing"] ["thing"] gIW := fun kV doc pm an cdv ct us ws h => by
  match us, ws, h with
  | [], [_], _ => rfl
  | [], [], h => cases h
  | [], _ :: _ :: _, h => cases h
  | _ :: _, _, h => cases h
theorem relIW {vs : List V} {us : List Value} {zs : List V} {ws : List Value} (a : Vals vs us) (b : Vals zs ws) : Vals (gIW vs zs) (gIW us ws) := by
  cases a with
  | cons _ _ => exact .nil
  | nil =>
    cases b with
    | nil => exact .nil
    | cons r b =>
      cases b with
      | nil => exact .cons r .nil
      | cons _ _ => exact .nil
end K01
set_option Elab.async false
set_option linter.all false
set_option autoImplicit false
set_option maxRecDepth 100000
set_option maxHeartbeats 8000000
namespace K01
open PySem PySem.Spec PyProof.Rows L2 Tl
open C8 (Cal pe_c)
theorem cutV_to {xs : List V} (k : Nat) : cutV xs none (some (k : Int)) = xs.take k := by
  unfold cutV
  rw [HT.sIx_none, HT.sIx_nat, List.drop_zero, Nat.sub_zero]
  by_cases h : k ≤ xs.length
  · rw [Nat.min_eq_left h]
  · rw [Nat.min_eq_right (by omega), List.take_of_length_le (Nat.le_refl _), List.take_of_length_le (by omega)]
def kd (e : PyData) : PyData := .tuple [.bool (wordD e), .bool (conD e), .bool (bookD e), .bool (vocD e)]
theorem kd_small (e : PyData) : Small 36 (kd e) (4, 1) := by
  have := Ex.menu2 (k := 36) (b := 4) (p := 1) (ρ := [.dat (.bool (wordD e)), .dat (.bool (conD e)), .dat (.bool (bookD e)), .dat (.bool (vocD e))]) (τ := [(0, 0), (0, 0), (0, 0), (0, 0)])
    (.cons ⟨rfl, by simp [PyData.bulk], by simp [PyData.depth]⟩ (.cons ⟨rfl, by simp [PyData.bulk], by simp [PyData.depth]⟩ (.cons ⟨rfl, by simp [PyData.bulk], by simp [PyData.depth]⟩ (.cons ⟨rfl, by simp [PyData.bulk], by simp [PyData.depth]⟩ .nil))))
    (L := .cons (.tup (.cons (.var 0) (.cons (.var 1) (.cons (.var 2) (.cons (.var 3) .nil))))) .nil) (by decide +kernel) (by decide +kernel) rfl (by decide +kernel)
  exact this _ List.mem_cons_self
section
variable {P : Program} {w : World} {K : PySem.W.Frag} {mg : Str → Option Value} {base : Heap}
def spLaw (K : PySem.W.Frag) : Sp := fun vs H Q _ => ∃ (a : Addr) (ns : List Int), vs = [.ref a] ∧ SqL K H a (ns.map V.int) ∧ ns.length ≤ 63 ∧ ∀ H', Q (.bl true) H'
theorem gLaw (T : Txt K mg) {f : Addr} {fd : FuncData} (F : L2.Fun K "law" "law" sLaw f fd) : FnG P w K mg base CX0 13 f fd ["script"] (spLaw K) := by
  refine Tl.Fun.okG F scLaw (fun vs H Q E h => ?_) (fun cdv A outer s H vs Q E quiet hr h => ?_)
  · obtain ⟨a, ns, rfl, _⟩ := h
    rfl
  obtain ⟨a, ns, rfl, ha, n63, q⟩ := h
  have hu64 := hr.units
  have bare : (A.deeper (envOfC "law" (defScope sLaw) s.heap.objs.size f cdv)).guards = some [] := quiet
  refine ⟨_, (pss_cons (ps_set (i := 1) scLaw.nd rfl (.inl rfl) (pe_c (cLawDeck T) hr (by decide) rfl (pa_cons (pv 0) pa_nil)))
 (pss_cons (ps_set (i := 2) scLaw.nd rfl (.inl rfl) (pe_c (cLawWords T) hr (by decide) rfl (pa_cons (pv 1) (pa_cons pe_int pa_nil))))
 (pss_cons (ps_set (i := 3) scLaw.nd rfl (.inl rfl) (pe_c (cLawOdd T) hr (by decide) rfl (pa_cons (pv 2) pa_nil)))
 (pss_cons (ps_set (i := 4) scLaw.nd rfl (.inl rfl) (pe_slice sl_list (pe_c (cLawMixed T) hr (by decide) rfl (pa_cons (pv 1) (pa_cons (pe_c (cLawSomeWords T) hr (by decide) rfl (pa_cons (pv 2) pa_nil)) pa_nil))) po_none (po_some pe_int)))
 (pss_cons (ps_for PassesOwn.never rfl (pi_range1 rfl T.range (pa_cons pe_int pa_nil)) (pg_name (i := 5) scLaw.nd rfl (.inl rfl))
 (C8.pss_cut (ps_set (i := 6) scLaw.nd rfl (.inl rfl) (pe_ifExp (pt_cmpR op_lt (pv 5) pe_int (nomark _)) (pe_c (cLawConcept T 4) hr (by decide) rfl (pa_cons (pv 1) (pa_cons (pv 2) (pa_cons pe_int pa_nil)))) (pe_c (cLawLong T) hr (by decide) rfl (pa_cons (pv 1) (pa_cons (pv 2) pa_nil)))))
 (pss_cons (ps_set (i := 7) scLaw.nd rfl (.inl rfl) (pe_c (cLawBook T) hr (by decide) rfl (pa_cons (pv 1) (pa_cons (pv 2) (pa_cons pe_int (pa_cons pe_int pa_nil))))))
 (pss_cons (ps_set (i := 8) scLaw.nd rfl (.inl rfl) (pe_tup (pa_cons (pe_callTy call_tuple_of (by rfl) T.tuple (by decide +kernel) (pa_cons (pe_callB cr_sortedS (by rfl) T.sorted (by decide +kernel) (pa_cons (pe_slice sl_list (pv 2) po_none (po_some (pe_c (cLawDraw T) hr (by decide) rfl (pa_cons (pv 1) (pa_cons pe_int pa_nil))))) pa_nil)) pa_nil)) (pa_cons (pe_callTy call_tuple_of (by rfl) T.tuple (by decide +kernel) (pa_cons (pe_callB cr_sortedS (by rfl) T.sorted (by decide +kernel) (pa_cons (pe_slice sl_list (pv 2) (po_some (pe_c (cLawDraw T) hr (by decide) rfl (pa_cons (pv 1) (pa_cons pe_int pa_nil)))) po_none) pa_nil)) pa_nil)) pa_nil))))
 (pss_cons (ps_for PassesOwn.never rfl (pi_tup (pe_tup (pa_cons (pv 6) (pa_cons (pv 7) (pa_cons (pv 8) pa_nil))))) (pg_name (i := 9) scLaw.nd rfl (.inl rfl))
 (pss_cons (ps_set (i := 10) scLaw.nd rfl (.inl rfl) (pe_c (cLawBent T 10) hr (by decide) rfl (pa_cons (pv 1) (pa_cons (pv 9) (pa_cons (pv 3) (pa_cons pe_int pa_nil))))))
 (pss_one (ps_expr (pe_bm PySem.F.plainAttrs_list PySem.F.slot_list_extend PySem.F.type_list_extend mt_extend (pv 4) (pa_cons (pe_lst (pa_cons (pv 9) (pa_cons (pv 10) (pa_cons (pe_c (cLawBent T 10) hr (by decide) rfl (pa_cons (pv 1) (pa_cons (pv 10) (pa_cons (pv 3) (pa_cons pe_int pa_nil))))) pa_nil)))) pa_nil))))))
 (pss_one (ps_expr (pe_bm PySem.F.plainAttrs_list PySem.F.slot_list_extend PySem.F.type_list_extend mt_extend (pv 4) (pa_cons (pe_lst (pa_cons (pe_c (cLawNoConcept T) hr (by decide) rfl (pa_cons (pv 1) (pa_cons (pv 2) pa_nil))) (pa_cons (pe_c (cLawNoBook T) hr (by decide) rfl (pa_cons (pv 1) (pa_cons (pv 2) pa_nil))) (pa_cons (pe_c (cLawNoVocabulary T) hr (by decide) rfl (pa_cons (pv 1) (pa_cons (pv 2) pa_nil))) pa_nil)))) pa_nil)))))))))
 (pss_cons (ps_for PassesOwn.never rfl (pi_enum rfl T.enumerate (pa_cons (pv 4) pa_nil)) (pg_tup rfl (pgs_cons (pg_name (i := 11) scLaw.nd rfl (.inl rfl)) (pgs_cons (pg_name (i := 9) scLaw.nd rfl (.inl rfl)) pgs_nil)))
 (pss_cons (ps_set (i := 12) scLaw.nd rfl (.inl rfl) (pe_tup (pa_cons (pe_c (cLawIsWordA T) hr (by decide) rfl (pa_cons (pv 9) pa_nil)) (pa_cons (pe_c (cLawIsConcept T) hr (by decide) rfl (pa_cons (pv 9) pa_nil)) (pa_cons (pe_c (cLawIsBook T) hr (by decide) rfl (pa_cons (pv 9) pa_nil)) (pa_cons (pe_c (cLawIsVocabulary T) hr (by decide) rfl (pa_cons (pv 9) pa_nil)) pa_nil))))))
 (pss_cons (ps_set (i := 13) scLaw.nd rfl (.inl rfl) (pe_callB (cr_repA bare hu64) (by rfl) T.repr (by decide +kernel) (pa_cons (pv 9) pa_nil)))
 (C8.pss_cut (ps_if (pt_cmpR op_gt (pe_op op_mod (pe_callTy call_int1 (by rfl) T.int (by decide +kernel) (pa_cons (pv 11) pa_nil)) pe_int) pe_int (nomark _))
 (pss_one (ps_set (i := 14) scLaw.nd rfl (.inl rfl) (pe_tup (pa_cons (pe_c (cIsWord T) hr (by decide) rfl (pa_cons (pv 9) pa_nil)) (pa_cons (pe_c (cIsConcept T) hr (by decide) rfl (pa_cons (pv 9) pa_nil)) (pa_cons (pe_c (cIsBook T) hr (by decide) rfl (pa_cons (pv 9) pa_nil)) (pa_cons (pe_c (cIsVocabulary T) hr (by decide) rfl (pa_cons (pv 9) pa_nil)) pa_nil)))))))
 (pss_one (ps_set (i := 14) scLaw.nd rfl (.inl rfl) (pe_tup (pa_cons (pe_ck (ps := ["thing"]) (ks := ["thing"]) (fIsWord T) hr (by decide) rfl kbIsWord relIW (pk_cons (pv 9) pk_nil)) (pa_cons (pe_ck (ps := ["thing"]) (ks := ["thing"]) (fIsConcept T) hr (by decide) rfl kbIsConcept relIW (pk_cons (pv 9) pk_nil)) (pa_cons (pe_ck (ps := ["thing"]) (ks := ["thing"]) (fIsBook T) hr (by decide) rfl kbIsBook relIW (pk_cons (pv 9) pk_nil)) (pa_cons (pe_ck (ps := ["thing"]) (ks := ["thing"]) (fIsVocabulary T) hr (by decide) rfl kbIsVocabulary relIW (pk_cons (pv 9) pk_nil)) pa_nil))))))))
 (pss_one (ps_if (PW.pt (pw_or (pt_cmpR op_ne (pe_callB (cr_repA bare hu64) (by rfl) T.repr (by decide +kernel) (pa_cons (pv 14) pa_nil)) (pe_callB (cr_repA bare hu64) (by rfl) T.repr (by decide +kernel) (pa_cons (pv 12) pa_nil)) (nomark _)) (pw_or1 (pt_cmpR op_ne (pe_callB (cr_repA bare hu64) (by rfl) T.repr (by decide +kernel) (pa_cons (pv 9) pa_nil)) (pv 13) (nomark _)))))
 (pss_one (ps_ret pe_bl))
 pss_nil))))))
 (pss_one (ps_ret pe_bl)))))))), ?_⟩
  refine ⟨.ref a, rfl, a, ns, rfl, ha, n63, fun d l G0 nd nl s0 D0 => ?_⟩
  refine ⟨.ref d, rfl, d, l, 4, rfl, D0, by omega, fun b ws G1 nb l4 hws nod bd bl o1 D1 gb => ?_⟩
  obtain ⟨w0, w1, w2, w3, rfl⟩ : ∃ w0 w1 w2 w3, ws = [w0, w1, w2, w3] := by
    match ws, l4 with
    | [a, b, c, e], _ => exact ⟨a, b, c, e, rfl⟩
  have pr1 : Pre (fun z => z = d ∨ z = l ∨ z = sysModules) G1 := ⟨.inr (.inr rfl), fun z m n => by
    obtain ⟨_, _, _, g1, g2, _⟩ := D1
    rcases m with rfl | rfl | rfl
    · rw [g1] at n; cases n
    · rw [g2] at n; cases n
    · rfl⟩
  generalize hM : (fun z => z = d ∨ z = l ∨ z = sysModules) = M at pr1
  have md : M d := by rw [← hM]; exact .inl rfl
  have ml : M l := by rw [← hM]; exact .inr (.inl rfl)
  refine ⟨.ref b, rfl, b, w0, w1, w2, w3, M, rfl, gb, hws, pr1, fun od os ods G2 nod2 s2 go hos one lo oall => ?_⟩
  have D2 := D1.same s2
  have gb2 := s2 _ _ gb
  have pr2 := pr1.same s2
  have odd := D1.off nod2
  have hOdd : OddL K M G2 d l od os ods := ⟨lst_of go, odd.1, odd.2, hos, one, lo, oall⟩
  -- the first eight
  refine ⟨.ref d, rfl, .ref b, rfl, b, w0, w1, w2, w3, M, rfl, gb2, hws, pr2, fun r0 os0 ods0 G3 nr0 s3 g3 av3 l27 al3 => ?_⟩
  have D3 := D2.same s3
  have r0d := D2.off nr0
  have ln3 := av3.len
  refine ⟨d, l, r0, os0, rfl, D3, lst_of g3, r0d.1, r0d.2, by omega, fun r4 ys G4 nr4 o4 D4 g4 my ly => ?_⟩
  have av4 : ∃ es, Avs K M G4 ys es ∧ ∀ e ∈ es, e ∈ ods0 := avs_pick fun y m => by
    obtain ⟨e, me, he⟩ := av3.mem (my y m)
    exact ⟨e, me, he.k (off_keep o4 D3 md ml)⟩
  obtain ⟨es4, av4, in4⟩ := av4
  refine ⟨8, rfl, r4, ys, rfl, lst_of g4, fun p np => ?_⟩
  rw [show (8 : Int) = ((8 : Nat) : Int) from rfl, cutV_to]
  have oA : Off d l G2 G4 := (s3.off (d := d) (l := l)).trans o4
  have gb4 := oA _ _ bd bl gb2
  have pdl := D4.off np
  have odp : od ≠ p := fun e => by
    have := oA _ _ odd.1 odd.2 go
    rw [e, np] at this
    cases this
  have bp : b ≠ p := fun e => by
    rw [e, np] at gb4
    cases gb4
  have F : Fix M d l b od p := ⟨md, ml, pdl.1, pdl.2, bd, bl, bp, odp⟩
  have S : Stt K M (upd G4 p (.lst (ys.take 8))) d l b od p os ods [w0, w1, w2, w3] 8 := by
    have sN := same_up (o := .lst (ys.take 8)) np
    have hO := hOdd.off oA D2 md ml
    have pr4 := pre_off pr2 oA D4
    have ln4 := av4.len
    refine ⟨D4.same sN, sN _ _ gb4, ⟨seq_off (fun o z => sN _ _ z) hO.sq, hO.nd, hO.nl, (hO.av.wi np).s sN, hO.ne, hO.len, hO.all⟩, pre_wi (pr4.same sN) upd_same, ys.take 8, es4.take 8, upd_same, ?_, fun e me => ?_, ?_⟩
    · have : ∀ {xs : List V} {ds : List PyData} (n : Nat), Avs K M G4 xs ds → Avs K M G4 (xs.take n) (ds.take n) := fun {xs ds} n h => by
        induction n generalizing xs ds with
        | zero => rw [List.take_zero, List.take_zero]; exact .nil
        | succ n ih => cases h with
          | nil => exact .nil
          | cons a b => exact .cons a (ih b)
      exact ((this 8 av4).wi np).s sN
    · have := al3 e (in4 e (List.mem_of_mem_take me))
      exact ⟨fit_up (by decide) this.1, by omega, by omega⟩
    · rw [List.length_take]
      omega
  generalize upd G4 p (.lst (ys.take 8)) = X0 at S ⊢
  -- three rounds
  refine ⟨3, rfl, by omega, by omega, ?_⟩
  refine for_range (lo := 0) (n := 3) (fun i σ X => (∃ t5 t6 t7 t8 t9 t10 : Option V, σ = [some (.ref a), some (.ref d), some (.ref b), some (.ref od), some (.ref p), t5, t6, t7, t8, t9, t10, none, none, none, none]) ∧ Stt K M X d l b od p os ods [w0, w1, w2, w3] (8 + 12 * i))
    ⟨⟨_, _, _, _, _, _, rfl⟩, S⟩ (fun i σ X hi z => ?_) (fun σ X z => ?_)
  · obtain ⟨⟨t5, t6, t7, t8, t9, t10, rfl⟩, S⟩ := z
    have hw4 : ∀ x ∈ [w0, w1, w2, w3], isW x = true := hws
    refine ⟨fun τ Y => ∃ (vc : V) (c : C), τ = [some (.ref a), some (.ref d), some (.ref b), some (.ref od), some (.ref p), some (.int (0 + (i : Int))), some vc, t7, t8, t9, t10, none, none, none, none] ∧ Con K Y vc c ∧ Dr c.d ∧ Off d l X Y ∧ Deck Y d l, ?_, ?_⟩
    · have W := S.words F hw4 (by simp) (by show 4 ≤ 100; decide)
      refine ⟨.int _, rfl, _, _, rfl, rfl, _, rfl, ite2 (fun c => ?_) (fun c => ?_)⟩
      · refine ⟨.ref d, rfl, .ref b, rfl, d, l, b, _, rfl, S.D, W, fun v c Y hc ok hd hn o D => ⟨v, c, rfl, hc, dr_con ok ?_ ?_, o, D⟩⟩
        · have hd : dep c ≤ 4 := hd
          omega
        · have hn : nodes c + 1 ≤ 16 := hn
          omega
      · exact ⟨.ref d, rfl, .ref b, rfl, d, l, b, _, rfl, S.D, W, fun v c Y hc ok hd hn o D => ⟨v, c, rfl, hc, dr_con ok hd hn, o, D⟩⟩
    rintro σ' Y1 ⟨vc, c, rfl, hc, drc, o1, D1'⟩
    have S1 := S.off F o1 D1'
    refine ⟨.ref d, rfl, .ref b, rfl, d, l, b, _, 4, rfl, D1', S1.words F hw4 (by simp) (by show 4 ≤ 100; decide), by omega, by omega, fun vb bs Y2 hb sm lb o2 D2' => ?_⟩
    have drb := dr_book sm (by omega)
    have S2 := S1.off F o2 D2'
    have hc2 := hc.st (o2.stay D1')
    have avc : Av K (With M p) Y2 vc c.d := av_dt _ _ hc2
    have avb : Av K (With M p) Y2 vb (.tuple (bs.map axT)) := av_book hb
    -- the vocabulary
    refine ⟨.ref b, rfl, .ref d, rfl, d, l, 4, rfl, D2', by omega, by omega, fun j Y3 j0 j1 o3 D3' => ⟨j, rfl, ?_⟩⟩
    obtain ⟨n, rfl⟩ := Int.eq_ofNat_of_zero_le j0
    have S3 := S2.off F o3 D3'
    refine ⟨b, _, rfl, lst_of S3.gb, fun q1 nq1 => ?_⟩
    rw [cutV_to, ← List.map_take]
    have sq1 := same_up (o := .lst (([w0, w1, w2, w3].take n).map V.str)) nq1
    have gq1 : upd Y3 q1 (.lst (([w0, w1, w2, w3].take n).map V.str)) q1 = some (.lst (([w0, w1, w2, w3].take n).map V.str)) := upd_same
    generalize upd Y3 q1 (.lst (([w0, w1, w2, w3].take n).map V.str)) = Y4 at sq1 gq1 ⊢
    have lt1 : ([w0, w1, w2, w3].take n).length ≤ 4 := by
      rw [List.length_take]
      exact Nat.min_le_right _ _
    refine ⟨q1, _, rfl, lst_of gq1, by omega, fun ys1 p1 perm1 so1 np1 => ?_⟩
    have sp1 := same_up (o := .lst (ys1.map V.str)) np1
    refine ⟨p1, _, rfl, .inl ⟨lst_of upd_same, fun r1 nr1 => ?_⟩⟩
    have sr1 := same_up (o := .tup (ys1.map V.str)) nr1
    have hr1 : SqT K (upd (upd Y4 p1 (.lst (ys1.map V.str))) r1 (.tup (ys1.map V.str))) r1 (ys1.map V.str) := tupOf upd_same
    have s35 := (sq1.trans sp1).trans sr1
    generalize upd (upd Y4 p1 (.lst (ys1.map V.str))) r1 (.tup (ys1.map V.str)) = Y5 at hr1 s35 ⊢
    have S5 := S3.same F s35
    refine ⟨.ref b, rfl, .ref d, rfl, d, l, 4, rfl, S5.D, by omega, by omega, fun j Y6 k0 k1 o6 D6' => ⟨j, rfl, ?_⟩⟩
    obtain ⟨m, rfl⟩ := Int.eq_ofNat_of_zero_le k0
    have S6 := S5.off F o6 D6'
    dsimp only [tNoPart]
    refine ⟨b, _, rfl, lst_of S6.gb, fun q2 nq2 => ?_⟩
    rw [cut_fromK, ← List.map_drop]
    have sq2 := same_up (o := .lst (([w0, w1, w2, w3].drop m).map V.str)) nq2
    have gq2 : upd Y6 q2 (.lst (([w0, w1, w2, w3].drop m).map V.str)) q2 = some (.lst (([w0, w1, w2, w3].drop m).map V.str)) := upd_same
    generalize upd Y6 q2 (.lst (([w0, w1, w2, w3].drop m).map V.str)) = Y7 at sq2 gq2 ⊢
    have lt2 : ([w0, w1, w2, w3].drop m).length ≤ 4 := by
      rw [List.length_drop]
      exact Nat.sub_le _ _
    refine ⟨q2, _, rfl, lst_of gq2, by omega, fun ys2 p2 perm2 so2 np2 => ?_⟩
    have sp2 := same_up (o := .lst (ys2.map V.str)) np2
    refine ⟨p2, _, rfl, .inl ⟨lst_of upd_same, fun r2 nr2 => ?_⟩⟩
    have sr2 := same_up (o := .tup (ys2.map V.str)) nr2
    have hr2 : SqT K (upd (upd Y7 p2 (.lst (ys2.map V.str))) r2 (.tup (ys2.map V.str))) r2 (ys2.map V.str) := tupOf upd_same
    have s68 := (sq2.trans sp2).trans sr2
    generalize upd (upd Y7 p2 (.lst (ys2.map V.str))) r2 (.tup (ys2.map V.str)) = Y8 at hr2 s68 ⊢
    have S8 := S6.same F s68
    refine ⟨by show 2 ≤ sizeLine; decide, fun vo nvo => ?_⟩
    have s9 := same_up (o := .tup [.ref r1, .ref r2]) nvo
    have hvo : SqT K (upd Y8 vo (.tup [.ref r1, .ref r2])) vo [.ref r1, .ref r2] := tupOf upd_same
    generalize upd Y8 vo (.tup [.ref r1, .ref r2]) = Y9 at s9 hvo ⊢
    have S9 := S8.same F s9
    have o29 : Off d l Y2 Y9 := ((((o3.trans (s35.off (d := d) (l := l))).trans o6).trans (s68.off (d := d) (l := l))).trans (s9.off (d := d) (l := l)))
    have drv := dr_voc (xs := ys1) (ys := ys2) (fun x m => hws x (List.mem_of_mem_take (perm1.mem_iff.mp m))) (fun x m => hws x (List.mem_of_mem_drop (perm2.mem_iff.mp m))) (by rw [perm1.length_eq]; exact lt1) (by rw [perm2.length_eq]; exact lt2)
    have avo : Av K (With M p) Y9 (.ref vo) (.tuple [.tuple (ys1.map .str), .tuple (ys2.map .str)]) :=
      .tup hvo (.cons (.tup ((Tl.Same.stay s9).tup ((Tl.Same.stay s68).tup ((o6.stay S5.D).tup hr1))) (avs_strs _)) (.cons (.tup ((Tl.Same.stay s9).tup hr2) (avs_strs _)) .nil))
    refine ⟨vc, rfl, vb, rfl, .ref vo, rfl, by show 3 ≤ sizeLine; decide, fun tt nt => ⟨tt, rfl, ⟨_, tupOf upd_same⟩, ?_⟩⟩
    have s10 := same_up (o := .tup [vc, vb, .ref vo]) nt
    have htt : SqT K (upd Y9 tt (.tup [vc, vb, .ref vo])) tt [vc, vb, .ref vo] := tupOf upd_same
    have kk := off_keep (o29.trans (s10.off (d := d) (l := l))) S2.D F.mD F.mL
    have hT : Avs K (With M p) (upd Y9 tt (.tup [vc, vb, .ref vo])) [vc, vb, .ref vo] [c.d, .tuple (bs.map axT), .tuple [.tuple (ys1.map .str), .tuple (ys2.map .str)]] :=
      .cons (avc.k kk) (.cons (avb.k kk) (.cons (avo.s s10) .nil))
    have drT : ∀ e ∈ [c.d, .tuple (bs.map axT), .tuple [.tuple (ys1.map .str), .tuple (ys2.map .str)]], Dr e := fun e m => by
      simp only [List.mem_cons, List.not_mem_nil, or_false] at m
      rcases m with rfl | rfl | rfl
      · exact drc
      · exact drb
      · exact drv
    have S10 := S9.same F s10
    generalize upd Y9 tt (.tup [vc, vb, .ref vo]) = Y10 at s10 htt hT S10 ⊢
    refine for_tup (K := K) (a := tt) (xs := [vc, vb, .ref vo]) (fun k σ Z => (∃ t9 t10 : Option V, σ = [some (.ref a), some (.ref d), some (.ref b), some (.ref od), some (.ref p), some (.int (0 + (i : Int))), some vc, some vb, some (.ref vo), t9, t10, none, none, none, none]) ∧ Keep (With M p) Y10 Z ∧ Stt K M Z d l b od p os ods [w0, w1, w2, w3] (8 + 12 * i + 3 * k))
      ⟨⟨_, _, rfl⟩, Keep.refl _ _, S10⟩ (fun k σ Z _ z => z.2.1.1.tup htt) (fun k x σ Z hx z => ?_) (fun σ Z z => ?_)
    · obtain ⟨⟨u9, u10, rfl⟩, kZ, SZ⟩ := z
      have hk3 : k < 3 := (List.getElem?_eq_some_iff.mp hx).1
      obtain ⟨dx, hdx, avx⟩ := hT.at hx
      have drx := drT dx (List.mem_of_getElem? hdx)
      refine ⟨.ref d, rfl, x, rfl, .ref od, rfl, d, l, od, x, dx, 36, With M p, os, ods, rfl, SZ.D, F.mD, F.mL, SZ.pr, avx.k kZ, drx.1, by decide, by decide, SZ.o, fun v' d' Z1 p1' E1 hv' be => ?_⟩
      have SZ1 := SZ.off F p1' E1
      obtain ⟨zs, dz, gp, _⟩ := SZ1.it
      refine ⟨.ref p, rfl, .inl ⟨rfl, _, lst_of gp⟩, x, rfl, v', rfl, .ref d, rfl, v', rfl, .ref od, rfl, d, l, od, v', d', 37, With M p, os, ods, rfl, E1, F.mD, F.mL, SZ1.pr, hv', be.f, by decide, by decide, SZ1.o, fun v2 d2 Z2 p2' E2 hv2 be2 => ⟨by show 3 ≤ sizeLine; decide, fun c1 nc1 => ?_⟩⟩
      have SZ2 := SZ1.off F p2' E2
      have sc := same_up (o := .lst [x, v', v2]) nc1
      have k1 := off_keep p1' SZ.D F.mD F.mL
      have k2 := off_keep p2' SZ1.D F.mD F.mL
      have k3 : Keep (With M p) Z2 (upd Z2 c1 (.lst [x, v', v2])) := keep_same sc
      have b1 : dx.bulk ≤ 740 := drx.2.1
      have q1 : dx.depth ≤ 14 := drx.2.2
      have b2 := be.b
      have q2 := be.p
      have b3 := be2.b
      have q3 := be2.p
      dsimp only [tNil]
      refine (SZ2.same F sc).ext F upd_same (es := [dx, d', d2]) (.cons ((((avx.k kZ).k k1).k k2).s sc) (.cons ((hv'.k k2).s sc) (.cons (hv2.s sc) .nil))) (fun e m => ?_) (m := 8 + 12 * i + 3 * (k + 1)) (by show 8 + 12 * i + 3 * k + 3 ≤ _; omega) (by omega) fun Y kY SY => ⟨⟨_, _, rfl⟩, (((kZ.trans k1).trans k2).trans k3).trans kY, SY⟩
      simp only [List.mem_cons, List.not_mem_nil, or_false] at m
      rcases m with rfl | rfl | rfl
      · exact ⟨fit_up (by decide) drx.1, by omega, by omega⟩
      · exact ⟨fit_up (by decide) be.f, by omega, by omega⟩
      · exact ⟨be2.f, by omega, by omega⟩
    · obtain ⟨⟨u9, u10, rfl⟩, kZ, SZ⟩ := z
      have SZ : Stt K M Z d l b od p os ods [w0, w1, w2, w3] (8 + 12 * i + 9) := SZ
      obtain ⟨zs, dz, gp, _⟩ := SZ.it
      refine ⟨.ref p, rfl, .inl ⟨rfl, _, lst_of gp⟩, .ref d, rfl, .ref b, rfl, d, l, b, w0, w1, w2, w3, With M p, rfl, SZ.D, F.mD, F.mL, SZ.pr, SZ.gb, hws, fun v1 e1 Z1 p1' E1 hv1 sm1 => ?_⟩
      have SZ1 := SZ.off F p1' E1
      refine ⟨.ref d, rfl, .ref b, rfl, d, l, b, w0, w1, w2, w3, With M p, rfl, E1, F.mD, F.mL, SZ1.pr, SZ1.gb, hws, fun v2 e2 Z2 p2' E2 hv2 sm2 => ?_⟩
      have SZ2 := SZ1.off F p2' E2
      refine ⟨.ref d, rfl, .ref b, rfl, d, l, b, w0, w1, w2, w3, With M p, rfl, E2, F.mD, F.mL, SZ2.pr, SZ2.gb, hws, fun v3 e3 Z3 p3' E3 hv3 sm3 => ⟨by show 3 ≤ sizeLine; decide, fun c1 nc1 => ?_⟩⟩
      have SZ3 := SZ2.off F p3' E3
      have sc := same_up (o := .lst [v1, v2, v3]) nc1
      have k2 := off_keep p2' SZ1.D F.mD F.mL
      have k3 := off_keep p3' SZ2.D F.mD F.mL
      dsimp only [tNil]
      refine (SZ3.same F sc).ext F upd_same (es := [e1, e2, e3]) (.cons (((hv1.k k2).k k3).s sc) (.cons ((hv2.k k3).s sc) (.cons (hv3.s sc) .nil))) (fun e m => ?_) (m := 8 + 12 * (i + 1)) (by show 8 + 12 * i + 9 + 3 ≤ _; omega) (by omega) fun Y kY SY => ⟨⟨_, _, _, _, _, _, rfl⟩, SY⟩
      have a1 : e1.bulk ≤ 60 ∧ e1.depth ≤ 4 := sm1.2
      have a2 : e2.bulk ≤ 250 ∧ e2.depth ≤ 8 := sm2.2
      have a3 : e3.bulk ≤ 60 ∧ e3.depth ≤ 4 := sm3.2
      simp only [List.mem_cons, List.not_mem_nil, or_false] at m
      rcases m with rfl | rfl | rfl
      · exact ⟨fit_up (by decide) sm1.1, by omega, by omega⟩
      · exact ⟨fit_up (by decide) sm2.1, by omega, by omega⟩
      · exact ⟨fit_up (by decide) sm3.1, by omega, by omega⟩
  obtain ⟨⟨t5, t6, t7, t8, t9, t10, rfl⟩, S⟩ := z
  obtain ⟨zs, dz, gpX, hzs, aX, lX⟩ := S.it
  -- each of them
  have msys : With M p sysModules := .inl pr1.1
  refine ⟨.ref p, rfl, p, _, rfl, lst_of gpX, ?_⟩
  refine for_enumLs (K := K) (a := p) (xs := zs) (fun _ σ Y => (∃ t5 t6 t7 t8 t9 t10 t11 t12 t13 t14 : Option V, σ = [some (.ref a), some (.ref d), some (.ref b), some (.ref od), some (.ref p), t5, t6, t7, t8, t9, t10, t11, t12, t13, t14]) ∧ L2.Same X Y)
    ⟨⟨_, _, _, _, _, _, _, _, _, _, rfl⟩, L2.Same.refl X⟩ (fun k σ Y _ z => lst_of (z.2 _ _ gpX)) (fun k y σ Y Tn hx z nT => ?_) (fun σ Y z => q Y)
  obtain ⟨⟨t5, t6, t7, t8, t9, t10, t11, t12, t13, t14, rfl⟩, sY⟩ := z
  obtain ⟨e, he, av⟩ := hzs.at hx
  obtain ⟨f1, f2, f3⟩ := aX e (List.mem_of_getElem? he)
  have sT := same_up (o := .tup [.int (k : Nat), y]) nT
  have hT : SqT K (upd Y Tn (.tup [.int (k : Nat), y])) Tn [.int (k : Nat), y] := tupOf upd_same
  have s1 := sY.trans sT
  generalize upd Y Tn (.tup [.int (k : Nat), y]) = Y1 at sT hT s1 ⊢
  refine ⟨Tn, _, rfl, hT, rfl, .int (k : Nat), [y], rfl, y, [], rfl, rfl, ?_⟩
  have av1 := av.s s1
  have sh1 := fit_showable (k := 38) (by decide) e f1
  have sh2 : e.depth ≤ 60 := by omega
  have sh3 := fit_shown (k := 38) (by decide) f1 (by omega)
  have fl := fit_lens (k := 38) (by decide) f1
  -- what is due
  refine ⟨y, rfl, y, e, With M p, 38, rfl, av1, f1, by decide, fun Y2 s2 => ⟨y, rfl, y, e, With M p, 38, rfl, av.s (s1.trans s2), f1, by decide, f2, fun Y3 s3 => ⟨y, rfl, y, e, With M p, 38, rfl, av.s ((s1.trans s2).trans s3), f1, by decide, f2, fun Y4 s4 => ⟨y, rfl, y, e, With M p, 38, rfl, av.s (((s1.trans s2).trans s3).trans s4), f1, by decide, f2, fun Y5 s5 => ⟨by show 4 ≤ sizeLine; decide, fun du ndu => ?_⟩⟩⟩⟩⟩
  have s15 := (((s1.trans s2).trans s3).trans s4).trans s5
  have sD := same_up (o := .tup [.bl (wordD e), .bl (conD e), .bl (bookD e), .bl (vocD e)]) ndu
  have hD : SqT K (upd Y5 du (.tup [.bl (wordD e), .bl (conD e), .bl (bookD e), .bl (vocD e)])) du [.bl (wordD e), .bl (conD e), .bl (bookD e), .bl (vocD e)] := tupOf upd_same
  have s16 := s15.trans sD
  generalize upd Y5 du (.tup [.bl (wordD e), .bl (conD e), .bl (bookD e), .bl (vocD e)]) = Y6 at sD hD s16 ⊢
  refine ⟨y, rfl, y, e, With M p, rfl, msys, av.s s16, sh1, sh2, sh3, ?_⟩
  refine ⟨fun σ G => (∃ (t5 t6 t7 t8 t10 : Option V) (tl : Addr), σ = [some (.ref a), some (.ref d), some (.ref b), some (.ref od), some (.ref p), t5, t6, t7, t8, some y, t10, some (.int (k : Nat)), some (.ref du), some (.str e.shown), some (.ref tl)] ∧ SqT K G tl [.bl (wordD e), .bl (conD e), .bl (bookD e), .bl (vocD e)]) ∧ L2.Same Y6 G, ?_, ?_⟩
  · refine ⟨.int (k : Nat), rfl, .inl ⟨_, rfl, _, 3, rfl, rfl, (by show (0 : Int) < 3; decide), _, 0, rfl, rfl, _, rfl, ite2 (fun _ => ?_) (fun _ => ?_)⟩⟩
    · refine ⟨y, rfl, y, e, With M p, rfl, av.s s16, fl, fun G2 g2 => ⟨y, rfl, y, e, With M p, 38, rfl, av.s (s16.trans g2), f1, by decide, f2, fun G3 g3 => ⟨y, rfl, y, e, With M p, 38, rfl, av.s ((s16.trans g2).trans g3), f1, by decide, f2, fun G4 g4 => ⟨y, rfl, y, e, With M p, 38, rfl, av.s (((s16.trans g2).trans g3).trans g4), f1, by decide, f2, fun G5 g5 => ⟨by show 4 ≤ sizeLine; decide, fun tl ntl => ?_⟩⟩⟩⟩⟩
      exact ⟨⟨_, _, _, _, _, tl, rfl, tupOf upd_same⟩, (((g2.trans g3).trans g4).trans g5).trans (same_up ntl)⟩
    · refine ⟨y, rfl, y, e, With M p, rfl, av.s s16, fl, fun G2 g2 => ⟨y, rfl, y, e, With M p, 38, rfl, av.s (s16.trans g2), f1, by decide, f2, fun G3 g3 => ⟨y, rfl, y, e, With M p, 38, rfl, av.s ((s16.trans g2).trans g3), f1, by decide, f2, fun G4 g4 => ⟨y, rfl, y, e, With M p, 38, rfl, av.s (((s16.trans g2).trans g3).trans g4), f1, by decide, f2, fun G5 g5 => ⟨by show 4 ≤ sizeLine; decide, fun tl ntl => ?_⟩⟩⟩⟩⟩
      exact ⟨⟨_, _, _, _, _, tl, rfl, tupOf upd_same⟩, (((g2.trans g3).trans g4).trans g5).trans (same_up ntl)⟩
  rintro σ' Y7 ⟨⟨u5, u6, u7, u8, u10, tl, rfl, htl⟩, s7⟩
  have s17 := s16.trans s7
  have kb : ∀ {G : Hp} {t : Addr}, SqT K G t [.bl (wordD e), .bl (conD e), .bl (bookD e), .bl (vocD e)] → Av K (With M p) G (.ref t) (kd e) := fun h => .tup h (.cons (.bl _) (.cons (.bl _) (.cons (.bl _) (.cons (.bl _) .nil))))
  have sk := kd_small e
  have k1 := fit_showable (k := 36) (by decide) _ sk.1
  have k2 : (kd e).depth ≤ 60 := Nat.le_trans sk.2.2 (by decide)
  have k3 := fit_shown (k := 36) (by decide) sk.1 (Nat.le_trans sk.2.1 (by decide))
  refine ⟨.ref tl, rfl, .ref tl, kd e, With M p, rfl, msys, kb htl, k1, k2, k3, .ref du, rfl, .ref du, kd e, With M p, rfl, msys, kb ((Tl.Same.stay s7).tup hD), k1, k2, k3, rfl, _, rfl, ?_⟩
  rw [decide_eq_true (rfl : V.str (kd e).shown = V.str (kd e).shown)]
  refine iteF ⟨y, rfl, y, e, With M p, rfl, msys, av.s s17, sh1, sh2, sh3, .str e.shown, rfl, rfl, _, rfl, ?_⟩
  rw [decide_eq_true (rfl : V.str e.shown = V.str e.shown)]
  exact iteF ⟨⟨_, _, _, _, _, _, _, _, _, _, rfl⟩, s17⟩
end
end K01
set_option Elab.async false
set_option linter.all false
set_option autoImplicit false
set_option maxRecDepth 100000
set_option maxHeartbeats 4000000
namespace K01
open PySem PySem.Spec PyProof.Rows L2 Tl
theorem dAt {K : PySem.W.Frag} {h : Heap} {mg : Str → Option Value} {x : Str} {st : Stmt} {f : Addr} {od an : Option Addr} {osl : Array (Option Value)} {oc kV doc pm cdv ct : Value} (X : K.In h) (G : h.Ns mainGlobals mg)
    (a : PySem.W.nsIn K mainGlobals x = some (some (.ref f))) (l : K.lookup f = some ⟨oc, od, .func (PySem.W.fnOf x x (defArgs st) (defBody st) (defScope st) .none kV doc pm an cdv ct), osl⟩) (c : PySem.W.codeIn K cdv x = true) (k : PySem.W.keepIn K (.ref f) = true) : DefAt K mg x st :=
  ⟨f, _, fun_mk l c k, PySem.W.mg_of X G a⟩
theorem iAt {K : PySem.W.Frag} {h : Heap} {mg : Str → Option Value} {x : Str} {i : Int} {t : Tok} (X : K.In h) (G : h.Ns mainGlobals mg) (a : PySem.W.nsIn K mainGlobals x = some (some (.int i t))) : ∃ t, mg x = some (.int i t) := ⟨t, PySem.W.mg_of X G a⟩
theorem nwAt {K : PySem.W.Frag} {h : Heap} {mg : Str → Option Value} {a : Addr} {dd : Option Addr} {n : Nat} {sl : Array (Option Value)} {t1 t2 t3 t4 t5 t6 : Tok} (X : K.In h) (G : h.Ns mainGlobals mg)
    (e : PySem.W.nsIn K mainGlobals "NO_WORDS" = some (some (.ref a))) (l : K.lookup a = some ⟨.type "tuple", dd, .seq #[.str "all" t1, .str "none" t2, .str "some" t3, .str "and" t4, .str "each" t5, .str "is" t6] n, sl⟩) :
    ∃ a, mg "NO_WORDS" = some (.ref a) ∧ ∀ H, SqT K H a [.str "all", .str "none", .str "some", .str "and", .str "each", .str "is"] :=
  ⟨a, PySem.W.mg_of X G e, fun H => .inr ⟨_, _, n, l, rfl, rfl, (by show 6 ≤ sizeLine; decide), .cons ⟨_, rfl⟩ (.cons ⟨_, rfl⟩ (.cons ⟨_, rfl⟩ (.cons ⟨_, rfl⟩ (.cons ⟨_, rfl⟩ (.cons ⟨_, rfl⟩ .nil)))))⟩⟩
theorem fin {P : Program} {w : World} {K : PySem.W.Frag} {mg : Str → Option Value} {fa : Addr} (T : Txt K mg) (hfa : mg "law" = some (.ref fa)) :
    ∃ fd : FuncData, (∀ (s : Shared) (u : Value), BindsTo s fd ⟨[u], []⟩ [("script", u)]) ∧ ∀ base : Heap, K.In base → base.Ns mainGlobals mg → FnG P w K mg base CX0 13 fa fd ["script"] (spLaw K) := by
  obtain ⟨f, fd, F, hm⟩ := T.law.ex
  cases hfa.symm.trans hm
  refine ⟨fd, fun s u => ?_, fun base _ _ => gLaw T F⟩
  obtain ⟨oc, od, kV, doc, pm, an, cdv, ct, osl, rfl, lk, hcd⟩ := F.ex
  exact .of_eq rfl
theorem walk {l : PySem.W.OpenLaw} {q : Program} {loose : List Str} {XP : (Str → Option Value) → Heap → Prop} {YP : World → Heap → Prop} {d : DefRec} {K : Params → PySem.W.Frag} (hn : l.most = some 63) (hdf : d.params.defaults = [])
    (hY : ∀ (w : World) (h : Heap), YP w h → (K w.params).In h) (hd : d.name = "law")
    (F : ∀ (w : World) (mg : Str → Option Value) (h : Heap), (K w.params).In h → h.Ns mainGlobals mg → Txt (K w.params) mg) :
    PySem.W.WalkO q loose XP YP l.row.toRowW d [] (fun f vs => PySem.call f vs) :=
  Tl.walkG (n := 63) (k := 13) (x := "script") (sp := fun w => spLaw (K w.params)) hn (by decide) hdf ⟨rfl, by decide, by decide⟩ hY (fun w mg fa h KX G hmg => fin (F w mg h KX G) (by rw [hd] at hmg; exact hmg)) (fun _ _ a ns hl _ _ hS => ⟨a, ns, rfl, hS, hl, fun _ => rfl⟩)
end K01
open PySem PySem.W PyProof.Rows in
set_option maxRecDepth 100000 in
set_option maxHeartbeats 0 in
theorem PySem.Challenge.cw_tellalike_k01_any_values_as_words_concep_holds : PySem.Challenge.rw_tellalike_k01_any_values_as_words_concep.Holds := by
  w_on; o_law; k_head; (case hw => w_witness2)
  k_fill
  refine K01.walk (l := PySem.Challenge.rw_tellalike_k01_any_values_as_words_concep) rfl rfl (fun w h Y => PySem.W.kIn_of Y) rfl ?F
  case F =>
    intro w mg h KX G
    refine' K01.Txt.mk (PySem.W.mg_none_of KX G ?n_all)
      (PySem.W.mg_none_of KX G ?n_enumerate)
      (PySem.W.mg_none_of KX G ?n_int)
      (PySem.W.mg_none_of KX G ?n_isinstance)
      (PySem.W.mg_none_of KX G ?n_len)
      (PySem.W.mg_none_of KX G ?n_list)
      (PySem.W.mg_none_of KX G ?n_max)
      (PySem.W.mg_none_of KX G ?n_range)
      (PySem.W.mg_none_of KX G ?n_repr)
      (PySem.W.mg_none_of KX G ?n_set)
      (PySem.W.mg_none_of KX G ?n_sorted)
      (PySem.W.mg_none_of KX G ?n_str)
      (PySem.W.mg_none_of KX G ?n_tuple)
      (K01.dAt (st := K01.sIsPair) KX G ?a_isPair ?l_isPair ?c_isPair ?k_isPair)
      (K01.dAt (st := K01.sIsAscending) KX G ?a_isAscending ?l_isAscending ?c_isAscending ?k_isAscending)
      (K01.dAt (st := K01.sIsWord) KX G ?a_isWord ?l_isWord ?c_isWord ?k_isWord)
      (K01.dAt (st := K01.sIsConcept) KX G ?a_isConcept ?l_isConcept ?c_isConcept ?k_isConcept)
      (K01.dAt (st := K01.sIsBook) KX G ?a_isBook ?l_isBook ?c_isBook ?k_isBook)
      (K01.dAt (st := K01.sIsVocabulary) KX G ?a_isVocabulary ?l_isVocabulary ?c_isVocabulary ?k_isVocabulary)
      (K01.dAt (st := K01.sInner) KX G ?a_inner ?l_inner ?c_inner ?k_inner)
      (K01.dAt (st := K01.sIsLetter) KX G ?a_isLetter ?l_isLetter ?c_isLetter ?k_isLetter)
      (K01.dAt (st := K01.sAreWords) KX G ?a_areWords ?l_areWords ?c_areWords ?k_areWords)
      (K01.dAt (st := K01.sLawDeck) KX G ?a_lawDeck ?l_lawDeck ?c_lawDeck ?k_lawDeck)
      (K01.dAt (st := K01.sLawDraw) KX G ?a_lawDraw ?l_lawDraw ?c_lawDraw ?k_lawDraw)
      (K01.dAt (st := K01.sLawPick) KX G ?a_lawPick ?l_lawPick ?c_lawPick ?k_lawPick)
      (K01.dAt (st := K01.sLawMixed) KX G ?a_lawMixed ?l_lawMixed ?c_lawMixed ?k_lawMixed)
      (K01.dAt (st := K01.sLawName) KX G ?a_lawName ?l_lawName ?c_lawName ?k_lawName)
      (K01.dAt (st := K01.sLawWords) KX G ?a_lawWords ?l_lawWords ?c_lawWords ?k_lawWords)
      (K01.dAt (st := K01.sLawIsWord) KX G ?a_lawIsWord ?l_lawIsWord ?c_lawIsWord ?k_lawIsWord)
      (K01.dAt (st := K01.sLawIsConcept) KX G ?a_lawIsConcept ?l_lawIsConcept ?c_lawIsConcept ?k_lawIsConcept)
      (K01.dAt (st := K01.sLawIsBook) KX G ?a_lawIsBook ?l_lawIsBook ?c_lawIsBook ?k_lawIsBook)
      (K01.dAt (st := K01.sLawIsVocabulary) KX G ?a_lawIsVocabulary ?l_lawIsVocabulary ?c_lawIsVocabulary ?k_lawIsVocabulary)
      (K01.dAt (st := K01.sLawConcept) KX G ?a_lawConcept ?l_lawConcept ?c_lawConcept ?k_lawConcept)
      (K01.dAt (st := K01.sLawLong) KX G ?a_lawLong ?l_lawLong ?c_lawLong ?k_lawLong)
      (K01.dAt (st := K01.sLawBook) KX G ?a_lawBook ?l_lawBook ?c_lawBook ?k_lawBook)
      (K01.dAt (st := K01.sLawBent) KX G ?a_lawBent ?l_lawBent ?c_lawBent ?k_lawBent)
      (K01.dAt (st := K01.sLawOdd) KX G ?a_lawOdd ?l_lawOdd ?c_lawOdd ?k_lawOdd)
      (K01.dAt (st := K01.sLawNoConcept) KX G ?a_lawNoConcept ?l_lawNoConcept ?c_lawNoConcept ?k_lawNoConcept)
      (K01.dAt (st := K01.sLawNoBook) KX G ?a_lawNoBook ?l_lawNoBook ?c_lawNoBook ?k_lawNoBook)
      (K01.dAt (st := K01.sLawNoVocabulary) KX G ?a_lawNoVocabulary ?l_lawNoVocabulary ?c_lawNoVocabulary ?k_lawNoVocabulary)
      (K01.dAt (st := K01.sLawSomeWords) KX G ?a_lawSomeWords ?l_lawSomeWords ?c_lawSomeWords ?k_lawSomeWords)
      (K01.dAt (st := K01.sLaw) KX G ?a_law ?l_law ?c_law ?k_law)
      (K01.iAt KX G ?i_longest_word)
      (K01.nwAt KX G ?w_no_words ?v_no_words)
    (case n_all => k_is)
    (case n_enumerate => k_is)
    (case n_int => k_is)
    (case n_isinstance => k_is)
    (case n_len => k_is)
    (case n_list => k_is)
    (case n_max => k_is)
    (case n_range => k_is)
    (case n_repr => k_is)
    (case n_set => k_is)
    (case n_sorted => k_is)
    (case n_str => k_is)
    (case n_tuple => k_is)
    (case a_isPair => k_is); (case l_isPair => k_is); (case c_isPair => k_is); (case k_isPair => k_is)
    (case a_isAscending => k_is); (case l_isAscending => k_is); (case c_isAscending => k_is); (case k_isAscending => k_is)
    (case a_isWord => k_is); (case l_isWord => k_is); (case c_isWord => k_is); (case k_isWord => k_is)
    (case a_isConcept => k_is); (case l_isConcept => k_is); (case c_isConcept => k_is); (case k_isConcept => k_is)
    (case a_isBook => k_is); (case l_isBook => k_is); (case c_isBook => k_is); (case k_isBook => k_is)
    (case a_isVocabulary => k_is); (case l_isVocabulary => k_is); (case c_isVocabulary => k_is); (case k_isVocabulary => k_is)
    (case a_inner => k_is); (case l_inner => k_is); (case c_inner => k_is); (case k_inner => k_is)
    (case a_isLetter => k_is); (case l_isLetter => k_is); (case c_isLetter => k_is); (case k_isLetter => k_is)
    (case a_areWords => k_is); (case l_areWords => k_is); (case c_areWords => k_is); (case k_areWords => k_is)
    (case a_lawDeck => k_is); (case l_lawDeck => k_is); (case c_lawDeck => k_is); (case k_lawDeck => k_is)
    (case a_lawDraw => k_is); (case l_lawDraw => k_is); (case c_lawDraw => k_is); (case k_lawDraw => k_is)
    (case a_lawPick => k_is); (case l_lawPick => k_is); (case c_lawPick => k_is); (case k_lawPick => k_is)
    (case a_lawMixed => k_is); (case l_lawMixed => k_is); (case c_lawMixed => k_is); (case k_lawMixed => k_is)
    (case a_lawName => k_is); (case l_lawName => k_is); (case c_lawName => k_is); (case k_lawName => k_is)
    (case a_lawWords => k_is); (case l_lawWords => k_is); (case c_lawWords => k_is); (case k_lawWords => k_is)
    (case a_lawIsWord => k_is); (case l_lawIsWord => k_is); (case c_lawIsWord => k_is); (case k_lawIsWord => k_is)
    (case a_lawIsConcept => k_is); (case l_lawIsConcept => k_is); (case c_lawIsConcept => k_is); (case k_lawIsConcept => k_is)
    (case a_lawIsBook => k_is); (case l_lawIsBook => k_is); (case c_lawIsBook => k_is); (case k_lawIsBook => k_is)
    (case a_lawIsVocabulary => k_is); (case l_lawIsVocabulary => k_is); (case c_lawIsVocabulary => k_is); (case k_lawIsVocabulary => k_is)
    (case a_lawConcept => k_is); (case l_lawConcept => k_is); (case c_lawConcept => k_is); (case k_lawConcept => k_is)
    (case a_lawLong => k_is); (case l_lawLong => k_is); (case c_lawLong => k_is); (case k_lawLong => k_is)
    (case a_lawBook => k_is); (case l_lawBook => k_is); (case c_lawBook => k_is); (case k_lawBook => k_is)
    (case a_lawBent => k_is); (case l_lawBent => k_is); (case c_lawBent => k_is); (case k_lawBent => k_is)
    (case a_lawOdd => k_is); (case l_lawOdd => k_is); (case c_lawOdd => k_is); (case k_lawOdd => k_is)
    (case a_lawNoConcept => k_is); (case l_lawNoConcept => k_is); (case c_lawNoConcept => k_is); (case k_lawNoConcept => k_is)
    (case a_lawNoBook => k_is); (case l_lawNoBook => k_is); (case c_lawNoBook => k_is); (case k_lawNoBook => k_is)
    (case a_lawNoVocabulary => k_is); (case l_lawNoVocabulary => k_is); (case c_lawNoVocabulary => k_is); (case k_lawNoVocabulary => k_is)
    (case a_lawSomeWords => k_is); (case l_lawSomeWords => k_is); (case c_lawSomeWords => k_is); (case k_lawSomeWords => k_is)
    (case a_law => k_is); (case l_law => k_is); (case c_law => k_is); (case k_law => k_is)
    (case i_longest_word => k_is)
    (case w_no_words => k_is); (case v_no_words => k_is)
#print axioms PySem.Challenge.cw_tellalike_k01_any_values_as_words_concep_holds
