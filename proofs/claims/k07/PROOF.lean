import PyProof.Rows.All
import Wide.All
import OpenK.AllK
import Wide.FinOn
import HandS.ForMost
import HandS.SetFor
import HandS.Strs
import HandS.SetBool
import HandS.More
import HandS.Defaults
import HandS.Conv
import HandS.TupAny
import HandS.SortInts
import HandS.IsInst
import HandS.CallLocal
import HandS.Wide
import HandS.EndBits
import HandS.Flow
import HandS.Style
import HandS.Codes
import KE.KDictPairs
import PyProof.Draws
import PyProof.EnumMake
import PyProof.EnumFor
import PyProof.Rows.MinMaxN
import KE.KRevSl
import PyProof.StrOps2
import PySem.Challenge.RW_tellalike_k07_whole_models_and_first_axi
import PyProof.ReprBulk
set_option Elab.async false
set_option linter.all false
set_option maxRecDepth 100000
/-! my own rules over the layer: extend by a tuple, set of ints, repr of data, dict of a tuple of pairs -/
namespace Tl
open PySem PySem.Spec PyProof.Rows L2
section
variable {X : Cx}
/-! ### list.extend(tuple) -/
def rExtT (K : PySem.W.Frag) : V → List V → Hp → VK → Prop := fun x vs H Q => ∃ (l b : Addr) (xs zs : List V),
  x = V.ref l ∧ vs = [V.ref b] ∧ H l = some (.lst xs) ∧ SqT K H b zs ∧ xs.length + zs.length ≤ sizeLine ∧
    Q V.non (upd H l (.lst (xs ++ zs)))
theorem meets_extT {l b : Addr} {own its : Array Value} {n : Nat} (sz : own.size + its.size ≤ sizeLine) :
    Meets (Builtin.«list.extend» ⟨[.ref l, .ref b], []⟩) (fun _ R s =>
      s.heap.get? l = some { cls := .type "list", data := .seq own n } ∧ PyProof.Rows.IsTup s.heap b its ∧
        R (.ok (.ret Value.none)) { s with heap := s.heap.update l (Obj.mapSeq fun z => z ++ its) }) := by
  intro prog w A R s ⟨g1, ⟨o, g2, g3, m, g4⟩, fin⟩
  show wpAny _ A.in1 (Builtin.List.listExtendWith (.ref l) (.ref b) .none) _ _ s
  unfold Builtin.List.listExtendWith
  refine wpAny_bind (wpAny_typeOf (T := "tuple") ⟨o, g2, g3⟩ ?_)
  have yes : (Builtin.List.listSameRef (.ref l) (.ref b) || Value.type "tuple" == Value.type "list" || Value.type "tuple" == Value.type "tuple") = true := by simp
  simp only [yes, if_true]
  refine wpAny_bind ?_
  unfold Builtin.List.listItems
  refine wpAny_bind (wpAny_seqItems g2 g4 (wpAny_pure ?_))
  refine wpAny_bind ?_
  refine wpAny_bind (wpAny_seqItems g1 rfl (wpAny_pure ?_))
  have nl : (!own.isEmpty && Builtin.List.listTooLong (own.size + its.size)) = false := by
    rw [notLongL sz, Bool.and_false]
  simp only [nl, Bool.false_eq_true, if_false]
  show wpAny _ A.in1 (updateSeq l (fun z => z ++ its) >>= fun _ => ret Value.none) _ _ s
  refine wpAny_bind (wpAny_updateSeq g1 rfl ?_ (by omega) (by rw [Array.size_append]; omega))
  exact wpAny_pure fin
theorem mt_extT : MtM X "list.extend" (rExtT X.K) := by
  intro pins s σ H x vs v us Q I rx rv ⟨l, b, xs, zs, e1, e2, h1, h2, h3, q⟩
  subst e1 e2
  cases rx
  obtain ⟨u, e3, ru⟩ := rv.one
  subst e3
  cases ru
  obtain ⟨k1, own, n, r1, l1, g1⟩ := I.lstM h1
  obtain ⟨its, r2, g2, l2⟩ := I.tuple h2
  have k2 := r2.length
  refine call_meets PySem.F.slot_list_extend ⟨_, g1, rfl⟩ PySem.F.entry_list_extend (PySem.F.args_list_extend_2 _ _)
    (meets_extT (its := its.toArray) (by rw [List.size_toArray, List.size_toArray]; omega)) ⟨g1, g2, ?_⟩
  refine ⟨.non, _, I.lset (its' := own ++ its) h1 g1 (by simp) (r1.append r2) ?_, rfl, q⟩
  rw [List.length_append]
  omega
end
end Tl
set_option Elab.async false
set_option linter.all false
set_option maxRecDepth 100000
/-! set(l), l a list of ints; set(t); the rule for both -/
namespace Tl
open PySem PySem.Spec PyProof.Rows L2
/-- the object that a new set begins as -/
abbrev nu (w : World) : Obj := { cls := .type "set", dict := none, data := .set #[] 0 (.fresh 0 0 (!w.params.followText "set-order")) }
section
variable {P : Program} {w : World} {A : Around} {E : Value → Shared → Prop} {s : Shared}
set_option maxHeartbeats 3200000 in
theorem set_list_ints {l : Addr} {vs : Array Value} (ns : List Int) {Q : Value → Shared → Prop} (calm : A.handled = none) (at_ : s.heap.IsList l vs)
    (are : IntsAre vs.toList ns) (few : ns.length + 1 < scanBound)
    (go : ∀ (h' : Heap) (tk c : Nat), SetR w h' s.heap.objs.size (fun j => decide (j ∈ ns)) c → c ≤ ns.length →
      (∀ b o, s.heap.get? b = some o → h'.get? b = some o) → Q (.ref s.heap.objs.size) { s with heap := h', toks := tk }) :
    wpAny (model P w) A (call (.type "set") [.ref l]) Q E s := by
  have same : vs.size = ns.length := (Array.length_toList (xs := vs)).symm.trans (IntsAre.length are)
  obtain ⟨c0, tl0, mro0⟩ := F.called_set.mro
  have f1 := F.called_set.made
  have f2 := F.called_set.sub
  refine wpAny_call (codeAny_of_tree ?_)
  show wpAny _ _ (callAny (.type "set") _) _ _ _
  refine wpAny_pure ⟨Code.quiet_builtin _ (by decide +kernel), codeAny_builtin F.entry_type_call ?_⟩
  rw [Around.under_plain (weight_type_call_type "set" [.ref l] []) rfl]
  have f3 := F.called_set.notType
  have f4 := F.called_set.canCreate
  have f5 := F.typeCall_set_1 (.ref l)
  repeat (any_goals (first | assumption | wp_step))
  -- the new set
  refine codeAny_mono (code_set_led1 (.ref l) (E := E) (Q₁ := fun x t => x = .ref s.heap.objs.size ∧ t = { s with heap := s.heap.push (nu w) }) ⟨rfl, rfl⟩) fun r t hr => ?_
  match r, hr with
  | .error _, hr => exact hr
  | .ok .next, hr => exact hr.elim
  | .ok .brk, hr => exact hr.elim
  | .ok .cont, hr => exact hr.elim
  | .ok (.ret x), hr =>
    obtain ⟨e1, e2⟩ := hr
    subst e1 e2
    have g0 : (s.heap.push (nu w)).get? s.heap.objs.size = some (nu w) := Heap.get?_push_size _ rfl
    have ty0 : Shared.TypeIs { s with heap := s.heap.push (nu w) } (.ref s.heap.objs.size) "set" := ⟨_, g0, rfl⟩
    have f6 := F.called_set.init.lookup
    have f7 := F.called_set.init.bind (.ref s.heap.objs.size)
    repeat (any_goals (first | assumption | wp_step))
    -- it is filled
    refine codeAny_mono (codeAny_call_builtin (R := wants (fun r t => r = .none ∧ ∃ h' tk c, t = { s with heap := h', toks := tk } ∧ SetR w h' s.heap.objs.size (fun j => decide (j ∈ ns)) c ∧ c ≤ ns.length ∧
        ∀ b o, s.heap.get? b = some o → h'.get? b = some o) E) F.called_set.init.plain F.entry_set_init (check_set_init_1 ty0 ?_)) fun r t ht => ?_
    · obtain ⟨⟨oc, od, odt, osl⟩, ho, hoc, n, hod⟩ := at_
      simp only at hoc hod
      subst hoc hod
      have ho1 : (s.heap.push (nu w)).get? l = some { cls := .type "list", dict := od, data := .seq vs n, slots := osl } := Heap.get?_push_of_some _ ho
      have f8 := F.sub_list_set
      have f9 := F.sub_list_frozenset
      have f10 : (Value.type "list" == Value.type "dict") = false := by decide
      have isl : (s.heap.push (nu w)).IsList l vs := ⟨_, ho1, rfl, n, rfl⟩
      unfold Builtin.«set.__init__» noKeywords Builtin.Frozenset.updateFrom
      generalize hit : pyIter = it
      wp_walk
      subst hit
      refine wpAny_pyIter_list isl ?_
      refine wpAny_bind (wpAny_runValue ?_)
      have low : l < s.heap.objs.size := Heap.lt_size ho
      have calm3 : A.in1.in1.in1.handled = none := by simp [calm]
      have ne1 : l ≠ (s.heap.push (nu w)).objs.size := by
        rw [Heap.size_push]
        exact Nat.ne_of_lt (Nat.lt_succ_of_lt low)
      have off : s.heap.objs.size ∉ [(s.heap.push (nu w)).objs.size, l] := by
        intro hm
        rw [Heap.size_push] at hm
        rcases List.mem_cons.mp hm with q | hm
        · exact absurd q (Nat.ne_of_lt (Nat.lt_succ_self _))
        · exact absurd (List.mem_singleton.mp hm) (Nat.ne_of_gt low)
      refine set_update_ints ((Walks.list calm3 _ l ne1 vs).toS) s.heap.objs.size off ns same few (fun i v hv => ?_) (vs.size - 0) 0 _ (by omega) (Nat.zero_le _)
        ⟨⟨_, Heap.get?_push_size _ rfl, rfl, rfl⟩, isl.push _⟩ ⟨0, Nat.le_refl 0, setR_new_at (Heap.get?_push_of_some _ g0)⟩ fun t' c moved le set' => ?_
      · have hi : i < ns.length := same ▸ (Array.getElem?_eq_some_iff.mp hv).1
        obtain ⟨t, e⟩ := PyProof.Rows.IntsAre.int_at are i v (by rw [Array.getElem?_toList]; exact hv)
        refine ⟨ns[i], t, List.getElem?_eq_getElem hi, ?_⟩
        rw [e, List.getD_eq_getElem?_getD, List.getElem?_eq_getElem hi] <;> rfl
      · obtain ⟨h', g2, d', tk', os'⟩ := t'
        obtain rfl : g2 = s.gens := moved.gens
        obtain rfl : d' = s.drawn := moved.drawn
        obtain rfl : os' = s.os := moved.os
        show wpAny _ _ _ _ _ _
        refine wpAny_pure ?_
        show wpAny _ _ (ret Value.none) _ _ _
        refine wpAny_pure ⟨rfl, h', tk', c, rfl, set', by omega, fun b o e => ?_⟩
        have lb : b < s.heap.objs.size := Heap.lt_size e
        refine moved.heap b o (fun hm => ?_) (Heap.get?_push_of_some _ (Heap.get?_push_of_some _ e))
        rcases List.mem_cons.mp hm with q | hm
        · exact absurd q (Nat.ne_of_lt lb)
        · have q := List.mem_singleton.mp hm
          have q2 : b = s.heap.objs.size + 1 := q.trans (Heap.size_push ..)
          rw [q2] at lb
          exact absurd lb (Nat.not_lt.mpr (Nat.le_succ _))
    · match r, ht with
      | .error _, ht => exact ht
      | .ok .next, ht => exact ht.elim
      | .ok .brk, ht => exact ht.elim
      | .ok .cont, ht => exact ht.elim
      | .ok (.ret x), ht =>
        obtain ⟨rfl, h', tk, c, rfl, set', le, keep⟩ := ht
        repeat (any_goals (first | assumption | wp_step))
        exact go _ _ _ set' le keep
end
section
variable {X : Cx}
/-- set(x), x a list or a tuple of ints -/
def rSetI (K : PySem.W.Frag) (w : World) : List V → Hp → VK → Prop := fun vs H Q => ∃ (p : Addr) (ns : List Int), vs = [V.ref p] ∧
  (SqL K H p (ns.map V.int) ∨ SqT K H p (ns.map V.int)) ∧ ns.length ≤ 1000 ∧
    ∀ (a : Addr) (c : Nat), c ≤ ns.length → H a = none → Q (V.ref a) (upd H a (SetO w a (fun j => decide (j ∈ ns)) c))
theorem cr_setI (calm : X.calm = true) : CallR X (.type "set") (rSetI X.K X.w) := by
  intro pins s σ H xs us Q I r ⟨p, ns, e, sq, few, q⟩
  subst e
  rw [Vals.ref1 r]
  have bound : ns.length + 1 < scanBound := Nat.lt_of_le_of_lt (Nat.add_le_add_right few 1) (by decide)
  have done : ∀ (h' : Heap) (tk c : Nat), SetR X.w h' s.heap.objs.size (fun j => decide (j ∈ ns)) c → c ≤ ns.length → (∀ b o, s.heap.get? b = some o → h'.get? b = some o) →
      EP X pins σ Q (.ref s.heap.objs.size) { s with heap := h', toks := tk } := fun h' tk c R le k =>
    ⟨.ref s.heap.objs.size, _, I.laid k (Nat.le_refl _) (setO_new R), rfl, q _ c le (I.hok.fresh (Nat.le_refl _))⟩
  rcases sq with sq | sq
  · obtain ⟨its, rv, ⟨o, n, ho, hc, hd, hdat⟩, _⟩ := I.list sq
    exact set_list_ints ns (I.ok.hd calm) ⟨o, ho, hc, n, hdat⟩ (ints_of_vals rv) bound done
  · obtain ⟨its, rv, ⟨o, ho, hc, n, hdat⟩, _⟩ := I.tuple sq
    exact call_set_tupI ns (I.ok.hd calm) ⟨o, ho, hc, n, hdat⟩ (ints_of_vals rv) bound done
end
end Tl
set_option Elab.async false
set_option linter.all false
set_option maxRecDepth 100000
set_option maxHeartbeats 2000000
/-! repr of data, dict(t) of a tuple of pairs, {e for x in xs if ..} with any add -/
namespace Tl
open PySem PySem.Spec PyProof.Rows L2
section
variable {X : Cx}
/-! ### repr -/
def rRepD (K : PySem.W.Frag) : List V → Hp → VK → Prop := fun xs H Q => ∃ (v : V) (d : PyData), xs = [v] ∧ Dp K H v d ∧ d.showable = true ∧
  d.hasDict = false ∧ d.depth ≤ 60 ∧ d.shown.length ≤ sizeLine ∧ Q (.str d.shown) H
theorem cr_repD (bare : X.A.guards = some []) (hu : X.A.units + 64 < cLine) : CallR X (.builtin "repr") (rRepD X.K) := by
  intro pins s σ H xs us Q I r ⟨v, d, e, hd, h1, h2, h3, h4, q⟩
  subst e
  obtain ⟨u, e, ru⟩ := r.one
  subst e
  obtain ⟨as, rd⟩ := Dp.reads I d v u hd ru
  cases hd with
  | non =>
    cases ru
    exact PySem.P.repr_of_none ⟨.str _, H, I.tok _, ⟨_, rfl⟩, q⟩
  | bl b =>
    cases ru
    exact PySem.P.repr_of_bool ⟨.str _, H, I.tok _, ⟨_, rfl⟩, q⟩
  | int i =>
    obtain ⟨t, rfl⟩ := ru
    exact PySem.P.repr_of_int (by simpa [PyData.showable] using h1) ⟨.str _, H, I.tok _, ⟨_, rfl⟩, q⟩
  | str x =>
    obtain ⟨t, rfl⟩ := ru
    exact PySem.P.repr_of_str ⟨.str _, H, I.tok _, ⟨_, rfl⟩, q⟩ h4
  | lst _ _ =>
    cases ru
    exact repr_of_reads' rd h1 (fun z => by rw [h2] at z; cases z) bare (by omega) (fun _ _ z => z) (fun h' u tk k => ⟨.str _, H, I.kept k, ⟨_, rfl⟩, q⟩) h4
  | tup _ _ =>
    cases ru
    exact repr_of_reads' rd h1 (fun z => by rw [h2] at z; cases z) bare (by omega) (fun _ _ z => z) (fun h' u tk k => ⟨.str _, H, I.kept k, ⟨_, rfl⟩, q⟩) h4
/-! ### tuple(l), told with its object: it has no dict of its own -/
def rTupF (K : PySem.W.Frag) : List V → Hp → VK → Prop := fun xs H Q => ∃ (p : Addr) (ys : List V), xs = [V.ref p] ∧ SqL K H p ys ∧
  ∀ (l : Addr) (o : Obj), H l = none → o.dict = none → Q (V.ref l) (upd H l (.frz o (.tup ys)))
theorem cr_tupF : CallR X (.type "tuple") (rTupF X.K) := by
  intro pins s σ H xs us Q I r ⟨p, ys, e, sq, q⟩
  subst e
  rw [Vals.ref1 r]
  obtain ⟨its, rv, pl, sz⟩ := I.list sq
  have hl := rv.length
  refine call_tuple_list pl.isList (fun h' kp => ?_) (by rw [List.size_toArray]; omega)
  have J : Inv X pins σ H { s with heap := h' } := I.kept (t' := s.toks) kp
  refine ⟨.ref h'.objs.size, _, J.laid (t' := s.toks) (o := .frz { cls := .type "tuple", data := .seq its.toArray } (.tup ys)) (fun b o e => Heap.get?_push_of_some _ e) (Nat.le_refl _) ?_, rfl, q _ _ (J.hok.fresh (Nat.le_refl _)) rfl⟩
  exact ⟨Heap.get?_push_size _ rfl, sz, its, rv, IsTup.new _ _⟩
/-! ### dict(t), t a tuple of pairs -/
def rDctT (K : PySem.W.Frag) : List V → Hp → VK → Prop := fun xs H Q => ∃ (a : Addr) (o : Obj) (ps : List Addr) (kvs : List (Key × V)), xs = [V.ref a] ∧ H a = some (.frz o (.tup (ps.map V.ref))) ∧ o.dict = none ∧
  Paired (fun p kv => SqT K H p [kV kv.1, kv.2]) ps kvs ∧ ∀ p, H p = none → Q (V.ref p) (upd H p (.dK (mergeK [] kvs)))
theorem cr_dctT (calm : X.calm = true) : CallR X (.type "dict") (rDctT X.K) := by
  intro pins s σ H xs us Q I r ⟨a, o, ps, kvs, e, ha, nod, prd, q⟩
  subst e
  rw [Vals.ref1 r]
  obtain ⟨ho, sz, its, rv, o2, ho2, hc, n, hdat⟩ := I.hok a _ ha
  obtain rfl : o = o2 := Option.some.inj (ho.symm.trans ho2)
  have ei := refs_at rv
  subst ei
  rw [List.length_map] at sz
  obtain ⟨prs, rel, hl, hp⟩ := pairs_of I prd
  -- each pair's key as a value
  have keys : ∀ j : Nat, ∃ u : Value, ∀ q : Key × Value, prs[j]? = some q → ∃ b, ps[j]? = some b ∧ IsTup s.heap b #[u, q.2] ∧ keyIs q.1 u = true := fun j => by
    cases e : prs[j]? with
    | none => exact ⟨.none, fun q z => by cases z⟩
    | some q0 =>
      obtain ⟨b, u, e1, e2, e3⟩ := hp j q0 e
      exact ⟨u, fun q z => by cases z; exact ⟨b, e1, e2, e3⟩⟩
  obtain ⟨ku, hku⟩ := Classical.axiomOfChoice keys
  let pv2 : List (Value × Value) := prs.mapIdx fun j q => (ku j, q.2)
  have at2 : ∀ (j : Nat) (k v : Value), pv2[j]? = some (k, v) → ∃ q, prs[j]? = some q ∧ k = ku j ∧ v = q.2 := fun j k v e => by
    rw [List.getElem?_mapIdx] at e
    cases e2 : prs[j]? with
    | none => rw [e2] at e; cases e
    | some q =>
      rw [e2] at e
      cases e
      exact ⟨q, rfl, rfl, rfl⟩
  have len2 : pv2.length = ps.length := by rw [List.length_mapIdx, hl]
  refine PySem.call_dict_pairs (knd := mixKind X.prog X.w) (kvs := prs) (PySem.PairArg.tuple a _ (fun j => ps.getD j 0) pv2) (I.ok.hd calm)
    ⟨⟨o, n, ho, hc, nod, hdat⟩, by rw [List.size_toArray, List.length_map, len2], fun j k v e => ?_⟩ ⟨by rw [len2, hl], fun j k v e => ?_⟩ (by rw [len2]; exact sz) fun h' tk hd' k => ?_
  · obtain ⟨q, e1, rfl, rfl⟩ := at2 j k v e
    obtain ⟨b, e2, e3, _⟩ := hku j q e1
    refine ⟨by simp [e2], .inl ?_⟩
    have eb : ps.getD j 0 = b := by rw [List.getD_eq_getElem?_getD, e2] <;> rfl
    show IsTup s.heap (ps.getD j 0) _
    rw [eb]
    exact e3
  · obtain ⟨q, e1, rfl, rfl⟩ := at2 j k v e
    obtain ⟨b, e2, e3, e4⟩ := hku j q e1
    exact ⟨q.1, e1, e4⟩
  · have hm : (s.heap.objs.size == sysModules) = false := beq_eq_false_iff_ne.mpr (Nat.ne_of_gt I.big)
    have hlen : (mergeK [] kvs).length ≤ sizeLine := by
      have z := length_mergeK kvs []
      rw [List.length_nil, Nat.zero_add, rel.length, hl] at z
      exact Nat.le_trans z sz
    exact ⟨.ref s.heap.objs.size, _, I.laid (t' := tk) (o := .dK (mergeK [] kvs)) (fun b o e => k b o (by simp) e) (Nat.le_refl _) ⟨hlen, hm, merged [] prs, KV.merge rel .nil, hd'⟩, rfl, q _ (I.hok.fresh (Nat.le_refl _))⟩
end
end Tl
set_option Elab.async false
set_option linter.all false
set_option maxRecDepth 100000
set_option maxHeartbeats 2000000
/-! {e for x in xs if ..}: o0 is what the new set is tracked as, add the rule of set.add that its turns take -/
namespace Tl
open PySem PySem.Spec PyProof.Rows L2
abbrev AddR := V → List V → Hp → VK → Prop
def tSet (o0 : Addr → HO) (add : AddR) (wi : TI) (g : TG) (tt : TT) (te : TE) (vs : List Nat) : TE := fun σ H Q => wi σ H fun J H1 =>
  ∀ D, H1 D = none → ∃ W : Nat → Nat → Hp → Prop, (∃ m, W 0 m (upd H1 D (o0 D))) ∧ ∀ i m G, W i m G →
    (J.stop i G ∧ Q (V.ref D) G) ∨ (J.go i G ∧ ∃ Nx : Hp → Prop, (∀ G', Nx G' → ∃ k, k < m ∧ W (i + 1) k G') ∧
      ∀ x G', J.yld i G x G' → g x (wipe σ vs) G' fun σ2 G2 => wipe σ2 vs = wipe σ vs ∧ tt σ2 G2 fun b G3 =>
        if b = true then te σ2 G3 fun y G4 => add (V.ref D) [y] G4 fun _ G5 => Nx G5 else Nx G3)
section
variable {X : Cx}
theorem pe_set {elt tg iter : Expr} {ifs : List Expr} {scope : Scope} {own : List (Str × Nat)} {pos : Pos} {wi : TI} {g : TG} {tt : TT} {te : TE} {o0 : Addr → HO} {add : AddR}
    (calm : X.calm = true) (nd : X.N.Nodup) (hi : PI X tg iter wi) (ok : BlkOk X.N X.env.scope scope own)
    (begins : ∀ (H : Hp) (h : Heap), ObjOk X.prog X.w H (h.push (nu X.w)) h.objs.size (o0 h.objs.size))
    (adds : ∀ Y : Cx, Y.prog = X.prog → Y.w = X.w → Y.K = X.K → MtR Y "set.add" add)
    (hg : ∀ (s : Shared) (H : Hp) (C : Addr) (cl : List (Str × Addr)) (fp : List Addr), PG (X.blk s H scope (compEnvC scope cl C X.env) fp) tg g)
    (ht : ∀ (s : Shared) (H : Hp) (C : Addr) (cl : List (Str × Addr)) (fp : List Addr), PTs (X.blk s H scope (compEnvC scope cl C X.env) fp) ifs tt)
    (he : ∀ (s : Shared) (H : Hp) (C : Addr) (cl : List (Str × Addr)) (fp : List Addr), PE (X.blk s H scope (compEnvC scope cl C X.env) fp) elt te)
    (once : ∀ x, foldedSetIterable iter X.env x = pure x := by intro _; rfl) :
    PE X (.SetComp elt [⟨tg, iter, ifs, 0⟩] scope pos) (tSet o0 add wi g tt te (own.map (·.2))) := by
  refine ⟨fun pins s σ H Q I h => ?_⟩
  rw [PpSet.eval_SetComp]
  refine wpAny_comprehension_free (use := none) rfl once (closure_ok fun y hy z => (ok.free y hy z).elim (fun k => I.ok.has _ (.inl k)) fun k => I.ok.has _ (.inr k)) ok.kind (fun y hy z => by rw [ok.uniq y hy, z])
    (thn (hi.run pins s σ H _ I h) fun xv s1 hx => thn hx fun itv s2 h2 => ?_)
  obtain ⟨it, fp, tn, J, H2, e, I2, T, st2, f2, q⟩ := h2
  subst e
  refine PpSet.newSet_ok (newEnv_comp ?_)
  -- the new set, at D
  generalize hD : s2.heap.objs.size = D
  have free : H2 D = none := I2.hok.fresh (Nat.le_of_eq hD)
  obtain ⟨W, ⟨m0, w0⟩, turn⟩ := q D free
  generalize hs3 : ({ s2 with heap := s2.heap.push (nu X.w) } : Shared) = s3
  have hp3 : s3.heap = s2.heap.push (nu X.w) := by rw [← hs3]
  have old3 : ∀ b o, s2.heap.get? b = some o → s3.heap.get? b = some o := fun b o z => by
    rw [hp3]
    exact Heap.get?_push_of_some _ z
  generalize hH3 : upd H2 D (o0 D) = H3 at w0
  have I3 : L2.Inv X pins σ H3 s3 := by
    rw [← hs3, ← hH3]
    refine I2.laid (t' := s2.toks) (fun b o z => Heap.get?_push_of_some _ z) (Nat.le_of_eq hD) ?_
    rw [← hD]
    exact begins _ _
  have f3 : ∀ b ∈ fp, FpOk X pins H3 b ∧ b < s3.heap.objs.size := fun b hb => by
    obtain ⟨o, eo, _⟩ := T.obj _ _ st2 b hb
    have lt : b < s2.heap.objs.size := Heap.lt_size eo
    refine ⟨⟨?_, (f2 b hb).2⟩, Heap.lt_size (old3 _ _ eo)⟩
    rw [← hH3, upd_ne (by rw [← hD]; exact Nat.ne_of_lt lt)]
    exact (f2 b hb).1
  have st3 : tn 0 s3.heap := T.keep _ _ _ st2 fun b _ o z => old3 b o z
  have I4 := block_start I3 ok nd f3
  -- its own frame, at C
  generalize hcl : cellsFrom (s3.heap.objs.size + 1) scope.names (cloFrom X.env.cells scope.names []) = cl at I4
  generalize hC : s3.heap.objs.size = C at I4 f3 hcl
  have free3 : ∀ b ∈ fp, H3 b = none := fun b hb => (f3 b hb).1.1
  show codeAny _ _ (.compStart (.SetComp elt [⟨tg, iter, ifs, 0⟩] scope pos) 0 (.ref it) (.ref D) (compEnvC scope cl C X.env))
    (compPost (model X.prog X.w) X.A X.xe none _ (.ref D) C) _
  have pg := hg s3 H3 C cl fp
  have pt := ht s3 H3 C cl fp
  have pe := he s3 H3 C cl fp
  have ad := adds (X.blk s3 H3 scope (compEnvC scope cl C X.env) fp) rfl rfl rfl
  generalize hcx : compEnvC scope cl C X.env = ce at I4 pg pt pe ad ⊢
  have locC : ce.locals = C := by rw [← hcx] <;> rfl
  generalize hs4 : ({ s3 with heap := pushCells (s3.heap.push { cls := .type "dict", data := .dict #[] }) scope.names } : Shared) = s4 at I4 ⊢
  have st4 : tn 0 s4.heap := T.keep _ _ _ st3 fun b _ o z => by
    rw [← hs4]
    exact pushCells_keeps _ _ _ _ (Heap.get?_push_of_some _ z)
  have calmB : (X.blk s3 H3 scope ce fp).calm = true := calm
  have fpB : ∀ {τ : L2.St} {G : Hp} {t : Shared}, L2.Inv (X.blk s3 H3 scope ce fp) [] τ G t → (∀ b ∈ fp, G b = none) → ∀ b ∈ fp, FpOk (X.blk s3 H3 scope ce fp) [] G b := fun {τ G t} IB z b hb =>
    ⟨z b hb, (IB.ok.exf b hb).1, IB.ok.exfs b hb, .inl hb, fun x c z2 => (IB.ok.exf b hb).2 x c z2, fun p hp => by cases hp⟩
  have loop : codeAny (model X.prog X.w) X.A (.compLoop (.SetComp elt [⟨tg, iter, ifs, 0⟩] scope pos) 0 (.ref it) (.ref D) ce)
      (compPost (model X.prog X.w) X.A X.xe none (EP X pins σ Q) (.ref D) C) s4 := by
    refine PpSet.compLoopS_any (fun n t => ∃ i G, L2.Inv (X.blk s3 H3 scope ce fp) [] (wipe σ (own.map (·.2))) G t ∧ tn i t.heap ∧ (∀ b ∈ fp, G b = none) ∧ W i n G) ?_ m0 ⟨0, H3, I4, st4, free3, w0⟩
    rintro n s5 ⟨i, H5, I5, st5, free5, w5⟩
    rcases turn i n H5 w5 with ⟨stop, fin⟩ | ⟨go, Nx, less, step⟩
    · refine thnF (T.done (X.blk s3 H3 scope ce fp) rfl rfl rfl calmB i [] s5 _ H5 (fun _ _ => False) I5 (fpB I5 free5) st5 stop) fun r s6 ⟨hr, I6⟩ => ?_
      subst hr
      have I7 : L2.Inv X pins σ H5 s6 := I3.call' (ch := fp) I6.os I6.base I6.hok I6.bare fun b hb => ⟨(f3 b hb).1.2.2.2.1, (f3 b hb).1.2.1, (f3 b hb).1.2.2.2.2.1, (f3 b hb).1.2.2.2.2.2⟩
      have nC : H5 C = none := by
        have z : H5 ce.locals = none := I6.free
        rwa [locC] at z
      obtain ⟨m, hn, _⟩ := I6.loc
      have hn : s6.heap.Ns ce.locals m := hn
      rw [locC] at hn
      obtain ⟨z0, z1, z2, z3, z4, z5⟩ := I3.fpOk (Nat.le_of_eq hC) nC
      exact ⟨m, hn, fun h' sb => ⟨.ref D, H5, I7.turned (t' := s6.toks) (fun b o hb z => (sb.2 b hb).trans z) z0 z1 z3 z4 z5, rfl, fin⟩⟩
    · refine thnF (T.item (X.blk s3 H3 scope ce fp) rfl rfl rfl calmB i [] s5 _ H5 (fun _ _ => False) I5 (fpB I5 free5) st5 go) fun r s6 ⟨u, hr, h6⟩ => ?_
      subst hr
      refine thnF h6 fun _ s7 ⟨x, H7, I7, r7, y7, st7, free7⟩ => ?_
      refine thnF (pg.run _ s7 _ H7 x u _ (I7.pinned (fpB I7 free7) (T.obj _ _ st7)) r7 (step x H7 y7)) fun _ s8 ⟨σ8, H8, I8, same8, q8⟩ => ?_
      refine thnF (pt.run _ s8 σ8 H8 _ I8 q8) fun b s9 ⟨H9, I9, q9⟩ => ?_
      have back : ∀ {t : Shared} {G : Hp}, L2.Inv (X.blk s3 H3 scope ce fp) ([] ++ pinsAt fp s7.heap) σ8 G t → Nx G →
          ∃ k, k < n ∧ ∃ i G, L2.Inv (X.blk s3 H3 scope ce fp) [] (wipe σ (own.map (·.2))) G t ∧ tn i t.heap ∧ (∀ b ∈ fp, G b = none) ∧ W i k G := fun {t G} IG nx => by
        obtain ⟨k, hk, wk⟩ := less G nx
        have kept : ∀ b ∈ fp, ∀ o, s7.heap.get? b = some o → t.heap.get? b = some o ∧ G b = none := fun b hb o z =>
          have w := IG.pin (b, o) (List.mem_append_right _ (List.mem_append_right _ (mem_pinsAt hb z)))
          ⟨w.1, w.2.1⟩
        refine ⟨k, hk, i + 1, G, (IG.unpinned (pins := [])).weak (by rw [← same8, wipe_length]) (fun j v z => ?_), T.keep _ _ _ st7 fun b hb o z => (kept b hb o z).1, fun b hb => ?_, wk⟩
        · rw [← same8] at z
          exact (wipe_some z).1
        · obtain ⟨o, z, _⟩ := T.obj _ _ st7 b hb
          exact (kept b hb o z).2
      cases b with
      | false =>
        simp only [Bool.false_eq_true, if_false] at q9 ⊢
        exact back I9 q9
      | true =>
        simp only [if_true] at q9 ⊢
        refine thnF (pe.run _ s9 σ8 H9 _ I9 q9) fun z s10 ⟨yv, H10, I10, r10, qa⟩ => ?_
        exact thnF (ad _ s10 σ8 H10 (.ref D) [yv] (.ref D) [z] _ I10 rfl (.cons r10 .nil) qa) fun _ s11 ⟨_, H11, I11, _, nx⟩ => back I11 nx
  exact PpSet.codeAny_compStart_set loop (T.self X.A 0 _ _ _ st4 loop)
end
end Tl
set_option Elab.async false
set_option linter.all false
set_option maxRecDepth 100000
set_option maxHeartbeats 2000000
/-! a def's promise where no repr is under way around it (FnG), and the end of a row over such a promise -/
namespace Tl
open PySem PySem.Spec PyProof.Rows L2
/-- no repr is under way -/
def Quiet (A : Around) : Prop := A.guards = some []
structure FnG (P : Program) (w : World) (K : PySem.W.Frag) (mg : Str → Option Value) (base : Heap) (CX : CXT) (k : Nat) (f : Addr) (fd : FuncData) (ps : List Str) (sp : Sp) : Prop where
  many : ∀ vs H Q E, sp vs H Q E → vs.length = ps.length
  runs : ∀ (A : Around) (outer : List Env) (s : Shared) (H : Hp) (args : Args) (us : List Value) (vs : List V) (Q : VK) (E : XK), Quiet A → Room k A → Env0 P w K mg base A outer s H →
    BindsTo s fd args (ps.zip us) → Vals vs us → sp vs H Q E → codeAny (model P w) A (.call (.ref f) args) (CR CX outer P w H s Q E) s
section
variable {P : Program} {w : World} {K : PySem.W.Frag} {mg : Str → Option Value} {base : Heap}
theorem Fun.okG {x qual : Str} {st : Stmt} {f : Addr} {fd : FuncData} {N ps : List Str} {k : Nat} {sp : Sp} (F : L2.Fun K x qual st f fd) (S : FnScope N ps (defScope st)) (many : ∀ vs H Q E, sp vs H Q E → vs.length = ps.length)
    (body : ∀ (cdv : Value) (A : Around) (outer : List Env) (s : Shared) (H : Hp) (vs : List V) (Q : VK) (E : XK), Quiet A → Room k (A.deeper (envOfC qual (defScope st) s.heap.objs.size f cdv)) → sp vs H Q E →
      ∃ t, PSs (cxOf CX0 P w K mg base N qual (defScope st) f cdv A outer s H E).nox (defBody st) t ∧ t { nx := fun _ H' => Q .non H', rt := Q } (start N vs) H) :
    FnG P w K mg base CX0 (k + 1) f fd ps sp := by
  obtain ⟨oc, od, kV, doc, pm, an, cdv, ct, osl, e, lk, hcd⟩ := F.ex
  subst e
  refine ⟨many, fun A outer s H args us vs Q E quiet hr e0 hb r hsp => ?_⟩
  obtain ⟨t, ht, hq⟩ := body cdv A outer s H vs Q E quiet (hr.deeper _) hsp
  have old : ∀ b o, base.get? b = some o → s.heap.get? b = some o := fun b o z => (e0.bs b o z).1
  have KX : K.In s.heap := e0.mod.kin.keeps old
  have kinds : ∀ y ∈ ps.zip us, (defScope st).names.lookup y.1 = some .local ∨ ((defScope st).names.lookup y.1 = some .cell ∧ ((cellsFrom (s.heap.objs.size + 1) (defScope st).names []).lookup y.1).isSome = true) := by
    intro y hy
    refine (S.par y.1 (List.of_mem_zip hy).1).imp id fun z => ⟨z, ?_⟩
    exact PySem.W.cellsFrom_some _ _ _ (.inl z)
  refine codeAny_call_function hr.depth (KX _ _ lk) rfl S.co S.gen rfl (PySem.W.codeRec_of KX hcd) (hb _ _ _ _ ?_)
  refine wpAny_newFunctionEnv_cells S.kind kinds fun env he s1 inside => ?_
  subst he
  refine ⟨e0.mod.nolimit.keeps fun b o z => inside.toInCall.keep b o (old b o z), codeAny_func ?_⟩
  have I := inv_start (CX := CX0) (E := E) S hr.hd e0 (many _ _ _ _ hsp) r inside
  refine wpAny_mono (ht.nox.run [] s1 (start N vs) H _ I hq) (fun fl s' hs => ?_) fun e s' hs => hs
  match fl, hs with
  | .ret u, ⟨v, σ', H', J, rv, q⟩ => exact ⟨v, H', J.os, J.bare, J.base, J.hok, rv, q⟩
  | .next, ⟨σ', H', J, q⟩ => exact ⟨V.non, H', J.os, J.bare, J.base, J.hok, rfl, q⟩
  | .brk, ⟨_, _, _, q⟩ => exact q.elim
  | .cont, ⟨_, _, _, q⟩ => exact q.elim
end
/-- the law's def is called by the row -/
theorem law_callG {P : Program} {w : World} {K : PySem.W.Frag} {mg mb : Str → Option Value} {k : Nat} {fa a : Addr} {fd : FuncData} {x : Str} {sp : Sp} {s₁ : Shared} {vs : List Value} {ns : List Int}
    (KX : K.In s₁.heap) (nsG : s₁.heap.Ns mainGlobals mg) (nsB : s₁.heap.Ns builtinsNs mb) (same : ∀ x : Str, x ≠ "__name__" → mb x = bootBuiltins x) (lim : s₁.heap.NoLimit) (gens : s₁.gens = #[])
    (ha : s₁.heap.get? a = some { cls := .type "list", data := .seq vs.toArray }) (are : IntsAre vs ns) (few : ns.length ≤ sizeLine) (hr : Room k callerA)
    (F : ∀ base : Heap, K.In base → base.Ns mainGlobals mg → FnG P w K mg base CX0 k fa fd [x] sp) (binds : ∀ (s : Shared) (u : Value), BindsTo s fd ⟨[u], []⟩ [(x, u)])
    (hsp : ∀ H : Hp, Only H → SqL K H a (ns.map V.int) → sp [.ref a] H (fun v _ => v = .bl true) fun _ _ _ => False) :
    codeAny (model P w) callerA (.call (.ref fa) ⟨[.ref a], []⟩) (fun r s' => r = .ok (.ret (.bool true)) ∧ OldK s₁.heap s'.heap ∧ s'.os = s₁.os ∧ AllBare s'.gens) s₁ := by
  have rv := vals_ints are
  have from_ : ∀ H : Hp, Only H → SqL K H a (ns.map V.int) → HOk P w H s₁.heap → (∀ b, H b ≠ none → b = a ∧ K.lookup a = none) →
      codeAny (model P w) callerA (.call (.ref fa) ⟨[.ref a], []⟩) (fun r s' => r = .ok (.ret (.bool true)) ∧ OldK s₁.heap s'.heap ∧ s'.os = s₁.os ∧ AllBare s'.gens) s₁ := fun H only sq hok track => by
    have off : ∀ b, b ≠ a → H b = none := fun b z => Classical.byContradiction fun q => z (track b q).1
    have dicts : ∀ {b : Addr} {o : Obj} {es : Array DictEntry} {ep : Nat}, s₁.heap.get? b = some o → o.data = .dict es ep → H b = none := fun {b o es ep} e d => by
      refine off b fun z => ?_
      subst z
      rw [ha] at e
      cases e
      cases (show Data.seq vs.toArray _ = Data.dict es ep from d)
    have spaces : ∀ {b : Addr} {m : Str → Option Value}, s₁.heap.Ns b m → (hidT s₁.heap H).Ns b m := fun {b m} ⟨o, es, ep, e, d, r⟩ => ⟨o, es, ep, hidT_get e (dicts e d), d, r⟩
    have KB : K.In (hidT s₁.heap H) := fun b o e => hidT_get (KX b o e) (Classical.byContradiction fun q => by
      obtain ⟨e1, e2⟩ := track b q
      rw [e1, e2] at e
      cases e)
    have e0 : Env0 P w K mg (hidT s₁.heap H) callerA [] s₁ H := by
      refine ⟨rfl, ⟨KB, spaces nsG, ⟨mb, spaces nsB, same⟩, ?_⟩, fun b o e => of_hidT e, Nat.le_of_eq (hidT_size _ _), trivial, fun b hb => absurd (show b ∈ ([] : List Addr) from hb) (by simp), hok, .of_eq gens⟩
      obtain ⟨mc, h1, h2⟩ := lim
      exact ⟨mc, spaces h1, h2⟩
    refine codeAny_mono ((F _ KB (spaces nsG)).runs callerA [] s₁ H ⟨[.ref a], []⟩ [.ref a] [.ref a] _ _ rfl hr e0 (binds s₁ (.ref a)) (.cons rfl .nil) (hsp H only sq)) fun r s' h => ?_
    match r, h with
    | .error e, h => exact False.elim h
    | .ok .next, h => exact False.elim h
    | .ok .brk, h => exact False.elim h
    | .ok .cont, h => exact False.elim h
    | .ok (.ret u), ⟨v, H', os, bare, un, hok', rvu, q⟩ =>
      obtain rfl : v = .bl true := q
      obtain rfl : u = Value.bool true := rvu
      refine ⟨rfl, OldK.of_keep fun b o e => ?_, os, bare⟩
      rcases only b with z | ⟨ob, xs, z⟩
      · exact un.keep b o e z (fun y => absurd (show b ∈ ([] : List Addr) from y) (by simp)) (by simp)
      · have e1 := (hok b _ z).1
        rw [e] at e1
        cases e1
        exact (hok' b _ (un.frzs b _ _ z)).1
  cases hk : K.lookup a with
  | some o =>
    obtain rfl : _ = o := Option.some.inj (ha.symm.trans (KX a o hk))
    refine from_ (fun _ => none) (fun _ => .inl rfl) (.inr ⟨_, vs.toArray, _, hk, rfl, rfl, rfl, ?_, by simpa using rv⟩) (fun b u z => nomatch z) fun b z => absurd rfl z
    rw [List.size_toArray, are.length]
    exact few
  | none =>
    let S : HO := .frz { cls := .type "list", data := .seq vs.toArray } (.lst (ns.map V.int))
    refine from_ (upd (fun _ => none) a S) (fun b => ?_) (.inl (.inr ⟨_, upd_same⟩)) (fun b u z => ?_) fun b z => ⟨Classical.byContradiction fun y => z (upd_ne y), hk⟩
    · by_cases y : b = a
      · subst y
        exact .inr ⟨_, _, upd_same⟩
      · exact .inl (upd_ne y)
    · by_cases y : b = a
      · subst y
        rw [upd_same] at z
        cases z
        exact ⟨ha, by rw [List.length_map]; exact few, vs, _, rv, ha⟩
      · rw [upd_ne y] at z
        cases z
/-- the end of a row -/
theorem walkG {l : PySem.W.OpenLaw} {n k : Nat} {q : Program} {loose : List Str} {XP : (Str → Option Value) → Heap → Prop} {YP : World → Heap → Prop} {d : DefRec} {K : Params → PySem.W.Frag} {sp : World → Sp} {x : Str}
    (most : l.most = some n) (few : n ≤ sizeLine) (hdf : d.params.defaults = []) (hr : Room k callerA) (hY : ∀ (w : World) (h : Heap), YP w h → (K w.params).In h)
    (F : ∀ (w : World) (mg : Str → Option Value) (fa : Addr) (h : Heap), (K w.params).In h → h.Ns mainGlobals mg → mg d.name = some (.ref fa) →
      ∃ fd : FuncData, (∀ (s : Shared) (u : Value), BindsTo s fd ⟨[u], []⟩ [(x, u)]) ∧ ∀ base : Heap, (K w.params).In base → base.Ns mainGlobals mg → FnG l.prog w (K w.params) mg base CX0 k fa fd [x] (sp w))
    (hsp : ∀ (w : World) (H : Hp) (a : Addr) (ns : List Int), ns.length ≤ n → (∀ z ∈ ns, Builtin.Int.intBits z ≤ 1048576) → Only H → SqL (K w.params) H a (ns.map V.int) → sp w [.ref a] H (fun v _ => v = .bl true) fun _ _ _ => False) :
    PySem.W.WalkO q loose XP YP l.row.toRowW d [] (fun f vs => PySem.call f vs) := by
  refine Att.attach_callB most hdf fun w s₀ s₁ mg mb fa o pm cd doc a vs ns G Y ho hd hcd hmg hobj are len bits hg => ?_
  obtain ⟨fd, hb, hF⟩ := F w mg fa _ (hY w _ Y) G.T.g hmg
  exact law_callG (hY w _ Y) G.T.g G.T.b G.T.builtins G.T.nolimit hg hobj are (Nat.le_trans len few) hr hF hb fun H only sq => hsp w H a ns len bits only sq
end Tl
set_option Elab.async false
set_option linter.all false
set_option maxRecDepth 100000
set_option maxHeartbeats 1000000
/-! defs by their names; data of tuples; what stays of a heap -/
namespace Tl
open PySem PySem.Spec PyProof.Rows L2
open C8 (Cal pe_c)
/-! ### a def of the text under its name -/
structure DefAt (K : PySem.W.Frag) (mg : Str → Option Value) (x : Str) (st : Stmt) : Prop where
  ex : ∃ (f : Addr) (fd : FuncData), L2.Fun K x x st f fd ∧ mg x = some (.ref f)
section
variable {P : Program} {w : World} {K : PySem.W.Frag} {mg : Str → Option Value} {base : Heap}
abbrev BindH (x : Str) (st : Stmt) (ps : List Str) : Prop := ∀ (kV doc pm : Value) (an : Option Addr) (cdv ct : Value) (us : List Value), us.length = ps.length →
  bindArgs (PySem.W.fnOf x x (defArgs st) (defBody st) (defScope st) .none kV doc pm an cdv ct) ⟨us, []⟩ = pure (ps.zip us)
theorem cal_of {x : Str} {st : Stmt} {N ps : List Str} {k : Nat} {sp : Sp} (D : DefAt K mg x st) (S : FnScope N ps (defScope st)) (hb : BindH x st ps) (len : ∀ vs H Q E, sp vs H Q E → vs.length = ps.length)
    (body : ∀ (f : Addr) (cdv : Value) (A : Around) (outer : List Env) (s : Shared) (H : Hp) (vs : List V) (Q : VK) (E : XK), Room k (A.deeper (envOfC x (defScope st) s.heap.objs.size f cdv)) → sp vs H Q E →
      ∃ t, PSs (cxOf CX0 P w K mg base N x (defScope st) f cdv A outer s H E).nox (defBody st) t ∧ t { nx := fun _ H' => Q .non H', rt := Q } (start N vs) H) : Cal P w K mg base (k + 1) x sp [] := by
  obtain ⟨f, fd, F, hm⟩ := D.ex
  exact ⟨f, fd, ps, [], F.ok S len (fun cdv A outer s H vs Q E hr h => body f cdv A outer s H vs Q E hr h), hm, F.kp, F.binds hb, .nil⟩
/-- a def at one more call deep: a step of an induction -/
theorem calUp {x : Str} {k j : Nat} {sp : Sp} (c : Cal P w K mg base k x sp []) (h : k ≤ j) : Cal P w K mg base j x sp [] := by
  obtain ⟨f, fd, ps, ds, F, hm, kp, b, d⟩ := c.ex
  exact ⟨f, fd, ps, ds, F.mono h, hm, kp, b, d⟩
theorem calWeak {x : Str} {k : Nat} {sp sp' : Sp} (c : Cal P w K mg base k x sp []) (h : ∀ vs H Q E, sp' vs H Q E → sp vs H Q E) : Cal P w K mg base k x sp' [] := by
  obtain ⟨f, fd, ps, ds, F, hm, kp, b, d⟩ := c.ex
  exact ⟨f, fd, ps, ds, F.imp h, hm, kp, b, d⟩
end
/-! ### what stays -/
/-- tuples and known objects stay -/
def Stay (H H' : Hp) : Prop := ∀ a o, H a = some o → ((∃ xs, o = .tup xs) ∨ ∃ ob u, o = .frz ob u) → H' a = some o
theorem Stay.refl (H : Hp) : Stay H H := fun _ _ h _ => h
theorem Stay.trans {H H1 H2 : Hp} (a : Stay H H1) (b : Stay H1 H2) : Stay H H2 := fun x o h k => b x o (a x o h k) k
theorem Same.stay {H H' : Hp} (e : Same H H') : Stay H H' := fun a o h _ => e a o h
theorem stay_new {H : Hp} {p : Addr} {o : HO} (h : H p = none) : Stay H (upd H p o) := fun a u e _ => by
  rw [upd_ne (ne_of_none e h)]
  exact e
/-- a list or a dict is changed -/
theorem stay_mut {H : Hp} {p : Addr} {o : HO} (h : Mut (H p)) : Stay H (upd H p o) := fun a u e k => by
  have ne : a ≠ p := fun z => by
    subst z
    rw [e] at h
    rcases k with ⟨xs, rfl⟩ | ⟨ob, u, rfl⟩ <;> exact h
  rw [upd_ne ne]
  exact e
theorem Stay.rd {H H' : Hp} {a : Addr} {xs : List V} (e : Stay H H') (h : Rd H a (.tup xs)) : Rd H' a (.tup xs) := by
  rcases h with h | ⟨o, h⟩
  · exact .inl (e a _ h (.inl ⟨xs, rfl⟩))
  · exact .inr ⟨o, e a _ h (.inr ⟨_, _, rfl⟩)⟩
theorem Stay.tup {K : PySem.W.Frag} {H H' : Hp} {a : Addr} {xs : List V} (e : Stay H H') (h : SqT K H a xs) : SqT K H' a xs := h.imp (fun h => e.rd h) id
theorem Stay.frz {H H' : Hp} {a : Addr} {o : Obj} {u : HO} (e : Stay H H') (h : H a = some (.frz o u)) : H' a = some (.frz o u) := e a _ h (.inr ⟨_, _, rfl⟩)
theorem tupOf {K : PySem.W.Frag} {H : Hp} {a : Addr} {xs : List V} (h : H a = some (.tup xs)) : SqT K H a xs := .inl (.inl h)
/-! ### data of tuples alone -/
mutual
inductive Dt (K : PySem.W.Frag) (H : Hp) : V → PyData → Prop
  | non : Dt K H .non .none
  | bl (b : Bool) : Dt K H (.bl b) (.bool b)
  | int (i : Int) : Dt K H (.int i) (.int i)
  | str (x : Str) : Dt K H (.str x) (.str x)
  | tup {a : Addr} {xs : List V} {ds : List PyData} : SqT K H a xs → Dts K H xs ds → Dt K H (.ref a) (.tuple ds)
inductive Dts (K : PySem.W.Frag) (H : Hp) : List V → List PyData → Prop
  | nil : Dts K H [] []
  | cons {v : V} {vs : List V} {d : PyData} {ds : List PyData} : Dt K H v d → Dts K H vs ds → Dts K H (v :: vs) (d :: ds)
end
section
variable {K : PySem.W.Frag} {H H' : Hp}
mutual
theorem Dt.stay (e : Stay H H') : ∀ (d : PyData) (v : V), Dt K H v d → Dt K H' v d
  | .none, _, h => by cases h; exact .non
  | .bool _, _, h => by cases h; exact .bl _
  | .int _, _, h => by cases h; exact .int _
  | .str _, _, h => by cases h; exact .str _
  | .list _, _, h => by cases h
  | .tuple ds, _, h => by
    cases h with
    | tup h1 h2 => exact .tup (e.tup h1) (Dts.stay e ds _ h2)
  | .dict _, _, h => by cases h
theorem Dts.stay (e : Stay H H') : ∀ (ds : List PyData) (vs : List V), Dts K H vs ds → Dts K H' vs ds
  | [], _, h => by cases h; exact .nil
  | d :: ds, _, h => by
    cases h with
    | cons h1 h2 => exact .cons (Dt.stay e d _ h1) (Dts.stay e ds _ h2)
end
mutual
theorem Dt.dp : ∀ (d : PyData) (v : V), Dt K H v d → Dp K H v d
  | .none, _, h => by cases h; exact .non
  | .bool _, _, h => by cases h; exact .bl _
  | .int _, _, h => by cases h; exact .int _
  | .str _, _, h => by cases h; exact .str _
  | .list _, _, h => by cases h
  | .tuple ds, _, h => by
    cases h with
    | tup h1 h2 => exact .tup h1 (Dts.dp ds _ h2)
  | .dict _, _, h => by cases h
theorem Dts.dp : ∀ (ds : List PyData) (vs : List V), Dts K H vs ds → DpAll K H vs ds
  | [], _, h => by cases h; exact .nil
  | d :: ds, _, h => by
    cases h with
    | cons h1 h2 => exact .cons (Dt.dp d _ h1) (Dts.dp ds _ h2)
end
theorem Dt.st {v : V} {d : PyData} (h : Dt K H v d) (e : Stay H H') : Dt K H' v d := Dt.stay e d v h
theorem Dt.p {v : V} {d : PyData} (h : Dt K H v d) : Dp K H v d := Dt.dp d v h
theorem dp_ints : ∀ ns : List Int, DpAll K H (ns.map V.int) (ns.map PyData.int)
  | [] => .nil
  | n :: ns => .cons (.int n) (dp_ints ns)
theorem dp_strs : ∀ ns : List Str, DpAll K H (ns.map V.str) (ns.map PyData.str)
  | [] => .nil
  | n :: ns => .cons (.str n) (dp_strs ns)
theorem eqv_nil : ∀ ds : List PyData, PyData.eqvAll ds [] = ds.isEmpty
  | [] => by simp [PyData.eqvAll]
  | _ :: _ => by simp [PyData.eqvAll]
end
/-! ### concepts -/
inductive C where
  | all | non | word (w : Str) | some (r : Str) (c : C) | and (a b : C)
def C.d : C → PyData
  | .all => .tuple [.str "all"]
  | .non => .tuple [.str "none"]
  | .word w => .tuple [.str "word", .str w]
  | .some r c => .tuple [.str "some", .str r, c.d]
  | .and a b => .tuple [.str "and", a.d, b.d]
abbrev Con (K : PySem.W.Frag) (H : Hp) (v : V) (c : C) : Prop := Dt K H v c.d
section
variable {K : PySem.W.Frag} {H H' : Hp} {v : V}
theorem con_all (h : Con K H v .all) : ∃ a, v = .ref a ∧ SqT K H a [.str "all"] := by
  cases h with
  | tup h1 h2 => cases h2 with
    | cons g1 g2 => cases g1; cases g2; exact ⟨_, rfl, h1⟩
theorem con_non (h : Con K H v .non) : ∃ a, v = .ref a ∧ SqT K H a [.str "none"] := by
  cases h with
  | tup h1 h2 => cases h2 with
    | cons g1 g2 => cases g1; cases g2; exact ⟨_, rfl, h1⟩
theorem con_word {x : Str} (h : Con K H v (.word x)) : ∃ a, v = .ref a ∧ SqT K H a [.str "word", .str x] := by
  cases h with
  | tup h1 h2 => cases h2 with
    | cons g1 g2 => cases g1; cases g2 with
      | cons g3 g4 => cases g3; cases g4; exact ⟨_, rfl, h1⟩
theorem con_some {r : Str} {c : C} (h : Con K H v (.some r c)) : ∃ a u, v = .ref a ∧ SqT K H a [.str "some", .str r, u] ∧ Con K H u c := by
  cases h with
  | tup h1 h2 => cases h2 with
    | cons g1 g2 => cases g1; cases g2 with
      | cons g3 g4 => cases g3; cases g4 with
        | cons g5 g6 => cases g6; exact ⟨_, _, rfl, h1, g5⟩
theorem con_and {a b : C} (h : Con K H v (.and a b)) : ∃ p u y, v = .ref p ∧ SqT K H p [.str "and", u, y] ∧ Con K H u a ∧ Con K H y b := by
  cases h with
  | tup h1 h2 => cases h2 with
    | cons g1 g2 => cases g1; cases g2 with
      | cons g3 g4 => cases g4 with
        | cons g5 g6 => cases g6; exact ⟨_, _, _, rfl, h1, g3, g5⟩
theorem con_ref {c : C} (h : Con K H v c) : ∃ a xs, v = .ref a ∧ SqT K H a xs := by
  cases c with
  | all => obtain ⟨a, e, h⟩ := con_all h; exact ⟨a, _, e, h⟩
  | non => obtain ⟨a, e, h⟩ := con_non h; exact ⟨a, _, e, h⟩
  | word x => obtain ⟨a, e, h⟩ := con_word h; exact ⟨a, _, e, h⟩
  | some r c => obtain ⟨a, u, e, h, _⟩ := con_some h; exact ⟨a, _, e, h⟩
  | and x y => obtain ⟨a, _, _, e, h, _⟩ := con_and h; exact ⟨a, _, e, h⟩
theorem mk_all {a : Addr} (h : SqT K H a [.str "all"]) : Con K H (.ref a) .all := .tup h (.cons (.str _) .nil)
theorem mk_non {a : Addr} (h : SqT K H a [.str "none"]) : Con K H (.ref a) .non := .tup h (.cons (.str _) .nil)
theorem mk_word {a : Addr} {x : Str} (h : SqT K H a [.str "word", .str x]) : Con K H (.ref a) (.word x) := .tup h (.cons (.str _) (.cons (.str _) .nil))
theorem mk_some {a : Addr} {r : Str} {u : V} {c : C} (h : SqT K H a [.str "some", .str r, u]) (hc : Con K H u c) : Con K H (.ref a) (.some r c) := .tup h (.cons (.str _) (.cons (.str _) (.cons hc .nil)))
theorem mk_and {a : Addr} {u y : V} {c e : C} (h : SqT K H a [.str "and", u, y]) (hc : Con K H u c) (he : Con K H y e) : Con K H (.ref a) (.and c e) := .tup h (.cons (.str _) (.cons hc (.cons he .nil)))
end
end Tl
set_option Elab.async false
set_option linter.all false
set_option maxRecDepth 100000
set_option maxHeartbeats 1000000
/-! comprehensions and loops over any walked thing of n turns -/
namespace Tl
open PySem PySem.Spec PyProof.Rows L2
theorem lc_it {J : It} {n : Nat} {g : TG} {tt : TT} {te : TE} {vs : List Nat} {σ : L2.St} {H1 : Hp} {D : Addr} {Qd : Hp → Prop} (Pv : Nat → Hp → Prop) (h0 : Pv 0 (upd H1 D (.lst [])))
    (hgo : ∀ i G, i < n → Pv i G → J.go i G) (hst : ∀ G, Pv n G → J.stop n G)
    (hs : ∀ i x G G1, i < n → Pv i G → J.yld i G x G1 → g x (wipe σ vs) G1 fun σ2 G2 => wipe σ2 vs = wipe σ vs ∧ tt σ2 G2 fun b G3 =>
      if b = true then te σ2 G3 fun y G4 => ∃ acc, G4 D = some (.lst acc) ∧ acc.length < sizeLine ∧ Pv (i + 1) (upd G4 D (.lst (acc ++ [y]))) else Pv (i + 1) G3) (hd : ∀ G, Pv n G → Qd G) :
    ∃ W : Nat → Nat → Hp → Prop, (∃ m, W 0 m (upd H1 D (.lst []))) ∧ ∀ i m G, W i m G →
      (J.stop i G ∧ Qd G) ∨ (J.go i G ∧ ∃ Nx : Hp → Prop, (∀ G', Nx G' → ∃ m', m' < m ∧ W (i + 1) m' G') ∧ ∀ x G', J.yld i G x G' → g x (wipe σ vs) G' fun σ2 G2 => wipe σ2 vs = wipe σ vs ∧ tt σ2 G2 fun b G3 =>
        if b = true then te σ2 G3 fun y G4 => ∃ acc, G4 D = some (.lst acc) ∧ acc.length < sizeLine ∧ Nx (upd G4 D (.lst (acc ++ [y]))) else Nx G3) := by
  refine ⟨fun i m G => m + i = n ∧ Pv i G, ⟨n, rfl, h0⟩, fun i m G ⟨e, p⟩ => ?_⟩
  cases m with
  | zero =>
    obtain rfl : i = n := by omega
    exact .inl ⟨hst G p, hd G p⟩
  | succ m => exact .inr ⟨hgo i G (by omega) p, Pv (i + 1), fun G' p' => ⟨m, Nat.lt_succ_self m, by omega, p'⟩, fun x G' y => hs i x G G' (by omega) p y⟩
theorem set_it {o0 : Addr → HO} {add : AddR} {J : It} {n : Nat} {g : TG} {tt : TT} {te : TE} {vs : List Nat} {σ : L2.St} {H1 : Hp} {D : Addr} {Qd : Hp → Prop} (Pv : Nat → Hp → Prop) (h0 : Pv 0 (upd H1 D (o0 D)))
    (hgo : ∀ i G, i < n → Pv i G → J.go i G) (hst : ∀ G, Pv n G → J.stop n G)
    (hs : ∀ i x G G1, i < n → Pv i G → J.yld i G x G1 → g x (wipe σ vs) G1 fun σ2 G2 => wipe σ2 vs = wipe σ vs ∧ tt σ2 G2 fun b G3 =>
      if b = true then te σ2 G3 fun y G4 => add (V.ref D) [y] G4 fun _ G5 => Pv (i + 1) G5 else Pv (i + 1) G3) (hd : ∀ G, Pv n G → Qd G) :
    ∃ W : Nat → Nat → Hp → Prop, (∃ m, W 0 m (upd H1 D (o0 D))) ∧ ∀ i m G, W i m G →
      (J.stop i G ∧ Qd G) ∨ (J.go i G ∧ ∃ Nx : Hp → Prop, (∀ G', Nx G' → ∃ m', m' < m ∧ W (i + 1) m' G') ∧ ∀ x G', J.yld i G x G' → g x (wipe σ vs) G' fun σ2 G2 => wipe σ2 vs = wipe σ vs ∧ tt σ2 G2 fun b G3 =>
        if b = true then te σ2 G3 fun y G4 => add (V.ref D) [y] G4 fun _ G5 => Nx G5 else Nx G3) := by
  refine ⟨fun i m G => m + i = n ∧ Pv i G, ⟨n, rfl, h0⟩, fun i m G ⟨e, p⟩ => ?_⟩
  cases m with
  | zero =>
    obtain rfl : i = n := by omega
    exact .inl ⟨hst G p, hd G p⟩
  | succ m => exact .inr ⟨hgo i G (by omega) p, Pv (i + 1), fun G' p' => ⟨m, Nat.lt_succ_self m, by omega, p'⟩, fun x G' y => hs i x G G' (by omega) p y⟩
theorem seq_off {K : PySem.W.Frag} {H H' : Hp} {a : Addr} {xs : List V} (k : ∀ o, H a = some o → H' a = some o) (h : SqL K H a xs) : SqL K H' a xs := by
  rcases h with (h | ⟨o, h⟩) | h
  · exact .inl (.inl (k _ h))
  · exact .inl (.inr ⟨o, k _ h⟩)
  · exact .inr h
theorem same_add {H H' : Hp} {p : Addr} {o : HO} (e : L2.Same H H') (h : H' p = none) : L2.Same H (upd H' p o) := fun b u k => by
  rw [upd_ne (ne_of_none (e _ _ k) h)]
  exact e _ _ k
/-- a thing that H did not know changes -/
theorem same_mut {H H' : Hp} {p : Addr} {o : HO} (e : L2.Same H H') (h : H p = none) : L2.Same H (upd H' p o) := fun b u k => by
  rw [upd_ne (ne_of_none k h)]
  exact e _ _ k
theorem same_up {H : Hp} {p : Addr} {o : HO} (h : H p = none) : L2.Same H (upd H p o) := same_add (L2.Same.refl H) h
theorem lst_of {K : PySem.W.Frag} {H : Hp} {a : Addr} {xs : List V} (h : H a = some (.lst xs)) : SqL K H a xs := .inl (.inl h)
section
variable {X : Cx} {K : PySem.W.Frag}
theorem op_inK (h : X.K = K) : OpR X (compareOp .In) (rIn K false) := by
  subst h
  exact op_in_seq
theorem op_notinK (h : X.K = K) : OpR X (compareOp .NotIn) (rIn K true) := by
  subst h
  exact op_notIn_seq
theorem pg_tupK {es : List Expr} {k : Nat} {pos : Pos} {t : TGs} {n : Nat} (hK : X.K = K) (hc : X.calm = true) (h : PGs X es t)
    (hn : (assignEach es X.env).length = n := by rfl) (hst : (assignEach es X.env).findIdx? (·.1) = none := by rfl) : PG X (.Tuple es k pos) (gTup K n t) := by
  subst hK
  exact pg_tup hc h hn hst
end
end Tl
set_option Elab.async false
set_option linter.all false
set_option maxRecDepth 100000
set_option maxHeartbeats 1000000
/-! a call with keywords alone -/
namespace Tl
open PySem PySem.Spec PyProof.Rows L2
open C8 (Cal)
section
variable {X : Cx} {CX : CXT} {k : Nat} {f : Addr} {fd : FuncData} {ps ks : List Str} {sp : Sp} {E : XK} {x : Str} {p pos : Pos} {kws : List Keyword} {tk : TA} {g : List Value → List Value → List Value} {gV : List V → List V → List V}
theorem pe_callKw (F : FnOk X.prog X.w X.K X.mg X.base CX k f fd ps sp) (hr : Room k X.A) (hg : Gl X x) (hm : X.mg x = some (.ref f)) (hk : PySem.W.keepIn X.K (.ref f) = true) (hb : KBinds X.K fd ps ks g gV) (hx : Passes CX X E)
    (hkw : PK X kws tk) (hall : (backToKw pos (keywordEach kws X.env)).all (·.1.isSome) = true) (hks : (backToKw pos (keywordEach kws X.env)).filterMap (·.1) = ks)
    (hdb : (x == ("__debug__" : Str)) = false)
    (hpl : ((backTo pos (starEach [] X.env)).any (·.1) || (backToKw pos (keywordEach kws X.env)).any (·.1.isNone)) = false) :
    PE X (.Call (.Name x p) [] kws pos) (tCallK sp gV E tNil tk) := by
  refine ⟨fun pins s σ H Q I h => ?_⟩
  refine wpAny_Call_Name_kw (ld_glob I hg hm ?_ hdb)
  refine PySem.W.callWith_KW0 (h₀ := X.base) I.ok.mod.kin hk hall (thn (hkw.run pos pins s σ H _ I h) fun ws s2 ⟨zs, H2, I2, rz, q2⟩ => ⟨I2.kIn, ?_⟩) hpl
  rw [hks]
  exact run_fnk F hr hb hx I2 .nil rz q2
end
/-- a def with its text: it may be called with keywords too -/
structure CalF (P : Program) (w : World) (K : PySem.W.Frag) (mg : Str → Option Value) (base : Heap) (k : Nat) (x : Str) (st : Stmt) (ps : List Str) (sp : Sp) : Prop where
  ex : ∃ (f : Addr) (fd : FuncData), FnOk P w K mg base CX0 k f fd ps sp ∧ mg x = some (.ref f) ∧ L2.Fun K x x st f fd
section
variable {P : Program} {w : World} {K : PySem.W.Frag} {mg : Str → Option Value} {base : Heap}
theorem calF_of {x : Str} {st : Stmt} {N ps : List Str} {k : Nat} {sp : Sp} (D : DefAt K mg x st) (S : FnScope N ps (defScope st)) (len : ∀ vs H Q E, sp vs H Q E → vs.length = ps.length)
    (body : ∀ (f : Addr) (cdv : Value) (A : Around) (outer : List Env) (s : Shared) (H : Hp) (vs : List V) (Q : VK) (E : XK), Room k (A.deeper (envOfC x (defScope st) s.heap.objs.size f cdv)) → sp vs H Q E →
      ∃ t, PSs (cxOf CX0 P w K mg base N x (defScope st) f cdv A outer s H E).nox (defBody st) t ∧ t { nx := fun _ H' => Q .non H', rt := Q } (start N vs) H) : CalF P w K mg base (k + 1) x st ps sp := by
  obtain ⟨f, fd, F, hm⟩ := D.ex
  exact ⟨f, fd, F.ok S len (fun cdv A outer s H vs Q E hr h => body f cdv A outer s H vs Q E hr h), hm, F⟩
theorem CalF.cal {x : Str} {st : Stmt} {ps : List Str} {k : Nat} {sp : Sp} (c : CalF P w K mg base k x st ps sp) (hb : BindH x st ps) : Cal P w K mg base k x sp [] := by
  obtain ⟨f, fd, F, hm, G⟩ := c.ex
  exact ⟨f, fd, ps, [], F, hm, G.kp, G.binds hb, .nil⟩
abbrev KBindH (x : Str) (st : Stmt) (ps ks : List Str) (g : List Value → List Value → List Value) : Prop := ∀ (kV doc pm : Value) (an : Option Addr) (cdv ct : Value) (us ws : List Value), (g us ws).length = ps.length →
  bindArgs (PySem.W.fnOf x x (defArgs st) (defBody st) (defScope st) .none kV doc pm an cdv ct) ⟨us, ks.zip ws⟩ = pure (ps.zip (g us ws))
theorem kbinds {x : Str} {st : Stmt} {ps ks : List Str} {f : Addr} {fd : FuncData} {g : List Value → List Value → List Value} {gV : List V → List V → List V} (F : L2.Fun K x x st f fd) (hb : KBindH x st ps ks g)
    (rel : ∀ {vs : List V} {us : List Value} {zs : List V} {ws : List Value}, Vals vs us → Vals zs ws → Vals (gV vs zs) (g us ws)) : KBinds K fd ps ks g gV := by
  obtain ⟨oc, od, kV, doc, pm, an, cdv, ct, osl, rfl, lk, hcd⟩ := F.ex
  exact ⟨fun s us ws _ hl => .of_eq (hb kV doc pm an cdv ct us ws hl), rel⟩
end
section
variable {X : Cx} {k j : Nat} {ps ks : List Str} {sp : Sp} {x : Str} {st : Stmt} {p pos : Pos} {kws : List Keyword} {tk : TA} {g : List Value → List Value → List Value} {gV : List V → List V → List V}
theorem pe_ck (c : CalF X.prog X.w X.K X.mg X.base k x st ps sp) (hr : Room j X.A) (hk : k ≤ j) (hg : Gl X x) (hb : KBindH x st ps ks g)
    (rel : ∀ {vs : List V} {us : List Value} {zs : List V} {ws : List Value}, Vals vs us → Vals zs ws → Vals (gV vs zs) (g us ws))
    (hkw : PK X kws tk) (hall : (backToKw pos (keywordEach kws X.env)).all (·.1.isSome) = true := by rfl) (hks : (backToKw pos (keywordEach kws X.env)).filterMap (·.1) = ks := by rfl)
    (hdb : (x == ("__debug__" : Str)) = false := by decide)
    (hpl : ((backTo pos (starEach [] X.env)).any (·.1) || (backToKw pos (keywordEach kws X.env)).any (·.1.isNone)) = false := by rfl) :
    PE X (.Call (.Name x p) [] kws pos) (tCallK sp gV C8.E0 tNil tk) := by
  obtain ⟨f, fd, F, hm, G⟩ := c.ex
  exact pe_callKw F (hr.mono hk) hg hm G.kp (kbinds G hb rel) C8.pass0 hkw hall hks hdb hpl
end
end Tl
set_option Elab.async false
set_option linter.all false
set_option maxRecDepth 100000
set_option maxHeartbeats 2000000
/-! enumerate(t), t a tuple; min of a list of ints -/
namespace Tl
open PySem PySem.Spec PyProof.Rows L2
section
variable {prog : Program} {w : World} {A : Around} {E : Value → Shared → Prop} {s : Shared}
theorem nextTup {it t : Addr} {i : Nat} {its : Array Value} {x : Value} {Q : Value → Shared → Prop} (a : s.heap.IsTupleIter it t i) (b : s.heap.IsTuple t its) (hx : its[i]? = some x)
    (q : ∀ h', h'.IsTupleIter it t (i + 1) → Heap.SameBut it s.heap h' → Q x { s with heap := h' }) : wpAny (model prog w) A (Builtin.SmallTypes.nextOf (.ref it)) Q E s := by
  obtain ⟨o, ho, hc, hd⟩ := id a; obtain ⟨o2, ho2, _, n2, hd2⟩ := b
  unfold Builtin.SmallTypes.nextOf
  refine wpAny_bind (wpAny_callSpecial?_slot (name := Str.ofString "__next__") a.typeIs F.slot_tuple_iterator_next (wpAny_call_entry F.slot_tuple_iterator_next a.typeIs F.entry_tuple_iterator_next ?_ (F.args_tuple_iterator_next_1 _)))
  show wpAny _ _ (field (.ref it) 0 >>= _) _ _ s; refine wpAny_bind (wpAny_field ho hd (x := .ref t) rfl ?_)
  show wpAny _ _ (if (Value.ref t == Value.none) = true then _ else _) _ _ s; rw [if_neg (show ¬ ((Value.ref t == Value.none) = true) from Bool.false_ne_true)]
  show wpAny _ _ (field (.ref it) 1 >>= _) _ _ s; refine wpAny_bind (wpAny_field ho hd (x := .int i 0) rfl ?_)
  show wpAny _ _ (seqItems? (.ref t) >>= _) _ _ s; refine wpAny_bind (wpAny_seqItems ho2 hd2 ?_)
  simp only [Int.toNat_natCast, hx]
  refine wpAny_bind (wpAny_setField ho hd (by simp) (wpAny_pure ⟨x, rfl, wpAny_pure (q _ ?_ (Heap.SameBut.update ..))⟩))
  exact ⟨_, Heap.get?_update_self _ ho (Obj.isFreed_of_fields (Obj.data_mapFields hd _)), (Obj.cls_mapFields ..).trans hc, by rw [Obj.data_mapFields hd]; simp [rawInt]⟩
theorem nextTupEnd {it t : Addr} {i : Nat} {its : Array Value} {Q : Value → Shared → Prop} (hh : A.handled = none) (a : s.heap.IsTupleIter it t i) (b : s.heap.IsTuple t its) (hx : its[i]? = none)
    (q : ∀ h' e, Heap.ExtBut it s.heap h' → (∃ o, h'.get? e = some o ∧ o.cls = .type "StopIteration") → E (.ref e) { s with heap := h' }) : wpAny (model prog w) A (Builtin.SmallTypes.nextOf (.ref it)) Q E s := by
  obtain ⟨o, ho, hc, hd⟩ := id a; obtain ⟨o2, ho2, _, n2, hd2⟩ := b
  unfold Builtin.SmallTypes.nextOf
  refine wpAny_bind (wpAny_callSpecial?_slot (name := Str.ofString "__next__") a.typeIs F.slot_tuple_iterator_next (wpAny_call_entry F.slot_tuple_iterator_next a.typeIs F.entry_tuple_iterator_next ?_ (F.args_tuple_iterator_next_1 _)))
  show wpAny _ _ (field (.ref it) 0 >>= _) _ _ s; refine wpAny_bind (wpAny_field ho hd (x := .ref t) rfl ?_)
  show wpAny _ _ (if (Value.ref t == Value.none) = true then _ else _) _ _ s; rw [if_neg (show ¬ ((Value.ref t == Value.none) = true) from Bool.false_ne_true)]
  show wpAny _ _ (field (.ref it) 1 >>= _) _ _ s; refine wpAny_bind (wpAny_field ho hd (x := .int i 0) rfl ?_)
  show wpAny _ _ (seqItems? (.ref t) >>= _) _ _ s; refine wpAny_bind (wpAny_seqItems ho2 hd2 ?_)
  simp only [Int.toNat_natCast, hx]; refine wpAny_bind (wpAny_rule (wpAny_bind (wpAny_setField ho hd (by simp) ?_)))
  show wpAny _ _ (newExc (.type "StopIteration") [] >>= _) _ _ _; refine wpAny_bind ?_
  simp only [newExc, newTuple]; refine wpAny_bind (wpAny_newObj_type ?_ (by size_fits))
  refine wpAny_bind (m := firstArgMember _ _) (wpAny_of_eq (a := Value.none) (by first | rfl | (simp only [firstArgMember]; rfl)) ?_); refine wpAny_newObj_type ?_ (by size_fits)
  simp only [raiseNew]; refine wpAny_bind (wpAny_handled ?_)
  first | rw [show A.in1.handled = none from hh] | rw [hh]
  refine wpAny_bind (wpAny_pure (wpAny_throw ?_)); exact q _ _ (((Heap.SameBut.update ..).extBut.push _).push _) ⟨_, Heap.get?_push_size _ rfl, rfl⟩
end
theorem drawsTup {prog : Program} {w : World} {A : Around} (hh : A.handled = none) (it t : Addr) (hne : t ≠ it) (its : Array Value) :
    Draws prog w A it [it, t] its.size (fun i v => its[i]? = some v) (fun i h => h.IsTupleIter it t i ∧ h.IsTuple t its) where
  live := fun _ _ ⟨⟨o, ho, _⟩, _⟩ => ⟨o, ho⟩
  frame := fun i h h' st hk => by
    obtain ⟨⟨o, ho, h1⟩, ⟨o2, ho2, h2⟩⟩ := st
    exact ⟨⟨o, hk it (by simp) o ho, h1⟩, ⟨o2, hk t (by simp) o2 ho2, h2⟩⟩
  item := fun i s Q E hi st hQ => by
    refine nextTup st.1 st.2 (x := its[i]) (by simp [hi]) fun h' hit' hs' => ?_
    obtain ⟨o2, ho2, h2⟩ := st.2
    exact hQ _ h' s.toks (by simp [hi]) ⟨hit', ⟨o2, hs'.extBut t o2 hne ho2, h2⟩⟩ hs'
  done := fun s Q E st hE => nextTupEnd hh st.1 st.2 (by simp) hE
theorem meets_enumTup (t : Addr) (its : Array Value) (n : Nat) (dct : Option Addr) (sl : Array (Option Value)) :
    Meets (Builtin.«enumerate.__new__» ⟨[.type "enumerate", .ref t], []⟩) (fun _ R s => s.heap.get? t = some { cls := .type "tuple", dict := dct, data := .seq its n, slots := sl } ∧
      R (.ok (.ret (.ref (s.heap.push { cls := .type "tuple_iterator", data := .fields #[.ref t, .int 0 0] }).objs.size)))
        { s with heap := (s.heap.push { cls := .type "tuple_iterator", data := .fields #[.ref t, .int 0 0] }).push { cls := .type "enumerate", data := .fields #[.none, .bool false, .ref s.heap.objs.size, rawInt 0, .none, .none] } }) :=
  .of_wp fun prog w A R s h => by
    obtain ⟨hp, g, d, tk, os⟩ := s; obtain ⟨hl, h⟩ := h
    have e0 := sub_enumerate; have hT : Heap.IsTuple (Shared.heap ⟨hp, g, d, tk, os⟩) t its := ⟨_, hl, rfl, n, rfl⟩
    wp_walk using wpAny_loadPart' hl
    refine wpAny_stack_any fun st => wpAny_pure ?_
    split
    · rename_i c _ _ _ _ _
      cases (c == Value.type "enumerate")
      · wp_walk using wpAny_loadPart' hl, wpAny_pyIter_tuple hT
        exact ⟨_, rfl, h⟩
      · wp_walk using wpAny_loadPart' hl, wpAny_pyIter_tuple hT
        exact ⟨_, rfl, h⟩
    · wp_walk using wpAny_loadPart' hl, wpAny_pyIter_tuple hT
      exact ⟨_, rfl, h⟩
section
variable {prog : Program} {w : World} {A : Around} {E : Value → Shared → Prop} {s : Shared}
theorem call_enumTup {t : Addr} {its : Array Value} {Q : Value → Shared → Prop} (hT : s.heap.IsTuple t its)
    (h : ∀ h', IsEnum h' (s.heap.objs.size + 1) s.heap.objs.size 0 .none → h'.IsTupleIter s.heap.objs.size t 0 → (∀ b o, s.heap.get? b = some o → h'.get? b = some o) → Q (.ref (s.heap.objs.size + 1)) { s with heap := h' }) :
    wpAny (model prog w) A (call (.type "enumerate") [.ref t]) Q E s := by
  obtain ⟨⟨c, dct, dt, sl⟩, hl, hc, n, hd⟩ := hT
  obtain rfl : c = .type "tuple" := hc
  obtain rfl : dt = .seq its n := hd
  refine callType_new F.called_enumerate (by decide) (F.typeCall_enumerate_1 _) (F.newCall_enumerate_1 _) (fun obj => F.args_object_init_2 obj _) F.entry_enumerate_new (meets_enumTup t its n dct sl) ⟨hl, ?_⟩
  have z1 : (s.heap.push { cls := .type "tuple_iterator", data := .fields #[.ref t, .int 0 0] }).objs.size = s.heap.objs.size + 1 := Heap.size_push ..
  show _ ∧ _; rw [z1]
  have he := Heap.get?_push_size (s.heap.push { cls := .type "tuple_iterator", data := .fields #[.ref t, .int 0 0] }) (o := { cls := .type "enumerate", data := .fields #[.none, .bool false, .ref s.heap.objs.size, rawInt 0, .none, .none] }) rfl
  rw [z1] at he
  exact ⟨⟨_, he, rfl⟩, h _ he ⟨_, Heap.get?_push_of_some _ (Heap.get?_push_size _ rfl), rfl, rfl⟩ fun b o x => Heap.get?_push_of_some _ (Heap.get?_push_of_some _ x)⟩
end
section
variable {prog : Program} {w : World} {A : Around} {E : Value → Shared → Prop} {s : Shared}
theorem enumTupEnd {e it t : Addr} {i : Nat} {its : Array Value} {j : Int} {old : Value} {Q : Option Value → Shared → Prop} (hh : A.in1.handled = none) (he : IsEnum s.heap e it j old) (a : s.heap.IsTupleIter it t i) (b : s.heap.IsTuple t its) (hx : its[i]? = none)
    (hQ : ∀ h', Heap.ExtBut it s.heap h' → Q none { s with heap := h' }) : wpAny (model prog w) A (pyNext (.ref e)) Q E s := by
  have hT : s.TypeIs (.ref e) "enumerate" := ⟨_, he, rfl⟩; unfold pyNext
  refine wpAny_bind (wpAny_attempt (wpAny_callSpecial?_slot (name := Str.ofString "__next__") hT F.slot_enumerate_next (wpAny_call_entry F.slot_enumerate_next hT F.entry_enumerate_next ?_ (F.args_enumerate_next_1 _))))
  show wpAny _ _ (field (.ref e) 2 >>= _) _ _ _; refine wpAny_bind (wpAny_field he rfl (x := .ref it) rfl ?_)
  refine wpAny_bind (nextTupEnd hh a b hx fun h' x he' hx' => ?_); obtain ⟨o, ho, hc⟩ := hx'
  refine wpAny_bind (wpAny_isInstance (T := "StopIteration") (b := true) ⟨o, ho, hc⟩ isSubtype_stop ?_); exact wpAny_pure (hQ _ he')
end
/-- the tuple at a, each item in a new pair -/
def IteT (K : PySem.W.Frag) (a : Addr) : It :=
  ⟨fun i H => ∃ (xs : List V) (x : V), SqT K H a xs ∧ xs[i]? = some x, fun i H v H' => ∃ T x, v = .ref T ∧ H T = none ∧ H' = upd H T (.tup [.int (i : Nat), x]) ∧ ∀ xs, SqT K H a xs → xs[i]? = some x, fun i H => ∃ xs : List V, SqT K H a xs ∧ xs.length ≤ i⟩
theorem iter_apart {h : Heap} {it t : Addr} {i : Nat} {its : Array Value} (a : h.IsTupleIter it t i) (b : h.IsTuple t its) : t ≠ it := fun z => by
  subst z
  obtain ⟨o, ho, hc, _⟩ := a
  obtain ⟨o2, ho2, hc2, _⟩ := b
  cases ho.symm.trans ho2
  exact absurd (Value.type.inj (hc.symm.trans hc2)) (by decide)
theorem turn_enumT {P : Program} {w : World} {K : PySem.W.Frag} {elts : List Expr} {kk : Nat} {tpos : Pos} (a e it : Addr) :
    Turn P w K (.Tuple elts kk tpos) (IteT K a) [e, it] e (fun i h => (∃ old, IsEnum h e it ((i : Nat) : Int) old) ∧ h.IsTupleIter it a i ∧ e ≠ it) where
  mem := by simp
  obj := fun i h st b hb => by
    obtain ⟨⟨old, he⟩, ⟨o, ho, hc, hd⟩, _⟩ := st
    rcases (show b = e ∨ b = it by simpa using hb) with rfl | rfl
    · exact ⟨_, he, fun v q => nomatch q⟩
    · exact ⟨o, ho, fun v q => by rw [hd] at q; cases q⟩
  keep := fun i h h' ⟨⟨old, he⟩, ⟨o, ho, r⟩, hne⟩ k => ⟨⟨old, k e (by simp) _ he⟩, ⟨o, k it (by simp) o ho, r⟩, hne⟩
  item := by
    intro X hP hw hK hc i pins s σ H E I hf st hg; subst hP hw hK
    obtain ⟨⟨old, he⟩, hit, hne⟩ := st; obtain ⟨xs, x, hq, hx⟩ := hg
    obtain ⟨its, rv, p, hz⟩ := I.tuple hq; obtain ⟨u, hu, ru⟩ := rv.get hx
    have p : s.heap.IsTuple a its.toArray := p
    have ap := iter_apart hit p
    have hel : e < s.heap.objs.size := Heap.lt_size he
    have hil : it < s.heap.objs.size := by obtain ⟨_, q, _⟩ := hit; exact Heap.lt_size q
    have li : i < its.length := (List.getElem?_eq_some_iff.mp hu).1
    have ea : e ≠ a := fun z => by
      subst z; obtain ⟨o2, ho2, hc2, _⟩ := p
      cases he.symm.trans ho2; exact absurd (Value.type.inj hc2) (by decide)
    refine wpAny_pyNext_enum_itemD (drawsTup (prog := X.prog) (w := X.w) (A := X.A.in1) (I.ok.hd hc) it a ap its.toArray) he ⟨hit, p⟩ (by simpa using li) hne (by simp [hne, ea]) fun v h' tk hv ho st' hT hsz hk => ?_
    have hv : its[i]? = some v := by simpa using hv
    obtain rfl : u = v := Option.some.inj (hu.symm.trans hv)
    refine ⟨_, rfl, wpAny_letOwnedTupleGo_enum (s := { s with heap := h', toks := tk + 1 }) ho fun h'' he' sb => ?_⟩
    have hT2 : h''.get? s.heap.objs.size = some { cls := .type "tuple", data := .seq #[.int i tk, u] } := (sb.2 _ (Nat.ne_of_gt hel)).trans hT
    have new : ObjOk X.prog X.w (upd H s.heap.objs.size (.tup [.int (i : Nat), x])) h'' s.heap.objs.size (.tup [.int (i : Nat), x]) := ⟨by show 2 ≤ sizeLine; decide, [.int i tk, u], .cons ⟨_, rfl⟩ (.cons ru .nil), ⟨_, hT2, rfl, _, rfl⟩⟩
    have I1 : Inv X pins σ (upd H s.heap.objs.size (.tup [.int (i : Nat), x])) { s with heap := h'', toks := tk + 1 } :=
      I.turnedNew (ch := [e, it]) (fun b ob hb q => (sb.2 b (fun z => hb (by simp [z]))).trans (hk b ob (fun z => hb (by simp [z])) (fun z => hb (by simp [z])) q)) hf (Nat.le_refl _) new
    refine ⟨.ref s.heap.objs.size, _, I1, rfl, ⟨_, x, rfl, I.hok.fresh (Nat.le_refl _), rfl, fun ys hy => ?_⟩, ⟨⟨u, ?_⟩, ?_, hne⟩, fun b hb => ?_⟩
    · rw [I.tuple_inj hy hq]; exact hx
    · rw [show ((i + 1 : Nat) : Int) = (i : Int) + 1 by omega]; exact he'
    · obtain ⟨⟨o, ho, r⟩, _⟩ := st'
      exact ⟨o, (sb.2 it (Ne.symm hne)).trans ho, r⟩
    · have hb' : b < s.heap.objs.size := by
        rcases (show b = e ∨ b = it by simpa using hb) with rfl | rfl
        · exact hel
        · exact hil
      rw [upd_ne (Nat.ne_of_lt hb')]; exact (hf b hb).1
  done := by
    intro X hP hw hK hc i pins s σ H E I hf st hg; subst hP hw hK
    obtain ⟨⟨old, he⟩, hit, hne⟩ := st; obtain ⟨xs, hq, hx⟩ := hg
    obtain ⟨its, rv, p, hz⟩ := I.tuple hq
    have p : s.heap.IsTuple a its.toArray := p
    have ap := iter_apart hit p
    have hl := rv.length
    obtain ⟨f0, f1, f2, f3, f4, f5⟩ := hf it (by simp)
    have en : its.toArray[i]? = none := by simp; omega
    exact enumTupEnd (show X.A.in1.handled = none from I.ok.hd hc) he hit p en fun h' eb => ⟨rfl, I.turned (t' := s.toks) (fun b o hb q => eb b o hb q) f0 f1 f3 f4 f5⟩
  self := fun A i s Q E st h => let ⟨⟨_, he⟩, _⟩ := st; wpAny_pyIter_enum he h
def iEnumT (K : PySem.W.Frag) (ta : TA) : TI := fun σ H R => ta σ H fun vs H1 => ∃ a xs, vs = [.ref a] ∧ SqT K H1 a xs ∧ R (IteT K a) H1
theorem pi_enumT {X : Cx} {K : PySem.W.Frag} {e : Expr} {ta : TA} {p pos tpos : Pos} {elts : List Expr} {kk : Nat} (hK : X.K = K) (hg : Gl X "enumerate") (hm : X.mg "enumerate" = none) (ha : PA X [e] ta) (hs : starEach [e] X.env = [(false, eval e X.env)] := by rfl) :
    PI X (.Tuple elts kk tpos) (.Call (.Name "enumerate" p) [e] [] pos) (iEnumT K ta) := by
  subst hK
  refine ⟨fun pins s σ H R I h => Call_ (ld_blt I hg hm boot_enumerate (PyProof.Rows.callWith_type1 (thn (ha.run pos pins s σ H _ I h) fun us s1 ⟨vs, H1, I1, r1, q1⟩ => ?_) hs rfl))⟩
  obtain ⟨a, xs, rfl, hq, q⟩ := q1
  obtain ⟨u, rfl, ru⟩ := r1.one
  obtain rfl : u = Value.ref a := ru
  obtain ⟨its, rv, p', hz⟩ := I1.tuple hq
  refine call_enumTup (its := its.toArray) p' fun h' he hit hk => wpAny_pyIter_enum he ⟨s1.heap.objs.size + 1, [s1.heap.objs.size + 1, s1.heap.objs.size], _, _, H1, rfl, I1.kept (t' := s1.toks) hk, turn_enumT a (s1.heap.objs.size + 1) s1.heap.objs.size, ⟨⟨.none, he⟩, hit, Nat.succ_ne_self _⟩, fun b hb => ?_, q⟩
  have hle : s1.heap.objs.size ≤ b := by
    rcases (show b = s1.heap.objs.size + 1 ∨ b = s1.heap.objs.size by simpa using hb) with rfl | rfl
    · exact Nat.le_succ _
    · exact Nat.le_refl _
  exact I1.fpOk hle (I1.hok.fresh hle)
/-- a loop over the places and the items of a tuple -/
theorem for_enumT {K : PySem.W.Frag} {a : Addr} {xs : List V} {g : TG} {tb : TS} {D : Ends} {σ : L2.St} {H : Hp} (Pv : Nat → L2.St → Hp → Prop) (h0 : Pv 0 σ H) (hl : ∀ i σ H, i ≤ xs.length → Pv i σ H → SqT K H a xs)
    (hs : ∀ i x σ H T, xs[i]? = some x → Pv i σ H → H T = none → g (.ref T) σ (upd H T (.tup [.int (i : Nat), x])) fun σ2 H2 => tb { D with nx := Pv (i + 1), ct := Pv (i + 1), bk := D.nx } σ2 H2) (hd : ∀ σ H, Pv xs.length σ H → D.nx σ H) :
    ∃ W : Nat → Nat → L2.St → Hp → Prop, (∃ m, W 0 m σ H) ∧ ∀ i m σ H, W i m σ H →
      ((IteT K a).stop i H ∧ D.nx σ H) ∨ ((IteT K a).go i H ∧ ∃ N : L2.St → Hp → Prop, (∀ σ' H', N σ' H' → ∃ m', m' < m ∧ W (i + 1) m' σ' H') ∧ ∀ x H', (IteT K a).yld i H x H' → g x σ H' fun σ2 H2 => tb { D with nx := N, ct := N, bk := D.nx } σ2 H2) := by
  refine ⟨fun i m σ H => m + i = xs.length ∧ Pv i σ H, ⟨xs.length, rfl, h0⟩, fun i m σ H ⟨e, p⟩ => ?_⟩
  cases m with
  | zero =>
    obtain rfl : i = xs.length := by omega
    exact .inl ⟨⟨xs, hl _ _ _ (Nat.le_refl _) p, Nat.le_refl _⟩, hd σ H p⟩
  | succ m =>
    have li : i < xs.length := by omega
    refine .inr ⟨⟨xs, xs[i], hl _ _ _ (by omega) p, List.getElem?_eq_getElem li⟩, Pv (i + 1), fun σ' H' p' => ⟨m, Nat.lt_succ_self m, by omega, p'⟩, fun v H' y => ?_⟩
    obtain ⟨T, x, rfl, nT, rfl, hx⟩ := y
    exact hs i x σ H T (hx xs (hl _ _ _ (by omega) p)) p nT
/-- min(l), l a list of ints -/
def rMinI (K : PySem.W.Frag) : List V → Hp → VK → Prop := fun vs H Q => ∃ (p : Addr) (ns : List Int), vs = [V.ref p] ∧ SqL K H p (ns.map V.int) ∧ ns ≠ [] ∧ ∀ M, M ∈ ns → (∀ a, a ∈ ns → M ≤ a) → Q (.int M) H
theorem cr_minI {X : Cx} (calm : X.calm = true) : CallR X (.builtin "min") (rMinI X.K) := by
  intro pins s σ H vs us Q I r ⟨p, ns, e, sq, ne, q⟩
  subst e
  rw [Vals.ref1 r]
  obtain ⟨its, rv, pl, sz⟩ := I.list sq
  have hi : IntsAre its ns := intsAre_of rv
  obtain ⟨xs, ex⟩ := hi.allInts.items
  have hns : ns = xs.toList.map (·.1) := by rw [← hi.numsOf, ← nums_intItems, ← ex]
  have hsz : 0 < xs.size := by
    have := List.length_pos_iff.mpr ne
    rw [hns, List.length_map, Array.length_toList] at this
    exact this
  have hl := pl.isList
  rw [ex] at hl
  refine min_intList (I.ok.hd calm) hl hsz fun v h' tk hv hk => ?_
  obtain ⟨t, rfl⟩ := intItems_at hv
  obtain ⟨h1, h2⟩ := argBest_lt (numAt xs) (xs.size - 1)
  have inn : numAt xs (argBest (fun i j => decide (numAt xs i < numAt xs j)) (xs.size - 1)) ∈ ns := by
    rw [hns, numAt_eq]
    exact getD_mem (by simp; omega)
  refine ⟨.int _, H, I.kept (t' := tk) hk, ⟨t, rfl⟩, q _ inn fun a ha => ?_⟩
  rw [hns] at ha
  obtain ⟨j, hj, e⟩ := mem_getD ha
  subst e
  have hj : j < xs.size := by simpa using hj
  rw [← numAt_eq xs j]
  exact h2 j (by omega)
end Tl
set_option Elab.async false
set_option linter.all false
set_option maxRecDepth 100000
set_option maxHeartbeats 2000000
/-! t[::-1] of a tuple, 'a' * n -/
namespace Tl
open PySem PySem.Spec PyProof.Rows L2
theorem rev_pick (xs : Array Value) : ((List.range xs.size).filterMap fun (m : Nat) => xs[(((xs.size : Int) - 1) + (m : Int) * (-1)).toNat]?).toArray = xs.toList.reverse.toArray := by
  have e : (List.range xs.size).filterMap (fun (m : Nat) => xs[(((xs.size : Int) - 1) + (m : Int) * (-1)).toNat]?) = ((List.range xs.size).map fun (m : Nat) => (((xs.size : Int) - 1) + (m : Int) * (-1)).toNat).filterMap (xs[·]?) := by
    rw [List.filterMap_map]
    rfl
  rw [e, ← PySem.W.krv_pick]
  unfold slicePick
  rw [PySem.W.krv_bounds]
  show _ = ((sliceRange ((xs.size : Int) - 1) (-1) (-1)).filterMap (xs[·]?)).toArray
  rw [PySem.W.krv_sliceRange]
  congr 2
  refine List.map_congr_left fun m hm => ?_
  have := List.mem_range.mp hm
  omega
section
variable {prog : Program} {w : World} {A : Around} {E : Value → Shared → Prop} {s : Shared}
theorem applied_rev {sl : Addr} {vl vu vs : Value} {n : Nat} {Q : Int × Int × Nat → Shared → Prop} (hs : s.heap.IsSliceOf sl vl vu vs) (pl : IsPart vl none) (pu : IsPart vu none) (ps : IsPart vs (some (-1)))
    (h : Q ((n : Int) - 1, -1, n) s) : wpAny (model prog w) A (Builtin.Slice.sliceApplied (.ref sl) (pure (n : Int))) Q E s := by
  obtain ⟨os, hos, hcs, hds⟩ := id hs
  unfold Builtin.Slice.sliceApplied Builtin.Slice.sliceFields
  refine wpAny_bind (wpAny_bind (wpAny_field hos hds (x := vl) rfl (wpAny_bind (wpAny_field hos hds (x := vu) rfl (wpAny_bind (wpAny_field hos hds (x := vs) rfl (wpAny_pure ?_)))))))
  refine wpAny_bind (HT.slicePart_ ps ?_)
  show wpAny _ _ (if ((-1 : Int) == 0) = true then _ else _) _ _ s; rw [if_neg (by decide)]
  refine wpAny_bind (HT.slicePart_ pl (wpAny_bind (HT.slicePart_ pu (wpAny_bind (wpAny_pure ?_)))))
  have e1 : Builtin.Slice.sliceAdjust none none (-1) (n : Int) = ((n : Int) - 1, -1) := rfl
  have e2 : Builtin.Slice.slicePlaces ((n : Int) - 1) (-1) (-1) = n := by
    unfold Builtin.Slice.slicePlaces
    rw [if_neg (by decide), show (-(-1) : Int) = 1 by decide, Int.ediv_one]
    split <;> omega
  show wpAny _ _ (match Builtin.Slice.sliceAdjust none none (-1) (n : Int) with | (lo, hi) => pure (lo, (-1 : Int), Builtin.Slice.slicePlaces lo hi (-1))) _ _ s
  rw [e1]
  show wpAny _ _ (pure ((n : Int) - 1, (-1 : Int), Builtin.Slice.slicePlaces ((n : Int) - 1) (-1) (-1))) _ _ s
  rw [e2]; exact wpAny_pure h
theorem getItem_rev {t sl : Addr} {its : Array Value} {vl vu vs : Value} {Q : Value → Shared → Prop} (ht : IsTup s.heap t its) (hs : s.heap.IsSliceOf sl vl vu vs) (pl : IsPart vl none) (pu : IsPart vu none) (ps : IsPart vs (some (-1)))
    (h : Q (.ref s.heap.objs.size) { s with heap := s.heap.push { cls := .type "tuple", data := .seq its.toList.reverse.toArray } }) (hsz : its.size ≤ sizeLine) : wpAny (model prog w) A (getItem (.ref t) (.ref sl)) Q E s := by
  have room : sizeOk (.seq its.toList.reverse.toArray) := by show its.toList.reverse.toArray.size ≤ sizeLine; simpa using hsz
  obtain ⟨os, hos, hcs, hds⟩ := id hs
  have hTs : s.TypeIs (.ref sl) "slice" := ⟨os, hos, hcs⟩
  unfold getItem
  try with_reducible refine wpAny_holding ?_
  first | refine wpAny_bind (wpAny_pure ?_) | skip
  refine wpAny_bind (wpAny_sequenceKey ht.typeIs (by decide) ?_)
  refine wpAny_bind (wpAny_callSpecial?_slot (name := Str.ofString "__getitem__") ht.typeIs PyProof.Rows.slot_tuple_getitem (wpAny_call_entry PyProof.Rows.slot_tuple_getitem ht.typeIs entry_tuple_getitem ?_ (args_tuple_getitem _ _)))
  show wpAny _ _ (Builtin.Tuple.tupleItemsOf (.ref t) >>= _) _ _ s; refine wpAny_bind (tupleItemsOf_ ht ?_)
  refine wpAny_bind (wpAny_typeOf hTs ?_); rw [if_pos (by decide)]
  refine wpAny_bind (applied_rev (n := its.size) hs pl pu ps ?_)
  have no : ¬ ((((its.size : Int) - 1) == 0 && (-1 : Int) == 1 && its.size == its.size) = true) := by simp
  show wpAny _ _ (if (((its.size : Int) - 1) == 0 && (-1 : Int) == 1 && its.size == its.size) = true then _ else _) _ _ s
  rw [if_neg no, rev_pick]
  first
    | exact wpAny_bind (m := Builtin.Tuple.tupleExact _) (wpAny_newObj_type (wpAny_pure ⟨_, rfl, wpAny_pure h⟩) room)
    | exact wpAny_bind (m := Builtin.Tuple.tupleExact _) (wpAny_newObj_type (wpAny_bind (wpAny_pure (wpAny_pure ⟨_, rfl, wpAny_pure h⟩))) room)
    | exact wpAny_bind (wpAny_bind (m := Builtin.Tuple.tupleExact _) (wpAny_newObj_type (wpAny_pure (wpAny_pure ⟨_, rfl, wpAny_pure h⟩)) room))
    | exact wpAny_bind (wpAny_bind (m := Builtin.Tuple.tupleExact _) (wpAny_newObj_type (wpAny_pure ⟨_, rfl, wpAny_pure h⟩) room))
end
section
variable {X : Cx} {K : PySem.W.Frag}
def tRevT (K : PySem.W.Frag) (te : TE) : TE := fun σ H Q => te σ H fun x H1 => ∃ a xs, x = .ref a ∧ SqT K H1 a xs ∧ ∀ p, H1 p = none → Q (.ref p) (upd H1 p (.tup xs.reverse))
theorem pe_revT {e : Expr} {te : TE} {k : Nat} {p1 p2 p3 pos : Pos} (hK : X.K = K) (he : PE X e te) : PE X (.Subscript e (.Slice none none (some (.UnaryOp .USub (.Constant (.int 1) k p1) p2)) p3) pos) (tRevT K te) := by
  subst hK
  refine ⟨fun pins s σ H Q I h => Subscript_ (thn (he.run pins s σ H _ I h) fun v s1 ⟨x, H1, I1, r1, q1⟩ => ?_)⟩
  obtain ⟨a, xs, rfl, hx, q⟩ := q1
  obtain rfl : v = Value.ref a := r1
  have part : PO X (some (.UnaryOp .USub (.Constant (.int 1) k p1) p2)) (tPart (tUn (rU fun i => .int (-i)) (tC (.int 1)))) := po_some (pe_un un_neg pe_int)
  refine wpAny_Slice (thn (po_none.run pins s1 σ H1 (fun o H2 => o = none ∧ H2 = H1) I1 ⟨rfl, rfl⟩) fun vl s2 ⟨l, H2, I2, pl, e1, e2⟩ => ?_); subst e1 e2
  refine thn (po_none.run pins s2 σ _ (fun o H3 => o = none ∧ H3 = H2) I2 ⟨rfl, rfl⟩) fun vu s3 ⟨u, H3, I3, pu, e3, e4⟩ => ?_; subst e3 e4
  refine thn (part.run pins s3 σ _ (fun o H4 => o = some (-1) ∧ H4 = H3) I3 ⟨1, rfl, -1, rfl, rfl, rfl⟩) fun vs s4 ⟨o, H4, I4, ps, e5, e6⟩ => ?_; subst e5 e6
  have I5 : Inv X pins σ H4 { s4 with heap := s4.heap.push { cls := .type "slice", data := .fields #[vl, vu, vs] } } := I4.kept (t' := s4.toks) fun b ob q => Heap.get?_push_of_some _ q
  obtain ⟨its, r, ht, hz⟩ := I5.tuple hx
  have hlen := r.length
  refine tail_any (ops := [.ref a, .ref s4.heap.objs.size]) ht.typeIs PyProof.Rows.slot_tuple_getitem.lookup ?_ (by with_unfolding_all rfl)
  refine getItem_rev ht (Heap.IsSliceOf.new _ vl vu vs) pl pu ps ?_ (by rw [List.size_toArray]; omega)
  refine ⟨.ref _, _, I5.laid (t' := s4.toks) (o := .tup xs.reverse) (fun b ob q => Heap.get?_push_of_some _ q) (Nat.le_refl _) ?_, rfl, q _ (I5.hok.fresh (Nat.le_refl _))⟩
  exact ⟨by rw [List.length_reverse]; exact hz, _, r.reverse, IsTup.new _ _⟩
/-- 'a' * 11 -/
def rMulA : R2 := fun x y H Q => x = .str "a" ∧ y = .int 11 ∧ Q (.str "aaaaaaaaaaa") H
theorem op_mulA : OpR X (binaryOp .Mult) rMulA := by
  intro pins s σ H x y v u Q I rx ry ⟨ex, ey, q⟩
  subst ex ey
  obtain ⟨t, rfl⟩ := rx
  obtain ⟨t', rfl⟩ := ry
  refine PySem.P.mul_str (by decide) (fun _ _ => by decide) (fun _ _ => by decide +kernel) ?_
  rw [if_neg (by decide), if_neg (by decide +kernel)]
  exact ⟨by decide +kernel, ⟨.str "aaaaaaaaaaa", H, I.tok _, ⟨_, by rfl⟩, q⟩⟩
end
end Tl
set_option Elab.async false
set_option linter.all false
set_option maxRecDepth 100000
set_option maxHeartbeats 2000000
/-! the text by its places -/
namespace K07
open PySem PySem.Spec PyProof.Rows L2 Tl
def topS (i : Nat) : Stmt := PySem.Challenge.pw_tellalike_k07_whole_models_and_first_axi.main.body.getD i (.Pass ⟨0, 0, 0, 0⟩)
abbrev sIsInteger : Stmt := topS 6
theorem scIsInteger : FnScope ["thing"] ["thing"] (defScope sIsInteger) := ⟨rfl, rfl, rfl, by decide +kernel, rfl, by decide +kernel, by decide +kernel⟩
abbrev sIsPair : Stmt := topS 7
theorem scIsPair : FnScope ["thing"] ["thing"] (defScope sIsPair) := ⟨rfl, rfl, rfl, by decide +kernel, rfl, by decide +kernel, by decide +kernel⟩
abbrev sIsAscending : Stmt := topS 8
theorem scIsAscending : FnScope ["items", "k"] ["items"] (defScope sIsAscending) := ⟨rfl, rfl, rfl, by decide +kernel, rfl, by decide +kernel, by decide +kernel⟩
abbrev sIsWord : Stmt := topS 12
theorem scIsWord : FnScope ["thing", "sign"] ["thing"] (defScope sIsWord) := ⟨rfl, rfl, rfl, by decide +kernel, rfl, by decide +kernel, by decide +kernel⟩
abbrev sIsConcept : Stmt := topS 13
theorem scIsConcept : FnScope ["thing", "todo", "needed"] ["thing"] (defScope sIsConcept) := ⟨rfl, rfl, rfl, by decide +kernel, rfl, by decide +kernel, by decide +kernel⟩
abbrev sIsBook : Stmt := topS 14
theorem scIsBook : FnScope ["thing", "axiom"] ["thing"] (defScope sIsBook) := ⟨rfl, rfl, rfl, by decide +kernel, rfl, by decide +kernel, by decide +kernel⟩
abbrev sCheckConcept : Stmt := topS 15
theorem scCheckConcept : FnScope ["thing"] ["thing"] (defScope sCheckConcept) := ⟨rfl, rfl, rfl, by decide +kernel, rfl, by decide +kernel, by decide +kernel⟩
abbrev sCheckBook : Stmt := topS 16
theorem scCheckBook : FnScope ["thing"] ["thing"] (defScope sCheckBook) := ⟨rfl, rfl, rfl, by decide +kernel, rfl, by decide +kernel, by decide +kernel⟩
abbrev sBottomUp : Stmt := topS 17
theorem scBottomUp : FnScope ["concept", "todo", "found", "item"] ["concept"] (defScope sBottomUp) := ⟨rfl, rfl, rfl, by decide +kernel, rfl, by decide +kernel, by decide +kernel⟩
abbrev sInner : Stmt := topS 18
theorem scInner : FnScope ["thing"] ["thing"] (defScope sInner) := ⟨rfl, rfl, rfl, by decide +kernel, rfl, by decide +kernel, by decide +kernel⟩
abbrev sIsLetter : Stmt := topS 19
theorem scIsLetter : FnScope ["sign"] ["sign"] (defScope sIsLetter) := ⟨rfl, rfl, rfl, by decide +kernel, rfl, by decide +kernel, by decide +kernel⟩
abbrev sIsWorld : Stmt := topS 22
theorem scIsWorld : FnScope ["thing", "many", "names", "roles"] ["thing"] (defScope sIsWorld) := ⟨rfl, rfl, rfl, by decide +kernel, rfl, by decide +kernel, by decide +kernel⟩
abbrev sDoesHoldIn : Stmt := topS 23
theorem scDoesHoldIn : FnScope ["world", "left", "right"] ["world", "left", "right"] (defScope sDoesHoldIn) := ⟨rfl, rfl, rfl, by decide +kernel, rfl, by decide +kernel, by decide +kernel⟩
abbrev sJudgeModel : Stmt := topS 24
theorem scJudgeModel : FnScope ["world", "book", "j", "left", "right", "x"] ["world", "book"] (defScope sJudgeModel) := ⟨rfl, rfl, rfl, by decide +kernel, rfl, by decide +kernel, by decide +kernel⟩
abbrev sModelHolds : Stmt := topS 25
theorem scModelHolds : FnScope ["world", "book", "thing", "number"] ["world", "book", "thing"] (defScope sModelHolds) := ⟨rfl, rfl, rfl, by decide +kernel, rfl, by decide +kernel, by decide +kernel⟩
abbrev sCheckWorld : Stmt := topS 26
theorem scCheckWorld : FnScope ["thing"] ["thing"] (defScope sCheckWorld) := ⟨rfl, rfl, rfl, by decide +kernel, rfl, by decide +kernel, by decide +kernel⟩
abbrev sIsListing : Stmt := topS 27
theorem scIsListing : FnScope ["thing", "is_item", "many", "row"] ["thing", "is_item", "many"] (defScope sIsListing) := ⟨rfl, rfl, rfl, by decide +kernel, rfl, by decide +kernel, by decide +kernel⟩
abbrev sAreItems : Stmt := topS 28
theorem scAreItems : FnScope ["thing", "is_item", "many", "item"] ["thing", "is_item", "many"] (defScope sAreItems) := ⟨rfl, rfl, rfl, by decide +kernel, rfl, by decide +kernel, by decide +kernel⟩
abbrev sIsThing : Stmt := topS 29
theorem scIsThing : FnScope ["item", "many"] ["item", "many"] (defScope sIsThing) := ⟨rfl, rfl, rfl, by decide +kernel, rfl, by decide +kernel, by decide +kernel⟩
abbrev sIsTie : Stmt := topS 30
theorem scIsTie : FnScope ["item", "many"] ["item", "many"] (defScope sIsTie) := ⟨rfl, rfl, rfl, by decide +kernel, rfl, by decide +kernel, by decide +kernel⟩
abbrev sMembers : Stmt := topS 31
theorem scMembers : FnScope ["world", "concept", "many", "names", "roles", "things_of", "ties_of", "found", "item", "second"] ["world", "concept"] (defScope sMembers) := ⟨rfl, rfl, rfl, by decide +kernel, rfl, by decide +kernel, by decide +kernel⟩
abbrev sInBoth : Stmt := topS 32
theorem scInBoth : FnScope ["first", "second", "among", "x"] ["first", "second"] (defScope sInBoth) := ⟨rfl, rfl, rfl, by decide +kernel, rfl, by decide +kernel, by decide +kernel⟩
abbrev sTiedInto : Stmt := topS 33
theorem scTiedInto : FnScope ["ties", "things", "among", "x", "y"] ["ties", "things"] (defScope sTiedInto) := ⟨rfl, rfl, rfl, by decide +kernel, rfl, by decide +kernel, by decide +kernel⟩
abbrev sLeastOutside : Stmt := topS 34
theorem scLeastOutside : FnScope ["world", "left", "right", "among", "outside", "x"] ["world", "left", "right"] (defScope sLeastOutside) := ⟨rfl, rfl, rfl, by decide +kernel, rfl, by decide +kernel, by decide +kernel⟩
abbrev sLawDeck : Stmt := topS 36
theorem scLawDeck : FnScope ["script", "mixed", "cell"] ["script"] (defScope sLawDeck) := ⟨rfl, rfl, rfl, by decide +kernel, rfl, by decide +kernel, by decide +kernel⟩
abbrev sLawDraw : Stmt := topS 37
theorem scLawDraw : FnScope ["deck", "below", "figure", "cell"] ["deck", "below"] (defScope sLawDraw) := ⟨rfl, rfl, rfl, by decide +kernel, rfl, by decide +kernel, by decide +kernel⟩
abbrev sLawPick : Stmt := topS 38
theorem scLawPick : FnScope ["deck", "some"] ["deck", "some"] (defScope sLawPick) := ⟨rfl, rfl, rfl, by decide +kernel, rfl, by decide +kernel, by decide +kernel⟩
abbrev sLawName : Stmt := topS 39
theorem scLawName : FnScope ["deck", "found", "signs", "name", "turn"] ["deck", "found"] (defScope sLawName) := ⟨rfl, rfl, rfl, by decide +kernel, rfl, by decide +kernel, by decide +kernel⟩
abbrev sLawWords : Stmt := topS 40
theorem scLawWords : FnScope ["deck", "many", "found", "turn"] ["deck", "many"] (defScope sLawWords) := ⟨rfl, rfl, rfl, by decide +kernel, rfl, by decide +kernel, by decide +kernel⟩
abbrev sLawIsWord : Stmt := topS 41
theorem scLawIsWord : FnScope ["thing", "sign"] ["thing"] (defScope sLawIsWord) := ⟨rfl, rfl, rfl, by decide +kernel, rfl, by decide +kernel, by decide +kernel⟩
abbrev sLawConcept : Stmt := topS 42
theorem scLawConcept : FnScope ["deck", "words", "deep", "way"] ["deck", "words", "deep"] (defScope sLawConcept) := ⟨rfl, rfl, rfl, by decide +kernel, rfl, by decide +kernel, by decide +kernel⟩
abbrev sLawBook : Stmt := topS 43
theorem scLawBook : FnScope ["deck", "words", "most", "deep", "found", "turn", "axiom"] ["deck", "words", "most", "deep"] (defScope sLawBook) := ⟨rfl, rfl, rfl, by decide +kernel, rfl, by decide +kernel, by decide +kernel⟩
abbrev sLawWorld : Stmt := topS 44
theorem scLawWorld : FnScope ["deck", "words", "most", "many", "names", "roles", "word", "few", "ties", "things", "x", "pairs", "y"] ["deck", "words", "most"] (defScope sLawWorld) := ⟨rfl, rfl, rfl, by decide +kernel, rfl, by decide +kernel, by decide +kernel⟩
abbrev sLawThings : Stmt := topS 45
theorem scLawThings : FnScope ["world", "concept", "deep", "others", "x", "goals", "y"] ["world", "concept", "deep"] (defScope sLawThings) := ⟨rfl, rfl, rfl, by decide +kernel, rfl, by decide +kernel, by decide +kernel⟩
abbrev sLawModel : Stmt := topS 46
theorem scLawModel : FnScope ["world", "book", "j", "left", "right", "goals", "out", "x"] ["world", "book"] (defScope sLawModel) := ⟨rfl, rfl, rfl, by decide +kernel, rfl, by decide +kernel, by decide +kernel⟩
abbrev sLawBent : Stmt := topS 47
theorem scLawBent : FnScope ["deck", "thing", "odd", "deep", "at", "some"] ["deck", "thing", "odd", "deep"] (defScope sLawBent) := ⟨rfl, rfl, rfl, by decide +kernel, rfl, by decide +kernel, by decide +kernel⟩
abbrev sLawMade : Stmt := topS 48
theorem scLawMade : FnScope ["deck", "world", "words", "found", "turn", "left", "right"] ["deck", "world", "words"] (defScope sLawMade) := ⟨rfl, rfl, rfl, by decide +kernel, rfl, by decide +kernel, by decide +kernel⟩
abbrev sLaw : Stmt := topS 49
theorem scLaw : FnScope ["script", "deck", "words", "turn", "world", "book", "due", "told", "j", "x", "things", "at", "thing", "is_named", "axiom"] ["script"] (defScope sLaw) := ⟨rfl, rfl, rfl, by decide +kernel, rfl, by decide +kernel, by decide +kernel⟩
/-- what the top has left -/
structure Txt (K : PySem.W.Frag) (mg : Str → Option Value) : Prop where
  all : mg "all" = none
  bool : mg "bool" = none
  dict : mg "dict" = none
  enumerate : mg "enumerate" = none
  int : mg "int" = none
  isinstance : mg "isinstance" = none
  len : mg "len" = none
  list : mg "list" = none
  max : mg "max" = none
  min : mg "min" = none
  range : mg "range" = none
  repr : mg "repr" = none
  set : mg "set" = none
  sorted : mg "sorted" = none
  str : mg "str" = none
  tuple : mg "tuple" = none
  isInteger : DefAt K mg "is_integer" sIsInteger
  isPair : DefAt K mg "is_pair" sIsPair
  isAscending : DefAt K mg "is_ascending" sIsAscending
  isWord : DefAt K mg "is_word" sIsWord
  isConcept : DefAt K mg "is_concept" sIsConcept
  isBook : DefAt K mg "is_book" sIsBook
  checkConcept : DefAt K mg "check_concept" sCheckConcept
  checkBook : DefAt K mg "check_book" sCheckBook
  bottomUp : DefAt K mg "bottom_up" sBottomUp
  inner : DefAt K mg "_inner" sInner
  isLetter : DefAt K mg "_is_letter" sIsLetter
  isWorld : DefAt K mg "is_world" sIsWorld
  doesHoldIn : DefAt K mg "does_hold_in" sDoesHoldIn
  judgeModel : DefAt K mg "judge_model" sJudgeModel
  modelHolds : DefAt K mg "model_holds" sModelHolds
  checkWorld : DefAt K mg "check_world" sCheckWorld
  isListing : DefAt K mg "_is_listing" sIsListing
  areItems : DefAt K mg "_are_items" sAreItems
  isThing : DefAt K mg "_is_thing" sIsThing
  isTie : DefAt K mg "_is_tie" sIsTie
  members : DefAt K mg "_members" sMembers
  inBoth : DefAt K mg "_in_both" sInBoth
  tiedInto : DefAt K mg "_tied_into" sTiedInto
  leastOutside : DefAt K mg "_least_outside" sLeastOutside
  lawDeck : DefAt K mg "_law_deck" sLawDeck
  lawDraw : DefAt K mg "_law_draw" sLawDraw
  lawPick : DefAt K mg "_law_pick" sLawPick
  lawName : DefAt K mg "_law_name" sLawName
  lawWords : DefAt K mg "_law_words" sLawWords
  lawIsWord : DefAt K mg "_law_is_word" sLawIsWord
  lawConcept : DefAt K mg "_law_concept" sLawConcept
  lawBook : DefAt K mg "_law_book" sLawBook
  lawWorld : DefAt K mg "_law_world" sLawWorld
  lawThings : DefAt K mg "_law_things" sLawThings
  lawModel : DefAt K mg "_law_model" sLawModel
  lawBent : DefAt K mg "_law_bent" sLawBent
  lawMade : DefAt K mg "_law_made" sLawMade
  law : DefAt K mg "law" sLaw
  longest_word : ∃ t, mg "LONGEST_WORD" = some (.int 10 t)
  no_words : ∃ a, mg "NO_WORDS" = some (.ref a) ∧ ∀ H, SqT K H a [.str "all", .str "none", .str "some", .str "and", .str "each", .str "is"]
  most_things : ∃ t, mg "MOST_THINGS" = some (.int 2000 t)
end K07
set_option Elab.async false
set_option linter.all false
set_option maxRecDepth 100000
set_option maxHeartbeats 2000000
/-! the law's own deck -/
namespace K07
open PySem PySem.Spec PyProof.Rows L2 Tl
open C8 (Cal pe_c)
/-! ### the deck -/
def dk (l : Addr) (m t : Int) : List (Key × V) := [(.inr "left", .ref l), (.inr "mixed", .int m), (.inr "turn", .int t)]
/-- a deck stands at d, its cells at l -/
def Deck (H : Hp) (d l : Addr) : Prop := ∃ (ns : List Int) (m t : Int), H d = some (.dK (dk l m t)) ∧ H l = some (.lst (ns.map V.int)) ∧ ns.length ≤ 63 ∧ 0 ≤ m ∧ m < 2147483647
/-- all but the deck is as it was -/
def Off (d l : Addr) (H H' : Hp) : Prop := ∀ a o, a ≠ d → a ≠ l → H a = some o → H' a = some o
theorem Off.refl (d l : Addr) (H : Hp) : Off d l H H := fun _ _ _ _ h => h
theorem Off.trans {d l : Addr} {H H1 H2 : Hp} (a : Off d l H H1) (b : Off d l H1 H2) : Off d l H H2 := fun x o h1 h2 h => b x o h1 h2 (a x o h1 h2 h)
theorem _root_.L2.Same.off {d l : Addr} {H H' : Hp} (e : L2.Same H H') : Off d l H H' := fun a o _ _ h => e a o h
theorem Off.stay {d l : Addr} {H H' : Hp} (e : Off d l H H') (D : Deck H d l) : Stay H H' := fun a o h k => by
  obtain ⟨ns, m, t, h1, h2, _⟩ := D
  refine e a o (fun z => ?_) (fun z => ?_) h
  · subst z
    rw [h1] at h
    cases h
    rcases k with ⟨_, k⟩ | ⟨_, _, k⟩ <;> cases k
  · subst z
    rw [h2] at h
    cases h
    rcases k with ⟨_, k⟩ | ⟨_, _, k⟩ <;> cases k
theorem off_new {d l : Addr} {H : Hp} {p : Addr} {o : HO} (h : H p = none) : Off d l H (upd H p o) := fun a u _ _ e => by
  rw [upd_ne (ne_of_none e h)]
  exact e
theorem Deck.new {d l : Addr} {H : Hp} {p : Addr} {o : HO} (D : Deck H d l) (h : H p = none) : Deck (upd H p o) d l := by
  obtain ⟨ns, m, t, h1, h2, h3⟩ := D
  exact ⟨ns, m, t, (upd_ne (ne_of_none h1 h)).trans h1, (upd_ne (ne_of_none h2 h)).trans h2, h3⟩
theorem Deck.same {d l : Addr} {H H' : Hp} (D : Deck H d l) (e : L2.Same H H') : Deck H' d l := by
  obtain ⟨ns, m, t, h1, h2, h3⟩ := D
  exact ⟨ns, m, t, e _ _ h1, e _ _ h2, h3⟩
theorem Deck.ne {d l : Addr} {H : Hp} (D : Deck H d l) : d ≠ l := by
  obtain ⟨ns, m, t, h1, h2, h3⟩ := D
  exact ne_of h1 h2 (by intro z; cases z)
def spDeck (K : PySem.W.Frag) : Sp := fun vs H Q _ => ∃ (a : Addr) (ns : List Int), vs = [.ref a] ∧ SqL K H a (ns.map V.int) ∧ ns.length ≤ 63 ∧
  ∀ (d l : Addr) (H' : Hp), H d = none → H l = none → L2.Same H H' → Deck H' d l → Q (.ref d) H'
def spDraw : Sp := fun vs H Q _ => ∃ (d l : Addr) (b : Int), vs = [.ref d, .int b] ∧ Deck H d l ∧ 0 < b ∧ b ≤ 100000 ∧
  ∀ (i : Int) (H' : Hp), 0 ≤ i → i < b → Off d l H H' → Deck H' d l → Q (.int i) H'
section
variable {P : Program} {w : World} {K : PySem.W.Frag} {mg : Str → Option Value} {base : Heap}
theorem cLawDeck (T : Txt K mg) : Cal P w K mg base 1 "_law_deck" (spDeck K) [] := by
  refine cal_of T.lawDeck scLawDeck (fun _ _ _ _ _ _ us hl => match us, hl with | [_], _ => rfl) (fun vs H Q E h => ?_) (fun f cdv A outer s H vs Q E hr h => ?_)
  · obtain ⟨a, ns, rfl, _⟩ := h
    rfl
  obtain ⟨a, ns, rfl, hS, h63, q⟩ := h
  refine ⟨_, (pss_cons (ps_set (i := 1) scLawDeck.nd rfl (.inl rfl) pe_int)
 (pss_cons (ps_for PassesOwn.never rfl (pi_list (pe_slice sl_list (pv 0) po_none (po_some pe_int))) (pg_name (i := 2) scLawDeck.nd rfl (.inl rfl))
 (pss_one (ps_set (i := 1) scLawDeck.nd rfl (.inl rfl) (pe_op op_mod (pe_callTy call_int1 (by rfl) T.int (by decide +kernel) (pa_cons (pe_op op_add (pe_op op_add (pe_op op_mul (pv 1) pe_int) (pe_op op_mod (pe_callTy call_int1 (by rfl) T.int (by decide +kernel) (pa_cons (pv 2) pa_nil)) pe_int)) pe_int) pa_nil)) pe_int))))
 (pss_one (ps_ret (pe_disp (pps_cons pe_str (pe_revL (pe_lc (own := [("cell", 2)]) (by rfl) scLawDeck.nd (pi_list (pe_slice sl_list (pv 0) po_none (po_some pe_int))) (blkOk_by (own := [("cell", 2)]) (N := ["script", "mixed", "cell"]) (sc := defScope sLawDeck) (by decide +kernel)) (fun _ _ _ _ _ => (pg_name (i := 2) scLawDeck.nd rfl (.inl rfl))) (fun _ _ _ _ _ => pts_nil) (fun _ _ _ _ _ => (pe_callTy call_int1 (by rfl) T.int (by decide +kernel) (pa_cons (pv 2) pa_nil))))) (pps_cons pe_str (pv 1) (pps_cons pe_str pe_int pps_nil))) (by rfl) (by rfl) (fun z => by cases z) (by decide)))))), ?_⟩
  -- for cell in script[:63]
  refine ⟨.ref a, rfl, 63, rfl, a, _, rfl, hS, fun c nc => ?_⟩
  have cut : cutV (ns.map V.int) none (some 63) = ns.map V.int := by
    unfold cutV
    rw [HT.sIx_none, show HT.sIx (ns.map V.int).length (ns.map V.int).length (some 63) = min 63 (ns.map V.int).length from HT.sIx_nat _ _ 63, List.length_map]
    exact List.take_of_length_le (by rw [List.length_drop, List.length_map]; omega)
  rw [cut]
  refine ⟨c, rfl, ⟨_, .inl (.inl upd_same)⟩, for_list (K := K) (a := c) (xs := ns.map V.int) (fun i σ G => ∃ (m : Int) (y : Option V), σ = [some (.ref a), some (.int m), y] ∧ 0 ≤ m ∧ m < 2147483647 ∧ L2.Same H G ∧ SqL K G c (ns.map V.int))
    ⟨1440707, none, rfl, by decide, by decide, fun b o e => ?_, .inl (.inl upd_same)⟩ (fun i σ G _ z => ?_) (fun i x σ G hx z => ?_) (fun σ G z => ?_)⟩
  · rw [upd_ne (ne_of_none e nc)]
    exact e
  · obtain ⟨_, _, _, _, _, _, z⟩ := z
    exact z
  · obtain ⟨m, y, rfl, m0, m1, sm, z⟩ := z
    obtain ⟨u, rfl⟩ : ∃ u, x = V.int u := by
      rw [List.getElem?_map] at hx
      obtain ⟨u, _, e⟩ := Option.map_eq_some_iff.mp hx
      exact ⟨u, e.symm⟩
    refine ⟨.int m, rfl, m, 39373, rfl, rfl, .inr ⟨by omega, by omega⟩, .int u, rfl, .inl ⟨u, rfl, u, 2147483629, rfl, rfl, (by show (0 : Int) < 2147483629; decide), _, _, rfl, rfl, _, _, rfl, rfl, .inl ⟨_, rfl, _, _, rfl, rfl, (by show (0 : Int) < 2147483647; decide), ?_⟩⟩⟩
    exact ⟨_, _, rfl, Int.emod_nonneg _ (by decide), Int.emod_lt_of_pos _ (by decide), sm, z⟩
  · obtain ⟨m, y, rfl, m0, m1, sm, z⟩ := z
    refine fun p np => ?_
    have s1 : L2.Same G (upd G p (.dK [])) := fun b o e => by
      rw [upd_ne (ne_of_none e np)]
      exact e
    refine ⟨.ref a, rfl, 63, rfl, a, _, rfl, s1.seq (sm.seq hS), fun c2 nc2 => ?_⟩
    rw [cut]
    refine ⟨c2, rfl, ⟨_, .inl (.inl upd_same)⟩, fun D nD => ?_⟩
    have s2 : L2.Same (upd G p (.dK [])) (upd (upd G p (.dK [])) c2 (.lst (ns.map V.int))) := fun b o e => by
      rw [upd_ne (ne_of_none e nc2)]
      exact e
    have npD : p ≠ D := ne_of_none (s2 _ _ upd_same) nD
    have nc2D : c2 ≠ D := ne_of_none upd_same nD
    refine lc_list (K := K) (a := c2) (xs := ns.map V.int) (fun i G2 => L2.Same (upd (upd G p (.dK [])) c2 (.lst (ns.map V.int))) G2 ∧ G2 D = some (.lst ((ns.take i).map V.int)))
      ⟨fun b o e => ?_, ?_⟩ (fun i G2 _ z => z.1.seq (.inl (.inl upd_same))) (fun i x G2 hx z => ?_) (fun G2 z => ?_)
    · rw [upd_ne (ne_of_none e nD)]
      exact e
    · rw [upd_same]
      rfl
    · obtain ⟨z1, z2⟩ := z
      obtain ⟨u, hu, rfl⟩ : ∃ u, ns[i]? = some u ∧ x = V.int u := by
        rw [List.getElem?_map] at hx
        obtain ⟨u, h, e⟩ := Option.map_eq_some_iff.mp hx
        exact ⟨u, h, e.symm⟩
      refine ⟨rfl, .int u, rfl, .inl ⟨u, rfl, _, z2, ?_, fun b o e => ?_, ?_⟩⟩
      · rw [List.length_map, List.length_take]
        exact Nat.lt_of_le_of_lt (Nat.le_trans (Nat.min_le_right _ _) h63) (by decide)
      · rw [upd_ne (ne_of_none e nD)]
        exact z1 _ _ e
      · rw [upd_same, List.take_add_one, hu, List.map_append]
        rfl
    · obtain ⟨z1, z2⟩ := z
      rw [List.length_map, List.take_of_length_le (Nat.le_refl _)] at z2
      refine ⟨D, _, rfl, .inl (.inl z2), fun l nl => ?_⟩
      have npl : p ≠ l := ne_of_none (z1 _ _ (s2 _ _ upd_same)) nl
      refine ⟨.int m, rfl, ?_, [(.inr "left", .ref l), (.inr "mixed", .int m), (.inr "turn", .int 0)], rfl, (by show 3 ≤ 15; decide), ?_⟩
      · rw [upd_ne npl]
        exact z1 _ _ (s2 _ _ upd_same)
      have np0 : H p = none := sm.free np
      have nl0 : H l = none := sm.free (s1.free (s2.free (z1.free nl)))
      refine q p l _ np0 nl0 (fun b o e => ?_) ⟨ns.reverse, m, 0, upd_same, ?_, by rw [List.length_reverse]; exact h63, m0, m1⟩
      · rw [upd_ne (ne_of_none e np0), upd_ne (ne_of_none e nl0)]
        exact z1 _ _ (s2 _ _ (s1 _ _ (sm _ _ e)))
      · rw [upd_ne npl.symm, upd_same, List.map_reverse]
end
/-! ### the deck's entries -/
theorem lm_ : ¬ (("left" : Str) = "mixed") := by decide +kernel
theorem lt_ : ¬ (("left" : Str) = "turn") := by decide +kernel
theorem mt_ : ¬ (("mixed" : Str) = "turn") := by decide +kernel
theorem tm_ : ¬ (("turn" : Str) = "mixed") := by decide +kernel
theorem inr_ne {x y : Str} (h : ¬ x = y) : ¬ ((Sum.inr x : Key) = Sum.inr y) := fun e => h (Sum.inr.inj e)
theorem dk_left {l : Addr} {m t : Int} : valV (dk l m t) (.inr "left") = some (.ref l) := valV_pos rfl
theorem dk_mixed {l : Addr} {m t : Int} : valV (dk l m t) (.inr "mixed") = some (.int m) := by
  simp [valV, dk, List.find?_cons, lm_]
theorem dk_turn {l : Addr} {m t : Int} : valV (dk l m t) (.inr "turn") = some (.int t) := by
  simp [valV, dk, List.find?_cons, lt_, mt_]
theorem put_turn {l : Addr} {m t u : Int} : putK (dk l m t) (.inr "turn") (.int u) = dk l m u := by
  simp [putK, dk, lt_, mt_]
theorem put_mixed {l : Addr} {m t u : Int} : putK (dk l m t) (.inr "mixed") (.int u) = dk l u t := by
  simp [putK, dk, lm_, tm_]
section
variable {H : Hp} {d l : Addr} {m t : Int}
theorem get_left (h : H d = some (.dK (dk l m t))) : DGet H d (.str "left") (some (.ref l)) := dk_left (l := l) (m := m) (t := t) ▸ DGet.k (k := .inr "left") h
theorem get_mixed (h : H d = some (.dK (dk l m t))) : DGet H d (.str "mixed") (some (.int m)) := dk_mixed (l := l) (m := m) (t := t) ▸ DGet.k (k := .inr "mixed") h
theorem get_turn (h : H d = some (.dK (dk l m t))) : DGet H d (.str "turn") (some (.int t)) := dk_turn (l := l) (m := m) (t := t) ▸ DGet.k (k := .inr "turn") h
theorem set_turn {u : Int} (h : H d = some (.dK (dk l m t))) : DPut H d (.str "turn") (.int u) (upd H d (.dK (dk l m u))) := put_turn (l := l) (m := m) (t := t) (u := u) ▸ DPut.k (k := .inr "turn") h (by show 3 < sizeLine; decide)
theorem set_mixed {u : Int} (h : H d = some (.dK (dk l m t))) : DPut H d (.str "mixed") (.int u) (upd H d (.dK (dk l u t))) := put_mixed (l := l) (m := m) (t := t) (u := u) ▸ DPut.k (k := .inr "mixed") h (by show 3 < sizeLine; decide)
end
end K07
set_option Elab.async false
set_option linter.all false
set_option maxRecDepth 100000
set_option maxHeartbeats 2000000
namespace K07
open PySem PySem.Spec PyProof.Rows L2 Tl
open C8 (Cal pe_c)
theorem canLay_ints : ∀ ns : List Int, PyData.canLayAll0 (ns.map PyData.int) = true
  | [] => by simp [PyData.canLayAll0]
  | n :: ns => by simp [PyData.canLayAll0, PyData.canLay0, canLay_ints ns]
theorem depth_ints : ∀ ns : List Int, PyData.depthAll (ns.map PyData.int) = 0
  | [] => by simp [PyData.depthAll]
  | n :: ns => by simp [PyData.depthAll, PyData.depth, depth_ints ns]
theorem shaped_ints (ns : List Int) : SeqAt.shaped (.list (ns.map PyData.int)) = true := by
  simp [SeqAt.shaped, PyData.canLay0, PyData.depth, canLay_ints, depth_ints]
theorem shaped_nil : SeqAt.shaped (.list []) = true := by
  simp [SeqAt.shaped, PyData.canLay0, PyData.depth, PyData.canLayAll0, PyData.depthAll]
theorem ne_nil (ns : List Int) : (!PyData.eqv (.list (ns.map PyData.int)) (.list [])) = !ns.isEmpty := by
  cases ns <;> simp [PyData.eqv, PyData.eqvAll]
section
variable {P : Program} {w : World} {K : PySem.W.Frag} {mg : Str → Option Value} {base : Heap}
theorem off_mutd {d l : Addr} {H H' : Hp} {o : HO} (e : Off d l H H') : Off d l H (upd H' d o) := fun a u h1 h2 h => by
  rw [upd_ne h1]
  exact e a u h1 h2 h
theorem off_mutl {d l : Addr} {H H' : Hp} {o : HO} (e : Off d l H H') : Off d l H (upd H' l o) := fun a u h1 h2 h => by
  rw [upd_ne h2]
  exact e a u h1 h2 h
theorem off_add {d l : Addr} {H H' : Hp} {p : Addr} {o : HO} (e : Off d l H H') (h : H' p = none) : Off d l H (upd H' p o) := e.trans (off_new h)
theorem cLawDraw (T : Txt K mg) : Cal P w K mg base 1 "_law_draw" spDraw [] := by
  refine cal_of T.lawDraw scLawDraw (fun _ _ _ _ _ _ us hl => match us, hl with | [_, _], _ => rfl) (fun vs H Q E h => ?_) (fun f cdv A outer s H vs Q E hr h => ?_)
  · obtain ⟨d, l, b, rfl, _⟩ := h
    rfl
  obtain ⟨d, l, b, rfl, D, b0, b1, q⟩ := h
  have hu := hu_of hr
  have hu64 := hr.units
  refine ⟨_, (pss_cons (ps_dput hu (pv 0) pe_str (pe_op op_add (pe_dget hu (pv 0) pe_str (fun _ _ => rfl)) pe_int) rfl)
 (pss_cons (ps_set (i := 2) scLawDraw.nd rfl (.inl rfl) (pe_op op_add (pe_dget hu (pv 0) pe_str (fun _ _ => rfl)) (pe_op op_mul pe_int (pe_dget hu (pv 0) pe_str (fun _ _ => rfl)))))
 (C8.pss_cut (ps_if (pt_cmpR (op_neD hu64) (pe_dget hu (pv 0) pe_str (fun _ _ => rfl)) (pe_lst pa_nil) (nomark _))
 (pss_cons (ps_set (i := 3) scLawDraw.nd rfl (.inl rfl) (pe_bm0 PySem.F.plainAttrs_list PySem.F.slot_list_pop PySem.F.type_list_pop mt_pop (pe_dget hu (pv 0) pe_str (fun _ _ => rfl))))
 (pss_cons (ps_if (pt_cmpR op_ge (pv 3) (pe_op op_pow pe_int pe_int) (nomark _))
 (pss_cons (ps_expr (pe_bm PySem.F.plainAttrs_list PySem.F.slot_list_append PySem.F.type_list_append mt_append (pe_dget hu (pv 0) pe_str (fun _ _ => rfl)) (pa_cons (pe_op op_fdiv (pv 3) (pe_callB (call_max2 rfl) (by rfl) T.max (by decide +kernel) (pa_cons pe_int (pa_cons (pv 1) pa_nil)))) pa_nil)))
 (pss_one (ps_ret (pe_op op_mod (pe_callTy call_int1 (by rfl) T.int (by decide +kernel) (pa_cons (pv 3) pa_nil)) (pv 1)))))
 pss_nil)
 (pss_cons (ps_dput hu (pv 0) pe_str (pe_op op_mod (pe_callTy call_int1 (by rfl) T.int (by decide +kernel) (pa_cons (pe_op op_add (pe_op op_add (pe_op op_mul (pe_dget hu (pv 0) pe_str (fun _ _ => rfl)) pe_int) (pe_op op_mod (pe_callTy call_int1 (by rfl) T.int (by decide +kernel) (pa_cons (pv 3) pa_nil)) pe_int)) pe_int) pa_nil)) pe_int) rfl)
 (pss_one (ps_set (i := 2) scLawDraw.nd rfl (.inl rfl) (pe_op op_add (pv 2) (pe_op op_mod (pe_callTy call_int1 (by rfl) T.int (by decide +kernel) (pa_cons (pv 3) pa_nil)) pe_int)))))))
 pss_nil)
 (pss_cons (ps_set (i := 2) scLawDraw.nd rfl (.inl rfl) (pe_op op_mod (pe_callTy call_int1 (by rfl) T.int (by decide +kernel) (pa_cons (pe_op op_add (pe_op op_mul (pv 2) pe_int) pe_int) pa_nil)) pe_int))
 (pss_cons (ps_set (i := 2) scLawDraw.nd rfl (.inl rfl) (pe_op op_mod (pe_callTy call_int1 (by rfl) T.int (by decide +kernel) (pa_cons (pe_op op_add (pe_op op_add (pe_op op_mul (pv 2) (pv 2)) (pe_op op_mul pe_int (pe_dget hu (pv 0) pe_str (fun _ _ => rfl)))) pe_int) pa_nil)) pe_int))
 (pss_cons (ps_set (i := 2) scLawDraw.nd rfl (.inl rfl) (pe_op op_mod (pe_callTy call_int1 (by rfl) T.int (by decide +kernel) (pa_cons (pe_op op_add (pe_op op_mul (pv 2) pe_int) pe_int) pa_nil)) pe_int))
 (pss_one (ps_ret (pe_op op_mod (pe_callTy call_int1 (by rfl) T.int (by decide +kernel) (pa_cons (pe_op op_fdiv (pv 2) pe_int) pa_nil)) (pv 1)))))))))), ?_⟩
  obtain ⟨ns, m, t, h1, h2, h63, m0, m1⟩ := D
  have ndl : d ≠ l := ne_of h1 h2 (by intro z; cases z)
  -- deck['turn'] = deck['turn'] + 1
  refine ⟨.ref d, rfl, d, _, rfl, get_turn h1, t, 1, rfl, rfl, .ref d, rfl, d, _, rfl, set_turn h1, ?_⟩
  generalize hG : upd H d (.dK (dk l m (t + 1))) = G
  have g1 : G d = some (.dK (dk l m (t + 1))) := by rw [← hG, upd_same]
  have g2 : G l = some (.lst (ns.map V.int)) := by rw [← hG, upd_ne ndl.symm, h2]
  have gO : Off d l H G := by rw [← hG]; exact off_mutd (Off.refl d l H)
  -- figure = ..
  refine ⟨.ref d, rfl, d, _, rfl, get_mixed g1, .ref d, rfl, d, _, rfl, get_turn g1, 90001, t + 1, rfl, rfl, .inl ⟨by omega, by omega⟩, m, _, rfl, rfl, ?_⟩
  refine ⟨fun σ G => ∃ (fig : Int) (y : Option V), σ = [some (.ref d), some (.int b), some (.int fig), y] ∧ Off d l H G ∧ Deck G d l, ?_, ?_⟩
  · -- deck['left'] != []
    refine ⟨.ref d, rfl, d, _, rfl, get_left g1, Nat.zero_le _, fun p np => ?_⟩
    have pd : d ≠ p := ne_of_none g1 np
    have pl : l ≠ p := ne_of_none g2 np
    have k1 : (upd G p (.lst [])) d = some (.dK (dk l m (t + 1))) := (upd_ne pd).trans g1
    have k2 : (upd G p (.lst [])) l = some (.lst (ns.map V.int)) := (upd_ne pl).trans g2
    have kO : Off d l H (upd G p (.lst [])) := off_add gO np
    refine ⟨.list (ns.map PyData.int), .list [], .lst (.inl (.inl k2)) (dp_ints ns), .lst (.inl (.inl upd_same)) .nil, shaped_ints ns, shaped_nil, _, rfl, ?_⟩
    rw [ne_nil]
    generalize upd G p (.lst []) = G2 at k1 k2 kO
    rcases List.eq_nil_or_concat ns with e | ⟨ms, z, e⟩
    · subst e
      refine iteF ?_
      exact ⟨_, none, rfl, kO, [], m, t + 1, k1, k2, Nat.zero_le _, m0, m1⟩
    · rw [List.concat_eq_append] at e
      subst e
      rw [show (!(ms ++ [z]).isEmpty) = true by simp]
      refine iteT ?_
      have hlast : ((ms ++ [z]).map V.int)[((ms ++ [z]).map V.int).length - 1]? = some (.int z) := by simp
      have hdrop : ((ms ++ [z]).map V.int).dropLast = ms.map V.int := by simp
      have hlen : ms.length < 63 := by
        rw [List.length_append, List.length_singleton] at h63
        omega
      -- cell = deck['left'].pop()
      refine ⟨.ref d, rfl, d, _, rfl, get_left k1, .inl ⟨rfl, _, .inl (.inl k2)⟩, l, _, _, rfl, rfl, k2, hlast, ?_⟩
      rw [hdrop]
      have j1 : (upd G2 l (.lst (ms.map V.int))) d = some (.dK (dk l m (t + 1))) := (upd_ne ndl).trans k1
      have j2 : (upd G2 l (.lst (ms.map V.int))) l = some (.lst (ms.map V.int)) := upd_same
      have jO : Off d l H (upd G2 l (.lst (ms.map V.int))) := off_mutl kO
      generalize upd G2 l (.lst (ms.map V.int)) = G3 at j1 j2 jO
      -- if cell >= 10 ** 18
      refine ⟨.int z, rfl, 10, 18, rfl, rfl, ⟨by omega, by omega, by decide⟩, z, _, rfl, rfl, _, rfl, ite2 (fun _ => ?_) (fun _ => ?_)⟩
      · have hc : 0 < (if b > 2 then b else (2 : Int)) ∧ (if b > 2 then b else (2 : Int)) < 1073741824 := by
          split <;> omega
        refine ⟨.ref d, rfl, d, _, rfl, get_left j1, .inl ⟨rfl, _, .inl (.inl j2)⟩, .int z, rfl, .int b, rfl, 2, b, rfl, z, _, rfl, rfl, hc, l, _, _, rfl, rfl, j2, ?_, ?_⟩
        · rw [List.length_map]
          exact Nat.lt_of_lt_of_le hlen (by decide)
        refine ⟨.int z, rfl, .inl ⟨z, rfl, .int b, rfl, z, b, rfl, rfl, b0, ?_⟩⟩
        refine q _ _ (Int.emod_nonneg _ (by omega)) (Int.emod_lt_of_pos _ b0) (off_mutl jO) ⟨ms ++ [z / (if b > 2 then b else 2)], m, t + 1, (upd_ne ndl).trans j1, ?_, ?_, m0, m1⟩
        · rw [upd_same, List.map_append]
          rfl
        · rw [List.length_append, List.length_singleton]
          omega
      · -- deck['mixed'] = ..
        refine ⟨.ref d, rfl, d, _, rfl, get_mixed j1, m, 16807, rfl, rfl, .inr ⟨by omega, by omega⟩, .int z, rfl, .inl ⟨z, rfl, z, 2147483587, rfl, rfl, (by show (0 : Int) < 2147483587; decide), _, _, rfl, rfl, _, _, rfl, rfl, .inl ⟨_, rfl, _, _, rfl, rfl, (by show (0 : Int) < 2147483647; decide), .ref d, rfl, d, _, rfl, set_mixed j1, ?_⟩⟩⟩
        refine ⟨_, rfl, .int z, rfl, .inl ⟨z, rfl, z, 2147483563, rfl, rfl, (by show (0 : Int) < 2147483563; decide), _, _, rfl, rfl, ?_⟩⟩
        exact ⟨_, _, rfl, off_mutd jO, ms, _, t + 1, upd_same, (upd_ne ndl.symm).trans j2, Nat.le_of_lt hlen, Int.emod_nonneg _ (by decide), Int.emod_lt_of_pos _ (by decide)⟩
  · -- the rest
    rintro σ' G' ⟨fig, y, rfl, gO', D'⟩
    have D'' := D'
    obtain ⟨ns', m', t', g1', _⟩ := D''
    refine ⟨.int fig, rfl, fig, 16807, rfl, rfl, .inr ⟨by omega, by omega⟩, _, _, rfl, rfl, .inl ⟨_, rfl, _, _, rfl, rfl, (by show (0 : Int) < 2147483629; decide), ?_⟩⟩
    have f0 := Int.emod_nonneg (fig * 16807 + 23) (show (2147483629 : Int) ≠ 0 by decide)
    have f1 := Int.emod_lt_of_pos (fig * 16807 + 23) (show (0 : Int) < 2147483629 by decide)
    refine ⟨_, rfl, _, rfl, (fig * 16807 + 23) % 2147483629, (fig * 16807 + 23) % 2147483629, rfl, rfl, .inl ⟨by omega, by omega⟩, .ref d, rfl, d, _, rfl, get_turn g1', 77773, t', rfl, rfl, .inl ⟨by omega, by omega⟩, _, _, rfl, rfl, _, _, rfl, rfl, .inl ⟨_, rfl, _, _, rfl, rfl, (by show (0 : Int) < 2147483587; decide), ?_⟩⟩
    refine ⟨_, rfl, _, 40692, rfl, rfl, .inr ⟨by omega, by omega⟩, _, _, rfl, rfl, .inl ⟨_, rfl, _, _, rfl, rfl, (by show (0 : Int) < 2147483563; decide), ?_⟩⟩
    refine ⟨_, rfl, _, 64, rfl, rfl, ⟨by omega, by omega⟩, .inl ⟨_, rfl, .int b, rfl, _, b, rfl, rfl, b0, ?_⟩⟩
    exact q _ _ (Int.emod_nonneg _ (by omega)) (Int.emod_lt_of_pos _ b0) gO' D'
end
end K07
set_option Elab.async false
set_option linter.all false
set_option maxRecDepth 100000
set_option maxHeartbeats 2000000
namespace K07
open PySem PySem.Spec PyProof.Rows L2 Tl
open C8 (Cal pe_c)
/-! ### words -/
def alpha : List Nat := ("abcdefghijklmnopqrstuvwxyz" : Str).cps.toList
def lett (c : Nat) : Bool := decide (97 ≤ c) && decide (c ≤ 122)
theorem alpha_eq : alpha = List.range' 97 26 := by decide +kernel
theorem mem_alpha (c : Nat) : decide (c ∈ alpha) = lett c := by
  rw [alpha_eq]
  unfold lett
  rw [Bool.eq_iff_iff]
  simp only [decide_eq_true_eq, Bool.and_eq_true, List.mem_range']
  constructor
  · rintro ⟨i, h, rfl⟩
    omega
  · rintro ⟨h1, h2⟩
    exact ⟨c - 97, by omega, by omega⟩
def six : List Str := ["all", "none", "some", "and", "each", "is"]
def isW (w : Str) : Bool := decide (0 < w.length) && (decide (w.length < 11) && (!(six.any fun y => decide (y = w)) && w.cps.toList.all lett))
theorem eqV_str (x y : Str) : eqV (.str x) (.str y) = decide (x = y) := by
  show (x == y) = decide (x = y)
  rfl
theorem inV_six (w : Str) : inV (.str w) (six.map V.str) = six.any fun y => decide (y = w) := by
  unfold inV
  rw [List.any_map]
  rfl
theorem flat_strs (ws : List Str) : (ws.map V.str).all flatV = true := by
  rw [List.all_map]
  exact List.all_eq_true.mpr fun _ _ => rfl
theorem canLay_strs : ∀ ys : List Str, (∀ y ∈ ys, PyData.strOk y = true) → PyData.canLayAll0 (ys.map PyData.str) = true
  | [], _ => by simp [PyData.canLayAll0]
  | y :: ys, h => by simp [PyData.canLayAll0, PyData.canLay0, h y List.mem_cons_self, canLay_strs ys fun z hz => h z (List.mem_cons_of_mem _ hz)]
theorem depth_strs : ∀ ys : List Str, PyData.depthAll (ys.map PyData.str) = 0
  | [] => by simp [PyData.depthAll]
  | y :: ys => by simp [PyData.depthAll, PyData.depth, depth_strs ys]
theorem shaped_strs (ys : List Str) (h : ∀ y ∈ ys, PyData.strOk y = true) : SeqAt.shaped (.list (ys.map PyData.str)) = true := by
  simp [SeqAt.shaped, PyData.canLay0, PyData.depth, canLay_strs ys h, depth_strs]
theorem lett_ok {x : Str} (h : x.cps.toList.all lett = true) : PyData.strOk x = true := by
  unfold PyData.strOk
  rw [Array.all_eq_true']
  intro c hc
  have := List.all_eq_true.mp h c (Array.mem_toList_iff.mpr hc)
  unfold lett at this
  simp only [Bool.and_eq_true, decide_eq_true_eq] at this
  exact decide_eq_true (by omega)
section
variable {P : Program} {w : World} {K : PySem.W.Frag} {mg : Str → Option Value} {base : Heap}
def spIsW : Sp := fun vs H Q _ => ∃ (x : Str), vs = [.str x] ∧ x.length ≤ 1000 ∧ PyData.strOk x = true ∧ ∀ H', L2.Same H H' → Q (.bl (isW x)) H'
theorem cLawIsWord (T : Txt K mg) : Cal P w K mg base 1 "_law_is_word" spIsW [] := by
  refine cal_of T.lawIsWord scLawIsWord (fun _ _ _ _ _ _ us hl => match us, hl with | [_], _ => rfl) (fun vs H Q E h => ?_) (fun f cdv A outer s H vs Q E hr h => ?_)
  · obtain ⟨x, rfl, _⟩ := h
    rfl
  obtain ⟨x, rfl, len, ok, q⟩ := h
  have hu64 := hr.units
  have sz : x.length ≤ sizeLine := Nat.le_of_lt (small1000 len)
  refine ⟨_, (pss_cons (ps_if (PW.pt (pw_or (pt_not (pt_val (pe_callB call_isi (by rfl) T.isinstance (by decide +kernel) (pa_cons (pv 0) (pa_cons (pe_bltn (v := V.ty "str") (u := Value.type "str") (by rfl) T.str (by decide +kernel) rfl) pa_nil))))) (pw_or (pt_not (pt_chain op_lt op_lt pe_int (pe_callB call_len_str (by rfl) T.len (by decide +kernel) (pa_cons (pv 0) pa_nil)) pe_int)) (pw_or1 (pt_cmpR op_in_seq (pv 0) (pe_tup (pa_cons pe_str (pa_cons pe_str (pa_cons pe_str (pa_cons pe_str (pa_cons pe_str (pa_cons pe_str pa_nil))))))) rfl)))))
 (pss_one (ps_ret pe_bl))
 pss_nil)
 (pss_one (ps_ret (pe_cmpR (op_eqD hu64) (pe_lc (own := [("sign", 1)]) (by rfl) scLawIsWord.nd (pi_str (pv 0)) (blkOk_by (own := [("sign", 1)]) (N := ["thing", "sign"]) (sc := defScope sLawIsWord) (by decide +kernel)) (fun _ _ _ _ _ => (pg_name (i := 1) scLawIsWord.nd rfl (.inl rfl))) (fun _ _ _ _ _ => pts_one (pt_cmpR op_notIn_sign (pv 1) pe_str rfl)) (fun _ _ _ _ _ => (pv 1))) (pe_lst pa_nil) (nomark _))))), ?_⟩
  refine ⟨.str x, rfl, .str x, .ty "str", .type "str", .type "str", true, rfl, .ty _, .base (.str x), kit_ty (by decide +kernel), true, rfl, iteF ?_⟩
  refine ⟨.str x, rfl, x, rfl, sz, 0, _, rfl, rfl, _, rfl, ?_⟩
  by_cases h0 : 0 < x.length
  case neg =>
    rw [show decide ((0 : Int) < (x.length : Int)) = false from decide_eq_false (by omega)]
    refine iteF ⟨_, rfl, iteT (iteT ?_)⟩
    rw [show false = isW x by unfold isW; rw [decide_eq_false h0, Bool.false_and]]
    exact q H (L2.Same.refl H)
  rw [show decide ((0 : Int) < (x.length : Int)) = true from decide_eq_true (by omega)]
  refine iteT ⟨_, _, rfl, rfl, _, rfl, ?_⟩
  by_cases h1 : x.length < 11
  case neg =>
    rw [show decide ((x.length : Int) < (11 : Int)) = false from decide_eq_false (by omega)]
    refine iteT (iteT ?_)
    rw [show false = isW x by unfold isW; rw [decide_eq_false h1, Bool.false_and, Bool.and_false]]
    exact q H (L2.Same.refl H)
  rw [show decide ((x.length : Int) < (11 : Int)) = true from decide_eq_true (by omega)]
  refine iteF ⟨.str x, rfl, by show 6 ≤ sizeLine; decide, fun t nt => ?_⟩
  refine ⟨t, six.map V.str, rfl, .inr (tupOf upd_same), rfl, flat_strs six, _, rfl, ?_⟩
  have s1 : L2.Same H (upd H t (.tup (six.map V.str))) := same_up nt
  rw [inV_six]
  by_cases h2 : (six.any fun y => decide (y = x)) = true
  · rw [h2]
    refine iteT ?_
    rw [show false = isW x by unfold isW; rw [h2]; simp]
    exact q _ s1
  have h2' : (six.any fun y => decide (y = x)) = false := Bool.eq_false_iff.mpr h2
  rw [h2']
  refine iteF ?_
  refine ⟨.str x, rfl, x, rfl, fun D nD => ?_⟩
  have nD0 : H D = none := s1.free nD
  refine lc_it (n := x.cps.size) (fun i G2 => L2.Same H G2 ∧ G2 D = some (.lst (((x.cps.toList.take i).filter fun c => !lett c).map fun c => V.str ⟨#[c]⟩)))
    ⟨same_mut s1 nD0, by rw [upd_same]; rfl⟩ (fun i G2 hi _ => hi) (fun G2 _ => Nat.le_refl _) (fun i v G2 G3 hi z y => ?_) (fun G2 z => ?_)
  · obtain ⟨e, c, hc, rfl⟩ := y
    subst e
    obtain ⟨z1, z2⟩ := z
    have hc' : x.cps.toList[i]? = some c := by rw [Array.getElem?_toList]; exact hc
    refine ⟨rfl, .str ⟨#[c]⟩, rfl, c, _, rfl, rfl, _, rfl, ?_⟩
    show if (!decide (c ∈ alpha)) = true then _ else _
    rw [mem_alpha]
    by_cases hl : lett c = true
    · rw [hl]
      refine iteF ⟨z1, ?_⟩
      rw [List.take_add_one, hc', List.filter_append]
      simp only [Option.toList_some, List.filter_cons, hl, Bool.not_true, Bool.false_eq_true, if_false, List.filter_nil, List.append_nil]
      exact z2
    · have hl' : lett c = false := Bool.eq_false_iff.mpr hl
      rw [hl']
      refine iteT ⟨.str ⟨#[c]⟩, rfl, _, z2, ?_, same_mut z1 nD0, ?_⟩
      · rw [List.length_map]
        refine Nat.lt_of_le_of_lt (Nat.le_trans (List.length_filter_le _ _) ?_) (show 100 < sizeLine by decide)
        rw [List.length_take]
        have : x.cps.size < 11 := h1
        omega
      · rw [upd_same, List.take_add_one, hc', List.filter_append, List.map_append]
        simp only [Option.toList_some, List.filter_cons, hl', Bool.not_false, if_true, List.filter_nil, List.map_cons, List.map_nil]
  · obtain ⟨z1, z2⟩ := z
    rw [show x.cps.toList.take x.cps.size = x.cps.toList from List.take_of_length_le (by rw [Array.length_toList]; exact Nat.le_refl _)] at z2
    refine ⟨Nat.zero_le _, fun e ne => ?_⟩
    have z2' : (upd G2 e (.lst [])) D = _ := (upd_ne (ne_of_none z2 ne)).trans z2
    generalize hL : (x.cps.toList.filter fun c => !lett c) = L at z2 z2'
    have len11 : L.length ≤ 1000 := by
      rw [← hL]
      refine Nat.le_trans (List.length_filter_le _ _) ?_
      rw [Array.length_toList]
      exact len
    have el : L.map (fun c => V.str ⟨#[c]⟩) = (L.map fun c => (⟨#[c]⟩ : Str)).map V.str := by rw [List.map_map]; rfl
    rw [el] at z2'
    refine ⟨.list ((L.map fun c => (⟨#[c]⟩ : Str)).map PyData.str), .list [], .lst (lst_of z2') (dp_strs _), .lst (lst_of upd_same) .nil, ?_, shaped_nil, ?_⟩
    · refine shaped_strs _ fun y hy => ?_
      obtain ⟨c, hc, rfl⟩ := List.mem_map.mp hy
      rw [← hL] at hc
      have hm := (List.mem_filter.mp hc).1
      unfold PyData.strOk at ok
      rw [Array.all_eq_true'] at ok
      have := ok c (Array.mem_toList_iff.mp hm)
      simpa [PyData.strOk] using this
    have ev : PyData.eqv (.list ((L.map fun c => (⟨#[c]⟩ : Str)).map PyData.str)) (.list []) = isW x := by
      show PyData.eqvAll _ [] = _
      rw [eqv_nil]
      unfold isW
      rw [decide_eq_true h0, decide_eq_true h1, h2', Bool.eq_iff_iff]
      simp [List.isEmpty_iff, List.map_eq_nil_iff, ← hL, List.filter_eq_nil_iff, List.all_eq_true]
      constructor
      · intro h i hi
        exact h _ (Array.getElem_mem hi)
      · intro h a ha
        obtain ⟨i, hi, rfl⟩ := Array.getElem_of_mem ha
        exact h i hi
    rw [ev]
    exact q _ (same_add z1 ne)
end
end K07
set_option Elab.async false
set_option linter.all false
set_option autoImplicit false
set_option maxRecDepth 100000
set_option maxHeartbeats 2000000
namespace K07
open PySem PySem.Spec PyProof.Rows L2 Tl
open C8 (Cal pe_c)
theorem Off.seq {K : PySem.W.Frag} {d l : Addr} {H H' : Hp} {a : Addr} {xs : List V} (e : Off d l H H') (h1 : a ≠ d) (h2 : a ≠ l) (h : SqL K H a xs) : SqL K H' a xs := seq_off (fun o z => e a o h1 h2 z) h
section
variable {P : Program} {w : World} {K : PySem.W.Frag} {mg : Str → Option Value} {base : Heap}
/-! ### _law_pick -/
def spPick (K : PySem.W.Frag) : Sp := fun vs H Q _ => ∃ (d l b : Addr) (xs : List V), vs = [.ref d, .ref b] ∧ Deck H d l ∧ SqL K H b xs ∧ b ≠ d ∧ b ≠ l ∧ xs ≠ [] ∧ xs.length ≤ 100000 ∧
  ∀ (x : V) (H' : Hp), x ∈ xs → Off d l H H' → Deck H' d l → Q x H'
theorem cLawPick (T : Txt K mg) : Cal P w K mg base 2 "_law_pick" (spPick K) [] := by
  refine cal_of T.lawPick scLawPick (fun _ _ _ _ _ _ us hl => match us, hl with | [_, _], _ => rfl) (fun vs H Q E h => ?_) (fun f cdv A outer s H vs Q E hr h => ?_)
  · obtain ⟨d, l, b, xs, rfl, _⟩ := h
    rfl
  obtain ⟨d, l, b, xs, rfl, D, sq, nd, nl, ne, len, q⟩ := h
  refine ⟨_, (pss_one (ps_ret (pe_ix ix_list (pv 1) (pe_c (cLawDraw T) hr (by decide) rfl (pa_cons (pv 0) (pa_cons (pe_callB call_len_seq (by rfl) T.len (by decide +kernel) (pa_cons (pv 1) pa_nil)) pa_nil))) (fun _ _ => rfl)))), ?_⟩
  have pos : 0 < xs.length := List.length_pos_iff.mpr ne
  refine ⟨.ref b, rfl, .ref d, rfl, .ref b, rfl, b, xs, rfl, .inl sq, d, l, _, rfl, D, by omega, by omega, fun i H' i0 i1 off D' => ?_⟩
  obtain ⟨x, hx⟩ : ∃ x, xs[i.toNat]? = some x := ⟨xs[i.toNat]'(by omega), List.getElem?_eq_getElem (by omega)⟩
  exact ⟨b, xs, i, x, rfl, rfl, off.seq nd nl sq, at_of (j := i.toNat) (by omega) hx, q x H' (List.mem_of_getElem? hx) off D'⟩
/-! ### _law_name -/
def spName (K : PySem.W.Frag) : Sp := fun vs H Q _ => ∃ (d l b : Addr) (ws : List Str), vs = [.ref d, .ref b] ∧ Deck H d l ∧ SqL K H b (ws.map V.str) ∧ b ≠ d ∧ b ≠ l ∧ ws.length ≤ 100 ∧
  ∀ (x : Str) (H' : Hp), isW x = true → x ∉ ws → Off d l H H' → Deck H' d l → Q (.str x) H'
/-- letters alone, one to ten of them -/
def Lt (x : Str) : Prop := 0 < x.length ∧ x.length < 11 ∧ x.cps.toList.all lett = true
theorem isW_lt {x : Str} (h : isW x = true) : Lt x := by
  unfold isW at h
  simp only [Bool.and_eq_true, decide_eq_true_eq] at h
  exact ⟨h.1, h.2.1, h.2.2.2⟩
theorem signs_at {j : Nat} (h : j < 26) : alpha[j]? = some (97 + j) := by
  rw [alpha_eq, List.getElem?_range' h] <;> simp
theorem joined : ∀ cs : List Nat, (Txt.join ("" : Str) (cs.map fun c => (⟨#[c]⟩ : Str))).cps.toList = cs := by
  intro cs
  rw [TL.join_eq]
  induction cs with
  | nil => rfl
  | cons c cs ih =>
    cases cs with
    | nil => rfl
    | cons e cs =>
      show ((⟨#[c]⟩ : Str) ++ ("" : Str) ++ Str.join ("" : Str) ((e :: cs).map fun c => (⟨#[c]⟩ : Str))).cps.toList = _
      have h : ∀ a b : Str, (a ++ b).cps.toList = a.cps.toList ++ b.cps.toList := fun a b => Array.toList_append
      rw [h, h, ih]
      rfl
theorem str_ext {x y : Str} (h : x.cps.toList = y.cps.toList) : x = y := by
  obtain ⟨⟨a⟩⟩ := x
  obtain ⟨⟨b⟩⟩ := y
  have h : a = b := h
  rw [h]
theorem at_gen {α : Type} {xs : List α} {z : Int} {j : Nat} {v : α} (e : z = (j : Int)) (h : xs[j]? = some v) : atI xs z = some v := by
  rw [e]
  exact atI_nat h
theorem app_list (a b : Str) : (a ++ b).cps.toList = a.cps.toList ++ b.cps.toList := Array.toList_append
theorem len_list (a : Str) : a.length = a.cps.toList.length := (Array.length_toList).symm
theorem made {a b c : Nat} (h1 : lett a = true) (h2 : lett b = true) (h3 : lett c = true) : isW ⟨#[a, b, c, 113]⟩ = true := by
  have h6 : (six.any fun y => decide (y = (⟨#[a, b, c, 113]⟩ : Str))) = false := by
    rw [List.any_eq_false]
    intro y hy e
    have e := of_decide_eq_true e
    subst e
    have last : ∀ y ∈ six, y.cps.toList.getLast? ≠ some 113 := by decide +kernel
    exact last _ hy rfl
  unfold isW
  rw [h6]
  have e : ([a, b, c, 113].all lett) = true := by
    simp only [List.all_cons, List.all_nil, h1, h2, h3, Bool.true_and, Bool.and_true]
    decide
  show (decide (0 < 4) && (decide (4 < 11) && (!false && [a, b, c, 113].all lett))) = true
  rw [e]
  rfl
theorem menu_lt : ∀ x ∈ (["alls", "somes", "an", "ands", "eachx", "i", "iss", "so", "nones", "al"] : List Str), Lt x := by
  have : ∀ x ∈ (["alls", "somes", "an", "ands", "eachx", "i", "iss", "so", "nones", "al"] : List Str), (decide (0 < x.length) && (decide (x.length < 11) && x.cps.toList.all lett)) = true := by decide +kernel
  intro x hx
  have := this x hx
  simp only [Bool.and_eq_true, decide_eq_true_eq] at this
  exact ⟨this.1, this.2.1, this.2.2⟩
theorem inV_ws (x : Str) (ws : List Str) : inV (.str x) (ws.map V.str) = decide (x ∈ ws) := by
  unfold inV
  rw [List.any_map, Bool.eq_iff_iff, List.any_eq_true, decide_eq_true_eq]
  constructor
  · rintro ⟨y, hy, e⟩
    have e : y = x := of_decide_eq_true e
    exact e ▸ hy
  · intro h
    exact ⟨x, h, decide_eq_true rfl⟩
/-- the k-th name that is tried -/
def nm (c k : Nat) : Str := ⟨#[c, 97 + k / 26, 97 + k % 26, 113]⟩
theorem nm_inj {c j k : Nat} (h : nm c j = nm c k) : j = k := by
  unfold nm at h
  simp only [Str.mk.injEq] at h
  have h := congrArg Array.toList h
  simp only [List.cons.injEq, true_and, and_true] at h
  omega
theorem pigeon : ∀ (n : Nat) (f : Nat → Str) (ws : List Str), (∀ j k, j < n → k < n → f j = f k → j = k) → (∀ j, j < n → f j ∈ ws) → n ≤ ws.length
  | 0, _, _, _, _ => Nat.zero_le _
  | n + 1, f, ws, inj, mem => by
    have h := pigeon n f (ws.erase (f n)) (fun j k a b e => inj j k (by omega) (by omega) e) fun j hj => by
      refine (List.mem_erase_of_ne fun e => ?_).mpr (mem j (by omega))
      have := inj j n (by omega) (by omega) e
      omega
    have hm := mem n (by omega)
    rw [List.length_erase_of_mem hm] at h
    have := List.length_pos_of_mem hm
    omega
theorem cLawName (T : Txt K mg) : Cal P w K mg base 3 "_law_name" (spName K) [] := by
  refine cal_of T.lawName scLawName (fun _ _ _ _ _ _ us hl => match us, hl with | [_, _], _ => rfl) (fun vs H Q E h => ?_) (fun f cdv A outer s H vs Q E hr h => ?_)
  · obtain ⟨d, l, b, ws, rfl, _⟩ := h
    rfl
  obtain ⟨d, l, b, ws, rfl, D, sq, nd, nl, len, q⟩ := h
  refine ⟨_, (pss_cons (ps_set (i := 2) scLawName.nd rfl (.inr rfl) pe_str)
 (pss_cons (ps_set (i := 3) scLawName.nd rfl (.inl rfl) (pe_join pe_str (pe_lc (own := [("turn", 4)]) (by rfl) scLawName.nd (pi_range1 rfl T.range (pa_cons (pe_op op_add pe_int (pe_c (cLawPick T) hr (by decide) rfl (pa_cons (pv 0) (pa_cons (pe_lst (pa_cons pe_int (pa_cons pe_int (pa_cons pe_int (pa_cons pe_int (pa_cons pe_int (pa_cons pe_int pa_nil))))))) pa_nil)))) pa_nil)) (blkOk_by (own := [("turn", 4)]) (N := ["deck", "found", "signs", "name", "turn"]) (sc := defScope sLawName) (by decide +kernel)) (fun _ _ _ _ _ => (pg_name (i := 4) scLawName.nd rfl (.inl rfl))) (fun _ _ _ _ _ => pts_nil) (fun _ _ _ _ _ => (pe_ix ix_str (pv 2) (pe_c (cLawDraw T) hr (by decide) rfl (pa_cons (pv 0) (pa_cons pe_int pa_nil))) (fun _ _ => rfl))))))
 (C8.pss_cut (ps_set (i := 3) scLawName.nd rfl (.inl rfl) (pe_ifExp (pt_cmpR op_eq (pe_c (cLawDraw T) hr (by decide) rfl (pa_cons (pv 0) (pa_cons pe_int pa_nil))) pe_int (nomark _)) (pe_c (cLawPick T) hr (by decide) rfl (pa_cons (pv 0) (pa_cons (pe_lst (pa_cons pe_str (pa_cons pe_str (pa_cons pe_str (pa_cons pe_str (pa_cons pe_str (pa_cons pe_str (pa_cons pe_str (pa_cons pe_str (pa_cons pe_str (pa_cons pe_str pa_nil))))))))))) pa_nil))) (pv 3)))
 (pss_cons (ps_for PassesOwn.never rfl (pi_range1 rfl T.range (pa_cons (pe_op op_add (pe_callB call_len_seq (by rfl) T.len (by decide +kernel) (pa_cons (pv 1) pa_nil)) pe_int) pa_nil)) (pg_name (i := 4) scLawName.nd rfl (.inl rfl))
 (pss_one (ps_if (PW.pt (pw_or (pt_cmpR op_in_seq (pv 3) (pv 1) rfl) (pw_or1 (pt_not (pt_val (pe_c (cLawIsWord T) hr (by decide) rfl (pa_cons (pv 3) pa_nil)))))))
 (pss_one (ps_set (i := 3) scLawName.nd rfl (.inl rfl) (pe_op op_add_str (pe_op op_add_str (pe_op op_add_str (pe_slice sl_str (pv 3) po_none (po_some pe_int)) (pe_ix ix_str (pv 2) (pe_op op_fdiv (pv 4) pe_int) (fun _ _ => rfl))) (pe_ix ix_str (pv 2) (pe_op op_mod (pe_callTy call_int1 (by rfl) T.int (by decide +kernel) (pa_cons (pv 4) pa_nil)) pe_int) (fun _ _ => rfl))) pe_str)))
 pss_nil)))
 (pss_one (ps_ret (pv 3))))))), ?_⟩
  have Ddl := D.ne
  -- how many signs
  refine ⟨⟨_, rfl⟩, .ref d, rfl, by show 6 ≤ sizeLine; decide, fun p np => ?_⟩
  have pd : p ≠ d := fun z => by obtain ⟨_, _, _, h1, _⟩ := D; rw [z, h1] at np; cases np
  have pl : p ≠ l := fun z => by obtain ⟨_, _, _, _, h1, _⟩ := D; rw [z, h1] at np; cases np
  refine ⟨d, l, p, _, rfl, D.new np, lst_of upd_same, pd, pl, by simp, by show 6 ≤ 100000; decide, fun y G hy off DG => ?_⟩
  have off1 : Off d l H G := (off_new np).trans off
  obtain ⟨n, rfl, n0, n9⟩ : ∃ n : Int, y = .int n ∧ 0 ≤ n ∧ n ≤ 9 := by
    simp only [List.mem_cons, List.not_mem_nil, or_false] at hy
    rcases hy with rfl | rfl | rfl | rfl | rfl | rfl <;> exact ⟨_, rfl, by decide, by decide⟩
  clear off hy
  refine ⟨1, n, rfl, rfl, 1 + n, rfl, by omega, by omega, fun e ne => ?_⟩
  have ed : e ≠ d := fun z => by obtain ⟨_, _, _, h1, _⟩ := DG; rw [z, h1] at ne; cases ne
  have el : e ≠ l := fun z => by obtain ⟨_, _, _, _, h1, _⟩ := DG; rw [z, h1] at ne; cases ne
  have ne0 : H e = none := by
    cases q : H e with
    | none => rfl
    | some o => rw [off1 e o ed el q] at ne; cases ne
  -- the signs
  refine lc_range (lo := 0) (n := (1 + n).toNat) (fun i G2 => ∃ cs : List Nat, cs.length = i ∧ cs.all lett = true ∧ Off d l H G2 ∧ Deck G2 d l ∧ G2 e = some (.lst ((cs.map fun c => (⟨#[c]⟩ : Str)).map V.str)))
    ⟨[], rfl, rfl, off_add off1 ne, DG.new ne, upd_same⟩ (fun i G2 hi z => ?_) (fun G2 z => ?_)
  · obtain ⟨cs, hc, hl, o2, D2, g2⟩ := z
    refine ⟨rfl, .str _, rfl, .ref d, rfl, d, l, 26, rfl, D2, by omega, by omega, fun j G3 j0 j1 o3 D3 => ?_⟩
    have hj : j.toNat < 26 := by omega
    refine ⟨_, j, 97 + j.toNat, rfl, rfl, by decide +kernel, ?_, ?_⟩
    · have := signs_at hj
      rw [show j = ((j.toNat : Nat) : Int) by omega]
      exact atI_nat this
    · refine ⟨_, o3 _ _ ed el g2, ?_, cs ++ [97 + j.toNat], ?_, ?_, ?_, ?_, ?_⟩
      · rw [List.length_map, List.length_map, hc]
        exact Nat.lt_of_lt_of_le (show i < 100 by omega) (by decide)
      · rw [List.length_append, hc]
        rfl
      · rw [List.all_append, hl]
        simp [lett]
        omega
      · intro a u h1 h2 h
        have na : a ≠ e := ne_of_none h ne0
        rw [upd_ne na]
        exact o3 a u h1 h2 (o2 a u h1 h2 h)
      · obtain ⟨ns, m, t, k1, k2, k3⟩ := D3
        exact ⟨ns, m, t, (upd_ne ed.symm).trans k1, (upd_ne el.symm).trans k2, k3⟩
      · rw [upd_same, List.map_append, List.map_append]
        rfl
  obtain ⟨cs, hc, hl, o2, D2, g2⟩ := z
  have few : cs.length ≤ 10 := by omega
  refine ⟨_, e, _, rfl, rfl, .inl (lst_of g2), ?_, ?_⟩
  · rw [List.map_map, List.length_map]
    have : ∀ cs : List Nat, (cs.map ((fun x : Str => x.length) ∘ fun c => (⟨#[c]⟩ : Str))).sum = cs.length := by
      intro cs
      induction cs with
      | nil => rfl
      | cons c cs ih =>
        rw [List.map_cons, List.sum_cons, ih, List.length_cons]
        show 1 + cs.length = cs.length + 1
        omega
    rw [this]
    show cs.length + cs.length * 0 ≤ 16777216
    omega
  generalize hx : Txt.join ("" : Str) (cs.map fun c => (⟨#[c]⟩ : Str)) = x
  have hx' : x.cps.toList = cs := by rw [← hx]; exact joined cs
  have lx : Lt x := by
    refine ⟨?_, ?_, by rw [hx']; exact hl⟩
    · rw [len_list, hx']; omega
    · rw [len_list, hx']; omega
  clear hx g2
  -- or a word of the menu
  refine ⟨fun σ G => ∃ (x : Str) (t : Option V), σ = [some (.ref d), some (.ref b), some (.str "abcdefghijklmnopqrstuvwxyz"), some (.str x), t] ∧ Lt x ∧ Off d l H G ∧ Deck G d l, ?_, ?_⟩
  · refine ⟨.ref d, rfl, d, l, 6, rfl, D2, by omega, by omega, fun j G3 j0 j1 o3 D3 => ⟨rfl, _, rfl, ite2 (fun _ => ?_) (fun _ => ?_)⟩⟩
    · refine ⟨.ref d, rfl, by show 10 ≤ sizeLine; decide, fun p np => ?_⟩
      have pd : p ≠ d := fun z => by obtain ⟨_, _, _, h1, _⟩ := D3; rw [z, h1] at np; cases np
      have pl : p ≠ l := fun z => by obtain ⟨_, _, _, _, h1, _⟩ := D3; rw [z, h1] at np; cases np
      refine ⟨d, l, p, _, rfl, D3.new np, lst_of upd_same, pd, pl, by simp, by show 10 ≤ 100000; decide, fun y G4 hy off DG => ?_⟩
      obtain ⟨z, rfl, hz⟩ : ∃ z : Str, y = .str z ∧ Lt z := by
        have : y ∈ ((["alls", "somes", "an", "ands", "eachx", "i", "iss", "so", "nones", "al"] : List Str).map V.str) := hy
        obtain ⟨z, hz, e⟩ := List.mem_map.mp this
        exact ⟨z, e.symm, menu_lt z hz⟩
      exact ⟨z, none, rfl, hz, ((o2.trans o3).trans (off_new np)).trans off, DG⟩
    · exact ⟨_, rfl, x, none, rfl, lx, o2.trans o3, D3⟩
  rintro σ' G3 ⟨x, t, rfl, lx, o3, D3⟩
  have sq3 := o3.seq nd nl sq
  refine ⟨.ref b, rfl, b, _, rfl, .inl sq3, _, 2, rfl, rfl, _, rfl, ?_, ?_, ?_⟩
  · rw [List.length_map]; omega
  · rw [List.length_map]; omega
  have hn : ((((ws.map V.str).length : Nat) : Int) + 2).toNat = ws.length + 2 := by rw [List.length_map]; omega
  rw [hn]
  refine for_range (lo := 0) (n := ws.length + 2) (fun i σ G => ∃ (x : Str) (t : Option V), σ = [some (.ref d), some (.ref b), some (.str "abcdefghijklmnopqrstuvwxyz"), some (.str x), t] ∧ Lt x ∧
      ((isW x = true ∧ x ∉ ws) ∨ i = 0 ∨ ∃ c k : Nat, i = k + 1 ∧ lett c = true ∧ x = nm c k ∧ ∀ j, j < k → nm c j ∈ ws) ∧ Off d l H G ∧ Deck G d l)
    ⟨x, t, rfl, lx, .inr (.inl rfl), o3, D3⟩ (fun i σ G4 hi z => ?_) (fun σ G4 z => ?_)
  · obtain ⟨x, t, rfl, lx, hw, o4, D4⟩ := z
    have sq4 := o4.seq nd nl sq
    have szx : x.length ≤ sizeLine := Nat.le_of_lt (small1000 (by have := lx.2.1; omega))
    -- the first sign
    obtain ⟨c0, r0, hx0⟩ : ∃ c r, x.cps.toList = c :: r := by
      have h0 := lx.1
      rw [len_list] at h0
      cases h : x.cps.toList with
      | nil => rw [h] at h0; exact absurd h0 (Nat.lt_irrefl 0)
      | cons c r => exact ⟨c, r, rfl⟩
    have hc0 : lett c0 = true := by
      have := lx.2.2
      rw [hx0, List.all_cons, Bool.and_eq_true] at this
      exact this.1
    have hcut : cutS x none (some 1) = ⟨#[c0]⟩ := by
      refine str_ext ?_
      unfold cutS
      rw [HT.sIx_none, show HT.sIx x.length x.length (some 1) = min 1 x.length from HT.sIx_nat _ _ 1, hx0, show min 1 x.length = 1 from Nat.min_eq_left lx.1]
      rfl
    have b1 : i / 26 < 26 := by omega
    have b2 : i % 26 < 26 := Nat.mod_lt _ (by decide)
    have e1 : ((0 : Int) + (i : Int)) / 26 = ((i / 26 : Nat) : Int) := by omega
    have e2 : ((0 : Int) + (i : Int)) % 26 = ((i % 26 : Nat) : Int) := by omega
    have hs1 : lett (97 + i / 26) = true := by simp [lett]; omega
    have hs2 : lett (97 + i % 26) = true := by simp [lett]; omega
    -- where it is changed, all tried so far are there
    have next : (x ∈ ws ∨ isW x = false) → ∀ j, j < i → nm c0 j ∈ ws := fun bad j hj => by
      rcases hw with ⟨h1, h2⟩ | h | ⟨c, k, ek, hc, ex, all⟩
      · rcases bad with bad | bad
        · exact absurd bad h2
        · rw [h1] at bad; cases bad
      · omega
      · have ec : c0 = c := by
          rw [ex] at hx0
          exact (List.cons.inj hx0).1.symm
        subst ec
        have hin : x ∈ ws := bad.elim id fun bad => by
          rw [ex] at bad
          have := made (a := c0) (b := 97 + k / 26) (c := 97 + k % 26) hc (by simp [lett]; omega) (by simp [lett]; omega)
          rw [show nm c0 k = ⟨#[c0, 97 + k / 26, 97 + k % 26, 113]⟩ from rfl, this] at bad
          cases bad
        by_cases hjk : j < k
        · exact all j hjk
        · obtain rfl : j = k := by omega
          rw [← ex]
          exact hin
    refine ⟨.str x, rfl, .ref b, rfl, b, _, rfl, .inl sq4, rfl, flat_strs ws, _, rfl, ?_⟩
    show if inV (.str x) (ws.map V.str) = true then _ else _
    rw [inV_ws]
    refine ite2 (fun yes => iteT ?_) (fun no => ?_)
    ·
      refine ⟨.str x, rfl, 1, rfl, x, rfl, szx, .str _, rfl, _, rfl, _, 26, rfl, rfl, ⟨by omega, by omega⟩, _, _, _, rfl, rfl, by decide +kernel, (at_gen e1 (signs_at b1)), ?_⟩
      refine ⟨_, _, rfl, rfl, by rw [hcut]; show 1 + 1 ≤ sizeLine; decide, .str _, rfl, _, rfl, .inl ⟨_, rfl, _, 26, rfl, rfl, (by show (0 : Int) < 26; decide), _, _, _, rfl, rfl, by decide +kernel, (at_gen e2 (signs_at b2)), ?_⟩⟩
      refine ⟨_, _, rfl, rfl, by rw [hcut]; show 2 + 1 ≤ sizeLine; decide, _, _, rfl, rfl, by rw [hcut]; show 3 + 1 ≤ sizeLine; decide, ?_⟩
      refine ⟨_, _, rfl, ?_, .inr (.inr ⟨c0, i, rfl, hc0, ?_, next (.inl (of_decide_eq_true yes))⟩), o4, D4⟩
      · rw [hcut]
        exact isW_lt (made hc0 hs1 hs2)
      · rw [hcut]
        rfl
    · refine ⟨.str x, rfl, x, rfl, by have := lx.2.1; omega, lett_ok lx.2.2, fun G5 sm => ⟨_, rfl, ?_⟩⟩
      have o5 : Off d l H G5 := o4.trans sm.off
      have D5 := D4.same sm
      cases hw5 : isW x with
      | true => exact iteF ⟨x, _, rfl, lx, .inl ⟨hw5, fun y => no (decide_eq_true y)⟩, o5, D5⟩
      | false =>
        refine iteT ?_

        refine ⟨.str x, rfl, 1, rfl, x, rfl, szx, .str _, rfl, _, rfl, _, 26, rfl, rfl, ⟨by omega, by omega⟩, _, _, _, rfl, rfl, by decide +kernel, (at_gen e1 (signs_at b1)), ?_⟩
        refine ⟨_, _, rfl, rfl, by rw [hcut]; show 1 + 1 ≤ sizeLine; decide, .str _, rfl, _, rfl, .inl ⟨_, rfl, _, 26, rfl, rfl, (by show (0 : Int) < 26; decide), _, _, _, rfl, rfl, by decide +kernel, (at_gen e2 (signs_at b2)), ?_⟩⟩
        refine ⟨_, _, rfl, rfl, by rw [hcut]; show 2 + 1 ≤ sizeLine; decide, _, _, rfl, rfl, by rw [hcut]; show 3 + 1 ≤ sizeLine; decide, ?_⟩
        refine ⟨_, _, rfl, ?_, .inr (.inr ⟨c0, i, rfl, hc0, ?_, next (.inr hw5)⟩), o5, D5⟩
        · rw [hcut]
          exact isW_lt (made hc0 hs1 hs2)
        · rw [hcut]
          rfl
  · obtain ⟨x, t, rfl, lx, hw, o4, D4⟩ := z
    have good : isW x = true ∧ x ∉ ws := by
      rcases hw with h | h | ⟨c, k, ek, hc, ex, all⟩
      · exact h
      · omega
      · have := pigeon k (nm c) ws (fun j k' _ _ e => nm_inj e) all
        omega
    exact ⟨_, rfl, q x G4 good.1 good.2 o4 D4⟩
end
end K07
set_option Elab.async false
set_option linter.all false
set_option autoImplicit false
set_option maxRecDepth 100000
set_option maxHeartbeats 2000000
namespace K07
open PySem PySem.Spec PyProof.Rows L2 Tl
open C8 (Cal pe_c)
theorem Deck.off {d l p : Addr} {H : Hp} (D : Deck H d l) (np : H p = none) : p ≠ d ∧ p ≠ l := by
  obtain ⟨_, _, _, h1, h2, _⟩ := D
  exact ⟨fun z => (by rw [z, h1] at np; cases np), fun z => (by rw [z, h2] at np; cases np)⟩
theorem Off.free {d l p : Addr} {H H' : Hp} (e : Off d l H H') (h1 : p ≠ d) (h2 : p ≠ l) (h : H' p = none) : H p = none := by
  cases q : H p with
  | none => rfl
  | some o => rw [e p o h1 h2 q] at h; cases h
/-- a thing that H did not know changes -/
theorem Off.mut {d l p : Addr} {H H' : Hp} {o : HO} (e : Off d l H H') (h : H p = none) : Off d l H (upd H' p o) := fun a u h1 h2 z => by
  rw [upd_ne (ne_of_none z h)]
  exact e a u h1 h2 z
theorem Deck.mut {d l p : Addr} {H : Hp} {o : HO} (D : Deck H d l) (h1 : p ≠ d) (h2 : p ≠ l) : Deck (upd H p o) d l := by
  obtain ⟨ns, m, t, k1, k2, k3⟩ := D
  exact ⟨ns, m, t, (upd_ne h1.symm).trans k1, (upd_ne h2.symm).trans k2, k3⟩
section
variable {P : Program} {w : World} {K : PySem.W.Frag} {mg : Str → Option Value} {base : Heap}
/-! ### _law_words -/
def spWords : Sp := fun vs H Q _ => ∃ (d l : Addr) (n : Nat), vs = [.ref d, .int n] ∧ Deck H d l ∧ n ≤ 50 ∧
  ∀ (p : Addr) (ws : List Str) (H' : Hp), H p = none → ws.length = n → (∀ x ∈ ws, isW x = true) → ws.Nodup → p ≠ d → p ≠ l → Off d l H H' → Deck H' d l → H' p = some (.lst (ws.map V.str)) → Q (.ref p) H'
theorem cLawWords (T : Txt K mg) : Cal P w K mg base 4 "_law_words" spWords [] := by
  refine cal_of T.lawWords scLawWords (fun _ _ _ _ _ _ us hl => match us, hl with | [_, _], _ => rfl) (fun vs H Q E h => ?_) (fun f cdv A outer s H vs Q E hr h => ?_)
  · obtain ⟨d, l, n, rfl, _⟩ := h
    rfl
  obtain ⟨d, l, n, rfl, D, n50, q⟩ := h
  refine ⟨_, (pss_cons (ps_set (i := 2) scLawWords.nd rfl (.inl rfl) (pe_lst pa_nil))
 (pss_cons (ps_for PassesOwn.never rfl (pi_range1 rfl T.range (pa_cons (pv 1) pa_nil)) (pg_name (i := 3) scLawWords.nd rfl (.inl rfl))
 (pss_one (ps_expr (pe_bm PySem.F.plainAttrs_list PySem.F.slot_list_append PySem.F.type_list_append mt_append (pv 2) (pa_cons (pe_c (cLawName T) hr (by decide) rfl (pa_cons (pv 0) (pa_cons (pv 2) pa_nil))) pa_nil)))))
 (pss_one (ps_ret (pv 2))))), ?_⟩
  refine ⟨Nat.zero_le _, fun p np => ?_⟩
  obtain ⟨pd, pl⟩ := D.off np
  refine ⟨.int n, rfl, n, rfl, by omega, by omega, ?_⟩
  rw [show ((n : Nat) : Int).toNat = n from rfl]
  refine for_range (lo := 0) (n := n) (fun i σ G => ∃ (ws : List Str) (t : Option V), σ = [some (.ref d), some (.int n), some (.ref p), t] ∧ ws.length = i ∧ (∀ x ∈ ws, isW x = true) ∧ ws.Nodup ∧ Off d l H G ∧ Deck G d l ∧ G p = some (.lst (ws.map V.str)))
    ⟨[], none, rfl, rfl, fun x hx => (nomatch hx), List.nodup_nil, off_new np, D.new np, upd_same⟩ (fun i σ G hi z => ?_) (fun σ G z => ?_)
  · obtain ⟨ws, t, rfl, hl, hw, hn, o1, D1, g1⟩ := z
    refine ⟨.ref p, rfl, .inl ⟨rfl, _, lst_of g1⟩, .ref d, rfl, .ref p, rfl, d, l, p, ws, rfl, D1, lst_of g1, pd, pl, by omega, fun x G2 hx hx2 o2 D2 => ?_⟩
    refine ⟨p, _, _, rfl, rfl, o2 p _ pd pl g1, ?_, ws ++ [x], _, rfl, ?_, ?_, ?_, (o1.trans o2).mut np, D2.mut pd pl, ?_⟩
    · rw [List.length_map, hl]
      exact Nat.lt_of_lt_of_le (show i < 100 by omega) (by decide)
    · rw [List.length_append, hl]
      rfl
    · intro y hy
      rcases List.mem_append.mp hy with hy | hy
      · exact hw y hy
      · rw [List.mem_singleton.mp hy]
        exact hx
    · rw [List.nodup_append]
      refine ⟨hn, by simp, fun a ha b hb e => hx2 ?_⟩
      rw [← List.mem_singleton.mp hb, ← e]
      exact ha
    · rw [upd_same, List.map_append]
      rfl
  · obtain ⟨ws, t, rfl, hl, hw, hn, o1, D1, g1⟩ := z
    exact ⟨_, rfl, q p ws G np hl hw hn pd pl o1 D1 g1⟩
end
/-! ### concepts -/
def COk : C → Prop
  | .all => True
  | .non => True
  | .word x => isW x = true
  | .some r c => isW r = true ∧ COk c
  | .and a b => COk a ∧ COk b
def dep : C → Nat
  | .some _ c => dep c + 1
  | .and a b => Nat.max (dep a) (dep b) + 1
  | _ => 1
def nodes : C → Nat
  | .some _ c => nodes c + 1
  | .and a b => nodes a + nodes b + 1
  | _ => 1
theorem cal_false {P : Program} {w : World} {K : PySem.W.Frag} {mg : Str → Option Value} {base : Heap} {x : Str} {st : Stmt} {ps : List Str} (D : DefAt K mg x st) (hb : BindH x st ps) : Cal P w K mg base 0 x (fun _ _ _ _ => False) [] := by
  obtain ⟨f, fd, F, hm⟩ := D.ex
  exact ⟨f, fd, ps, [], ⟨fun _ _ _ _ z => z.elim, fun _ _ _ _ _ _ _ _ _ _ _ _ _ z => z.elim⟩, hm, F.kp, F.binds hb, .nil⟩
/-- b holds a list of words, apart from the deck -/
def Words (K : PySem.W.Frag) (H : Hp) (d l b : Addr) (ws : List Str) : Prop := SqL K H b (ws.map V.str) ∧ b ≠ d ∧ b ≠ l ∧ ws ≠ [] ∧ ws.length ≤ 100 ∧ ∀ x ∈ ws, isW x = true
theorem Words.off {K : PySem.W.Frag} {H H' : Hp} {d l b : Addr} {ws : List Str} (h : Words K H d l b ws) (e : Off d l H H') : Words K H' d l b ws := ⟨e.seq h.2.1 h.2.2.1 h.1, h.2⟩
def spCon (K : PySem.W.Frag) (n : Nat) : Sp := fun vs H Q _ => ∃ (d l b : Addr) (ws : List Str), vs = [.ref d, .ref b, .int n] ∧ Deck H d l ∧ Words K H d l b ws ∧
  ∀ (v : V) (c : C) (H' : Hp), Con K H' v c → COk c → dep c ≤ n + 1 → nodes c + 1 ≤ 2 ^ (n + 1) → Off d l H H' → Deck H' d l → Q v H'
def spC (K : PySem.W.Frag) : Nat → Sp
  | 0 => fun _ _ _ _ => False
  | n + 1 => spCon K n
section
variable {P : Program} {w : World} {K : PySem.W.Frag} {mg : Str → Option Value} {base : Heap}
/-- a word of the list, picked -/
theorem picked {K : PySem.W.Frag} {H : Hp} {d l b : Addr} {ws : List Str} {Q : VK} (D : Deck H d l) (W : Words K H d l b ws) (k : ∀ (x : Str) (H' : Hp), isW x = true → x ∈ ws → Off d l H H' → Deck H' d l → Q (.str x) H') : spPick K [.ref d, .ref b] H Q (fun _ _ _ => False) := by
  refine ⟨d, l, b, _, rfl, D, W.1, W.2.1, W.2.2.1, ?_, ?_, fun y G hy off DG => ?_⟩
  · intro e
    exact W.2.2.2.1 (List.map_eq_nil_iff.mp e)
  · rw [List.length_map]
    have := W.2.2.2.2.1
    omega
  · obtain ⟨x, hx, rfl⟩ := List.mem_map.mp hy
    exact k x G (W.2.2.2.2.2 x hx) hx off DG
theorem cCon1 (T : Txt K mg) (n : Nat) (ih : Cal P w K mg base (n + 2) "_law_concept" (spC K n) []) : Cal P w K mg base (n + 3) "_law_concept" (spCon K n) [] := by
  refine cal_of T.lawConcept scLawConcept (fun _ _ _ _ _ _ us hl => match us, hl with | [_, _, _], _ => rfl) (fun vs H Q E h => ?_) (fun f cdv A outer s H vs Q E hr h => ?_)
  · obtain ⟨d, l, b, ws, rfl, _⟩ := h
    rfl
  obtain ⟨d, l, b, ws, rfl, D, W, q⟩ := h
  refine ⟨_, (C8.pss_cut (ps_set (i := 3) scLawConcept.nd rfl (.inl rfl) (pe_ifExp (pt_cmpR op_gt (pv 2) pe_int (nomark _)) (pe_c (cLawDraw T) hr (by omega) rfl (pa_cons (pv 0) (pa_cons pe_int pa_nil))) (pe_c (cLawDraw T) hr (by omega) rfl (pa_cons (pv 0) (pa_cons pe_int pa_nil)))))
 (pss_cons (ps_if (pt_cmpR op_lt (pv 3) pe_int (nomark _))
 (pss_one (ps_ret (pe_tup (pa_cons pe_str (pa_cons (pe_c (cLawPick T) hr (by omega) rfl (pa_cons (pv 0) (pa_cons (pv 1) pa_nil))) pa_nil)))))
 pss_nil)
 (pss_cons (ps_if (pt_cmpR op_eq (pv 3) pe_int (nomark _))
 (pss_one (ps_ret (pe_ifExp (pt_cmpR op_eq (pe_c (cLawDraw T) hr (by omega) rfl (pa_cons (pv 0) (pa_cons pe_int pa_nil))) pe_int (nomark _)) (pe_tup (pa_cons pe_str pa_nil)) (pe_tup (pa_cons pe_str pa_nil)))))
 pss_nil)
 (pss_cons (ps_if (pt_cmpR op_lt (pv 3) pe_int (nomark _))
 (pss_one (ps_ret (pe_tup (pa_cons pe_str (pa_cons (pe_c (cLawPick T) hr (by omega) rfl (pa_cons (pv 0) (pa_cons (pv 1) pa_nil))) (pa_cons (pe_c ih hr (by omega) rfl (pa_cons (pv 0) (pa_cons (pv 1) (pa_cons (pe_op op_sub (pv 2) pe_int) pa_nil)))) pa_nil))))))
 pss_nil)
 (pss_one (ps_ret (pe_tup (pa_cons pe_str (pa_cons (pe_c ih hr (by omega) rfl (pa_cons (pv 0) (pa_cons (pv 1) (pa_cons (pe_op op_sub (pv 2) pe_int) pa_nil)))) (pa_cons (pe_c ih hr (by omega) rfl (pa_cons (pv 0) (pa_cons (pv 1) (pa_cons (pe_op op_sub (pv 2) pe_int) pa_nil)))) pa_nil)))))))))), ?_⟩
  refine ⟨fun σ G => ∃ (y : Int), σ = [some (.ref d), some (.ref b), some (.int n), some (.int y)] ∧ 0 ≤ y ∧ (n = 0 → y < 4) ∧ Off d l H G ∧ Deck G d l, ?_, ?_⟩
  · refine ⟨.int n, rfl, _, _, rfl, rfl, _, rfl, ite2 (fun c => ?_) (fun c => ?_)⟩
    · have c := of_decide_eq_true c
      exact ⟨.ref d, rfl, d, l, 9, rfl, D, by omega, by omega, fun y G y0 y1 o1 D1 => ⟨y, rfl, y0, fun z => by omega, o1, D1⟩⟩
    · exact ⟨.ref d, rfl, d, l, 4, rfl, D, by omega, by omega, fun y G y0 y1 o1 D1 => ⟨y, rfl, y0, fun z => y1, o1, D1⟩⟩
  rintro σ' G ⟨y, rfl, y0, y4, o1, D1⟩
  have W1 := W.off o1
  refine ⟨.int y, rfl, y, 3, rfl, rfl, _, rfl, ite2 (fun c => ?_) (fun c1 => ?_)⟩
  · refine ⟨.ref d, rfl, .ref b, rfl, picked D1 W1 fun x G2 hx _ o2 D2 => ⟨by show 2 ≤ sizeLine; decide, fun p np => ?_⟩⟩
    refine q _ (.word x) _ (mk_word (tupOf upd_same)) hx (Nat.succ_le_succ (Nat.zero_le _)) ?_ ((o1.trans o2).trans (off_new np)) (D2.new np)
    show 1 + 1 ≤ 2 ^ (n + 1)
    rw [Nat.pow_succ]
    have := Nat.two_pow_pos n
    omega
  have p2 := Nat.two_pow_pos n
  refine ⟨.int y, rfl, rfl, _, rfl, ite2 (fun c => ?_) (fun c2 => ?_)⟩
  · refine ⟨.ref d, rfl, d, l, 2, rfl, D1, by omega, by omega, fun j G2 j0 j1 o2 D2 => ⟨rfl, _, rfl, ite2 (fun _ => ?_) (fun _ => ?_)⟩⟩
    · refine ⟨by show 1 ≤ sizeLine; decide, fun p np => ?_⟩
      refine q _ .all _ (mk_all (tupOf upd_same)) trivial (Nat.succ_le_succ (Nat.zero_le _)) ?_ ((o1.trans o2).trans (off_new np)) (D2.new np)
      show 1 + 1 ≤ 2 ^ (n + 1)
      rw [Nat.pow_succ]
      omega
    · refine ⟨by show 1 ≤ sizeLine; decide, fun p np => ?_⟩
      refine q _ .non _ (mk_non (tupOf upd_same)) trivial (Nat.succ_le_succ (Nat.zero_le _)) ?_ ((o1.trans o2).trans (off_new np)) (D2.new np)
      show 1 + 1 ≤ 2 ^ (n + 1)
      rw [Nat.pow_succ]
      omega
  -- deeper
  have h4 : ¬ y < 4 := by
    have c1 := of_decide_eq_false (Bool.eq_false_iff.mpr c1)
    have c2 := of_decide_eq_false (Bool.eq_false_iff.mpr c2)
    have c2 : ¬ y = 3 := fun e => c2 (congrArg V.int e)
    omega
  cases n with
  | zero => exact absurd (y4 rfl) h4
  | succ m =>
    have em : ((m + 1 : Nat) : Int) - 1 = ((m : Nat) : Int) := by omega
    have pm : 2 ^ (m + 1 + 1) = 2 ^ (m + 1) + 2 ^ (m + 1) := by rw [Nat.pow_succ]; omega
    refine ⟨.int y, rfl, y, 6, rfl, rfl, _, rfl, ite2 (fun c => ?_) (fun _ => ?_)⟩
    · refine ⟨.ref d, rfl, .ref b, rfl, picked D1 W1 fun x G2 hx _ o2 D2 => ?_⟩
      refine ⟨.ref d, rfl, .ref b, rfl, .int _, rfl, _, 1, rfl, rfl, d, l, b, ws, ?_, D2, W1.off o2, fun v c G3 hc ok hd hn o3 D3 => ⟨by show 3 ≤ sizeLine; decide, fun p np => ?_⟩⟩
      · show [V.ref d, V.ref b, V.int (((m + 1 : Nat) : Int) - 1)] = [V.ref d, V.ref b, V.int (m : Int)]
        rw [em]
      · refine q _ (.some x c) _ (mk_some (tupOf upd_same) (hc.st (stay_new np))) ⟨hx, ok⟩ (Nat.succ_le_succ hd) ?_ (((o1.trans o2).trans o3).trans (off_new np)) (D3.new np)
        show nodes c + 1 + 1 ≤ _
        rw [pm]
        have := Nat.two_pow_pos (m + 1)
        omega
    · refine ⟨.ref d, rfl, .ref b, rfl, .int _, rfl, _, 1, rfl, rfl, d, l, b, ws, ?_, D1, W1, fun v c G3 hc ok hd hn o3 D3 => ?_⟩
      · show [V.ref d, V.ref b, V.int (((m + 1 : Nat) : Int) - 1)] = [V.ref d, V.ref b, V.int (m : Int)]
        rw [em]
      refine ⟨.ref d, rfl, .ref b, rfl, .int _, rfl, _, 1, rfl, rfl, d, l, b, ws, ?_, D3, W1.off o3, fun u e G4 he ok' hd' hn' o4 D4 => ⟨by show 3 ≤ sizeLine; decide, fun p np => ?_⟩⟩
      · show [V.ref d, V.ref b, V.int (((m + 1 : Nat) : Int) - 1)] = [V.ref d, V.ref b, V.int (m : Int)]
        rw [em]
      refine q _ (.and c e) _ (mk_and (tupOf upd_same) ((hc.st (o4.stay D3)).st (stay_new np)) (he.st (stay_new np))) ⟨ok, ok'⟩ (Nat.succ_le_succ (Nat.max_le.mpr ⟨hd, hd'⟩)) ?_ (((o1.trans o3).trans o4).trans (off_new np)) (D4.new np)
      show nodes c + nodes e + 1 + 1 ≤ _
      rw [pm]
      omega
theorem cLawConcept (T : Txt K mg) : ∀ n : Nat, Cal P w K mg base (n + 2) "_law_concept" (spC K n) []
  | 0 => calUp (cal_false T.lawConcept (ps := ["deck", "words", "deep"]) (fun _ _ _ _ _ _ us hl => match us, hl with | [_, _, _], _ => rfl)) (Nat.zero_le _)
  | n + 1 => cCon1 T n (cLawConcept T n)
end
end K07
set_option Elab.async false
set_option linter.all false
set_option autoImplicit false
set_option maxRecDepth 100000
set_option maxHeartbeats 2000000
namespace K07
open PySem PySem.Spec PyProof.Rows L2 Tl
open C8 (Cal pe_c)
/-! ### worlds -/
structure Wd where
  many : Int
  names : List (Str × List Int)
  roles : List (Str × List (Int × Int))
def PrE (K : PySem.W.Frag) (H : Hp) (q : Addr) (e : Int × Int) : Prop := SqT K H q [.int e.1, .int e.2]
def Prs (K : PySem.W.Frag) (H : Hp) (t : Addr) (es : List (Int × Int)) : Prop := ∃ qs : List Addr, SqT K H t (qs.map V.ref) ∧ Paired (PrE K H) qs es
def NmE (K : PySem.W.Frag) (H : Hp) (p : Addr) (e : Str × List Int) : Prop := ∃ t, SqT K H p [.str e.1, .ref t] ∧ SqT K H t (e.2.map V.int)
def RlE (K : PySem.W.Frag) (H : Hp) (p : Addr) (e : Str × List (Int × Int)) : Prop := ∃ t, SqT K H p [.str e.1, .ref t] ∧ Prs K H t e.2
def Frz (H : Hp) (a : Addr) (ps : List Addr) : Prop := ∃ o : Obj, H a = some (.frz o (.tup (ps.map V.ref))) ∧ o.dict = none
def Names (K : PySem.W.Frag) (H : Hp) (a : Addr) (nm : List (Str × List Int)) : Prop := ∃ ps, Frz H a ps ∧ Paired (NmE K H) ps nm
def Roles (K : PySem.W.Frag) (H : Hp) (a : Addr) (rl : List (Str × List (Int × Int))) : Prop := ∃ ps, Frz H a ps ∧ Paired (RlE K H) ps rl
def IsWd (K : PySem.W.Frag) (H : Hp) (v : V) (W : Wd) : Prop := ∃ a n r, v = .ref a ∧ SqT K H a [.int W.many, .ref n, .ref r] ∧ Names K H n W.names ∧ Roles K H r W.roles
section
variable {K : PySem.W.Frag} {H H' : Hp}
theorem pre_st {q : Addr} {e : Int × Int} (s : Stay H H') (h : PrE K H q e) : PrE K H' q e := s.tup h
theorem prs_st {t : Addr} {es : List (Int × Int)} (s : Stay H H') (h : Prs K H t es) : Prs K H' t es := by
  obtain ⟨qs, h1, h2⟩ := h
  exact ⟨qs, s.tup h1, Paired.mapP h2 fun _ _ z => pre_st s z⟩
theorem nme_st {p : Addr} {e : Str × List Int} (s : Stay H H') (h : NmE K H p e) : NmE K H' p e := by
  obtain ⟨t, h1, h2⟩ := h
  exact ⟨t, s.tup h1, s.tup h2⟩
theorem rle_st {p : Addr} {e : Str × List (Int × Int)} (s : Stay H H') (h : RlE K H p e) : RlE K H' p e := by
  obtain ⟨t, h1, h2⟩ := h
  exact ⟨t, s.tup h1, prs_st s h2⟩
theorem frz_st {a : Addr} {ps : List Addr} (s : Stay H H') (h : Frz H a ps) : Frz H' a ps := by
  obtain ⟨o, h1, h2⟩ := h
  exact ⟨o, s.frz h1, h2⟩
theorem names_st {a : Addr} {nm : List (Str × List Int)} (s : Stay H H') (h : Names K H a nm) : Names K H' a nm := by
  obtain ⟨ps, h1, h2⟩ := h
  exact ⟨ps, frz_st s h1, Paired.mapP h2 fun _ _ z => nme_st s z⟩
theorem roles_st {a : Addr} {rl : List (Str × List (Int × Int))} (s : Stay H H') (h : Roles K H a rl) : Roles K H' a rl := by
  obtain ⟨ps, h1, h2⟩ := h
  exact ⟨ps, frz_st s h1, Paired.mapP h2 fun _ _ z => rle_st s z⟩
theorem iswd_st {v : V} {W : Wd} (s : Stay H H') (h : IsWd K H v W) : IsWd K H' v W := by
  obtain ⟨a, n, r, h1, h2, h3, h4⟩ := h
  exact ⟨a, n, r, h1, s.tup h2, names_st s h3, roles_st s h4⟩
end
theorem snoc {α β : Type} {F : α → β → Prop} : ∀ {xs : List α} {ys : List β} {x : α} {y : β}, Paired F xs ys → F x y → Paired F (xs ++ [x]) (ys ++ [y])
  | _, _, _, _, .nil, h => .cons h .nil
  | _, _, _, _, .cons r t, h => .cons r (snoc t h)
theorem joinP {α β : Type} {F : α → β → Prop} : ∀ {xs xs' : List α} {ys ys' : List β}, Paired F xs ys → Paired F xs' ys' → Paired F (xs ++ xs') (ys ++ ys')
  | _, _, _, _, .nil, h => h
  | _, _, _, _, .cons r t, h => .cons r (joinP t h)
theorem getP {α β : Type} {F : α → β → Prop} : ∀ {xs : List α} {ys : List β} {i : Nat} {x : α}, Paired F xs ys → xs[i]? = some x → ∃ y, ys[i]? = some y ∧ F x y
  | _ :: _, _ :: _, 0, _, .cons r _, h => ⟨_, rfl, by cases h; exact r⟩
  | _ :: _, _ :: _, i + 1, _, .cons _ t, h => getP (i := i) t h
def Lex (e f : Int × Int) : Prop := e.1 < f.1 ∨ (e.1 = f.1 ∧ e.2 < f.2)
def sl (x y : Str) : Prop := x.cps.toList < y.cps.toList
def GoodN (many : Int) (xs : List Int) : Prop := xs ≠ [] ∧ xs.Pairwise (· < ·) ∧ ∀ x ∈ xs, 0 ≤ x ∧ x < many
def GoodR (many : Int) (es : List (Int × Int)) : Prop := es ≠ [] ∧ es.Pairwise Lex ∧ ∀ e ∈ es, (0 ≤ e.1 ∧ e.1 < many) ∧ 0 ≤ e.2 ∧ e.2 < many
structure WOk (W : Wd) : Prop where
  many : 1 ≤ W.many ∧ W.many ≤ 6
  names : (W.names.map (·.1)).Pairwise sl ∧ (∀ e ∈ W.names, isW e.1 = true ∧ GoodN W.many e.2) ∧ W.names.length ≤ 50
  roles : (W.roles.map (·.1)).Pairwise sl ∧ (∀ e ∈ W.roles, isW e.1 = true ∧ GoodR W.many e.2) ∧ W.roles.length ≤ 50
theorem sl_of {x y : Str} (h : ¬ sl y x) (n : x ≠ y) : sl x y := by
  unfold sl at *
  have h1 : x.cps.toList ≤ y.cps.toList := List.not_lt.mp h
  rcases List.le_iff_lt_or_eq.mp h1 with h2 | h2
  · exact h2
  · exact absurd (str_ext h2) n
theorem sl_trans {x y z : Str} (a : sl x y) (b : sl y z) : sl x z := List.lt_trans a b
theorem rising_sl : ∀ (p : Str) (ws : List Str), risingS p ws = true → (p :: ws).Nodup → (p :: ws).Pairwise sl
  | p, [], _, _ => List.pairwise_singleton _ _
  | p, x :: r, h, n => by
    simp only [risingS, Bool.and_eq_true, Bool.not_eq_true', ltCps_eq, decide_eq_false_iff_not] at h
    have hpx : sl p x := sl_of h.1 fun e => by
      rw [e] at n
      exact (List.nodup_cons.mp n).1 List.mem_cons_self
    have ih := rising_sl x r h.2 (List.nodup_cons.mp n).2
    rw [List.pairwise_cons]
    refine ⟨fun y hy => ?_, ih⟩
    rcases List.mem_cons.mp hy with rfl | hy
    · exact hpx
    · exact sl_trans hpx ((List.pairwise_cons.mp ih).1 y hy)
theorem sorted_sl {ws : List Str} (h : sortedS ws = true) (n : ws.Nodup) : ws.Pairwise sl := by
  cases ws with
  | nil => exact List.Pairwise.nil
  | cons x r => exact rising_sl x r h n
/-! ### data of a world's parts -/
section
variable {K : PySem.W.Frag} {H : Hp}
theorem dts_ints : ∀ ns : List Int, Dts K H (ns.map V.int) (ns.map PyData.int)
  | [] => .nil
  | n :: ns => .cons (.int n) (dts_ints ns)
def prD (e : Int × Int) : PyData := .tuple [.int e.1, .int e.2]
theorem dts_prs {qs : List Addr} {es : List (Int × Int)} (h : Paired (PrE K H) qs es) : Dts K H (qs.map V.ref) (es.map prD) := by
  induction h with
  | nil => exact .nil
  | cons r _ ih => exact .cons (.tup r (.cons (.int _) (.cons (.int _) .nil))) ih
theorem canLay_prs : ∀ es : List (Int × Int), PyData.canLayAll0 (es.map prD) = true
  | [] => by simp [PyData.canLayAll0]
  | e :: es => by simp [PyData.canLayAll0, PyData.canLay0, prD, canLay_prs es]
theorem depth_prs : ∀ es : List (Int × Int), PyData.depthAll (es.map prD) ≤ 1
  | [] => by simp [PyData.depthAll]
  | e :: es => by
    have := depth_prs es
    simp [PyData.depthAll, PyData.depth, prD]
    omega
theorem shaped_prs (es : List (Int × Int)) : SeqAt.shaped (.list (es.map prD)) = true := by
  have := depth_prs es
  simp [SeqAt.shaped, PyData.canLay0, PyData.depth, canLay_prs]
  omega
theorem shaped_tints (ns : List Int) : SeqAt.shaped (.tuple (ns.map PyData.int)) = true := by
  simp [SeqAt.shaped, PyData.canLay0, PyData.depth, canLay_ints, depth_ints]
theorem shaped_tnil : SeqAt.shaped (.tuple []) = true := shaped_tints []
end
end K07
set_option Elab.async false
set_option linter.all false
set_option autoImplicit false
set_option maxRecDepth 100000
set_option maxHeartbeats 4000000
namespace K07
open PySem PySem.Spec PyProof.Rows L2 Tl
open C8 (Cal pe_c)
section
variable {P : Program} {w : World} {K : PySem.W.Frag} {mg : Str → Option Value} {base : Heap}
def spWorld (K : PySem.W.Frag) : Sp := fun vs H Q _ => ∃ (d l b : Addr) (ws : List Str) (m : Int), vs = [.ref d, .ref b, .int m] ∧ Deck H d l ∧ Words K H d l b ws ∧ ws.Nodup ∧ ws.length ≤ 40 ∧ 1 ≤ m ∧ m ≤ 6 ∧
  ∀ (v : V) (W : Wd) (H' : Hp), IsWd K H' v W → WOk W → Off d l H H' → Deck H' d l → Q v H'
abbrev nWorld : List Str := ["deck", "words", "most", "many", "names", "roles", "word", "few", "ties", "things", "x", "pairs", "y"]
/-- one more item behind ascending ones -/
theorem asc_snoc {xs : List Int} {i : Int} (h : xs.Pairwise (· < ·)) (b : ∀ x ∈ xs, x < i) : (xs ++ [i]).Pairwise (· < ·) := by
  rw [List.pairwise_append]
  refine ⟨h, List.pairwise_singleton _ _, fun a ha c hc => ?_⟩
  rw [List.mem_singleton.mp hc]
  exact b a ha
/-- an int of a new list is picked -/
theorem pickI {K : PySem.W.Frag} {H : Hp} {d l p : Addr} {xs : List Int} {Q : VK} (hn : xs ≠ []) (hl : xs.length ≤ 1000) (D : Deck H d l) (np : H p = none)
    (k : ∀ (y : Int) (H' : Hp), y ∈ xs → Off d l H H' → Deck H' d l → Q (.int y) H') : spPick K [.ref d, .ref p] (upd H p (.lst (xs.map V.int))) Q (fun _ _ _ => False) := by
  obtain ⟨pd, pl⟩ := D.off np
  refine ⟨d, l, p, _, rfl, D.new np, lst_of upd_same, pd, pl, fun e => hn (List.map_eq_nil_iff.mp e), by rw [List.length_map]; omega, fun y G hy off DG => ?_⟩
  obtain ⟨z, hz, rfl⟩ := List.mem_map.mp hy
  exact k z G hz ((off_new np).trans off) DG
theorem tint_ne (xs : List Int) : (!PyData.eqv (.tuple (xs.map PyData.int)) (.tuple [])) = !xs.isEmpty := by
  cases xs <;> simp [PyData.eqv, PyData.eqvAll]
theorem lpr_ne (es : List (Int × Int)) : (!PyData.eqv (.list (es.map prD)) (.list [])) = !es.isEmpty := by
  cases es <;> simp [PyData.eqv, PyData.eqvAll]
theorem lex_join {es : List (Int × Int)} {xs : List Int} {j : Int} (h : es.Pairwise Lex) (b : ∀ e ∈ es, e.1 < j) (a : xs.Pairwise (· < ·)) : (es ++ xs.map fun y => (j, y)).Pairwise Lex := by
  rw [List.pairwise_append]
  refine ⟨h, ?_, fun e he f hf => ?_⟩
  · rw [List.pairwise_map]
    exact a.imp fun z => .inr ⟨rfl, z⟩
  · obtain ⟨y, _, rfl⟩ := List.mem_map.mp hf
    exact .inl (b e he)
theorem cLawWorld (T : Txt K mg) : Cal P w K mg base 3 "_law_world" (spWorld K) [] := by
  refine cal_of T.lawWorld scLawWorld (fun _ _ _ _ _ _ us hl => match us, hl with | [_, _, _], _ => rfl) (fun vs H Q E h => ?_) (fun f cdv A outer s H vs Q E hr h => ?_)
  · obtain ⟨d, l, b, ws, m, rfl, _⟩ := h
    rfl
  obtain ⟨d, l, b, ws, m, rfl, D, W, nodup, w40, m1, m10, q⟩ := h
  have hu64 := hr.units
  refine ⟨_, (pss_cons (ps_par3 (i := 3) (j := 4) (l := 5) rfl scLawWorld.nd rfl rfl rfl (by decide) (by decide) (by decide) rfl rfl rfl (pa_cons (pe_op op_add pe_int (pe_c (cLawDraw T) hr (by decide) rfl (pa_cons (pv 0) (pa_cons (pv 2) pa_nil)))) (pa_cons (pe_lst pa_nil) (pa_cons (pe_lst pa_nil) pa_nil))) rfl)
 (pss_cons (ps_for PassesOwn.never rfl (pi_list (pe_callB cr_sortedS (by rfl) T.sorted (by decide +kernel) (pa_cons (pv 1) pa_nil))) (pg_name (i := 6) scLawWorld.nd rfl (.inl rfl))
 (pss_cons (ps_asg (pe_tup (pa_cons (pe_c (cLawPick T) hr (by decide) rfl (pa_cons (pv 0) (pa_cons (pe_lst (pa_cons pe_int (pa_cons pe_int (pa_cons pe_int (pa_cons pe_int (pa_cons pe_int pa_nil)))))) pa_nil))) (pa_cons (pe_c (cLawPick T) hr (by decide) rfl (pa_cons (pv 0) (pa_cons (pe_lst (pa_cons pe_int (pa_cons pe_int (pa_cons pe_int (pa_cons pe_int (pa_cons pe_int pa_nil)))))) pa_nil))) pa_nil))) (pg_tup rfl (pgs_cons (pg_name (i := 7) scLawWorld.nd rfl (.inr rfl)) (pgs_cons (pg_name (i := 8) scLawWorld.nd rfl (.inr rfl)) pgs_nil))))
 (pss_cons (ps_set (i := 9) scLawWorld.nd rfl (.inl rfl) (pe_callTy call_tuple_of (by rfl) T.tuple (by decide +kernel) (pa_cons (pe_lc (own := [("x", 10)]) (by rfl) scLawWorld.nd (pi_range1 rfl T.range (pa_cons (pv 3) pa_nil)) (blkOk_by (own := [("x", 10)]) (N := ["deck", "words", "most", "many", "names", "roles", "word", "few", "ties", "things", "x", "pairs", "y"]) (sc := defScope sLawWorld) (by decide +kernel)) (fun _ _ _ _ _ => (pg_name (i := 10) scLawWorld.nd rfl (.inl rfl))) (fun _ _ _ _ _ => pts_one (pt_cmpR op_lt (pe_c (cLawDraw T) hr (by decide) rfl (pa_cons (pv 0) (pa_cons pe_int pa_nil))) (pv 7) (nomark _))) (fun _ _ _ _ _ => (pv 10))) pa_nil)))
 (pss_cons (ps_set (i := 11) scLawWorld.nd rfl (.inl rfl) (pe_lst pa_nil))
 (pss_cons (ps_for PassesOwn.never rfl (pi_range1 rfl T.range (pa_cons (pv 3) pa_nil)) (pg_name (i := 10) scLawWorld.nd rfl (.inr rfl))
 (pss_one (ps_expr (pe_bm PySem.F.plainAttrs_list PySem.F.slot_list_extend PySem.F.type_list_extend mt_extend (pv 11) (pa_cons (pe_lc (own := [("y", 12)]) (by rfl) scLawWorld.nd (pi_range1 rfl T.range (pa_cons (pv 3) pa_nil)) (blkOk_by (own := [("y", 12)]) (N := ["deck", "words", "most", "many", "names", "roles", "word", "few", "ties", "things", "x", "pairs", "y"]) (sc := defScope sLawWorld) (by decide +kernel)) (fun _ _ _ _ _ => (pg_name (i := 12) scLawWorld.nd rfl (.inl rfl))) (fun _ _ _ _ _ => pts_one (pt_cmpR op_lt (pe_c (cLawDraw T) hr (by decide) rfl (pa_cons (pv 0) (pa_cons pe_int pa_nil))) (pv 8) (nomark _))) (fun _ _ _ _ _ => (pe_tup (pa_cons (pv 10) (pa_cons (pv 12) pa_nil))))) pa_nil)))))
 (C8.pss_cut (ps_expr (pe_bm PySem.F.plainAttrs_list PySem.F.slot_list_extend PySem.F.type_list_extend mt_extend (pv 4) (pa_cons (pe_ifExp (pt_cmpR (op_neD hu64) (pv 9) (pe_tup pa_nil) (nomark _)) (pe_lst (pa_cons (pe_tup (pa_cons (pv 6) (pa_cons (pv 9) pa_nil))) pa_nil)) (pe_lst pa_nil)) pa_nil)))
 (pss_one (ps_expr (pe_bm PySem.F.plainAttrs_list PySem.F.slot_list_extend PySem.F.type_list_extend mt_extend (pv 5) (pa_cons (pe_ifExp (pt_cmpR (op_neD hu64) (pv 11) (pe_lst pa_nil) (nomark _)) (pe_lst (pa_cons (pe_tup (pa_cons (pv 6) (pa_cons (pe_callTy call_tuple_of (by rfl) T.tuple (by decide +kernel) (pa_cons (pv 11) pa_nil)) pa_nil))) pa_nil)) (pe_lst pa_nil)) pa_nil))))))))))
 (pss_one (ps_ret (pe_tup (pa_cons (pv 3) (pa_cons (pe_callTy cr_tupF (by rfl) T.tuple (by decide +kernel) (pa_cons (pv 4) pa_nil)) (pa_cons (pe_callTy cr_tupF (by rfl) T.tuple (by decide +kernel) (pa_cons (pv 5) pa_nil)) pa_nil)))))))), ?_⟩
  -- many, names, roles
  refine ⟨.ref d, rfl, .int m, rfl, d, l, m, rfl, D, by omega, by omega, fun k G1 k0 k1 o1 D1 => ⟨1, k, rfl, rfl, Nat.zero_le _, fun n nn => ⟨Nat.zero_le _, fun r nr => ⟨_, _, _, rfl, ?_⟩⟩⟩⟩
  generalize hmany : (1 + k : Int) = many
  have many1 : 1 ≤ many := by omega
  have many10 : many ≤ 6 := by omega
  have s1 := same_up (o := .lst []) nn
  have s2 := same_add s1 (o := .lst []) nr
  have n0 : H n = none := o1.free (D1.off nn).1 (D1.off nn).2 nn
  have r1 : G1 r = none := s1.free nr
  have r0 : H r = none := o1.free (D1.off r1).1 (D1.off r1).2 r1
  obtain ⟨nd, nl⟩ := D1.off nn
  obtain ⟨rd, rl⟩ := D1.off r1
  have nr_ne : n ≠ r := ne_of_none (o := .lst []) upd_same nr
  have g1 : (upd (upd G1 n (.lst [])) r (.lst [])) n = some (.lst []) := (upd_ne nr_ne).trans upd_same
  have g2 : (upd (upd G1 n (.lst [])) r (.lst [])) r = some (.lst []) := upd_same
  have o2 : Off d l H (upd (upd G1 n (.lst [])) r (.lst [])) := o1.trans s2.off
  have D2 := D1.same s2
  generalize (upd (upd G1 n (.lst [])) r (.lst [])) = G2 at g1 g2 o2 D2
  -- for word in sorted(words)
  have W2 := W.off o2
  refine ⟨.ref b, rfl, b, ws, rfl, W2.1, by omega, fun ys p perm srt np => ?_⟩
  have ysn : ys.Nodup := perm.nodup_iff.mpr nodup
  have ysl : ys.length ≤ 40 := by rw [perm.length_eq]; exact w40
  have yss := sorted_sl srt ysn
  have ysw : ∀ x ∈ ys, isW x = true := fun x hx => W.2.2.2.2.2 x (perm.mem_iff.mp hx)
  obtain ⟨pd, pl⟩ := D2.off np
  have pn : n ≠ p := ne_of_none g1 np
  have pr : r ≠ p := ne_of_none g2 np
  have p0 : H p = none := o2.free pd pl np
  refine ⟨p, rfl, ⟨_, lst_of upd_same⟩, for_list (K := K) (a := p) (xs := ys.map V.str) (fun i σ G => ∃ (nps rps : List Addr) (nm : List (Str × List Int)) (rs : List (Str × List (Int × Int))) (t6 t7 t8 t9 t10 t11 t12 : Option V),
      σ = [some (.ref d), some (.ref b), some (.int m), some (.int many), some (.ref n), some (.ref r), t6, t7, t8, t9, t10, t11, t12] ∧ Off d l H G ∧ Deck G d l ∧ G n = some (.lst (nps.map V.ref)) ∧ G r = some (.lst (rps.map V.ref)) ∧
      G p = some (.lst (ys.map V.str)) ∧ Paired (NmE K G) nps nm ∧ Paired (RlE K G) rps rs ∧ (nm.map (·.1)).Sublist (ys.take i) ∧ (rs.map (·.1)).Sublist (ys.take i) ∧ (∀ e ∈ nm, GoodN many e.2) ∧ (∀ e ∈ rs, GoodR many e.2))
    ⟨[], [], [], [], none, none, none, none, none, none, none, congrArg (fun z => [some (V.ref d), some (.ref b), some (.int m), some (.int z), some (.ref n), some (.ref r), none, none, none, none, none, none, none]) hmany, o2.mut p0, D2.mut pd pl, (upd_ne pn).trans g1, (upd_ne pr).trans g2, upd_same, .nil, .nil, .slnil, .slnil, (fun e he => nomatch he), (fun e he => nomatch he)⟩
    (fun i σ G _ z => ?_) (fun i x σ G hx z => ?_) (fun σ G z => ?_)⟩
  · obtain ⟨_, _, _, _, _, _, _, _, _, _, _, _, _, _, _, _, z, _⟩ := z
    exact lst_of z
  · obtain ⟨nps, rps, nm, rs, t6, t7, t8, t9, t10, t11, t12, rfl, o3, D3, gn, gr, gp, hnm, hrs, snm, srs, gdn, gdr⟩ := z
    obtain ⟨word, hw, rfl⟩ : ∃ u, ys[i]? = some u ∧ x = V.str u := by
      rw [List.getElem?_map] at hx
      obtain ⟨u, h, e⟩ := Option.map_eq_some_iff.mp hx
      exact ⟨u, h, e.symm⟩
    have hi : i < ys.length := (List.getElem?_eq_some_iff.mp hw).1
    have hT : ys.take (i + 1) = ys.take i ++ [word] := by rw [List.take_add_one, hw]; rfl
    -- few, ties
    refine ⟨.ref d, rfl, by show 5 ≤ sizeLine; decide, fun e1 ne1 => pickI (xs := [0, 1, 2, 3, 4]) (by simp) (by decide) D3 ne1 fun few Ga _ oa Da => ?_⟩
    refine ⟨.ref d, rfl, by show 5 ≤ sizeLine; decide, fun e2 ne2 => pickI (xs := [0, 1, 1, 2, 3]) (by simp) (by decide) Da ne2 fun ties Gb _ ob Db => ?_⟩
    refine ⟨by show 2 ≤ sizeLine; decide, fun tt ntt => ⟨tt, _, rfl, tupOf upd_same, rfl, .int few, [.int ties], rfl, .int ties, [], rfl, rfl, ?_⟩⟩
    have oc : Off d l G (upd Gb tt (.tup [.int few, .int ties])) := (oa.trans ob).trans (off_new ntt)
    have Dc := Db.new (o := .tup [.int few, .int ties]) ntt
    generalize upd Gb tt (.tup [.int few, .int ties]) = Gc at oc Dc
    clear oa ob Da Db ne1 ne2 ntt
    -- things
    refine ⟨.int many, rfl, many, rfl, by omega, by omega, fun D' nD => ?_⟩
    obtain ⟨D'd, D'l⟩ := Dc.off nD
    have nDG : G D' = none := oc.free D'd D'l nD
    refine lc_range (lo := 0) (n := many.toNat) (fun i X => ∃ xs : List Int, X D' = some (.lst (xs.map V.int)) ∧ Off d l G X ∧ Deck X d l ∧ xs.Pairwise (· < ·) ∧ (∀ x ∈ xs, 0 ≤ x ∧ x < (i : Int)) ∧ xs.length ≤ i)
      ⟨[], upd_same, oc.mut nDG, Dc.mut D'd D'l, .nil, (fun x hx => nomatch hx), Nat.zero_le _⟩ (fun i X hi z => ?_) (fun X z => ?_)
    · obtain ⟨xs, gX, oX, DX, asc, bnd, len⟩ := z
      refine ⟨rfl, .ref d, rfl, d, l, 4, rfl, DX, by omega, by omega, fun j X2 j0 j1 o5 D5 => ⟨.int few, rfl, j, few, rfl, rfl, _, rfl, ite2 (fun _ => ?_) (fun _ => ?_)⟩⟩
      · refine ⟨_, rfl, _, o5 _ _ D'd D'l gX, ?_, xs ++ [0 + (i : Int)], ?_, (oX.trans o5).mut nDG, D5.mut D'd D'l, asc_snoc asc fun x hx => ?_, fun x hx => ?_, ?_⟩
        · rw [List.length_map]
          exact Nat.lt_of_le_of_lt len (Nat.lt_of_lt_of_le (show i < 100 by omega) (by decide))
        · rw [upd_same, List.map_append] <;> rfl
        · have := bnd x hx
          omega
        · rcases List.mem_append.mp hx with hx | hx
          · have := bnd x hx
            omega
          · rw [List.mem_singleton.mp hx]
            omega
        · rw [List.length_append]
          show xs.length + 1 ≤ i + 1
          omega
      · exact ⟨xs, o5 _ _ D'd D'l gX, oX.trans o5, D5, asc, fun x hx => by have := bnd x hx; omega, by omega⟩
    obtain ⟨xs, gX, oX, DX, asc, bnd, lenx⟩ := z
    refine ⟨D', _, rfl, .inl ⟨lst_of gX, fun tp ntp => ?_⟩⟩
    have oY : Off d l G (upd X tp (.tup (xs.map V.int))) := oX.trans (off_new ntp)
    have DY := DX.new (o := .tup (xs.map V.int)) ntp
    have gtp : (upd X tp (.tup (xs.map V.int))) tp = some (.tup (xs.map V.int)) := upd_same
    generalize upd X tp (.tup (xs.map V.int)) = Y at oY DY gtp
    have bnd' : ∀ x ∈ xs, 0 ≤ x ∧ x < many := fun x hx => by have := bnd x hx; omega
    clear gX oX DX ntp bnd
    -- pairs
    refine ⟨Nat.zero_le _, fun e ne => ?_⟩
    obtain ⟨ed, el⟩ := DY.off ne
    have eG : G e = none := oY.free ed el ne
    have etp : tp ≠ e := ne_of_none gtp ne
    refine ⟨.int many, rfl, many, rfl, by omega, by omega, for_range (lo := 0) (n := many.toNat) (fun j σ Z => ∃ (es : List (Int × Int)) (qs : List Addr) (t10 t12 : Option V),
        σ = [some (.ref d), some (.ref b), some (.int m), some (.int many), some (.ref n), some (.ref r), some (.str word), some (.int few), some (.int ties), some (.ref tp), t10, some (.ref e), t12] ∧
        Z e = some (.lst (qs.map V.ref)) ∧ Paired (PrE K Z) qs es ∧ Off d l G Z ∧ Deck Z d l ∧ Z tp = some (.tup (xs.map V.int)) ∧ es.Pairwise Lex ∧ (∀ p ∈ es, (0 ≤ p.1 ∧ p.1 < (j : Int)) ∧ 0 ≤ p.2 ∧ p.2 < many) ∧ qs.length ≤ j * 10)
      ⟨[], [], t10, t12, rfl, upd_same, .nil, oY.mut eG, DY.mut ed el, (upd_ne etp).trans gtp, .nil, (fun p hp => nomatch hp), Nat.zero_le _⟩ (fun j σ Z hj z => ?_) (fun σ Z z => ?_)⟩
    · obtain ⟨es, qs, t10, t12, rfl, ge, hes, oZ, DZ, gtZ, lex, bes, lq⟩ := z
      refine ⟨.ref e, rfl, .inl ⟨rfl, _, lst_of ge⟩, .int many, rfl, many, rfl, by omega, by omega, fun D2 nD2 => ?_⟩
      obtain ⟨D2d, D2l⟩ := DZ.off nD2
      have D2e : e ≠ D2 := ne_of_none ge nD2
      refine lc_range (lo := 0) (n := many.toNat) (fun k X => ∃ (zs : List Int) (ps : List Addr), X D2 = some (.lst (ps.map V.ref)) ∧ Paired (PrE K X) ps (zs.map fun y => ((0 : Int) + (j : Int), y)) ∧ zs.Pairwise (· < ·) ∧ (∀ y ∈ zs, 0 ≤ y ∧ y < (k : Int)) ∧ ps.length ≤ k ∧ Off d l Z X ∧ Deck X d l)
        ⟨[], [], upd_same, .nil, .nil, (fun x hx => nomatch hx), Nat.zero_le _, off_new nD2, DZ.new nD2⟩ (fun k X hk z => ?_) (fun X z => ?_)
      · obtain ⟨zs, ps, gX, hps, asc2, bnd2, len2, oX, DX⟩ := z
        refine ⟨rfl, .ref d, rfl, d, l, 5, rfl, DX, by omega, by omega, fun c X2 c0 c1 o5 D5 => ⟨.int ties, rfl, c, ties, rfl, rfl, _, rfl, ite2 (fun _ => ?_) (fun _ => ?_)⟩⟩
        · refine ⟨_, rfl, _, rfl, by show 2 ≤ sizeLine; decide, fun u nu => ?_⟩
          have g2' : X2 D2 = some (.lst (ps.map V.ref)) := o5 _ _ D2d D2l gX
          have uD2 : D2 ≠ u := ne_of_none g2' nu
          have g3' : (upd X2 u (.tup [.int (0 + (j : Int)), .int (0 + (k : Int))])) D2 = some (.lst (ps.map V.ref)) := (upd_ne uD2).trans g2'
          have stm : Stay (upd X2 u (.tup [.int (0 + (j : Int)), .int (0 + (k : Int))])) (upd (upd X2 u (.tup [.int (0 + (j : Int)), .int (0 + (k : Int))])) D2 (.lst (ps.map V.ref ++ [.ref u]))) := stay_mut (by rw [g3']; trivial)
          refine ⟨_, g3', ?_, zs ++ [0 + (k : Int)], ps ++ [u], ?_, ?_, asc_snoc asc2 fun x hx => ?_, fun x hx => ?_, ?_, ?_, ?_⟩
          · rw [List.length_map]
            exact Nat.lt_of_le_of_lt len2 (Nat.lt_of_lt_of_le (show k < 100 by omega) (by decide))
          · rw [upd_same, List.map_append] <;> rfl
          · rw [List.map_append]
            refine snoc (Paired.mapP hps fun _ _ z => pre_st stm (pre_st (stay_new nu) (pre_st (o5.stay DX) z))) (pre_st stm ?_)
            exact tupOf upd_same
          · have := bnd2 x hx
            omega
          · rcases List.mem_append.mp hx with hx | hx
            · have := bnd2 x hx
              omega
            · rw [List.mem_singleton.mp hx]
              omega
          · rw [List.length_append]
            show ps.length + 1 ≤ k + 1
            omega
          · exact ((oX.trans o5).trans (off_new nu)).mut nD2
          · exact (D5.new nu).mut D2d D2l
        · exact ⟨zs, ps, o5 _ _ D2d D2l gX, Paired.mapP hps fun _ _ z => pre_st (o5.stay DX) z, asc2, fun y hy => by have := bnd2 y hy; omega, by omega, oX.trans o5, D5⟩
      obtain ⟨zs, ps, gX, hps, asc2, bnd2, len2, oX, DX⟩ := z
      have ge' : X e = some (.lst (qs.map V.ref)) := oX _ _ ed el ge
      have stm : Stay X (upd X e (.lst (qs.map V.ref ++ ps.map V.ref))) := stay_mut (by rw [ge']; trivial)
      refine ⟨e, D2, _, _, rfl, rfl, ge', gX, ?_, es ++ zs.map (fun y => ((0 : Int) + (j : Int), y)), qs ++ ps, _, _, rfl, ?_, ?_, (oZ.trans oX).mut eG, DX.mut ed el, ?_, lex_join lex (fun p hp => by have := bes p hp; omega) asc2, fun p hp => ?_, ?_⟩
      · rw [List.length_map, List.length_map]
        exact Nat.le_trans (show qs.length + ps.length ≤ 1000 by omega) (by decide)
      · rw [upd_same, List.map_append]
      · exact joinP (Paired.mapP hes fun _ _ z => pre_st stm (pre_st (oX.stay DZ) z)) (Paired.mapP hps fun _ _ z => pre_st stm z)
      · exact stm _ _ (oX.stay DZ _ _ gtZ (.inl ⟨_, rfl⟩)) (.inl ⟨_, rfl⟩)
      · rcases List.mem_append.mp hp with hp | hp
        · have := bes p hp
          omega
        · obtain ⟨y, hy, rfl⟩ := List.mem_map.mp hp
          have := bnd2 y hy
          show ((0 : Int) ≤ 0 + (j : Int) ∧ 0 + (j : Int) < _) ∧ 0 ≤ y ∧ y < many
          omega
      · rw [List.length_append]
        omega
    obtain ⟨es, qs, t10, t12, rfl, ge, hes, oZ, DZ, gtZ, lex, bes, lq⟩ := z
    have bes' : ∀ p ∈ es, (0 ≤ p.1 ∧ p.1 < many) ∧ 0 ≤ p.2 ∧ p.2 < many := fun p hp => by have := bes p hp; omega
    have gnZ : Z n = some (.lst (nps.map V.ref)) := oZ _ _ nd nl gn
    have grZ : Z r = some (.lst (rps.map V.ref)) := oZ _ _ rd rl gr
    have gpZ : Z p = some (.lst (ys.map V.str)) := oZ _ _ pd pl gp
    have stZ := oZ.stay D3
    have hnmZ := Paired.mapP hnm fun _ _ z => nme_st stZ z
    have hrsZ := Paired.mapP hrs fun _ _ z => rle_st stZ z
    have oHZ := o3.trans oZ
    have lnn : nps.length ≤ 40 := by
      have h1 := snm.length_le
      rw [List.length_map, List.length_take] at h1
      have := Paired.length hnm
      omega
    have lrr : rps.length ≤ 40 := by
      have h1 := srs.length_le
      rw [List.length_map, List.length_take] at h1
      have := Paired.length hrs
      omega
    have ne_ : n ≠ e := fun z => by rw [z, eG] at gn; cases gn
    have re_ : r ≠ e := fun z => by rw [z, eG] at gr; cases gr
    have pe_ : p ≠ e := fun z => by rw [z, eG] at gp; cases gp
    have np_ : n ≠ p := pn
    have rp_ : r ≠ p := pr
    have lqs : qs.length ≤ 1000 := by omega
    clear gn gr gp hnm hrs oZ stZ o3 D3 oY DY gtp ne eG oc Dc nD nDG
    -- names.extend(..)
    refine ⟨fun σ X => ∃ (nps' : List Addr) (nm' : List (Str × List Int)), σ = [some (.ref d), some (.ref b), some (.int m), some (.int many), some (.ref n), some (.ref r), some (.str word), some (.int few), some (.int ties), some (.ref tp), t10, some (.ref e), t12] ∧
      Off d l H X ∧ Deck X d l ∧ X n = some (.lst (nps'.map V.ref)) ∧ X r = some (.lst (rps.map V.ref)) ∧ X p = some (.lst (ys.map V.str)) ∧ X e = some (.lst (qs.map V.ref)) ∧ Paired (NmE K X) nps' nm' ∧ Paired (RlE K X) rps rs ∧ Paired (PrE K X) qs es ∧
      (nm'.map (·.1)).Sublist (ys.take (i + 1)) ∧ (∀ e ∈ nm', GoodN many e.2), ?_, ?_⟩
    · refine ⟨.ref n, rfl, .inl ⟨rfl, _, lst_of gnZ⟩, .ref tp, rfl, Nat.zero_le _, fun u nu => ⟨.tuple (xs.map PyData.int), .tuple [], .tup (tupOf ((upd_ne (ne_of_none gtZ nu)).trans gtZ)) (dp_ints xs), .tup (tupOf upd_same) .nil, shaped_tints xs, shaped_tnil, _, rfl, ?_⟩⟩
      rw [tint_ne]
      have s1 := same_up (o := .tup []) nu
      cases hxs : xs with
      | nil =>
        refine iteF ⟨Nat.zero_le _, fun v nv => ?_⟩
        have s2 := same_add s1 (o := .lst []) nv
        have gn2 := s2 _ _ gnZ
        refine ⟨n, v, _, _, rfl, rfl, gn2, upd_same, by rw [List.length_map]; exact Nat.le_trans (show nps.length + 0 ≤ 100 by omega) (by decide), ?_⟩
        have stm : Stay (upd (upd Z u (.tup [])) v (.lst [])) (upd (upd (upd Z u (.tup [])) v (.lst [])) n (.lst (nps.map V.ref ++ []))) := stay_mut (by rw [gn2]; trivial)
        have st := (Tl.Same.stay s2).trans stm
        refine ⟨nps, nm, rfl, (oHZ.trans s2.off).mut n0, (DZ.same s2).mut nd nl, by rw [upd_same, List.append_nil], (upd_ne nr_ne.symm).trans (s2 _ _ grZ), (upd_ne np_.symm).trans (s2 _ _ gpZ), (upd_ne ne_.symm).trans (s2 _ _ ge), Paired.mapP hnmZ fun _ _ z => nme_st st z, Paired.mapP hrsZ fun _ _ z => rle_st st z, Paired.mapP hes fun _ _ z => pre_st st z, ?_, gdn⟩
        rw [hT]
        exact snm.trans (List.sublist_append_left _ _)
      | cons x0 xr =>
        rw [← hxs]
        rw [show (!xs.isEmpty) = true by rw [hxs]; rfl]
        refine iteT ⟨.str word, rfl, .ref tp, rfl, by show 2 ≤ sizeLine; decide, fun u2 nu2 => ⟨by show 1 ≤ sizeLine; decide, fun v nv => ?_⟩⟩
        have s2 := same_add s1 (o := .tup [.str word, .ref tp]) nu2
        have s3 := same_add s2 (o := .lst [.ref u2]) nv
        have gn2 := s3 _ _ gnZ
        refine ⟨n, v, _, _, rfl, rfl, gn2, upd_same, by rw [List.length_map]; exact Nat.le_trans (show nps.length + 1 ≤ 100 by omega) (by decide), ?_⟩
        have stm : Stay (upd (upd (upd Z u (.tup [])) u2 (.tup [.str word, .ref tp])) v (.lst [.ref u2])) (upd (upd (upd (upd Z u (.tup [])) u2 (.tup [.str word, .ref tp])) v (.lst [.ref u2])) n (.lst (nps.map V.ref ++ [.ref u2]))) := stay_mut (by rw [gn2]; trivial)
        have st := (Tl.Same.stay s3).trans stm
        refine ⟨nps ++ [u2], nm ++ [(word, xs)], rfl, (oHZ.trans s3.off).mut n0, (DZ.same s3).mut nd nl, by rw [upd_same, List.map_append] <;> rfl, (upd_ne nr_ne.symm).trans (s3 _ _ grZ), (upd_ne np_.symm).trans (s3 _ _ gpZ), (upd_ne ne_.symm).trans (s3 _ _ ge), ?_, Paired.mapP hrsZ fun _ _ z => rle_st st z, Paired.mapP hes fun _ _ z => pre_st st z, ?_, fun e he => ?_⟩
        · refine snoc (Paired.mapP hnmZ fun _ _ z => nme_st st z) ⟨tp, tupOf (stm _ _ ((same_up nv) _ _ upd_same) (.inl ⟨_, rfl⟩)), tupOf (st _ _ gtZ (.inl ⟨_, rfl⟩))⟩
        · rw [hT, List.map_append]
          exact snm.append (List.Sublist.refl _)
        · rcases List.mem_append.mp he with he | he
          · exact gdn e he
          · rw [List.mem_singleton.mp he]
            exact ⟨by rw [hxs]; exact List.cons_ne_nil _ _, asc, bnd'⟩
    -- roles.extend(..)
    rintro σ' X ⟨nps', nm', rfl, oX, DX, gnX, grX, gpX, geX, hnmX, hrsX, hesX, snm', gdn'⟩
    refine ⟨.ref r, rfl, .inl ⟨rfl, _, lst_of grX⟩, .ref e, rfl, Nat.zero_le _, fun u nu => ⟨.list (es.map prD), .list [], .lst (lst_of ((upd_ne (ne_of_none geX nu)).trans geX)) ?_, .lst (lst_of upd_same) .nil, shaped_prs es, shaped_nil, _, rfl, ?_⟩⟩
    · exact Dts.dp _ _ (dts_prs (Paired.mapP hesX fun _ _ z => pre_st (stay_new nu) z))
    rw [lpr_ne]
    have s1 := same_up (o := .lst []) nu
    cases hee : es with
    | nil =>
      refine iteF ⟨Nat.zero_le _, fun v nv => ?_⟩
      have s2 := same_add s1 (o := .lst []) nv
      have gr2 := s2 _ _ grX
      refine ⟨r, v, _, _, rfl, rfl, gr2, upd_same, by rw [List.length_map]; exact Nat.le_trans (show rps.length + 0 ≤ 100 by omega) (by decide), ?_⟩
      have stm : Stay (upd (upd X u (.lst [])) v (.lst [])) (upd (upd (upd X u (.lst [])) v (.lst [])) r (.lst (rps.map V.ref ++ []))) := stay_mut (by rw [gr2]; trivial)
      have st := (Tl.Same.stay s2).trans stm
      refine ⟨nps', rps, nm', rs, _, _, _, _, _, _, _, rfl, (oX.trans s2.off).mut r0, (DX.same s2).mut rd rl, (upd_ne nr_ne).trans (s2 _ _ gnX), by rw [upd_same, List.append_nil], (upd_ne rp_.symm).trans (s2 _ _ gpX), Paired.mapP hnmX fun _ _ z => nme_st st z, Paired.mapP hrsX fun _ _ z => rle_st st z, snm', ?_, gdn', gdr⟩
      rw [hT]
      exact srs.trans (List.sublist_append_left _ _)
    | cons x0 xr =>
      rw [← hee]
      rw [show (!es.isEmpty) = true by rw [hee]; rfl]
      refine iteT ⟨.str word, rfl, .ref e, rfl, e, _, rfl, .inl ⟨lst_of (s1 _ _ geX), fun tq ntq => ⟨by show 2 ≤ sizeLine; decide, fun u2 nu2 => ⟨by show 1 ≤ sizeLine; decide, fun v nv => ?_⟩⟩⟩⟩
      have s2 := same_add s1 (o := .tup (qs.map V.ref)) ntq
      have s3 := same_add s2 (o := .tup [.str word, .ref tq]) nu2
      have s4 := same_add s3 (o := .lst [.ref u2]) nv
      have gr2 := s4 _ _ grX
      refine ⟨r, v, _, _, rfl, rfl, gr2, upd_same, by rw [List.length_map]; exact Nat.le_trans (show rps.length + 1 ≤ 100 by omega) (by decide), ?_⟩
      have stm : Stay (upd (upd (upd (upd X u (.lst [])) tq (.tup (qs.map V.ref))) u2 (.tup [.str word, .ref tq])) v (.lst [.ref u2])) (upd (upd (upd (upd (upd X u (.lst [])) tq (.tup (qs.map V.ref))) u2 (.tup [.str word, .ref tq])) v (.lst [.ref u2])) r (.lst (rps.map V.ref ++ [.ref u2]))) := stay_mut (by rw [gr2]; trivial)
      have st := (Tl.Same.stay s4).trans stm
      refine ⟨nps', rps ++ [u2], nm', rs ++ [(word, es)], _, _, _, _, _, _, _, rfl, (oX.trans s4.off).mut r0, (DX.same s4).mut rd rl, (upd_ne nr_ne).trans (s4 _ _ gnX), by rw [upd_same, List.map_append] <;> rfl, (upd_ne rp_.symm).trans (s4 _ _ gpX), Paired.mapP hnmX fun _ _ z => nme_st st z, ?_, snm', ?_, gdn', fun e he => ?_⟩
      · refine snoc (Paired.mapP hrsX fun _ _ z => rle_st st z) ⟨tq, tupOf (stm _ _ ((same_up nv) _ _ upd_same) (.inl ⟨_, rfl⟩)), qs, tupOf (stm _ _ ((same_add (same_up nu2) nv) _ _ upd_same) (.inl ⟨_, rfl⟩)), Paired.mapP hesX fun _ _ z => pre_st st z⟩
      · rw [hT, List.map_append]
        exact srs.append (List.Sublist.refl _)
      · rcases List.mem_append.mp he with he | he
        · exact gdr e he
        · rw [List.mem_singleton.mp he]
          exact ⟨by rw [hee]; exact List.cons_ne_nil _ _, lex, bes'⟩
  · obtain ⟨nps, rps, nm, rs, t6, t7, t8, t9, t10, t11, t12, rfl, o3, D3, gn, gr, gp, hnm, hrs, snm, srs, gdn, gdr⟩ := z
    rw [List.length_map, List.take_of_length_le (Nat.le_refl _)] at snm srs
    refine ⟨.int many, rfl, .ref n, rfl, n, _, rfl, lst_of gn, fun a oa na noa => ?_⟩
    have s1 := same_up (o := .frz oa (.tup (nps.map V.ref))) na
    refine ⟨.ref r, rfl, r, _, rfl, lst_of (s1 _ _ gr), fun c oc nc noc => ?_⟩
    have s2 := same_up (o := .frz oc (.tup (rps.map V.ref))) nc
    refine ⟨by show 3 ≤ sizeLine; decide, fun t nt => ?_⟩
    have s3 := same_up (o := .tup [.int many, .ref a, .ref c]) nt
    have st := Tl.Same.stay ((s1.trans s2).trans s3)
    have len : ∀ {α : Type} {F : Addr → α → Prop} {xs : List Addr} {zs : List α} {g : α → Str}, Paired F xs zs → (zs.map g).Sublist ys → zs.length ≤ 50 := fun h1 h2 => by
      have := h2.length_le
      rw [List.length_map] at this
      omega
    refine q _ ⟨many, nm, rs⟩ _ ⟨t, a, c, rfl, tupOf upd_same, ⟨nps, ⟨oa, (s2.trans s3) _ _ upd_same, noa⟩, Paired.mapP hnm fun _ _ z => nme_st st z⟩, ⟨rps, ⟨oc, s3 _ _ upd_same, noc⟩, Paired.mapP hrs fun _ _ z => rle_st st z⟩⟩ ⟨⟨many1, many10⟩, ⟨yss.sublist snm, fun e he => ⟨ysw _ (snm.subset (List.mem_map_of_mem he)), gdn e he⟩, len hnm snm⟩, ⟨yss.sublist srs, fun e he => ⟨ysw _ (srs.subset (List.mem_map_of_mem he)), gdr e he⟩, len hrs srs⟩⟩
      (((o3.trans s1.off).trans s2.off).trans s3.off) (((D3.same s1).same s2).same s3)
end
end K07
set_option Elab.async false
set_option linter.all false
set_option autoImplicit false
set_option maxRecDepth 100000
set_option maxHeartbeats 2000000
namespace K07
open PySem PySem.Spec PyProof.Rows L2 Tl
open C8 (Cal pe_c)
/-! ### what is in a concept -/
def rgI (n : Int) : List Int := (List.range n.toNat).map fun (i : Nat) => (i : Int)
theorem rgV_eq (n : Int) : rgV 0 n = (rgI n).map V.int := by
  unfold rgV rgI
  rw [List.map_map, show n - 0 = n by omega]
  refine List.map_congr_left fun i _ => ?_
  show V.int (0 + (i : Int)) = V.int (i : Int)
  rw [Int.zero_add]
theorem mem_rgI {n x : Int} : x ∈ rgI n ↔ 0 ≤ x ∧ x < n := by
  unfold rgI
  rw [List.mem_map]
  constructor
  · rintro ⟨i, hi, rfl⟩
    have := List.mem_range.mp hi
    omega
  · rintro ⟨h1, h2⟩
    exact ⟨x.toNat, List.mem_range.mpr (by omega), by omega⟩
theorem asc_rgI (n : Int) : (rgI n).Pairwise (· < ·) := by
  unfold rgI
  rw [List.pairwise_map]
  exact List.pairwise_lt_range.imp fun h => by omega
theorem asc_len : ∀ (xs : List Int) (lo n : Int), xs.Pairwise (· < ·) → (∀ x ∈ xs, lo ≤ x ∧ x < n) → xs.length ≤ (n - lo).toNat
  | [], _, _, _, _ => Nat.zero_le _
  | x :: r, lo, n, h, b => by
    have h' := List.pairwise_cons.mp h
    have ih := asc_len r (x + 1) n h'.2 fun y hy => by
      have := h'.1 y hy
      have := b y (List.mem_cons_of_mem _ hy)
      omega
    have := b x List.mem_cons_self
    rw [List.length_cons]
    omega
theorem asc_eq : ∀ (xs ys : List Int), xs.Pairwise (· < ·) → ys.Pairwise (· < ·) → (∀ x, x ∈ xs ↔ x ∈ ys) → xs = ys
  | [], [], _, _, _ => rfl
  | [], y :: s, _, _, h => absurd ((h y).mpr List.mem_cons_self) (List.not_mem_nil)
  | x :: r, [], _, _, h => absurd ((h x).mp List.mem_cons_self) (List.not_mem_nil)
  | x :: r, y :: s, h1, h2, h => by
    have a1 := List.pairwise_cons.mp h1
    have a2 := List.pairwise_cons.mp h2
    have exy : x = y := by
      rcases List.mem_cons.mp ((h x).mp List.mem_cons_self) with e | e
      · exact e
      · rcases List.mem_cons.mp ((h y).mpr List.mem_cons_self) with e2 | e2
        · exact e2.symm
        · have := a2.1 x e
          have := a1.1 y e2
          omega
    subst exy
    rw [asc_eq r s a1.2 a2.2 fun z => ?_]
    constructor
    · intro hz
      rcases List.mem_cons.mp ((h z).mp (List.mem_cons_of_mem _ hz)) with e | e
      · subst e
        have := a1.1 z hz
        omega
      · exact e
    · intro hz
      rcases List.mem_cons.mp ((h z).mpr (List.mem_cons_of_mem _ hz)) with e | e
      · subst e
        have := a2.1 z hz
        omega
      · exact e
def look {α : Type} (nm : List (Str × α)) (x : Str) : Option α := (nm.find? fun e => decide (e.1 = x)).map (·.2)
def lookN (W : Wd) (x : Str) : List Int := (look W.names x).getD []
def lookR (W : Wd) (x : Str) : List (Int × Int) := (look W.roles x).getD []
def den (W : Wd) : C → List Int
  | .all => rgI W.many
  | .non => []
  | .word x => lookN W x
  | .and a b => (den W a).filter fun x => decide (x ∈ den W b)
  | .some r c => (rgI W.many).filter fun x => (lookR W r).any fun e => decide (e.1 = x) && decide (e.2 ∈ den W c)
theorem look_mem {α : Type} {nm : List (Str × α)} {x : Str} {y : α} (h : look nm x = some y) : (x, y) ∈ nm := by
  unfold look at h
  obtain ⟨e, he, rfl⟩ := Option.map_eq_some_iff.mp h
  have h1 := List.mem_of_find?_eq_some he
  have h2 := List.find?_some he
  have h2 : e.1 = x := of_decide_eq_true h2
  rw [← h2]
  exact h1
theorem lookN_good {W : Wd} (ok : WOk W) (x : Str) : (lookN W x).Pairwise (· < ·) ∧ ∀ y ∈ lookN W x, 0 ≤ y ∧ y < W.many := by
  unfold lookN
  cases h : look W.names x with
  | none => exact ⟨List.Pairwise.nil, fun y hy => nomatch hy⟩
  | some zs =>
    have := (ok.names.2.1 _ (look_mem h)).2
    exact ⟨this.2.1, this.2.2⟩
theorem lookR_good {W : Wd} (ok : WOk W) (x : Str) : (lookR W x).Pairwise Lex ∧ ∀ e ∈ lookR W x, (0 ≤ e.1 ∧ e.1 < W.many) ∧ 0 ≤ e.2 ∧ e.2 < W.many := by
  unfold lookR
  cases h : look W.roles x with
  | none => exact ⟨List.Pairwise.nil, fun y hy => nomatch hy⟩
  | some zs =>
    have := (ok.roles.2.1 _ (look_mem h)).2
    exact ⟨this.2.1, this.2.2⟩
theorem den_good {W : Wd} (ok : WOk W) : ∀ c : C, (den W c).Pairwise (· < ·) ∧ ∀ y ∈ den W c, 0 ≤ y ∧ y < W.many
  | .all => ⟨asc_rgI _, fun y hy => mem_rgI.mp hy⟩
  | .non => ⟨List.Pairwise.nil, fun y hy => nomatch hy⟩
  | .word x => lookN_good ok x
  | .and a b => ⟨(den_good ok a).1.sublist (List.filter_sublist), fun y hy => (den_good ok a).2 y (List.mem_filter.mp hy).1⟩
  | .some r c => ⟨(asc_rgI _).sublist (List.filter_sublist), fun y hy => mem_rgI.mp (List.mem_filter.mp hy).1⟩
theorem den_len {W : Wd} (ok : WOk W) (c : C) : (den W c).length ≤ 10 := by
  have h := den_good ok c
  have := asc_len _ 0 W.many h.1 h.2
  have := ok.many
  omega
/-- the pairs of a role: at most thirty-six -/
theorem lex_len_aux : ∀ (es : List (Int × Int)) (n : Int), 0 ≤ n → es.Pairwise Lex → (∀ e ∈ es, (0 ≤ e.1 ∧ e.1 < n) ∧ 0 ≤ e.2 ∧ e.2 < n) → (es.map fun e => e.1 * n + e.2).Pairwise (· < ·) := by
  intro es n hn h b
  rw [List.pairwise_map]
  refine List.Pairwise.imp_of_mem (fun {e f} he hf r => ?_) h
  have h1 := b e he
  have h2 := b f hf
  rcases r with r | ⟨r1, r2⟩
  · have : (e.1 + 1) * n ≤ f.1 * n := Int.mul_le_mul_of_nonneg_right (by omega) hn
    rw [Int.add_mul, Int.one_mul] at this
    omega
  · rw [r1]
    omega
theorem lex_len {es : List (Int × Int)} {n : Int} (h0 : 0 ≤ n) (h10 : n ≤ 6) (h : es.Pairwise Lex) (b : ∀ e ∈ es, (0 ≤ e.1 ∧ e.1 < n) ∧ 0 ≤ e.2 ∧ e.2 < n) : es.length ≤ 36 := by
  have := asc_len (es.map fun e => e.1 * n + e.2) 0 36 (lex_len_aux es n h0 h b) fun x hx => by
    obtain ⟨e, he, rfl⟩ := List.mem_map.mp hx
    have h1 := b e he
    have h2 : 0 ≤ e.1 * n := Int.mul_nonneg h1.1.1 h0
    have h3 : e.1 * n ≤ 5 * n := Int.mul_le_mul_of_nonneg_right (by omega) h0
    omega
  rw [List.length_map] at this
  omega
/-! ### the dict of a world's names -/
theorem merge_new : ∀ (more kvs : List (Key × V)), (∀ p ∈ more, valV kvs p.1 = none) → (more.map (·.1)).Nodup → mergeK kvs more = kvs ++ more
  | [], kvs, _, _ => (List.append_nil kvs).symm
  | p :: r, kvs, h, n => by
    have hn := List.nodup_cons.mp n
    show mergeK (putK kvs p.1 p.2) r = _
    rw [putK_new p.2 (h p List.mem_cons_self), merge_new r _ (fun q hq => ?_) hn.2, List.append_assoc]
    · rfl
    · rw [valV_snoc _ _ _ _ (h p List.mem_cons_self), if_neg (fun e => hn.1 (List.mem_map.mpr ⟨q, hq, e⟩))]
      exact h q (List.mem_cons_of_mem _ hq)
/-- an entry of the dict beside its entry in the world -/
def Ent {α : Type} (R : Addr → α → Prop) (kv : Key × V) (e : Str × α) : Prop := kv.1 = .inr e.1 ∧ ∃ t, kv.2 = .ref t ∧ R t e.2
theorem ent_keys {α : Type} {R : Addr → α → Prop} {kvs : List (Key × V)} {nm : List (Str × α)} (h : Paired (Ent R) kvs nm) : kvs.map (·.1) = (nm.map (·.1)).map Sum.inr := by
  induction h with
  | nil => rfl
  | cons r _ ih => rw [List.map_cons, List.map_cons, List.map_cons, ih, r.1]
theorem ent_nodup {α : Type} {R : Addr → α → Prop} {kvs : List (Key × V)} {nm : List (Str × α)} (h : Paired (Ent R) kvs nm) (asc : (nm.map (·.1)).Pairwise sl) : (kvs.map (·.1)).Nodup := by
  rw [ent_keys h]
  refine List.Pairwise.map _ (fun a b hab e => ?_) asc
  have e : a = b := Sum.inr.inj e
  rw [e] at hab
  exact List.lt_irrefl _ hab
theorem ent_look {α : Type} {R : Addr → α → Prop} {kvs : List (Key × V)} {nm : List (Str × α)} (h : Paired (Ent R) kvs nm) (x : Str) :
    (valV kvs (.inr x) = none ∧ look nm x = none) ∨ ∃ t y, valV kvs (.inr x) = some (.ref t) ∧ look nm x = some y ∧ R t y := by
  induction h with
  | nil => exact .inl ⟨rfl, rfl⟩
  | @cons kv e kvs nm r _ ih =>
    obtain ⟨h1, t, h2, h3⟩ := r
    by_cases hx : e.1 = x
    · refine .inr ⟨t, e.2, ?_, ?_, h3⟩
      · rw [valV_pos (by rw [h1, hx]), h2]
      · unfold look
        rw [List.find?_cons_of_pos (by simpa using hx)]
        rfl
    · have n1 : ¬ kv.1 = Sum.inr x := fun z => hx (Sum.inr.inj (h1.symm.trans z))
      rw [valV_neg n1]
      have : look (e :: nm) x = look nm x := by
        unfold look
        rw [List.find?_cons_of_neg (by simpa using hx)]
      rw [this]
      exact ih
theorem ent_of_names {K : PySem.W.Frag} {H : Hp} {ps : List Addr} {nm : List (Str × List Int)} (h : Paired (NmE K H) ps nm) :
    ∃ kvs : List (Key × V), Paired (fun p kv => SqT K H p [kV kv.1, kv.2]) ps kvs ∧ Paired (Ent fun t xs => SqT K H t (xs.map V.int)) kvs nm := by
  induction h with
  | nil => exact ⟨[], .nil, .nil⟩
  | @cons p e _ _ r _ ih =>
    obtain ⟨kvs, h1, h2⟩ := ih
    obtain ⟨t, h3, h4⟩ := r
    exact ⟨(.inr e.1, .ref t) :: kvs, .cons h3 h1, .cons ⟨rfl, t, rfl, h4⟩ h2⟩
theorem ent_of_roles {K : PySem.W.Frag} {H : Hp} {ps : List Addr} {nm : List (Str × List (Int × Int))} (h : Paired (RlE K H) ps nm) :
    ∃ kvs : List (Key × V), Paired (fun p kv => SqT K H p [kV kv.1, kv.2]) ps kvs ∧ Paired (Ent fun t xs => Prs K H t xs) kvs nm := by
  induction h with
  | nil => exact ⟨[], .nil, .nil⟩
  | @cons p e _ _ r _ ih =>
    obtain ⟨kvs, h1, h2⟩ := ih
    obtain ⟨t, h3, h4⟩ := r
    exact ⟨(.inr e.1, .ref t) :: kvs, .cons h3 h1, .cons ⟨rfl, t, rfl, h4⟩ h2⟩
theorem merged_ent {α : Type} {R : Addr → α → Prop} {kvs : List (Key × V)} {nm : List (Str × α)} (h : Paired (Ent R) kvs nm) (asc : (nm.map (·.1)).Pairwise sl) : mergeK [] kvs = kvs :=
  merge_new kvs [] (fun _ _ => rfl) (ent_nodup h asc)
theorem rd_of_frz {K : PySem.W.Frag} {H : Hp} {a : Addr} {ps : List Addr} (h : Frz H a ps) : SqT K H a (ps.map V.ref) := by
  obtain ⟨o, h, _⟩ := h
  exact .inl (.inr ⟨o, h⟩)
end K07
set_option Elab.async false
set_option linter.all false
set_option autoImplicit false
set_option maxRecDepth 100000
set_option maxHeartbeats 4000000
namespace K07
open PySem PySem.Spec PyProof.Rows L2 Tl
open C8 (Cal pe_c)
theorem sne {a b : Str} (h : ¬ a = b) : decide (V.str a = V.str b) = false := decide_eq_false fun e => h (V.str.inj e)
theorem seq {a : Str} : decide (V.str a = V.str a) = true := decide_eq_true rfl
theorem t_an : ¬ ("all" : Str) = "none" := by decide +kernel
theorem t_na : ¬ ("none" : Str) = "all" := by decide +kernel
theorem t_wn : ¬ ("word" : Str) = "none" := by decide +kernel
theorem t_wa : ¬ ("word" : Str) = "all" := by decide +kernel
theorem t_dn : ¬ ("and" : Str) = "none" := by decide +kernel
theorem t_da : ¬ ("and" : Str) = "all" := by decide +kernel
theorem t_dw : ¬ ("and" : Str) = "word" := by decide +kernel
theorem t_sn : ¬ ("some" : Str) = "none" := by decide +kernel
theorem t_sa : ¬ ("some" : Str) = "all" := by decide +kernel
theorem t_sw : ¬ ("some" : Str) = "word" := by decide +kernel
theorem t_sd : ¬ ("some" : Str) = "and" := by decide +kernel
theorem inV_int (x : Int) (ws : List Int) : inV (.int x) (ws.map V.int) = decide (x ∈ ws) := by
  unfold inV
  rw [List.any_map, Bool.eq_iff_iff, List.any_eq_true, decide_eq_true_eq]
  constructor
  · rintro ⟨y, hy, e⟩
    have e : (y == x) = true := e
    rw [← eq_of_beq e]
    exact hy
  · intro h
    exact ⟨x, h, beq_self_eq_true x⟩
theorem flat_ints (ws : List Int) : (ws.map V.int).all flatV = true := by
  rw [List.all_map]
  exact List.all_eq_true.mpr fun _ _ => rfl
theorem dep_pos : ∀ c : C, 1 ≤ dep c
  | .all => Nat.le_refl 1
  | .non => Nat.le_refl 1
  | .word _ => Nat.le_refl 1
  | .some _ c => Nat.le_add_left 1 _
  | .and _ _ => Nat.le_add_left 1 _
section
variable {P : Program} {w : World} {K : PySem.W.Frag} {mg : Str → Option Value} {base : Heap}
def spT (K : PySem.W.Frag) (n : Nat) : Sp := fun vs H Q _ => ∃ (v u : V) (W : Wd) (c : C), vs = [v, u, .int n] ∧ IsWd K H v W ∧ WOk W ∧ Con K H u c ∧ dep c ≤ n ∧
  ∀ (p : Addr) (H' : Hp), L2.Same H H' → H p = none → H' p = some (.lst ((den W c).map V.int)) → Q (.ref p) H'
theorem cThings1 (T : Txt K mg) (n : Nat) (ih : Cal P w K mg base n "_law_things" (spT K n) []) : Cal P w K mg base (n + 1) "_law_things" (spT K (n + 1)) [] := by
  refine cal_of T.lawThings scLawThings (fun _ _ _ _ _ _ us hl => match us, hl with | [_, _, _], _ => rfl) (fun vs H Q E h => ?_) (fun f cdv A outer s H vs Q E hr h => ?_)
  · obtain ⟨v, u, W, c, rfl, _⟩ := h
    rfl
  obtain ⟨v, u, W, c, rfl, hW, ok, hc, hd, q⟩ := h
  have hu := hu_of hr
  refine ⟨_, (pss_cons (ps_if (PW.pt (pw_or (pt_cmpR op_eq (pv 2) pe_int (nomark _)) (pw_or1 (pt_cmpR op_eq (pe_ix ix_tup (pv 1) pe_int (fun _ _ => rfl)) pe_str (nomark _)))))
 (pss_one (ps_ret (pe_lst pa_nil)))
 pss_nil)
 (pss_cons (ps_if (pt_cmpR op_eq (pe_ix ix_tup (pv 1) pe_int (fun _ _ => rfl)) pe_str (nomark _))
 (pss_one (ps_ret (pe_listRg rfl rfl T.list (prg_1 rfl T.range (pe_ix ix_tup (pv 0) pe_int (fun _ _ => rfl))))))
 pss_nil)
 (pss_cons (ps_if (pt_cmpR op_eq (pe_ix ix_tup (pv 1) pe_int (fun _ _ => rfl)) pe_str (nomark _))
 (pss_one (ps_ret (pe_callTy call_list_of (by rfl) T.list (by decide +kernel) (pa_cons (pe_dget2 hu (pe_callTy (call_dictP rfl) (by rfl) T.dict (by decide +kernel) (pa_cons (pe_callTy call_list_of (by rfl) T.list (by decide +kernel) (pa_cons (pe_ix ix_tup (pv 0) pe_int (fun _ _ => rfl)) pa_nil)) pa_nil)) (pe_ix ix_tup (pv 1) pe_int (fun _ _ => rfl)) (pe_tup pa_nil) ⟨rfl, rfl, rfl, rfl⟩) pa_nil))))
 pss_nil)
 (pss_cons (ps_if (pt_cmpR op_eq (pe_ix ix_tup (pv 1) pe_int (fun _ _ => rfl)) pe_str (nomark _))
 (pss_cons (ps_set (i := 3) scLawThings.nd rfl (.inr rfl) (pe_c ih hr (Nat.le_refl _) rfl (pa_cons (pv 0) (pa_cons (pe_ix ix_tup (pv 1) pe_int (fun _ _ => rfl)) (pa_cons (pe_op op_sub (pv 2) pe_int) pa_nil)))))
 (pss_one (ps_ret (pe_lc (own := [("x", 4)]) (by rfl) scLawThings.nd (pi_list (pe_c ih hr (Nat.le_refl _) rfl (pa_cons (pv 0) (pa_cons (pe_ix ix_tup (pv 1) pe_int (fun _ _ => rfl)) (pa_cons (pe_op op_sub (pv 2) pe_int) pa_nil))))) (blkOk_by (own := [("x", 4)]) (N := ["world", "concept", "deep", "others", "x", "goals", "y"]) (sc := defScope sLawThings) (by decide +kernel)) (fun _ _ _ _ _ => (pg_name (i := 4) scLawThings.nd rfl (.inl rfl))) (fun _ _ _ _ _ => pts_one (pt_cmpR (op_inK rfl) (pv 4) (pv 3) rfl)) (fun _ _ _ _ _ => (pv 4))))))
 pss_nil)
 (pss_cons (ps_set (i := 5) scLawThings.nd rfl (.inr rfl) (pe_c ih hr (Nat.le_refl _) rfl (pa_cons (pv 0) (pa_cons (pe_ix ix_tup (pv 1) pe_int (fun _ _ => rfl)) (pa_cons (pe_op op_sub (pv 2) pe_int) pa_nil)))))
 (pss_one (ps_ret (pe_callB (cr_sortedSet rfl) (by rfl) T.sorted (by decide +kernel) (pa_cons (pe_callTy (cr_setI rfl) (by rfl) T.set (by decide +kernel) (pa_cons (pe_lc (own := [("x", 4), ("y", 6)]) (by rfl) scLawThings.nd (pi_tup (pe_dget2 hu (pe_callTy (call_dictP rfl) (by rfl) T.dict (by decide +kernel) (pa_cons (pe_callTy call_list_of (by rfl) T.list (by decide +kernel) (pa_cons (pe_ix ix_tup (pv 0) pe_int (fun _ _ => rfl)) pa_nil)) pa_nil)) (pe_ix ix_tup (pv 1) pe_int (fun _ _ => rfl)) (pe_tup pa_nil) ⟨rfl, rfl, rfl, rfl⟩)) (blkOk_by (own := [("x", 4), ("y", 6)]) (N := ["world", "concept", "deep", "others", "x", "goals", "y"]) (sc := defScope sLawThings) (by decide +kernel)) (fun _ _ _ _ _ => (pg_tupK (n := 2) rfl rfl (pgs_cons (pg_name (i := 4) scLawThings.nd rfl (.inl rfl)) (pgs_cons (pg_name (i := 6) scLawThings.nd rfl (.inl rfl)) pgs_nil)))) (fun _ _ _ _ _ => pts_one (pt_cmpR (op_inK rfl) (pv 6) (pv 5) rfl)) (fun _ _ _ _ _ => (pv 4))) pa_nil)) pa_nil))))))))), ?_⟩
  obtain ⟨wa, na, ra, rfl, hw, hN, hR⟩ := hW
  have em : ((n + 1 : Nat) : Int) - 1 = ((n : Nat) : Int) := by omega
  have dz : decide (V.int ((n + 1 : Nat) : Int) = V.int 0) = false := decide_eq_false fun e => by
    have := V.int.inj e
    omega
  obtain ⟨ca, cxs, rfl, hca⟩ := con_ref hc
  refine ⟨.int _, rfl, rfl, _, rfl, ?_⟩
  rw [dz]
  have okm := ok.many
  cases c with
  | all =>
    obtain ⟨a, e, ha⟩ := con_all hc
    cases e
    refine iteF ⟨.ref ca, rfl, ca, _, 0, _, rfl, rfl, ha, atI_nat (j := 0) rfl, rfl, _, rfl, ?_⟩
    rw [sne t_an]
    refine iteF ⟨.ref ca, rfl, ca, _, 0, _, rfl, rfl, ha, atI_nat (j := 0) rfl, rfl, _, rfl, ?_⟩
    rw [seq]
    refine iteT ⟨.ref wa, rfl, wa, _, 0, .int W.many, rfl, rfl, hw, atI_nat (j := 0) rfl, W.many, rfl, RgOk.of_le (by omega) (by omega) (by omega) (by omega), fun p np => q p _ (same_up np) np ?_⟩
    rw [upd_same, rgV_eq]
    rfl
  | non =>
    obtain ⟨a, e, ha⟩ := con_non hc
    cases e
    refine iteF ⟨.ref ca, rfl, ca, _, 0, _, rfl, rfl, ha, atI_nat (j := 0) rfl, rfl, _, rfl, ?_⟩
    rw [seq]
    exact iteT ⟨Nat.zero_le _, fun p np => q p _ (same_up np) np upd_same⟩
  | word x =>
    obtain ⟨a, e, ha⟩ := con_word hc
    cases e
    refine iteF ⟨.ref ca, rfl, ca, _, 0, _, rfl, rfl, ha, atI_nat (j := 0) rfl, rfl, _, rfl, ?_⟩
    rw [sne t_wn]
    refine iteF ⟨.ref ca, rfl, ca, _, 0, _, rfl, rfl, ha, atI_nat (j := 0) rfl, rfl, _, rfl, ?_⟩
    rw [sne t_wa]
    refine iteF ⟨.ref ca, rfl, ca, _, 0, _, rfl, rfl, ha, atI_nat (j := 0) rfl, rfl, _, rfl, ?_⟩
    rw [seq]
    obtain ⟨ps, fz, hps⟩ := hN
    obtain ⟨kvs, hk1, hk2⟩ := ent_of_names hps
    refine iteT ⟨.ref wa, rfl, wa, _, 1, .ref na, rfl, rfl, hw, atI_nat (j := 1) rfl, na, _, rfl, .inr (rd_of_frz fz), fun l1 n1 => ?_⟩
    have s1 := same_up (o := .lst (ps.map V.ref)) n1
    refine ⟨l1, ps, kvs, rfl, lst_of upd_same, Paired.mapP hk1 fun _ _ z => (Tl.Same.stay s1).tup z, fun d nd => ?_⟩
    rw [merged_ent hk2 ok.names.1]
    have s2 := same_add s1 (o := .dK kvs) nd
    refine ⟨d, rfl, .inl ⟨kvs, .inl upd_same⟩, .ref ca, rfl, ca, _, 1, .str x, rfl, rfl, (Tl.Same.stay s2).tup ha, atI_nat (j := 1) rfl, Nat.zero_le _, fun z nz => ?_⟩
    have s3 := same_add s2 (o := .tup []) nz
    have gd : (upd (upd (upd H l1 (.lst (ps.map V.ref))) d (.dK kvs)) z (.tup [])) d = some (.dK kvs) := (same_up nz) _ _ upd_same
    refine ⟨_, DGet.k (k := .inr x) gd, ?_⟩
    rcases ent_look hk2 x with ⟨e1, e2⟩ | ⟨t, xs, e1, e2, ht⟩
    · rw [e1]
      refine ⟨z, [], rfl, .inr (tupOf upd_same), fun p np => q p _ (same_add s3 np) (s3.free np) ?_⟩
      rw [upd_same]
      show some (HO.lst []) = some (HO.lst ((lookN W x).map V.int))
      unfold lookN
      rw [e2]
      rfl
    · rw [e1]
      refine ⟨t, _, rfl, .inr ((Tl.Same.stay s3).tup ht), fun p np => q p _ (same_add s3 np) (s3.free np) ?_⟩
      rw [upd_same]
      show some (HO.lst _) = some (HO.lst ((lookN W x).map V.int))
      unfold lookN
      rw [e2]
      rfl
  | and c1 c2 =>
    obtain ⟨a, u1, u2, e, ha, h1, h2⟩ := con_and hc
    cases e
    refine iteF ⟨.ref ca, rfl, ca, _, 0, _, rfl, rfl, ha, atI_nat (j := 0) rfl, rfl, _, rfl, ?_⟩
    rw [sne t_dn]
    refine iteF ⟨.ref ca, rfl, ca, _, 0, _, rfl, rfl, ha, atI_nat (j := 0) rfl, rfl, _, rfl, ?_⟩
    rw [sne t_da]
    refine iteF ⟨.ref ca, rfl, ca, _, 0, _, rfl, rfl, ha, atI_nat (j := 0) rfl, rfl, _, rfl, ?_⟩
    rw [sne t_dw]
    refine iteF ⟨.ref ca, rfl, ca, _, 0, _, rfl, rfl, ha, atI_nat (j := 0) rfl, rfl, _, rfl, ?_⟩
    rw [seq]
    have hd : Nat.max (dep c1) (dep c2) + 1 ≤ n + 1 := hd
    have hm := Nat.max_le.mp (Nat.le_of_succ_le_succ hd)
    refine iteT ⟨.ref wa, rfl, .ref ca, rfl, ca, _, 2, u2, rfl, rfl, ha, atI_nat (j := 2) rfl, .int _, rfl, _, 1, rfl, rfl, .ref wa, u2, W, c2, ?_, ⟨wa, na, ra, rfl, hw, hN, hR⟩, ok, h2, hm.2, fun p2 G s2 n2 g2 => ?_⟩
    · show [V.ref wa, u2, V.int (((n + 1 : Nat) : Int) - 1)] = _
      rw [em]
    refine ⟨.ref wa, rfl, .ref ca, rfl, ca, _, 1, u1, rfl, rfl, (Tl.Same.stay s2).tup ha, atI_nat (j := 1) rfl, .int _, rfl, _, 1, rfl, rfl, .ref wa, u1, W, c1, ?_, iswd_st (Tl.Same.stay s2) ⟨wa, na, ra, rfl, hw, hN, hR⟩, ok, h1.st (Tl.Same.stay s2), hm.1, fun p1 G1 s1 n1 g1 => ?_⟩
    · show [V.ref wa, u1, V.int (((n + 1 : Nat) : Int) - 1)] = _
      rw [em]
    refine ⟨p1, rfl, ⟨_, lst_of g1⟩, fun D nD => ?_⟩
    have D0 : H D = none := (s2.trans s1).free nD
    refine lc_list (K := K) (a := p1) (xs := (den W c1).map V.int) (fun i X => L2.Same G1 X ∧ X D = some (.lst ((((den W c1).take i).filter fun x => decide (x ∈ den W c2)).map V.int)))
      ⟨same_up nD, upd_same⟩ (fun i X _ z => z.1.seq (lst_of g1)) (fun i x X hx z => ?_) (fun X z => ?_)
    · obtain ⟨sX, gX⟩ := z
      obtain ⟨y, hy, rfl⟩ : ∃ y, (den W c1)[i]? = some y ∧ x = V.int y := by
        rw [List.getElem?_map] at hx
        obtain ⟨y, h, e⟩ := Option.map_eq_some_iff.mp hx
        exact ⟨y, h, e.symm⟩
      refine ⟨rfl, .int y, rfl, .ref p2, rfl, p2, _, rfl, .inl (lst_of (sX _ _ (s1 _ _ g2))), rfl, flat_ints _, _, rfl, ?_⟩
      show if inV (.int y) ((den W c2).map V.int) = true then _ else _
      rw [inV_int]
      have ht : (den W c1).take (i + 1) = (den W c1).take i ++ [y] := by rw [List.take_add_one, hy]; rfl
      refine ite2 (fun yes => ?_) (fun no => ?_)
      · refine ⟨.int y, rfl, _, gX, ?_, same_mut sX nD, ?_⟩
        · rw [List.length_map]
          refine Nat.lt_of_le_of_lt (Nat.le_trans (List.length_filter_le _ _) ?_) (show 100 < sizeLine by decide)
          rw [List.length_take]
          have := den_len ok c1
          omega
        · rw [upd_same, ht, List.filter_append, List.map_append, List.filter_cons, if_pos yes]
          rfl
      · refine ⟨sX, ?_⟩
        rw [ht, List.filter_append, List.filter_cons, if_neg no]
        rw [gX]
        simp
    · obtain ⟨sX, gX⟩ := z
      rw [List.length_map, List.take_of_length_le (Nat.le_refl _)] at gX
      exact q D X ((s2.trans s1).trans sX) D0 gX
  | some r c2 =>
    obtain ⟨a, u2, e, ha, h2⟩ := con_some hc
    cases e
    refine iteF ⟨.ref ca, rfl, ca, _, 0, _, rfl, rfl, ha, atI_nat (j := 0) rfl, rfl, _, rfl, ?_⟩
    rw [sne t_sn]
    refine iteF ⟨.ref ca, rfl, ca, _, 0, _, rfl, rfl, ha, atI_nat (j := 0) rfl, rfl, _, rfl, ?_⟩
    rw [sne t_sa]
    refine iteF ⟨.ref ca, rfl, ca, _, 0, _, rfl, rfl, ha, atI_nat (j := 0) rfl, rfl, _, rfl, ?_⟩
    rw [sne t_sw]
    refine iteF ⟨.ref ca, rfl, ca, _, 0, _, rfl, rfl, ha, atI_nat (j := 0) rfl, rfl, _, rfl, ?_⟩
    rw [sne t_sd]
    have hd : dep c2 + 1 ≤ n + 1 := hd
    refine iteF ⟨.ref wa, rfl, .ref ca, rfl, ca, _, 2, u2, rfl, rfl, ha, atI_nat (j := 2) rfl, .int _, rfl, _, 1, rfl, rfl, .ref wa, u2, W, c2, ?_, ⟨wa, na, ra, rfl, hw, hN, hR⟩, ok, h2, Nat.le_of_succ_le_succ hd, fun p2 G s2 n2 g2 => ?_⟩
    · show [V.ref wa, u2, V.int (((n + 1 : Nat) : Int) - 1)] = _
      rw [em]
    obtain ⟨ps, fz, hps⟩ := roles_st (Tl.Same.stay s2) hR
    obtain ⟨kvs, hk1, hk2⟩ := ent_of_roles hps
    refine ⟨.ref wa, rfl, wa, _, 2, .ref ra, rfl, rfl, (Tl.Same.stay s2).tup hw, atI_nat (j := 2) rfl, ra, _, rfl, .inr (rd_of_frz fz), fun l1 n1 => ?_⟩
    have s3 := same_up (o := .lst (ps.map V.ref)) n1
    refine ⟨l1, ps, kvs, rfl, lst_of upd_same, Paired.mapP hk1 fun _ _ z => (Tl.Same.stay s3).tup z, fun d nd => ?_⟩
    rw [merged_ent hk2 ok.roles.1]
    have s4 := same_add s3 (o := .dK kvs) nd
    refine ⟨d, rfl, .inl ⟨kvs, .inl upd_same⟩, .ref ca, rfl, ca, _, 1, .str r, rfl, rfl, (Tl.Same.stay (s2.trans s4)).tup ha, atI_nat (j := 1) rfl, Nat.zero_le _, fun z nz => ?_⟩
    have s5 := same_add s4 (o := .tup []) nz
    have gd : (upd (upd (upd G l1 (.lst (ps.map V.ref))) d (.dK kvs)) z (.tup [])) d = some (.dK kvs) := (same_up nz) _ _ upd_same
    obtain ⟨t, qs, ev, ht, hqs⟩ : ∃ (t : Addr) (qs : List Addr), (valV kvs (.inr r)).getD (.ref z) = .ref t ∧ SqT K (upd (upd (upd G l1 (.lst (ps.map V.ref))) d (.dK kvs)) z (.tup [])) t (qs.map V.ref) ∧
        Paired (PrE K (upd (upd (upd G l1 (.lst (ps.map V.ref))) d (.dK kvs)) z (.tup []))) qs (lookR W r) := by
      unfold lookR
      rcases ent_look hk2 r with ⟨e1, e2⟩ | ⟨t, es, e1, e2, qs, h3, h4⟩
      · rw [e1, e2]
        exact ⟨z, [], rfl, tupOf upd_same, .nil⟩
      · rw [e1, e2]
        exact ⟨t, qs, rfl, (Tl.Same.stay s5).tup h3, Paired.mapP h4 fun _ _ z => pre_st (Tl.Same.stay s5) z⟩
    refine ⟨_, DGet.k (k := .inr r) gd, t, ev, ⟨_, ht⟩, fun D nD => ?_⟩
    have sG : L2.Same H (upd (upd (upd G l1 (.lst (ps.map V.ref))) d (.dK kvs)) z (.tup [])) := s2.trans s5
    have gp2 : (upd (upd (upd G l1 (.lst (ps.map V.ref))) d (.dK kvs)) z (.tup [])) p2 = _ := s5 _ _ g2
    generalize (upd (upd (upd G l1 (.lst (ps.map V.ref))) d (.dK kvs)) z (.tup [])) = G5 at ht hqs nD sG gp2 ⊢
    have D0 := sG.free nD
    have good := lookR_good ok r
    have few := lex_len (by omega) okm.2 good.1 good.2
    have lq := Paired.length hqs
    refine lc_tup (K := K) (a := t) (xs := qs.map V.ref) (fun i X => L2.Same G5 X ∧ X D = some (.lst (((((lookR W r).take i).filter fun e => decide (e.2 ∈ den W c2)).map (·.1)).map V.int)))
      ⟨same_up nD, upd_same⟩ (fun i X _ z => (Tl.Same.stay z.1).tup ht) (fun i x X hx z => ?_) (fun X z => ?_)
    · obtain ⟨sX, gX⟩ := z
      obtain ⟨qa, hqa, rfl⟩ : ∃ y, qs[i]? = some y ∧ x = V.ref y := by
        rw [List.getElem?_map] at hx
        obtain ⟨y, h, e⟩ := Option.map_eq_some_iff.mp hx
        exact ⟨y, h, e.symm⟩
      obtain ⟨e, he, hpe⟩ : ∃ e, (lookR W r)[i]? = some e ∧ PrE K G5 qa e := getP hqs hqa
      refine ⟨qa, _, rfl, (Tl.Same.stay sX).tup hpe, rfl, .int e.1, [.int e.2], rfl, .int e.2, [], rfl, rfl, rfl, .int e.2, rfl, .ref p2, rfl, p2, _, rfl, .inl (lst_of (sX _ _ gp2)), rfl, flat_ints _, _, rfl, ?_⟩
      show if inV (.int e.2) ((den W c2).map V.int) = true then _ else _
      rw [inV_int]
      have ht : (lookR W r).take (i + 1) = (lookR W r).take i ++ [e] := by rw [List.take_add_one, he]; rfl
      refine ite2 (fun yes => ?_) (fun no => ?_)
      · refine ⟨.int e.1, rfl, _, gX, ?_, same_mut sX nD, ?_⟩
        · rw [List.length_map, List.length_map]
          refine Nat.lt_of_le_of_lt (Nat.le_trans (List.length_filter_le _ _) ?_) (show 100 < sizeLine by decide)
          rw [List.length_take]
          omega
        · rw [upd_same, ht, List.filter_append, List.map_append, List.map_append, List.filter_cons, if_pos yes]
          rfl
      · refine ⟨sX, ?_⟩
        rw [ht, List.filter_append, List.filter_cons, if_neg no]
        rw [gX]
        simp
    · obtain ⟨sX, gX⟩ := z
      rw [List.length_map, lq, List.take_of_length_le (Nat.le_refl _)] at gX
      generalize hz : ((lookR W r).filter fun e => decide (e.2 ∈ den W c2)).map (·.1) = zs at gX
      have lz : zs.length ≤ 36 := by
        rw [← hz, List.length_map]
        exact Nat.le_trans (List.length_filter_le _ _) few
      refine ⟨D, zs, rfl, .inl (lst_of gX), by omega, fun a c hcz na => ?_⟩
      have s6 := same_up (o := SetO w a (fun j => decide (j ∈ zs)) c) na
      refine ⟨a, _, c, rfl, upd_same, by omega, fun ns p asc mem _ np => ?_⟩
      have s7 := same_up (o := .lst (ns.map V.int)) np
      refine q p _ ((sG.trans sX).trans (s6.trans s7)) ((sG.trans (sX.trans s6)).free np) ?_
      rw [upd_same]
      have : ns = den W (.some r c2) := by
        refine asc_eq _ _ asc (den_good ok _).1 fun x => ?_
        rw [mem x]
        show decide (x ∈ zs) = true ↔ x ∈ (rgI W.many).filter fun x => (lookR W r).any fun e => decide (e.1 = x) && decide (e.2 ∈ den W c2)
        rw [decide_eq_true_eq, ← hz, List.mem_map, List.mem_filter, mem_rgI, List.any_eq_true]
        constructor
        · rintro ⟨e, he, rfl⟩
          have hf := List.mem_filter.mp he
          exact ⟨(good.2 e hf.1).1, e, hf.1, by rw [decide_eq_true rfl, hf.2]; rfl⟩
        · rintro ⟨_, e, he, h⟩
          rw [Bool.and_eq_true, decide_eq_true_eq] at h
          exact ⟨e, List.mem_filter.mpr ⟨he, h.2⟩, h.1⟩
      rw [this]
theorem cLawThings (T : Txt K mg) : ∀ n : Nat, Cal P w K mg base n "_law_things" (spT K n) []
  | 0 => calWeak (cal_false T.lawThings (ps := ["world", "concept", "deep"]) (fun _ _ _ _ _ _ us hl => match us, hl with | [_, _, _], _ => rfl)) fun vs H Q E h => by
    obtain ⟨_, _, _, c, _, _, _, _, hd, _⟩ := h
    have := dep_pos c
    omega
  | n + 1 => cThings1 T n (cLawThings T n)
end
end K07
set_option Elab.async false
set_option linter.all false
set_option autoImplicit false
set_option maxRecDepth 100000
set_option maxHeartbeats 4000000
namespace K07
open PySem PySem.Spec PyProof.Rows L2 Tl
open C8 (Cal pe_c)
/-! ### the program: kinds of values -/
theorem ty_tup {K : PySem.W.Frag} {H : Hp} {a : Addr} {xs : List V} (h : SqT K H a xs) : TyX K H (.ref a) (.type "tuple") := by
  rcases h with (h | ⟨o, h⟩) | ⟨o, its, n, h1, h2, _⟩
  · exact .base (.tup h)
  · exact .fTuple h
  · exact .kTuple h1 h2
inductive LtV (K : PySem.W.Frag) (H : Hp) : V → V → Prop
  | int {i j : Int} (h : i < j) : LtV K H (.int i) (.int j)
  | str {x y : Str} (h : sl x y) : LtV K H (.str x) (.str y)
  | prs {a b : Addr} {e f : Int × Int} (h1 : PrE K H a e) (h2 : PrE K H b f) (h : Lex e f) : LtV K H (.ref a) (.ref b)
def rLt3 (K : PySem.W.Frag) : R2 := fun x y H Q => rI0 (fun i j => .bl (decide (i < j))) x y H Q ∨
  ((fun x y H Q => ∃ i j, x = V.str i ∧ y = V.str j ∧ Q (.bl (decide (i.cps.toList < j.cps.toList))) H) x y H Q ∨ rLtT K x y H Q)
theorem op_lt3 {X : Cx} {K : PySem.W.Frag} (h : X.K = K) (hu : X.A.units < cLine) : OpR X (compareOp .Lt) (rLt3 K) := by
  subst h
  exact OpR.or op_lt (OpR.or op_lt_str (op_ltT hu))
def rIx2 (K : PySem.W.Frag) : R2 := fun x y H Q => rIxL K x y H Q ∨ rIxT K x y H Q
theorem ix_seqK {X : Cx} {K : PySem.W.Frag} (h : X.K = K) : IxR X (rIx2 K) := by
  subst h
  exact IxR.or ix_list ix_tup
theorem ix_tupK {X : Cx} {K : PySem.W.Frag} (h : X.K = K) : IxR X (rIxT K) := by
  subst h
  exact ix_tup
theorem ltv_st {K : PySem.W.Frag} {H H' : Hp} {x y : V} (s : Stay H H') (h : LtV K H x y) : LtV K H' x y := by
  cases h with
  | int h => exact .int h
  | str h => exact .str h
  | prs h1 h2 h => exact .prs (pre_st s h1) (pre_st s h2) h
theorem ltv_r {K : PySem.W.Frag} {H : Hp} {x y : V} {Q : VK} (h : LtV K H x y) (q : Q (.bl true) H) : rLt3 K x y H Q := by
  cases h with
  | @int i j h => exact .inl ⟨_, _, rfl, rfl, by
      show Q (V.bl (decide (i < j))) H
      rw [decide_eq_true h]
      exact q⟩
  | @str x y h => exact .inr (.inl ⟨_, _, rfl, rfl, by
      have e : decide (x.cps.toList < y.cps.toList) = true := decide_eq_true h
      rw [e]
      exact q⟩)
  | @prs a b e f h1 h2 h =>
    refine .inr (.inr ⟨a, b, [e.1, e.2], [f.1, f.2], rfl, rfl, h1, h2, ?_⟩)
    have : HT.lexLt [e.1, e.2] [f.1, f.2] = true := by
      rw [HT.lexLt_cons, HT.lexLt_cons]
      rcases h with h | ⟨h, h'⟩
      · rw [if_neg (by omega)]
        exact decide_eq_true h
      · rw [if_pos h, if_neg (by omega)]
        exact decide_eq_true h'
    rw [this]
    exact q
theorem all_rep : ∀ n : Nat, (List.replicate n true).all id = true
  | 0 => rfl
  | n + 1 => by rw [List.replicate_succ, List.all_cons, all_rep n]; rfl
section
variable {P : Program} {w : World} {K : PySem.W.Frag} {mg : Str → Option Value} {base : Heap}
def spIsInt : Sp := fun vs H Q _ => ∃ i : Int, vs = [.int i] ∧ Q (.bl true) H
theorem cIsInteger (T : Txt K mg) : Cal P w K mg base 1 "is_integer" spIsInt [] := by
  refine cal_of T.isInteger scIsInteger (fun _ _ _ _ _ _ us hl => match us, hl with | [_], _ => rfl) (fun vs H Q E h => ?_) (fun f cdv A outer s H vs Q E hr h => ?_)
  · obtain ⟨x, rfl, _⟩ := h
    rfl
  obtain ⟨i, rfl, q⟩ := h
  refine ⟨_, (pss_one (ps_ret (pe_and (pe_callB call_isi (by rfl) T.isinstance (by decide +kernel) (pa_cons (pv 0) (pa_cons (pe_bltn (v := V.ty "int") (u := Value.type "int") (by rfl) T.int (by decide +kernel) rfl) pa_nil))) (pe_one (pe_notT (pe_callB call_isi (by rfl) T.isinstance (by decide +kernel) (pa_cons (pv 0) (pa_cons (pe_bltn (v := V.ty "bool") (u := Value.type "bool") (by rfl) T.bool (by decide +kernel) rfl) pa_nil)))))))), ?_⟩
  exact ⟨.int i, rfl, .int i, .ty "int", .type "int", .type "int", true, rfl, .ty _, .base (.int i), kit_ty (by decide +kernel), true, rfl, .int i, rfl, .int i, .ty "bool", .type "int", .type "bool", false, rfl, .ty _, .base (.int i), kit_ty (by decide +kernel), false, rfl, q⟩
def spIsPair (K : PySem.W.Frag) : Sp := fun vs H Q _ => ∃ (a : Addr) (x y : V), vs = [.ref a] ∧ SqT K H a [x, y] ∧ Q (.bl true) H
theorem cIsPair (T : Txt K mg) : Cal P w K mg base 1 "is_pair" (spIsPair K) [] := by
  refine cal_of T.isPair scIsPair (fun _ _ _ _ _ _ us hl => match us, hl with | [_], _ => rfl) (fun vs H Q E h => ?_) (fun f cdv A outer s H vs Q E hr h => ?_)
  · obtain ⟨a, x, y, rfl, _⟩ := h
    rfl
  obtain ⟨a, x, y, rfl, ha, q⟩ := h
  refine ⟨_, (pss_one (ps_ret (pe_and (pe_callB call_isi (by rfl) T.isinstance (by decide +kernel) (pa_cons (pv 0) (pa_cons (pe_bltn (v := V.ty "tuple") (u := Value.type "tuple") (by rfl) T.tuple (by decide +kernel) rfl) pa_nil))) (pe_one (pe_cmpR op_eq (pe_callB call_len_seq (by rfl) T.len (by decide +kernel) (pa_cons (pv 0) pa_nil)) pe_int (nomark _)))))), ?_⟩
  exact ⟨.ref a, rfl, .ref a, .ty "tuple", .type "tuple", .type "tuple", true, rfl, .ty _, ty_tup ha, kit_ty (by decide +kernel), true, rfl, .ref a, rfl, a, _, rfl, .inr ha, rfl, q⟩
def spAsc (K : PySem.W.Frag) : Sp := fun vs H Q _ => ∃ (a : Addr) (xs : List V), vs = [.ref a] ∧ (SqL K H a xs ∨ SqT K H a xs) ∧ xs.length ≤ 1000 ∧
  (∀ i x y, xs[i]? = some x → xs[i + 1]? = some y → LtV K H x y) ∧ ∀ H', L2.Same H H' → Q (.bl true) H'
theorem cIsAscending (T : Txt K mg) : Cal P w K mg base 1 "is_ascending" (spAsc K) [] := by
  refine cal_of T.isAscending scIsAscending (fun _ _ _ _ _ _ us hl => match us, hl with | [_], _ => rfl) (fun vs H Q E h => ?_) (fun f cdv A outer s H vs Q E hr h => ?_)
  · obtain ⟨a, xs, rfl, _⟩ := h
    rfl
  obtain ⟨a, xs, rfl, ha, len, asc, q⟩ := h
  have hu := hr.units
  refine ⟨_, (pss_one (ps_ret (pe_callB (cr_all rfl) (by rfl) T.all (by decide +kernel) (pa_cons (pe_lc (own := [("k", 1)]) (by rfl) scIsAscending.nd (pi_range1 rfl T.range (pa_cons (pe_op op_sub (pe_callB call_len_seq (by rfl) T.len (by decide +kernel) (pa_cons (pv 0) pa_nil)) pe_int) pa_nil)) (blkOk_by (own := [("k", 1)]) (N := ["items", "k"]) (sc := defScope sIsAscending) (by decide +kernel)) (fun _ _ _ _ _ => (pg_name (i := 1) scIsAscending.nd rfl (.inl rfl))) (fun _ _ _ _ _ => pts_nil) (fun _ _ _ _ _ => (pe_cmpR (op_lt3 (K := K) rfl (Nat.lt_of_le_of_lt (Nat.le_add_right _ 64) hu)) (pe_ix (ix_seqK (K := K) rfl) (pv 0) (pv 1) (fun _ _ => rfl)) (pe_ix (ix_seqK (K := K) rfl) (pv 0) (pe_op op_add (pv 1) pe_int) (fun _ _ => rfl)) (nomark _)))) pa_nil)))), ?_⟩
  refine ⟨.ref a, rfl, a, xs, rfl, ha, _, 1, rfl, rfl, _, rfl, by omega, by omega, fun D nD => ?_⟩
  have hn : ((xs.length : Int) - 1).toNat = xs.length - 1 := by omega
  rw [hn]
  have seq : ∀ X, L2.Same H X → SqL K X a xs ∨ SqT K X a xs := fun X e => ha.imp (fun h => e.seq h) fun h => (Tl.Same.stay e).tup h
  refine lc_range (lo := 0) (n := xs.length - 1) (fun i X => L2.Same H X ∧ X D = some (.lst ((List.replicate i true).map V.bl))) ⟨same_up nD, upd_same⟩ (fun i X hi z => ?_) (fun X z => ?_)
  · obtain ⟨sX, gX⟩ := z
    obtain ⟨x, hx⟩ : ∃ x, xs[i]? = some x := ⟨_, List.getElem?_eq_getElem (by omega)⟩
    obtain ⟨y, hy⟩ : ∃ y, xs[i + 1]? = some y := ⟨_, List.getElem?_eq_getElem (by omega)⟩
    have ix : ∀ (j : Nat) (v : V), xs[j]? = some v → ∀ Q : VK, Q v X → rIx2 K (.ref a) (.int (j : Int)) X Q := fun j v hj Q h => by
      rcases seq X sX with z | z
      · exact .inl ⟨a, xs, _, v, rfl, rfl, z, atI_nat hj, h⟩
      · exact .inr ⟨a, xs, _, v, rfl, rfl, z, atI_nat hj, h⟩
    refine ⟨rfl, .ref a, rfl, .int _, rfl, ?_⟩
    rw [show (0 : Int) + (i : Int) = ((i : Nat) : Int) by omega]
    refine ix i x hx _ ⟨.ref a, rfl, .int _, rfl, _, 1, rfl, rfl, ?_⟩
    show rIx2 K (V.ref a) (V.int (((i : Nat) : Int) + 1)) X _
    rw [show ((i : Nat) : Int) + 1 = ((i + 1 : Nat) : Int) by omega]
    refine ix (i + 1) y hy _ (ltv_r (ltv_st (Tl.Same.stay sX) (asc i x y hx hy)) ⟨_, gX, ?_, same_mut sX nD, ?_⟩)
    · rw [List.length_map, List.length_replicate]
      exact Nat.lt_of_lt_of_le (show i < 1000 by omega) (by decide)
    · rw [upd_same, List.replicate_succ', List.map_append]
      rfl
  · obtain ⟨sX, gX⟩ := z
    refine ⟨D, _, rfl, lst_of gX, ?_⟩
    rw [all_rep]
    exact q X sX
def spIsLetter : Sp := fun vs H Q _ => ∃ c : Nat, vs = [.str ⟨#[c]⟩] ∧ lett c = true ∧ Q (.bl true) H
theorem cIsLetter (T : Txt K mg) : Cal P w K mg base 1 "_is_letter" spIsLetter [] := by
  refine cal_of T.isLetter scIsLetter (fun _ _ _ _ _ _ us hl => match us, hl with | [_], _ => rfl) (fun vs H Q E h => ?_) (fun f cdv A outer s H vs Q E hr h => ?_)
  · obtain ⟨x, rfl, _⟩ := h
    rfl
  obtain ⟨c, rfl, hc, q⟩ := h
  refine ⟨_, (pss_one (ps_ret (pe_chain op_le_str op_le_str pe_str (pv 0) pe_str))), ?_⟩
  unfold lett at hc
  rw [Bool.and_eq_true, decide_eq_true_eq, decide_eq_true_eq] at hc
  have e1 : decide ([c] < ("a" : Str).cps.toList) = false := decide_eq_false (by
    show ¬ [c] < [97]
    rw [List.cons_lt_cons_iff]
    rintro (h | ⟨_, h⟩)
    · omega
    · exact List.lt_irrefl _ h)
  have e2 : decide (("z" : Str).cps.toList < [c]) = false := decide_eq_false (by
    show ¬ [122] < [c]
    rw [List.cons_lt_cons_iff]
    rintro (h | ⟨_, h⟩)
    · omega
    · exact List.lt_irrefl _ h)
  refine ⟨.str _, rfl, ("a" : Str), ⟨#[c]⟩, rfl, rfl, true, ?_, ?_⟩
  · show V.bl (!decide ([c] < ("a" : Str).cps.toList)) = _
    rw [e1]
    rfl
  refine iteT ⟨⟨#[c]⟩, ("z" : Str), rfl, rfl, ?_⟩
  show Q (V.bl (!decide (("z" : Str).cps.toList < [c]))) H
  rw [e2]
  exact q
def spWordT : Sp := fun vs H Q _ => ∃ x : Str, vs = [.str x] ∧ isW x = true ∧ ∀ H', L2.Same H H' → Q (.bl true) H'
theorem cIsWord (T : Txt K mg) : Cal P w K mg base 2 "is_word" spWordT [] := by
  refine cal_of T.isWord scIsWord (fun _ _ _ _ _ _ us hl => match us, hl with | [_], _ => rfl) (fun vs H Q E h => ?_) (fun f cdv A outer s H vs Q E hr h => ?_)
  · obtain ⟨x, rfl, _⟩ := h
    rfl
  obtain ⟨x, rfl, hw, q⟩ := h
  obtain ⟨tl, hlw⟩ := T.longest_word
  obtain ⟨na, hnw, hna⟩ := T.no_words
  refine ⟨_, (pss_cons (ps_if (PW.pt (pw_or (pt_not (pt_val (pe_callB call_isi (by rfl) T.isinstance (by decide +kernel) (pa_cons (pv 0) (pa_cons (pe_bltn (v := V.ty "str") (u := Value.type "str") (by rfl) T.str (by decide +kernel) rfl) pa_nil))))) (pw_or1 (pt_not (pt_chain op_le op_le pe_int (pe_callB call_len_str (by rfl) T.len (by decide +kernel) (pa_cons (pv 0) pa_nil)) (pe_glob (v := V.int 10) rfl hlw ⟨_, rfl⟩))))))
 (pss_one (ps_ret pe_bl))
 pss_nil)
 (pss_one (ps_ret (pe_and (pe_cmpR op_notIn_seq (pv 0) (pe_glob (v := V.ref na) rfl hnw rfl) rfl) (pe_one (pe_callB (cr_all rfl) (by rfl) T.all (by decide +kernel) (pa_cons (pe_lc (own := [("sign", 1)]) (by rfl) scIsWord.nd (pi_str (pv 0)) (blkOk_by (own := [("sign", 1)]) (N := ["thing", "sign"]) (sc := defScope sIsWord) (by decide +kernel)) (fun _ _ _ _ _ => (pg_name (i := 1) scIsWord.nd rfl (.inl rfl))) (fun _ _ _ _ _ => pts_nil) (fun _ _ _ _ _ => (pe_c (cIsLetter T) hr (by decide) rfl (pa_cons (pv 1) pa_nil)))) pa_nil))))))), ?_⟩
  have hw' := hw
  unfold isW at hw'
  simp only [Bool.and_eq_true, decide_eq_true_eq, Bool.not_eq_true'] at hw'
  obtain ⟨h0, h1, h2, h3⟩ := hw'
  have sz : x.length ≤ sizeLine := Nat.le_of_lt (small1000 (by omega))
  refine ⟨.str x, rfl, .str x, .ty "str", .type "str", .type "str", true, rfl, .ty _, .base (.str x), kit_ty (by decide +kernel), true, rfl, iteF ?_⟩
  refine ⟨.str x, rfl, x, rfl, sz, 1, _, rfl, rfl, _, rfl, ?_⟩
  rw [show decide ((1 : Int) ≤ (x.length : Int)) = true from decide_eq_true (by omega)]
  refine iteT ⟨_, 10, rfl, rfl, _, rfl, ?_⟩
  rw [show decide ((x.length : Int) ≤ (10 : Int)) = true from decide_eq_true (by omega)]
  refine iteF ⟨.str x, rfl, na, six.map V.str, rfl, .inr (hna _), rfl, flat_strs six, _, rfl, ?_⟩
  rw [inV_six, h2]
  refine iteT ⟨.str x, rfl, x, rfl, fun D nD => ?_⟩
  refine lc_it (n := x.cps.size) (fun i G2 => L2.Same H G2 ∧ G2 D = some (.lst ((List.replicate i true).map V.bl)))
    ⟨same_up nD, upd_same⟩ (fun i G2 hi _ => hi) (fun G2 _ => Nat.le_refl _) (fun i v G2 G3 hi z y => ?_) (fun G2 z => ?_)
  · obtain ⟨e, c, hc, rfl⟩ := y
    subst e
    obtain ⟨sX, gX⟩ := z
    have hc' : c ∈ x.cps.toList := by
      refine List.mem_of_getElem? (i := i) ?_
      rw [Array.getElem?_toList]
      exact hc
    refine ⟨rfl, .str ⟨#[c]⟩, rfl, c, rfl, List.all_eq_true.mp h3 c hc', _, gX, ?_, same_mut sX nD, ?_⟩
    · rw [List.length_map, List.length_replicate]
      exact Nat.lt_of_lt_of_le (show i < 1000 by have : x.cps.size < 11 := h1; omega) (by decide)
    · rw [upd_same, List.replicate_succ', List.map_append]
      rfl
  · obtain ⟨sX, gX⟩ := z
    refine ⟨D, _, rfl, lst_of gX, ?_⟩
    rw [all_rep]
    exact q _ sX
end
end K07
set_option Elab.async false
set_option linter.all false
set_option autoImplicit false
set_option maxRecDepth 100000
set_option maxHeartbeats 4000000
namespace K07
open PySem PySem.Spec PyProof.Rows L2 Tl
open C8 (Cal pe_c)
/-! ### the program: concepts -/
def kids : C → List C
  | .all => []
  | .non => []
  | .word _ => []
  | .some _ c => [c]
  | .and a b => [a, b]
theorem isw_ok {x : Str} (h : isW x = true) : PyData.strOk x = true := by
  unfold isW at h
  simp only [Bool.and_eq_true] at h
  exact lett_ok h.2.2.2
theorem con_canLay : ∀ c : C, COk c → PyData.canLay0 c.d = true
  | .all, _ => by simp [C.d, PyData.canLay0, PyData.canLayAll0]; decide +kernel
  | .non, _ => by simp [C.d, PyData.canLay0, PyData.canLayAll0]; decide +kernel
  | .word x, h => by
    simp [C.d, PyData.canLay0, PyData.canLayAll0]
    exact ⟨by decide +kernel, isw_ok h⟩
  | .some r c, h => by
    simp [C.d, PyData.canLay0, PyData.canLayAll0]
    exact ⟨by decide +kernel, isw_ok h.1, con_canLay c h.2⟩
  | .and a b, h => by
    simp [C.d, PyData.canLay0, PyData.canLayAll0]
    exact ⟨by decide +kernel, con_canLay a h.1, con_canLay b h.2⟩
theorem con_depth : ∀ c : C, PyData.depth c.d ≤ dep c
  | .all => by simp [C.d, PyData.depth, PyData.depthAll, dep]
  | .non => by simp [C.d, PyData.depth, PyData.depthAll, dep]
  | .word x => by simp [C.d, PyData.depth, PyData.depthAll, dep]
  | .some r c => by
    have := con_depth c
    simp [C.d, PyData.depth, PyData.depthAll, dep]
    omega
  | .and a b => by
    have := con_depth a
    have := con_depth b
    have e : dep (.and a b) = max (dep a) (dep b) + 1 := rfl
    rw [e]
    simp [C.d, PyData.depth, PyData.depthAll]
    omega
theorem con_shaped {c : C} (h : COk c) (d : dep c ≤ 60) : SeqAt.shaped c.d = true := by
  have := con_depth c
  unfold SeqAt.shaped
  rw [con_canLay c h, decide_eq_true (show c.d.depth ≤ 64 by omega)]
  rfl
theorem shaped_all : SeqAt.shaped (.tuple [.str "all"]) = true := con_shaped (c := .all) trivial (by decide)
theorem shaped_non : SeqAt.shaped (.tuple [.str "none"]) = true := con_shaped (c := .non) trivial (by decide)
def isAll : C → Bool
  | .all => true
  | _ => false
def isNon : C → Bool
  | .non => true
  | _ => false
theorem beqS {a b : Str} (h : ¬ a = b) : (a == b) = false := beq_false_of_ne h
theorem eqv_all : ∀ c : C, PyData.eqv c.d (.tuple [.str "all"]) = isAll c
  | .all => by simp [C.d, PyData.eqv, PyData.eqvAll, isAll]
  | .non => by simp [C.d, PyData.eqv, PyData.eqvAll, isAll, t_na]
  | .word x => by simp [C.d, PyData.eqv, PyData.eqvAll, isAll]
  | .some r c => by simp [C.d, PyData.eqv, PyData.eqvAll, isAll]
  | .and a b => by simp [C.d, PyData.eqv, PyData.eqvAll, isAll]
theorem eqv_non : ∀ c : C, PyData.eqv c.d (.tuple [.str "none"]) = isNon c
  | .all => by simp [C.d, PyData.eqv, PyData.eqvAll, isNon, t_an]
  | .non => by simp [C.d, PyData.eqv, PyData.eqvAll, isNon]
  | .word x => by simp [C.d, PyData.eqv, PyData.eqvAll, isNon]
  | .some r c => by simp [C.d, PyData.eqv, PyData.eqvAll, isNon]
  | .and a b => by simp [C.d, PyData.eqv, PyData.eqvAll, isNon]
section
variable {P : Program} {w : World} {K : PySem.W.Frag} {mg : Str → Option Value} {base : Heap}
def spInner (K : PySem.W.Frag) : Sp := fun vs H Q _ => ∃ (v : V) (c : C), vs = [v] ∧ Con K H v c ∧ COk c ∧ dep c ≤ 60 ∧
  ∀ (a : Addr) (xs : List V) (H' : Hp), L2.Same H H' → SqT K H' a xs → Paired (Con K H') xs (kids c) → Q (.ref a) H'
theorem cInner (T : Txt K mg) : Cal P w K mg base 3 "_inner" (spInner K) [] := by
  refine cal_of T.inner scInner (fun _ _ _ _ _ _ us hl => match us, hl with | [_], _ => rfl) (fun vs H Q E h => ?_) (fun f cdv A outer s H vs Q E hr h => ?_)
  · obtain ⟨v, c, rfl, _⟩ := h
    rfl
  obtain ⟨v, c, rfl, hc, ok, hd, q⟩ := h
  have hu64 := hr.units
  refine ⟨_, (pss_cons (ps_if (pt_not (pt_val (pe_callB call_isi (by rfl) T.isinstance (by decide +kernel) (pa_cons (pv 0) (pa_cons (pe_bltn (v := V.ty "tuple") (u := Value.type "tuple") (by rfl) T.tuple (by decide +kernel) rfl) pa_nil)))))
 (pss_one (ps_ret pe_non))
 pss_nil)
 (pss_cons (ps_if (PW.pt (pw_or (pt_cmpR (op_eqD hu64) (pv 0) (pe_tup (pa_cons pe_str pa_nil)) (nomark _)) (pw_or1 (pt_cmpR (op_eqD hu64) (pv 0) (pe_tup (pa_cons pe_str pa_nil)) (nomark _)))))
 (pss_one (ps_ret (pe_tup pa_nil)))
 pss_nil)
 (pss_cons (ps_if (PW.pt (pw_and (pt_cmpR op_eq (pe_callB call_len_seq (by rfl) T.len (by decide +kernel) (pa_cons (pv 0) pa_nil)) pe_int (nomark _)) (pw_and (pt_cmpR op_eq (pe_ix ix_tup (pv 0) pe_int (fun _ _ => rfl)) pe_str (nomark _)) (pw_and1 (pt_val (pe_c (cIsWord T) hr (by decide) rfl (pa_cons (pe_ix ix_tup (pv 0) pe_int (fun _ _ => rfl)) pa_nil)))))))
 (pss_one (ps_ret (pe_tup pa_nil)))
 pss_nil)
 (pss_cons (ps_if (PW.pt (pw_and (pt_cmpR op_eq (pe_callB call_len_seq (by rfl) T.len (by decide +kernel) (pa_cons (pv 0) pa_nil)) pe_int (nomark _)) (pw_and1 (pt_cmpR op_eq (pe_ix ix_tup (pv 0) pe_int (fun _ _ => rfl)) pe_str (nomark _)))))
 (pss_one (ps_ret (pe_slice sl_tup (pv 0) (po_some pe_int) po_none)))
 pss_nil)
 (pss_cons (ps_if (PW.pt (pw_and (pt_cmpR op_eq (pe_callB call_len_seq (by rfl) T.len (by decide +kernel) (pa_cons (pv 0) pa_nil)) pe_int (nomark _)) (pw_and (pt_cmpR op_eq (pe_ix ix_tup (pv 0) pe_int (fun _ _ => rfl)) pe_str (nomark _)) (pw_and1 (pt_val (pe_c (cIsWord T) hr (by decide) rfl (pa_cons (pe_ix ix_tup (pv 0) pe_int (fun _ _ => rfl)) pa_nil)))))))
 (pss_one (ps_ret (pe_slice sl_tup (pv 0) (po_some pe_int) po_none)))
 pss_nil)
 (pss_one (ps_ret pe_non))))))), ?_⟩
  obtain ⟨a, xs, rfl, ha⟩ := con_ref hc
  refine ⟨.ref a, rfl, .ref a, .ty "tuple", .type "tuple", .type "tuple", true, rfl, .ty _, ty_tup ha, kit_ty (by decide +kernel), true, rfl, iteF ?_⟩
  refine ⟨.ref a, rfl, by show 1 ≤ sizeLine; decide, fun p1 n1 => ?_⟩
  have s1 : L2.Same H (upd H p1 (.tup [.str "all"])) := same_up n1
  refine ⟨c.d, .tuple [.str "all"], (hc.st (Tl.Same.stay s1)).p, (mk_all (tupOf upd_same) : Con K _ _ .all).p, con_shaped ok hd, shaped_all, _, rfl, ?_⟩
  rw [eqv_all]
  have no : ∀ p, H p = none → upd H p1 (HO.tup [V.str "all"]) p = none → True := fun _ _ _ => trivial
  by_cases ca : isAll c = true
  · rw [ca]
    refine iteT (iteT ⟨Nat.zero_le _, fun z nz => ?_⟩)
    obtain rfl : c = .all := by cases c <;> first | rfl | cases ca
    exact q z [] _ (same_add s1 nz) (tupOf upd_same) .nil
  rw [Bool.eq_false_iff.mpr ca]
  refine iteF ⟨.ref a, rfl, by show 1 ≤ sizeLine; decide, fun p2 n2 => ?_⟩
  have s2 : L2.Same H (upd (upd H p1 (.tup [.str "all"])) p2 (.tup [.str "none"])) := same_add s1 n2
  refine ⟨c.d, .tuple [.str "none"], (hc.st (Tl.Same.stay s2)).p, (mk_non (tupOf upd_same) : Con K _ _ .non).p, con_shaped ok hd, shaped_non, _, rfl, ?_⟩
  rw [eqv_non]
  by_cases cn : isNon c = true
  · rw [cn]
    refine iteT ⟨Nat.zero_le _, fun z nz => ?_⟩
    obtain rfl : c = .non := by cases c <;> first | rfl | cases cn
    exact q z [] _ (same_add s2 nz) (tupOf upd_same) .nil
  rw [Bool.eq_false_iff.mpr cn]
  refine iteF ?_
  generalize hG : upd (upd H p1 (HO.tup [V.str "all"])) p2 (HO.tup [V.str "none"]) = G at s2 ⊢
  have hc' := hc.st (Tl.Same.stay s2)
  clear ha
  cases c with
  | all => exact absurd rfl ca
  | non => exact absurd rfl cn
  | word x =>
    obtain ⟨b, e, hb⟩ := con_word hc'
    cases e
    refine ⟨.ref a, rfl, a, _, rfl, .inr hb, rfl, _, rfl, ?_⟩
    refine iteT ⟨.ref a, rfl, a, _, 0, _, rfl, rfl, hb, atI_nat (j := 0) rfl, rfl, _, rfl, ?_⟩
    rw [seq]
    refine iteT ⟨.ref a, rfl, a, _, 1, _, rfl, rfl, hb, atI_nat (j := 1) rfl, x, rfl, ok, fun G2 e2 => ⟨_, rfl, ?_⟩⟩
    refine iteT ⟨Nat.zero_le _, fun z nz => ?_⟩
    exact q z [] _ (same_add (s2.trans e2) nz) (tupOf upd_same) .nil
  | and c1 c2 =>
    obtain ⟨b, u1, u2, e, hb, h1, h2⟩ := con_and hc'
    cases e
    refine ⟨.ref a, rfl, a, _, rfl, .inr hb, rfl, _, rfl, ?_⟩
    refine iteF (iteF ?_)
    refine ⟨.ref a, rfl, a, _, rfl, .inr hb, rfl, _, rfl, ?_⟩
    refine iteT ⟨.ref a, rfl, a, _, 0, _, rfl, rfl, hb, atI_nat (j := 0) rfl, rfl, _, rfl, ?_⟩
    rw [seq]
    refine iteT ⟨.ref a, rfl, ⟨1, rfl, a, _, rfl, hb, (by show ¬ (HT.sIx 3 0 (some 1) = 0 ∧ HT.sIx 3 3 none = 3); decide), fun p np => ?_⟩⟩
    have s3 : L2.Same G (upd G p (.tup [u1, u2])) := same_up np
    exact q p [u1, u2] _ (s2.trans s3) (tupOf upd_same) (.cons (h1.st (Tl.Same.stay s3)) (.cons (h2.st (Tl.Same.stay s3)) .nil))
  | some r c2 =>
    obtain ⟨b, u2, e, hb, h2⟩ := con_some hc'
    cases e
    refine ⟨.ref a, rfl, a, _, rfl, .inr hb, rfl, _, rfl, ?_⟩
    refine iteF (iteF ?_)
    refine ⟨.ref a, rfl, a, _, rfl, .inr hb, rfl, _, rfl, ?_⟩
    refine iteT ⟨.ref a, rfl, a, _, 0, _, rfl, rfl, hb, atI_nat (j := 0) rfl, rfl, _, rfl, ?_⟩
    rw [sne t_sd]
    refine iteF ?_
    refine ⟨.ref a, rfl, a, _, rfl, .inr hb, rfl, _, rfl, ?_⟩
    refine iteT ⟨.ref a, rfl, a, _, 0, _, rfl, rfl, hb, atI_nat (j := 0) rfl, rfl, _, rfl, ?_⟩
    rw [seq]
    refine iteT ⟨.ref a, rfl, a, _, 1, _, rfl, rfl, hb, atI_nat (j := 1) rfl, r, rfl, ok.1, fun G2 e2 => ⟨_, rfl, ?_⟩⟩
    refine iteT ⟨.ref a, rfl, ⟨2, rfl, a, _, rfl, (Tl.Same.stay e2).tup hb, (by show ¬ (HT.sIx 3 0 (some 2) = 0 ∧ HT.sIx 3 3 none = 3); decide), fun p np => ?_⟩⟩
    have s3 : L2.Same G2 (upd G2 p (.tup [u2])) := same_up np
    exact q p [u2] _ ((s2.trans e2).trans s3) (tupOf upd_same) (.cons (h2.st (Tl.Same.stay (e2.trans s3))) .nil)
end
end K07
set_option Elab.async false
set_option linter.all false
set_option autoImplicit false
set_option maxRecDepth 100000
set_option maxHeartbeats 4000000
namespace K07
open PySem PySem.Spec PyProof.Rows L2 Tl
open C8 (Cal pe_c)
def post : C → List C
  | .some r c => post c ++ [.some r c]
  | .and a b => post a ++ (post b ++ [.and a b])
  | c => [c]
theorem post_kids : ∀ c : C, post c = (kids c).flatMap post ++ [c]
  | .all => rfl
  | .non => rfl
  | .word _ => rfl
  | .some _ _ => by simp [kids, post]
  | .and _ _ => by simp [kids, post]
def sumN (cs : List C) : Nat := (cs.map nodes).sum
theorem sum_app (a b : List C) : sumN (a ++ b) = sumN a + sumN b := by
  unfold sumN
  rw [List.map_append, List.sum_append]
theorem nodes_kids : ∀ c : C, nodes c = sumN (kids c) + 1
  | .all => rfl
  | .non => rfl
  | .word _ => rfl
  | .some _ _ => by simp [kids, nodes, sumN]
  | .and _ _ => by simp [kids, nodes, sumN]
theorem nodes_pos (c : C) : 1 ≤ nodes c := by
  rw [nodes_kids]
  omega
theorem sum_len : ∀ cs : List C, cs.length ≤ sumN cs
  | [] => Nat.le_refl _
  | c :: cs => by
    have := sum_len cs
    have := nodes_pos c
    have e : sumN (c :: cs) = nodes c + sumN cs := by simp [sumN]
    rw [e, List.length_cons]
    omega
theorem post_len : ∀ c : C, (post c).length = nodes c
  | .all => rfl
  | .non => rfl
  | .word _ => rfl
  | .some _ c => by simp [post, nodes, post_len c]
  | .and a b => by
    simp [post, nodes, post_len a, post_len b]
    omega
/-- a concept that is right and small -/
def Fit (c : C) : Prop := COk c ∧ dep c ≤ 60
theorem fit_kids : ∀ {c : C}, Fit c → ∀ x ∈ kids c, Fit x
  | .all, _, _, h => nomatch h
  | .non, _, _, h => nomatch h
  | .word _, _, _, h => nomatch h
  | .some _ c, ⟨h1, h2⟩, x, h => by
    obtain rfl : x = c := by simpa [kids] using h
    have h2 : dep x + 1 ≤ 60 := h2
    exact ⟨h1.2, by omega⟩
  | .and a b, ⟨h1, h2⟩, x, h => by
    have h2 : max (dep a) (dep b) + 1 ≤ 60 := h2
    have h : x = a ∨ x = b := by simpa [kids] using h
    rcases h with rfl | rfl
    · exact ⟨h1.1, by omega⟩
    · exact ⟨h1.2, by omega⟩
theorem lastP {α β : Type} {F : α → β → Prop} : ∀ {xs : List α} {y : α} {cs : List β}, Paired F (xs ++ [y]) cs → ∃ cs' c, cs = cs' ++ [c] ∧ Paired F xs cs' ∧ F y c
  | [], y, _, h => by
    cases h with
    | cons r t => cases t; exact ⟨[], _, rfl, .nil, r⟩
  | x :: xs, y, _, h => by
    cases h with
    | cons r t =>
      obtain ⟨cs', c, rfl, h1, h2⟩ := lastP t
      exact ⟨_ :: cs', c, rfl, .cons r h1, h2⟩
theorem revP {α β : Type} {F : α → β → Prop} : ∀ {xs : List α} {cs : List β}, Paired F xs cs → Paired F xs.reverse cs.reverse
  | _, _, .nil => .nil
  | _, _, .cons r t => by
    rw [List.reverse_cons, List.reverse_cons]
    exact snoc (revP t) r
theorem last_or {α : Type} : ∀ xs : List α, xs = [] ∨ ∃ ys y, xs = ys ++ [y]
  | [] => .inl rfl
  | x :: xs => .inr (by
    rcases last_or xs with rfl | ⟨ys, y, rfl⟩
    · exact ⟨[], x, rfl⟩
    · exact ⟨x :: ys, y, rfl⟩)
theorem refne (a : Addr) : decide (V.ref a = V.non) = false := decide_eq_false fun e => nomatch e
section
variable {P : Program} {w : World} {K : PySem.W.Frag} {mg : Str → Option Value} {base : Heap}
def spConT (K : PySem.W.Frag) : Sp := fun vs H Q _ => ∃ (v : V) (c : C), vs = [v] ∧ Con K H v c ∧ Fit c ∧ nodes c ≤ 300 ∧ ∀ H', L2.Same H H' → Q (.bl true) H'
theorem cIsConcept (T : Txt K mg) : Cal P w K mg base 4 "is_concept" (spConT K) [] := by
  refine cal_of T.isConcept scIsConcept (fun _ _ _ _ _ _ us hl => match us, hl with | [_], _ => rfl) (fun vs H Q E h => ?_) (fun f cdv A outer s H vs Q E hr h => ?_)
  · obtain ⟨v, c, rfl, _⟩ := h
    rfl
  obtain ⟨v, c, rfl, hc, fit, few, q⟩ := h
  refine ⟨_, (pss_cons (ps_set (i := 1) scIsConcept.nd rfl (.inl rfl) (pe_lst (pa_cons (pv 0) pa_nil)))
 (pss_cons (ps_while PassesOwn.never (pt_truth (pv 1) (fun _ => rfl))
 (pss_cons (ps_set (i := 2) scIsConcept.nd rfl (.inl rfl) (pe_c (cInner T) hr (by decide) rfl (pa_cons (pe_bm0 PySem.F.plainAttrs_list PySem.F.slot_list_pop PySem.F.type_list_pop mt_pop (pv 1)) pa_nil)))
 (pss_cons (ps_if (pt_cmpR op_isN (pv 2) pe_non (nomark _))
 (pss_one (ps_ret pe_bl))
 pss_nil)
 (pss_one (ps_expr (pe_bm PySem.F.plainAttrs_list PySem.F.slot_list_extend PySem.F.type_list_extend mt_extT (pv 1) (pa_cons (pv 2) pa_nil)))))))
 (pss_one (ps_ret pe_bl)))), ?_⟩
  refine ⟨v, rfl, by show 1 ≤ sizeLine; decide, fun l nl => ?_⟩
  refine ⟨fun m σ X => ∃ (xs : List V) (cs : List C) (t : Option V), σ = [some v, some (.ref l), t] ∧ L2.Same H X ∧ X l = some (.lst xs) ∧ Paired (Con K X) xs cs ∧ (∀ c ∈ cs, Fit c) ∧ sumN cs = m ∧ m ≤ 300,
    ⟨nodes c, [v], [c], none, rfl, same_up nl, upd_same, .cons (hc.st (stay_new nl)) .nil, fun x hx => by obtain rfl := List.mem_singleton.mp hx; exact fit, by simp [sumN], few⟩, ?_⟩
  rintro m σ X ⟨xs, cs, t, rfl, sX, gX, hp, fits, rfl, le⟩
  refine ⟨.ref l, rfl, !xs.isEmpty, .inl ⟨xs, lst_of gX, rfl⟩, ?_⟩
  rcases last_or xs with rfl | ⟨ys, y, rfl⟩
  · exact iteF (q X sX)
  rw [show (!(ys ++ [y]).isEmpty) = true by simp]
  obtain ⟨cs', c, rfl, hp', hy⟩ := lastP hp
  refine iteT ⟨fun σ' X' => ∃ m', m' < sumN (cs' ++ [c]) ∧ ∃ (xs : List V) (cs : List C) (t : Option V), σ' = [some v, some (.ref l), t] ∧ L2.Same H X' ∧ X' l = some (.lst xs) ∧ Paired (Con K X') xs cs ∧ (∀ c ∈ cs, Fit c) ∧ sumN cs = m' ∧ m' ≤ 300, fun _ _ z => z, ?_⟩
  have fc : Fit c := fits c (by simp)
  have st1 : Stay X (upd X l (.lst (ys ++ [y]).dropLast)) := stay_mut (by rw [gX]; trivial)
  have e0 : sumN (cs' ++ [c]) = sumN cs' + (sumN (kids c) + 1) := by rw [sum_app, ← nodes_kids]; simp [sumN]
  refine ⟨.ref l, rfl, .inl ⟨rfl, _, lst_of gX⟩, l, _, y, rfl, rfl, gX, by simp, y, c, rfl, hy.st st1, fc.1, fc.2, fun a zs X2 s2 hz hk => ?_⟩
  have g2 : X2 l = some (.lst ys) := by
    refine s2 _ _ ?_
    rw [upd_same]
    simp
  refine ⟨.ref a, rfl, rfl, _, rfl, ?_⟩
  rw [refne]
  refine iteF ⟨.ref l, rfl, .inl ⟨rfl, _, lst_of g2⟩, .ref a, rfl, l, a, ys, zs, rfl, rfl, g2, hz, ?_, ?_⟩
  · have h1 := hp'.length
    have h2 := hk.length
    have h3 := sum_len cs'
    have h4 := sum_len (kids c)
    have : ys.length + zs.length ≤ 300 := by omega
    exact Nat.le_trans this (by decide)
  · have st2 : Stay X2 (upd X2 l (.lst (ys ++ zs))) := stay_mut (by rw [g2]; trivial)
    refine ⟨sumN (cs' ++ kids c), by rw [e0, sum_app]; omega, ys ++ zs, cs' ++ kids c, _, rfl, ?_, upd_same, joinP (Paired.mapP hp' fun _ _ z => z.st ((st1.trans (Tl.Same.stay s2)).trans st2)) (Paired.mapP hk fun _ _ z => z.st st2), fun x hx => ?_, rfl, by rw [sum_app]; omega⟩
    · exact same_mut ((same_mut sX nl).trans s2) nl
    · rcases List.mem_append.mp hx with hx | hx
      · exact fits x (List.mem_append_left _ hx)
      · exact fit_kids fc x hx
theorem cCheckConcept (T : Txt K mg) : Cal P w K mg base 5 "check_concept" (fun vs H Q _ => ∃ (v : V) (c : C), vs = [v] ∧ Con K H v c ∧ Fit c ∧ nodes c ≤ 300 ∧ ∀ H', L2.Same H H' → Q .non H') [] := by
  refine cal_of T.checkConcept scCheckConcept (fun _ _ _ _ _ _ us hl => match us, hl with | [_], _ => rfl) (fun vs H Q E h => ?_) (fun f cdv A outer s H vs Q E hr h => ?_)
  · obtain ⟨v, c, rfl, _⟩ := h
    rfl
  obtain ⟨v, c, rfl, hc, fit, few, q⟩ := h
  refine ⟨_, (pss_one (ps_if (pt_not (pt_val (pe_c (cIsConcept T) hr (by decide) rfl (pa_cons (pv 0) pa_nil))))
 (pss_one ps_never)
 pss_nil)), ?_⟩
  exact ⟨v, rfl, v, c, rfl, hc, fit, few, fun H' e => ⟨true, rfl, iteF (q H' e)⟩⟩
def spBU (K : PySem.W.Frag) : Sp := fun vs H Q _ => ∃ (v : V) (c : C), vs = [v] ∧ Con K H v c ∧ Fit c ∧ nodes c ≤ 300 ∧
  ∀ (p : Addr) (xs : List V) (H' : Hp), L2.Same H H' → H p = none → H' p = some (.lst xs) → Paired (Con K H') xs (post c) → Q (.ref p) H'
theorem cBottomUp (T : Txt K mg) : Cal P w K mg base 4 "bottom_up" (spBU K) [] := by
  refine cal_of T.bottomUp scBottomUp (fun _ _ _ _ _ _ us hl => match us, hl with | [_], _ => rfl) (fun vs H Q E h => ?_) (fun f cdv A outer s H vs Q E hr h => ?_)
  · obtain ⟨v, c, rfl, _⟩ := h
    rfl
  obtain ⟨v, c0, rfl, hc, fit, few, q⟩ := h
  refine ⟨_, (pss_cons (ps_set (i := 1) scBottomUp.nd rfl (.inl rfl) (pe_lst (pa_cons (pv 0) pa_nil)))
 (pss_cons (ps_set (i := 2) scBottomUp.nd rfl (.inl rfl) (pe_lst pa_nil))
 (pss_cons (ps_while PassesOwn.never (pt_truth (pv 1) (fun _ => rfl))
 (pss_cons (ps_set (i := 3) scBottomUp.nd rfl (.inl rfl) (pe_bm0 PySem.F.plainAttrs_list PySem.F.slot_list_pop PySem.F.type_list_pop mt_pop (pv 1)))
 (pss_cons (ps_expr (pe_bm PySem.F.plainAttrs_list PySem.F.slot_list_append PySem.F.type_list_append mt_append (pv 2) (pa_cons (pv 3) pa_nil)))
 (pss_one (ps_expr (pe_bm PySem.F.plainAttrs_list PySem.F.slot_list_extend PySem.F.type_list_extend mt_extT (pv 1) (pa_cons (pe_c (cInner T) hr (by decide) rfl (pa_cons (pv 3) pa_nil)) pa_nil)))))))
 (pss_one (ps_ret (pe_revL (pv 2))))))), ?_⟩
  refine ⟨v, rfl, by show 1 ≤ sizeLine; decide, fun l nl => ⟨Nat.zero_le _, fun fo nf => ?_⟩⟩
  have fl : fo ≠ l := fun z => by subst z; rw [upd_same] at nf; cases nf
  have nf0 : H fo = none := (same_up nl).free nf
  have s0 : L2.Same H (upd (upd H l (.lst [v])) fo (.lst [])) := same_add (same_up nl) nf
  refine ⟨fun m σ X => ∃ (xs : List V) (cs : List C) (us : List V) (fs : List C) (t : Option V), σ = [some v, some (.ref l), some (.ref fo), t] ∧ L2.Same H X ∧ X l = some (.lst xs) ∧ Paired (Con K X) xs cs ∧ X fo = some (.lst us) ∧ Paired (Con K X) us fs ∧
      (∀ c ∈ cs, Fit c) ∧ sumN cs = m ∧ m ≤ 300 ∧ cs.flatMap post ++ fs.reverse = post c0,
    ⟨nodes c0, [v], [c0], [], [], none, rfl, s0, (upd_ne fl.symm).trans upd_same, .cons (hc.st (Tl.Same.stay s0)) .nil, upd_same, .nil, fun x hx => by obtain rfl := List.mem_singleton.mp hx; exact fit, by simp [sumN], few, by simp⟩, ?_⟩
  rintro m σ X ⟨xs, cs, us, fs, t, rfl, sX, gX, hp, gF, hF, fits, rfl, le, eq⟩
  refine ⟨.ref l, rfl, !xs.isEmpty, .inl ⟨xs, lst_of gX, rfl⟩, ?_⟩
  rcases last_or xs with rfl | ⟨ys, y, rfl⟩
  · refine iteF ⟨.ref fo, rfl, fo, us, rfl, lst_of gF, fun p np => ?_⟩
    cases hp
    have s1 := same_up (o := .lst us.reverse) np
    refine q p us.reverse _ (sX.trans s1) (sX.free np) upd_same ?_
    rw [← eq]
    exact revP (Paired.mapP hF fun _ _ z => z.st (Tl.Same.stay s1))
  rw [show (!(ys ++ [y]).isEmpty) = true by simp]
  obtain ⟨cs', c, rfl, hp', hy⟩ := lastP hp
  refine iteT ⟨fun σ' X' => ∃ m', m' < sumN (cs' ++ [c]) ∧ ∃ (xs : List V) (cs : List C) (us : List V) (fs : List C) (t : Option V), σ' = [some v, some (.ref l), some (.ref fo), t] ∧ L2.Same H X' ∧ X' l = some (.lst xs) ∧ Paired (Con K X') xs cs ∧ X' fo = some (.lst us) ∧ Paired (Con K X') us fs ∧
      (∀ c ∈ cs, Fit c) ∧ sumN cs = m' ∧ m' ≤ 300 ∧ cs.flatMap post ++ fs.reverse = post c0, fun _ _ z => z, ?_⟩
  have fc : Fit c := fits c (by simp)
  have st1 : Stay X (upd X l (.lst (ys ++ [y]).dropLast)) := stay_mut (by rw [gX]; trivial)
  have e0 : sumN (cs' ++ [c]) = sumN cs' + (sumN (kids c) + 1) := by rw [sum_app, ← nodes_kids]; simp [sumN]
  have lenF : fs.length ≤ 300 := by
    have := congrArg List.length eq
    rw [List.length_append, List.length_reverse, post_len] at this
    omega
  refine ⟨.ref l, rfl, .inl ⟨rfl, _, lst_of gX⟩, l, _, y, rfl, rfl, gX, by simp, ?_⟩
  generalize hX1 : upd X l (HO.lst (ys ++ [y]).dropLast) = X1 at st1 ⊢
  have g1 : X1 l = some (.lst ys) := by rw [← hX1, upd_same]; simp
  have f1 : X1 fo = some (.lst us) := by rw [← hX1, upd_ne fl]; exact gF
  have sX1 : L2.Same H X1 := by rw [← hX1]; exact same_mut sX nl
  refine ⟨.ref fo, rfl, .inl ⟨rfl, _, lst_of f1⟩, y, rfl, fo, us, y, rfl, rfl, f1, ?_, ?_⟩
  · rw [hF.length]
    exact Nat.lt_of_le_of_lt lenF (by decide)
  have st2 : Stay X1 (upd X1 fo (.lst (us ++ [y]))) := stay_mut (by rw [f1]; trivial)
  generalize hX2 : upd X1 fo (HO.lst (us ++ [y])) = X2 at st2 ⊢
  have g2 : X2 l = some (.lst ys) := by rw [← hX2, upd_ne fl.symm]; exact g1
  have f2 : X2 fo = some (.lst (us ++ [y])) := by rw [← hX2, upd_same]
  have sX2 : L2.Same H X2 := by rw [← hX2]; exact same_mut sX1 nf0
  refine ⟨.ref l, rfl, .inl ⟨rfl, _, lst_of g2⟩, y, rfl, y, c, rfl, hy.st (st1.trans st2), fc.1, fc.2, fun a zs X3 s3 hz hk => ?_⟩
  have g3 := s3 _ _ g2
  have f3 := s3 _ _ f2
  have st3 : Stay X3 (upd X3 l (.lst (ys ++ zs))) := stay_mut (by rw [g3]; trivial)
  have stA := ((st1.trans st2).trans (Tl.Same.stay s3)).trans st3
  refine ⟨l, a, ys, zs, rfl, rfl, g3, hz, ?_, ?_⟩
  · have h1 := hp'.length
    have h2 := hk.length
    have h3 := sum_len cs'
    have h4 := sum_len (kids c)
    have : ys.length + zs.length ≤ 300 := by omega
    exact Nat.le_trans this (by decide)
  · refine ⟨sumN (cs' ++ kids c), by rw [e0, sum_app]; omega, ys ++ zs, cs' ++ kids c, us ++ [y], fs ++ [c], _, rfl, ?_, upd_same, joinP (Paired.mapP hp' fun _ _ z => z.st stA) (Paired.mapP hk fun _ _ z => z.st st3), (upd_ne fl).trans f3, snoc (Paired.mapP hF fun _ _ z => z.st stA) (hy.st stA), fun x hx => ?_, rfl, by rw [sum_app]; omega, ?_⟩
    · exact same_mut (sX2.trans s3) nl
    · rcases List.mem_append.mp hx with hx | hx
      · exact fits x (List.mem_append_left _ hx)
      · exact fit_kids fc x hx
    · rw [← eq, List.flatMap_append, List.flatMap_append, List.reverse_append]
      simp [post_kids c]
end
end K07
set_option Elab.async false
set_option linter.all false
set_option autoImplicit false
set_option maxRecDepth 100000
set_option maxHeartbeats 4000000
namespace K07
open PySem PySem.Spec PyProof.Rows L2 Tl
open C8 (Cal pe_c)
/-! ### the program: worlds -/
theorem pw_get {α : Type} {L : α → α → Prop} : ∀ {l : List α} {i j : Nat} {e f : α}, l.Pairwise L → l[i]? = some e → l[j]? = some f → i < j → L e f
  | _ :: r, 0, j + 1, e, f, h, he, hf, _ => by
    have h' := List.pairwise_cons.mp h
    cases he
    exact h'.1 f (List.mem_of_getElem? (i := j) hf)
  | _ :: r, i + 1, j + 1, e, f, h, he, hf, lt => pw_get (l := r) (i := i) (j := j) (List.pairwise_cons.mp h).2 he hf (by omega)
theorem consec {α : Type} {K : PySem.W.Frag} {H : Hp} {R : V → α → Prop} {L : α → α → Prop} {xs : List V} {es : List α} (h : Paired R xs es) (pw : es.Pairwise L) (to : ∀ x y e f, R x e → R y f → L e f → LtV K H x y) :
    ∀ i x y, xs[i]? = some x → xs[i + 1]? = some y → LtV K H x y := fun i x y hx hy => by
  obtain ⟨e, he, r1⟩ := getP h hx
  obtain ⟨f, hf, r2⟩ := getP h hy
  exact to x y e f r1 r2 (pw_get pw he hf (Nat.lt_succ_self i))
theorem paired_of {α : Type} {f : α → V} : ∀ ns : List α, Paired (fun x n => x = f n) (ns.map f) ns
  | [] => .nil
  | n :: ns => .cons rfl (paired_of ns)
theorem mapR {α β γ : Type} {F : α → β → Prop} {G : α → γ → Prop} {g : β → γ} (to : ∀ a b, F a b → G a (g b)) : ∀ {xs : List α} {ys : List β}, Paired F xs ys → Paired G xs (ys.map g)
  | _, _, .nil => .nil
  | _, _, .cons r t => .cons (to _ _ r) (mapR to t)
theorem mapL {α β γ : Type} {F : α → β → Prop} {G : γ → β → Prop} {g : α → γ} (to : ∀ a b, F a b → G (g a) b) : ∀ {xs : List α} {ys : List β}, Paired F xs ys → Paired G (xs.map g) ys
  | _, _, .nil => .nil
  | _, _, .cons r t => .cons (to _ _ r) (mapL to t)
theorem withR {α β : Type} {F : α → β → Prop} {R : β → Prop} : ∀ {xs : List α} {ys : List β}, Paired F xs ys → (∀ e ∈ ys, R e) → Paired (fun p e => F p e ∧ R e) xs ys
  | _, _, .nil, _ => .nil
  | _, _, .cons r t, h => .cons ⟨r, h _ List.mem_cons_self⟩ (withR t fun e he => h e (List.mem_cons_of_mem _ he))
theorem memP {α β : Type} {F : α → β → Prop} : ∀ {xs : List α} {ys : List β} {x : α}, Paired F xs ys → x ∈ xs → ∃ y ∈ ys, F x y
  | _, _, _, .nil, h => nomatch h
  | _, _, _, .cons r t, h => by
    rcases List.mem_cons.mp h with rfl | h
    · exact ⟨_, List.mem_cons_self, r⟩
    · obtain ⟨y, hy, f⟩ := memP t h
      exact ⟨y, List.mem_cons_of_mem _ hy, f⟩
structure Items (K : PySem.W.Frag) (H : Hp) (sp : Sp) (n : Int) (xs : List V) : Prop where
  ne : xs ≠ []
  len : xs.length ≤ 1000
  asc : ∀ i x y, xs[i]? = some x → xs[i + 1]? = some y → LtV K H x y
  acc : ∀ x ∈ xs, ∀ (H' : Hp) (Q : VK), L2.Same H H' → Q (.bl true) H' → sp [x, .int n] H' Q fun _ _ _ => False
theorem items_st {K : PySem.W.Frag} {H H' : Hp} {sp : Sp} {n : Int} {xs : List V} (s : L2.Same H H') (h : Items K H sp n xs) : Items K H' sp n xs :=
  ⟨h.ne, h.len, fun i x y a b => ltv_st (Tl.Same.stay s) (h.asc i x y a b), fun x hx G Q e q => h.acc x hx G Q (s.trans e) q⟩
def Row (K : PySem.W.Frag) (H : Hp) (sp : Sp) (n : Int) (v : V) (e : Str × List V) : Prop := isW e.1 = true ∧ ∃ p t, v = .ref p ∧ SqT K H p [.str e.1, .ref t] ∧ SqT K H t e.2 ∧ Items K H sp n e.2
theorem row_st {K : PySem.W.Frag} {H H' : Hp} {sp : Sp} {n : Int} {v : V} {e : Str × List V} (s : L2.Same H H') (h : Row K H sp n v e) : Row K H' sp n v e := by
  obtain ⟨h0, p, t, rfl, h1, h2, h3⟩ := h
  exact ⟨h0, p, t, rfl, (Tl.Same.stay s).tup h1, (Tl.Same.stay s).tup h2, items_st s h3⟩
section
variable {P : Program} {w : World} {K : PySem.W.Frag} {mg : Str → Option Value} {base : Heap}
def spThing : Sp := fun vs H Q _ => ∃ (x n : Int), vs = [.int x, .int n] ∧ 0 ≤ x ∧ x < n ∧ Q (.bl true) H
theorem cIsThing (T : Txt K mg) : Cal P w K mg base 2 "_is_thing" spThing [] := by
  refine cal_of T.isThing scIsThing (fun _ _ _ _ _ _ us hl => match us, hl with | [_, _], _ => rfl) (fun vs H Q E h => ?_) (fun f cdv A outer s H vs Q E hr h => ?_)
  · obtain ⟨x, n, rfl, _⟩ := h
    rfl
  obtain ⟨x, n, rfl, h0, h1, q⟩ := h
  refine ⟨_, (pss_one (ps_ret (pe_and (pe_c (cIsInteger T) hr (by decide) rfl (pa_cons (pv 0) pa_nil)) (pe_one (pe_chain op_le op_lt pe_int (pv 0) (pv 1)))))), ?_⟩
  refine ⟨.int x, rfl, x, rfl, true, rfl, .int x, rfl, 0, x, rfl, rfl, _, rfl, ?_⟩
  rw [decide_eq_true h0]
  refine iteT ⟨.int n, rfl, x, n, rfl, rfl, ?_⟩
  show Q (V.bl (decide (x < n))) H
  rw [decide_eq_true h1]
  exact q
def spTie (K : PySem.W.Frag) : Sp := fun vs H Q _ => ∃ (a : Addr) (e : Int × Int) (n : Int), vs = [.ref a, .int n] ∧ PrE K H a e ∧ 0 ≤ e.1 ∧ e.1 < n ∧ 0 ≤ e.2 ∧ e.2 < n ∧ Q (.bl true) H
theorem cIsTie (T : Txt K mg) : Cal P w K mg base 3 "_is_tie" (spTie K) [] := by
  refine cal_of T.isTie scIsTie (fun _ _ _ _ _ _ us hl => match us, hl with | [_, _], _ => rfl) (fun vs H Q E h => ?_) (fun f cdv A outer s H vs Q E hr h => ?_)
  · obtain ⟨a, e, n, rfl, _⟩ := h
    rfl
  obtain ⟨a, e, n, rfl, ha, h0, h1, h2, h3, q⟩ := h
  refine ⟨_, (pss_one (ps_ret (pe_and (pe_c (cIsPair T) hr (by decide) rfl (pa_cons (pv 0) pa_nil)) (pe_and (pe_c (cIsThing T) hr (by decide) rfl (pa_cons (pe_ix ix_tup (pv 0) pe_int (fun _ _ => rfl)) (pa_cons (pv 1) pa_nil))) (pe_one (pe_c (cIsThing T) hr (by decide) rfl (pa_cons (pe_ix ix_tup (pv 0) pe_int (fun _ _ => rfl)) (pa_cons (pv 1) pa_nil)))))))), ?_⟩
  exact ⟨.ref a, rfl, a, _, _, rfl, ha, true, rfl, .ref a, rfl, a, _, 0, _, rfl, rfl, ha, atI_nat (j := 0) rfl, .int n, rfl, _, n, rfl, h0, h1, true, rfl, .ref a, rfl, a, _, 1, _, rfl, rfl, ha, atI_nat (j := 1) rfl, .int n, rfl, _, n, rfl, h2, h3, q⟩
def spItems (P : Program) (w : World) (K : PySem.W.Frag) (mg : Str → Option Value) (base : Heap) : Sp := fun vs H Q _ => ∃ (a f : Addr) (n : Int) (xs : List V) (sp : Sp), vs = [.ref a, .ref f, .int n] ∧ SqT K H a xs ∧ Held P w K mg base 3 f sp ∧ Items K H sp n xs ∧
  ∀ H', L2.Same H H' → Q (.bl true) H'
theorem cAreItems (T : Txt K mg) : Cal P w K mg base 4 "_are_items" (spItems P w K mg base) [] := by
  refine cal_of T.areItems scAreItems (fun _ _ _ _ _ _ us hl => match us, hl with | [_, _, _], _ => rfl) (fun vs H Q E h => ?_) (fun f cdv A outer s H vs Q E hr h => ?_)
  · obtain ⟨a, f, n, xs, sp, rfl, _⟩ := h
    rfl
  obtain ⟨a, g, n, xs, sp, rfl, ha, held, it, q⟩ := h
  refine ⟨_, (pss_cons (ps_if (PW.pt (pw_or (pt_not (pt_val (pe_callB call_isi (by rfl) T.isinstance (by decide +kernel) (pa_cons (pv 0) (pa_cons (pe_bltn (v := V.ty "tuple") (u := Value.type "tuple") (by rfl) T.tuple (by decide +kernel) rfl) pa_nil))))) (pw_or1 (pt_cmpR op_eq (pe_callB call_len_seq (by rfl) T.len (by decide +kernel) (pa_cons (pv 0) pa_nil)) pe_int (nomark _)))))
 (pss_one (ps_ret pe_bl))
 pss_nil)
 (pss_one (ps_ret (pe_and (pe_callB (cr_all rfl) (by rfl) T.all (by decide +kernel) (pa_cons (pe_lc (own := [("item", 3)]) (by rfl) scAreItems.nd (pi_tup (pv 0)) (blkOk_by (own := [("item", 3)]) (N := ["thing", "is_item", "many", "item"]) (sc := defScope sAreItems) (by decide +kernel)) (fun _ _ _ _ _ => (pg_name (i := 3) scAreItems.nd rfl (.inl rfl))) (fun _ _ _ _ _ => pts_nil) (fun _ _ _ _ _ => (pe_callA (i := 1) (S := fun z => if z = g then some sp else none) (k := 3) (fun f' sp' e => by
      by_cases z : f' = g
      · rw [if_pos z] at e
        cases e
        rw [z]
        exact held
      · rw [if_neg z] at e
        cases e) hr (by rfl) (by first | exact Or.inl rfl | exact Or.inr (Or.inl rfl) | exact Or.inr (Or.inr rfl)) (pa_cons (pv 3) (pa_cons (pv 2) pa_nil))))) pa_nil)) (pe_one (pe_c (cIsAscending T) hr (by decide) rfl (pa_cons (pv 0) pa_nil))))))), ?_⟩
  refine ⟨.ref a, rfl, .ref a, .ty "tuple", .type "tuple", .type "tuple", true, rfl, .ty _, ty_tup ha, kit_ty (by decide +kernel), true, rfl, iteF ?_⟩
  refine ⟨.ref a, rfl, a, xs, rfl, .inr ha, rfl, _, rfl, ?_⟩
  have ne0 : decide (V.int (xs.length : Int) = V.int 0) = false := decide_eq_false fun e => by
    have := V.int.inj e
    have := List.length_pos_iff.mpr it.ne
    omega
  rw [ne0]
  refine iteF ⟨.ref a, rfl, a, rfl, ⟨_, ha⟩, fun D nD => ?_⟩
  refine lc_tup (K := K) (a := a) (xs := xs) (fun i X => L2.Same H X ∧ X D = some (.lst ((List.replicate i true).map V.bl))) ⟨same_up nD, upd_same⟩ (fun i X _ z => (Tl.Same.stay z.1).tup ha) (fun i x X hx z => ?_) (fun X z => ?_)
  · obtain ⟨sX, gX⟩ := z
    refine ⟨rfl, g, sp, rfl, if_pos rfl, x, rfl, .int n, rfl, it.acc x (List.mem_of_getElem? hx) X _ sX ⟨_, gX, ?_, same_mut sX nD, ?_⟩⟩
    · rw [List.length_map, List.length_replicate]
      have : i < xs.length := by
        have := List.getElem?_eq_some_iff.mp hx
        exact this.1
      have := it.len
      exact Nat.lt_of_lt_of_le (show i < 1001 by omega) (by decide)
    · rw [upd_same, List.replicate_succ', List.map_append]
      rfl
  · obtain ⟨sX, gX⟩ := z
    refine ⟨D, _, rfl, lst_of gX, true, by rw [all_rep], iteT ⟨.ref a, rfl, a, xs, rfl, .inr ((Tl.Same.stay sX).tup ha), it.len, fun i x y hx hy => ltv_st (Tl.Same.stay sX) (it.asc i x y hx hy), fun H' e => q H' (sX.trans e)⟩⟩
def spListing (P : Program) (w : World) (K : PySem.W.Frag) (mg : Str → Option Value) (base : Heap) : Sp := fun vs H Q _ => ∃ (a f : Addr) (n : Int) (xs : List V) (es : List (Str × List V)) (sp : Sp), vs = [.ref a, .ref f, .int n] ∧ SqT K H a xs ∧ Held P w K mg base 3 f sp ∧
  Paired (Row K H sp n) xs es ∧ (es.map (·.1)).Pairwise sl ∧ es.length ≤ 1000 ∧ ∀ H', L2.Same H H' → Q (.bl true) H'
theorem cIsListing (T : Txt K mg) : Cal P w K mg base 5 "_is_listing" (spListing P w K mg base) [] := by
  refine cal_of T.isListing scIsListing (fun _ _ _ _ _ _ us hl => match us, hl with | [_, _, _], _ => rfl) (fun vs H Q E h => ?_) (fun f cdv A outer s H vs Q E hr h => ?_)
  · obtain ⟨a, f, n, xs, es, sp, rfl, _⟩ := h
    rfl
  obtain ⟨a, g, n, xs, es, sp, rfl, ha, held, rows, asc, len, q⟩ := h
  refine ⟨_, (pss_cons (ps_if (pt_not (pt_val (pe_callB call_isi (by rfl) T.isinstance (by decide +kernel) (pa_cons (pv 0) (pa_cons (pe_bltn (v := V.ty "tuple") (u := Value.type "tuple") (by rfl) T.tuple (by decide +kernel) rfl) pa_nil)))))
 (pss_one (ps_ret pe_bl))
 pss_nil)
 (pss_cons (ps_for PassesOwn.never rfl (pi_tup (pv 0)) (pg_name (i := 3) scIsListing.nd rfl (.inl rfl))
 (pss_one (ps_if (PW.pt (pw_or (pt_not (pt_val (pe_c (cIsPair T) hr (by decide) rfl (pa_cons (pv 3) pa_nil)))) (pw_or (pt_not (pt_val (pe_c (cIsWord T) hr (by decide) rfl (pa_cons (pe_ix ix_tup (pv 3) pe_int (fun _ _ => rfl)) pa_nil)))) (pw_or1 (pt_not (pt_val (pe_c (cAreItems T) hr (by decide) rfl (pa_cons (pe_ix ix_tup (pv 3) pe_int (fun _ _ => rfl)) (pa_cons (pv 1) (pa_cons (pv 2) pa_nil))))))))))
 (pss_one (ps_ret pe_bl))
 pss_nil)))
 (pss_one (ps_ret (pe_c (cIsAscending T) hr (by decide) rfl (pa_cons (pe_lc (own := [("row", 3)]) (by rfl) scIsListing.nd (pi_tup (pv 0)) (blkOk_by (own := [("row", 3)]) (N := ["thing", "is_item", "many", "row"]) (sc := defScope sIsListing) (by decide +kernel)) (fun _ _ _ _ _ => (pg_name (i := 3) scIsListing.nd rfl (.inl rfl))) (fun _ _ _ _ _ => pts_nil) (fun _ _ _ _ _ => (pe_ix (ix_tupK (K := K) rfl) (pv 3) pe_int (fun _ _ => rfl)))) pa_nil)))))), ?_⟩
  refine ⟨.ref a, rfl, .ref a, .ty "tuple", .type "tuple", .type "tuple", true, rfl, .ty _, ty_tup ha, kit_ty (by decide +kernel), true, rfl, iteF ?_⟩
  refine ⟨.ref a, rfl, a, rfl, ⟨_, ha⟩, ?_⟩
  refine for_tup (K := K) (a := a) (xs := xs) (fun i σ X => ∃ t, σ = [some (.ref a), some (.ref g), some (.int n), t] ∧ L2.Same H X) ⟨_, rfl, L2.Same.refl H⟩ (fun i σ X _ z => ?_) (fun i x σ X hx z => ?_) (fun σ X z => ?_)
  · obtain ⟨t, rfl, sX⟩ := z
    exact (Tl.Same.stay sX).tup ha
  · obtain ⟨t, rfl, sX⟩ := z
    obtain ⟨e, he, r⟩ := getP rows hx
    obtain ⟨hw, p, t2, rfl, h1, h2, h3⟩ := row_st sX r
    refine ⟨.ref p, rfl, p, _, _, rfl, h1, true, rfl, iteF ?_⟩
    refine ⟨.ref p, rfl, p, _, 0, _, rfl, rfl, h1, atI_nat (j := 0) rfl, _, rfl, hw, fun X2 e2 => ⟨true, rfl, iteF ?_⟩⟩
    refine ⟨.ref p, rfl, p, _, 1, _, rfl, rfl, (Tl.Same.stay e2).tup h1, atI_nat (j := 1) rfl, .ref g, rfl, .int n, rfl, t2, g, n, e.2, sp, rfl, (Tl.Same.stay e2).tup h2, held, items_st e2 h3, fun X3 e3 => ⟨true, rfl, iteF ?_⟩⟩
    exact ⟨_, rfl, (sX.trans e2).trans e3⟩
  · obtain ⟨t, rfl, sX⟩ := z
    have ha' := (Tl.Same.stay sX).tup ha
    refine ⟨.ref a, rfl, a, rfl, ⟨_, ha'⟩, fun D nD => ?_⟩
    refine lc_tup (K := K) (a := a) (xs := xs) (fun i Y => L2.Same X Y ∧ Y D = some (.lst (((es.map (·.1)).take i).map V.str))) ⟨same_up nD, upd_same⟩ (fun i Y _ z => (Tl.Same.stay z.1).tup ha') (fun i x Y hx z => ?_) (fun Y z => ?_)
    · obtain ⟨sY, gY⟩ := z
      obtain ⟨e, he, r⟩ := getP rows hx
      obtain ⟨hw, p, t2, rfl, h1, h2, h3⟩ := row_st (sX.trans sY) r
      have he' : (es.map (·.1))[i]? = some e.1 := by rw [List.getElem?_map, he]; rfl
      refine ⟨rfl, .ref p, rfl, p, _, 0, _, rfl, rfl, h1, atI_nat (j := 0) rfl, _, gY, ?_, same_mut sY nD, ?_⟩
      · rw [List.length_map, List.length_take]
        exact Nat.lt_of_le_of_lt (Nat.le_trans (Nat.min_le_right _ _) (by rw [List.length_map]; exact len)) (by decide)
      · rw [upd_same, List.take_add_one, he', List.map_append]
        rfl
    · obtain ⟨sY, gY⟩ := z
      rw [List.take_of_length_le (by rw [List.length_map, rows.length]; exact Nat.le_refl _)] at gY
      refine ⟨D, _, rfl, .inl (lst_of gY), by rw [List.length_map, List.length_map]; exact len, consec (paired_of (es.map (·.1))) asc fun x y e f h1 h2 h => ?_, fun H' e => q H' ((sX.trans sY).trans e)⟩
      subst h1 h2
      exact .str h
def spWorldT (K : PySem.W.Frag) : Sp := fun vs H Q _ => ∃ (v : V) (W : Wd), vs = [v] ∧ IsWd K H v W ∧ WOk W ∧ ∀ H', L2.Same H H' → Q (.bl true) H'
theorem names_rows {sp : Sp} {H : Hp} {a : Addr} {W : Wd} (ok : WOk W) (h : Names K H a W.names) (acc : ∀ (x : Int) (H' : Hp) (Q : VK), 0 ≤ x → x < W.many → Q (.bl true) H' → sp [.int x, .int W.many] H' Q fun _ _ _ => False) :
    ∃ xs, SqT K H a xs ∧ Paired (Row K H sp W.many) xs (W.names.map fun e => (e.1, e.2.map V.int)) := by
  obtain ⟨ps, hf, hp⟩ := h
  refine ⟨ps.map V.ref, rd_of_frz hf, mapL (F := fun (p : Addr) b => Row K H sp W.many (V.ref p) b) (g := V.ref) (fun p b z => z) (mapR (F := fun p e => NmE K H p e ∧ (isW e.1 = true ∧ GoodN W.many e.2)) (g := fun e : Str × List Int => (e.1, e.2.map V.int)) (fun p e z => ?_) (withR hp ok.names.2.1))⟩
  obtain ⟨⟨t, h1, h2⟩, hw, ne, asc, rg⟩ := z
  refine ⟨hw, p, t, rfl, h1, h2, ?_, ?_, consec (paired_of e.2) asc fun x y e f h1 h2 h => ?_, fun x hx H' Q s q => ?_⟩
  · intro z
    exact ne (List.map_eq_nil_iff.mp z)
  · rw [List.length_map]
    have := asc_len _ 0 W.many asc rg
    have := ok.many
    omega
  · subst h1 h2
    exact .int h
  · obtain ⟨i, hi, rfl⟩ := List.mem_map.mp hx
    exact acc i H' Q (rg i hi).1 (rg i hi).2 q
theorem roles_rows {sp : Sp} {H : Hp} {a : Addr} {W : Wd} (ok : WOk W) (h : Roles K H a W.roles) (acc : ∀ (p : Addr) (e : Int × Int) (H' : Hp) (Q : VK), PrE K H' p e → (0 ≤ e.1 ∧ e.1 < W.many) ∧ 0 ≤ e.2 ∧ e.2 < W.many → Q (.bl true) H' → sp [.ref p, .int W.many] H' Q fun _ _ _ => False) :
    ∃ (xs : List V) (es : List (Str × List V)), SqT K H a xs ∧ Paired (Row K H sp W.many) xs es ∧ es.map (·.1) = W.roles.map (·.1) := by
  obtain ⟨ps, hf, hp⟩ := h
  have : ∀ {ps : List Addr} {rs : List (Str × List (Int × Int))}, Paired (fun p e => RlE K H p e ∧ (isW e.1 = true ∧ GoodR W.many e.2)) ps rs → ∃ es : List (Str × List V), Paired (Row K H sp W.many) (ps.map V.ref) es ∧ es.map (·.1) = rs.map (·.1) := by
    intro ps rs h
    induction h with
    | nil => exact ⟨[], .nil, rfl⟩
    | @cons p e _ _ z _ ih =>
      obtain ⟨es, h1, h2⟩ := ih
      obtain ⟨⟨t, g1, qs, g2, g3⟩, hw, ne, asc, rg⟩ := z
      refine ⟨(e.1, qs.map V.ref) :: es, .cons ⟨hw, p, t, rfl, g1, g2, ?_, ?_, consec (mapL (G := fun v b => ∃ q, v = .ref q ∧ PrE K H q b) (fun q b z => ⟨q, rfl, z⟩) g3) asc fun x y e f h1 h2 h => ?_, fun x hx H' Q s q => ?_⟩ h1, by rw [List.map_cons, List.map_cons, h2]⟩
      · intro z
        have z := List.map_eq_nil_iff.mp z
        have := g3.length
        rw [z] at this
        exact ne (List.length_eq_zero_iff.mp this.symm)
      · rw [List.length_map, g3.length]
        have := lex_len (by have := ok.many; omega) ok.many.2 asc rg
        omega
      · obtain ⟨q1, rfl, z1⟩ := h1
        obtain ⟨q2, rfl, z2⟩ := h2
        exact .prs z1 z2 h
      · obtain ⟨qa, hq, rfl⟩ := List.mem_map.mp hx
        obtain ⟨b, hb, hpb⟩ := memP g3 hq
        exact acc qa b H' Q (pre_st (Tl.Same.stay s) hpb) (rg b hb) q
  obtain ⟨es, h1, h2⟩ := this (withR hp ok.roles.2.1)
  exact ⟨ps.map V.ref, es, rd_of_frz hf, h1, h2⟩
theorem held_of {k : Nat} {x : Str} {sp : Sp} (c : Cal P w K mg base k x sp []) : ∃ f, mg x = some (.ref f) ∧ Held P w K mg base k f sp := by
  obtain ⟨f, fd, ps, ds, F, hm, kp, b, d⟩ := c.ex
  cases d
  exact ⟨f, hm, ⟨fd, ps, F, kp, b⟩⟩
theorem cIsWorld (T : Txt K mg) : Cal P w K mg base 6 "is_world" (spWorldT K) [] := by
  refine cal_of T.isWorld scIsWorld (fun _ _ _ _ _ _ us hl => match us, hl with | [_], _ => rfl) (fun vs H Q E h => ?_) (fun f cdv A outer s H vs Q E hr h => ?_)
  · obtain ⟨v, W, rfl, _⟩ := h
    rfl
  obtain ⟨v, W, rfl, hW, ok, q⟩ := h
  obtain ⟨tm, hmt⟩ := T.most_things
  obtain ⟨f1, hf1, held1⟩ := held_of (calUp (cIsThing (P := P) (w := w) (base := base) T) (show 2 ≤ 3 by decide))
  obtain ⟨f2, hf2, held2⟩ := held_of (cIsTie (P := P) (w := w) (base := base) T)
  refine ⟨_, (pss_cons (ps_if (PW.pt (pw_or (pt_not (pt_val (pe_callB call_isi (by rfl) T.isinstance (by decide +kernel) (pa_cons (pv 0) (pa_cons (pe_bltn (v := V.ty "tuple") (u := Value.type "tuple") (by rfl) T.tuple (by decide +kernel) rfl) pa_nil))))) (pw_or1 (pt_cmpR op_ne (pe_callB call_len_seq (by rfl) T.len (by decide +kernel) (pa_cons (pv 0) pa_nil)) pe_int (nomark _)))))
 (pss_one (ps_ret pe_bl))
 pss_nil)
 (pss_cons (ps_asg (pv 0) (pg_tup rfl (pgs_cons (pg_name (i := 1) scIsWorld.nd rfl (.inl rfl)) (pgs_cons (pg_name (i := 2) scIsWorld.nd rfl (.inl rfl)) (pgs_cons (pg_name (i := 3) scIsWorld.nd rfl (.inl rfl)) pgs_nil)))))
 (pss_cons (ps_if (PW.pt (pw_or (pt_not (pt_val (pe_c (cIsInteger T) hr (by decide) rfl (pa_cons (pv 1) pa_nil)))) (pw_or1 (pt_not (pt_chain op_le op_le pe_int (pv 1) (pe_glob (v := V.int 2000) rfl hmt ⟨_, rfl⟩))))))
 (pss_one (ps_ret pe_bl))
 pss_nil)
 (pss_one (ps_ret (pe_and (pe_c (cIsListing T) hr (by decide) rfl (pa_cons (pv 2) (pa_cons (pe_glob (v := V.ref f1) rfl hf1 rfl) (pa_cons (pv 1) pa_nil)))) (pe_one (pe_c (cIsListing T) hr (by decide) rfl (pa_cons (pv 3) (pa_cons (pe_glob (v := V.ref f2) rfl hf2 rfl) (pa_cons (pv 1) pa_nil))))))))))), ?_⟩
  obtain ⟨a, na, ra, rfl, ha, hN, hR⟩ := hW
  have okm := ok.many
  obtain ⟨xs1, hx1, hr1⟩ := names_rows (sp := spThing) ok hN fun x H' Q h0 h1 q => ⟨x, _, rfl, h0, h1, q⟩
  obtain ⟨xs2, es2, hx2, hr2, he2⟩ := roles_rows (sp := spTie K) ok hR fun p e H' Q h0 h1 q => ⟨p, e, _, rfl, h0, h1.1.1, h1.1.2, h1.2.1, h1.2.2, q⟩
  refine ⟨.ref a, rfl, .ref a, .ty "tuple", .type "tuple", .type "tuple", true, rfl, .ty _, ty_tup ha, kit_ty (by decide +kernel), true, rfl, iteF ?_⟩
  refine ⟨.ref a, rfl, a, _, rfl, .inr ha, rfl, _, rfl, iteF ?_⟩
  refine ⟨.ref a, rfl, a, _, rfl, ha, rfl, .int W.many, _, rfl, .ref na, _, rfl, .ref ra, [], rfl, rfl, ?_⟩
  refine ⟨.int W.many, rfl, W.many, rfl, true, rfl, iteF ?_⟩
  refine ⟨.int W.many, rfl, 1, W.many, rfl, rfl, _, rfl, ?_⟩
  rw [show decide ((1 : Int) ≤ W.many) = true from decide_eq_true okm.1]
  refine iteT ⟨W.many, 2000, rfl, rfl, _, rfl, ?_⟩
  rw [show decide (W.many ≤ (2000 : Int)) = true from decide_eq_true (by omega)]
  refine iteF ?_
  refine ⟨.ref na, rfl, .int W.many, rfl, na, f1, W.many, xs1, _, spThing, rfl, hx1, held1, hr1, ?_, ?_, fun X e1 => ⟨true, rfl, iteT ?_⟩⟩
  · rw [List.map_map]
    exact ok.names.1
  · rw [List.length_map]
    have := ok.names.2.2
    omega
  refine ⟨.ref ra, rfl, .int W.many, rfl, ra, f2, W.many, xs2, es2, spTie K, rfl, (Tl.Same.stay e1).tup hx2, held2, Paired.mapP hr2 fun _ _ z => row_st e1 z, ?_, ?_, fun X2 e2 => q X2 (e1.trans e2)⟩
  · rw [he2]
    exact ok.roles.1
  · have := congrArg List.length he2
    rw [List.length_map, List.length_map] at this
    rw [this]
    have := ok.roles.2.2
    omega
theorem cCheckWorld (T : Txt K mg) : Cal P w K mg base 7 "check_world" (fun vs H Q _ => ∃ (v : V) (W : Wd), vs = [v] ∧ IsWd K H v W ∧ WOk W ∧ ∀ H', L2.Same H H' → Q .non H') [] := by
  refine cal_of T.checkWorld scCheckWorld (fun _ _ _ _ _ _ us hl => match us, hl with | [_], _ => rfl) (fun vs H Q E h => ?_) (fun f cdv A outer s H vs Q E hr h => ?_)
  · obtain ⟨v, W, rfl, _⟩ := h
    rfl
  obtain ⟨v, W, rfl, hW, ok, q⟩ := h
  refine ⟨_, (pss_one (ps_if (pt_not (pt_val (pe_c (cIsWorld T) hr (by decide) rfl (pa_cons (pv 0) pa_nil))))
 (pss_one ps_never)
 pss_nil)), ?_⟩
  exact ⟨v, rfl, v, W, rfl, hW, ok, fun H' e => ⟨true, rfl, iteF (q H' e)⟩⟩
end
end K07
set_option Elab.async false
set_option linter.all false
set_option autoImplicit false
set_option maxRecDepth 100000
set_option maxHeartbeats 4000000
/-! a walk over a list or a tuple -/
namespace Tl
open PySem PySem.Spec PyProof.Rows L2
structure Facts (J : It) (xs : List V) (G : Hp) : Prop where
  go : ∀ i, i < xs.length → J.go i G
  stop : J.stop xs.length G
  yld : ∀ i x G', J.yld i G x G' → G' = G ∧ xs[i]? = some x
def Sq (K : PySem.W.Frag) (H : Hp) (a : Addr) (xs : List V) : Prop := SqL K H a xs ∨ SqT K H a xs
theorem Sq.off {K : PySem.W.Frag} {H H' : Hp} {a : Addr} {xs : List V} (k : ∀ o, H a = some o → H' a = some o) (h : Sq K H a xs) : Sq K H' a xs := by
  rcases h with h | h
  · exact .inl (seq_off k h)
  · refine .inr ?_
    rcases h with (h | ⟨o, h⟩) | h
    · exact .inl (.inl (k _ h))
    · exact .inl (.inr ⟨o, k _ h⟩)
    · exact .inr h
theorem Sq.same {K : PySem.W.Frag} {H H' : Hp} {a : Addr} {xs : List V} (e : L2.Same H H') (h : Sq K H a xs) : Sq K H' a xs := h.off fun o z => e a o z
def iSeq (K : PySem.W.Frag) (tl : TE) : TI := fun σ H R => tl σ H fun x H1 => ∃ a xs, x = .ref a ∧ Sq K H1 a xs ∧ ∀ J, (∀ G, L2.Same H1 G → Facts J xs G) → R J H1
theorem facts_l {K : PySem.W.Frag} {G : Hp} {a : Addr} {xs : List V} (h : SqL K G a xs) : Facts (Itl K a) xs G :=
  ⟨fun i hi => ⟨xs, xs[i], h, List.getElem?_eq_getElem hi⟩, ⟨xs, h, Nat.le_refl _⟩, fun i x G' ⟨e, y⟩ => ⟨e, y xs h⟩⟩
theorem facts_t {K : PySem.W.Frag} {G : Hp} {a : Addr} {xs : List V} (h : SqT K G a xs) : Facts (Itt K a) xs G :=
  ⟨fun i hi => ⟨xs, xs[i], h, List.getElem?_eq_getElem hi⟩, ⟨xs, h, Nat.le_refl _⟩, fun i x G' ⟨e, y⟩ => ⟨e, y xs h⟩⟩
section
variable {X : Cx} {tg : Expr} {K : PySem.W.Frag}
theorem pi_seq {l : Expr} {tl : TE} (hK : X.K = K) (hl : PE X l tl) : PI X tg l (iSeq K tl) := by
  subst hK
  refine ⟨fun pins s σ H R I h => ?_⟩
  refine thn (hl.run pins s σ H _ I h) fun v s1 ⟨x, H1, I1, r1, q1⟩ => ?_
  obtain ⟨a, xs, e, hq, q⟩ := q1
  subst e
  cases r1
  rcases hq with hq | hq
  · obtain ⟨its, rv, p, hz⟩ := I1.list hq
    refine wpAny_pyIter_list p.isList ?_
    refine ⟨s1.heap.objs.size, [s1.heap.objs.size], _, _, H1, rfl, I1.kept (t' := s1.toks) fun b o e => Heap.get?_push_of_some _ e, turn_list a _, ⟨_, Heap.get?_push_size _ rfl, rfl, rfl⟩, fun b hb => ?_, q _ fun G e => facts_l (e.seq hq)⟩
    have e : b = s1.heap.objs.size := by simpa using hb
    subst e
    exact I1.fpOk (Nat.le_refl _) (I1.hok.fresh (Nat.le_refl _))
  · obtain ⟨its, rv, p, hz⟩ := I1.tuple hq
    refine wpAny_pyIter_tuple (show s1.heap.IsTuple a its.toArray from p) ?_
    refine ⟨s1.heap.objs.size, [s1.heap.objs.size], _, _, H1, rfl, I1.kept (t' := s1.toks) fun b o e => Heap.get?_push_of_some _ e, turn_tuple a _, ⟨_, Heap.get?_push_size _ rfl, rfl, rfl⟩, fun b hb => ?_, q _ fun G e => facts_t ((Tl.Same.stay e).tup hq)⟩
    have e : b = s1.heap.objs.size := by simpa using hb
    subst e
    exact I1.fpOk (Nat.le_refl _) (I1.hok.fresh (Nat.le_refl _))
theorem cr_setIK {w : World} (hK : X.K = K) (hw : X.w = w) (calm : X.calm = true) : CallR X (.type "set") (rSetI K w) := by
  subst hK hw
  exact cr_setI calm
theorem op_sinK {w : World} (h : X.w = w) : OpR X (compareOp .In) (rSIn w) := by
  subst h
  exact or_sin
theorem op_snotinK {w : World} (h : X.w = w) : OpR X (compareOp .NotIn) (rSNotIn w) := by
  subst h
  exact or_snotin
end
end Tl
namespace K07
open PySem PySem.Spec PyProof.Rows L2 Tl
open C8 (Cal pe_c)
def Ints (K : PySem.W.Frag) (H : Hp) (v : V) (ns : List Int) : Prop := ∃ a, v = .ref a ∧ Sq K H a (ns.map V.int)
theorem seto_ext {w : World} {a : Addr} {S S' : Int → Bool} {n : Nat} (h : ∀ j, S j = S' j) : SetO w a S n = SetO w a S' n := by
  rw [show S = S' from funext h]
section
variable {P : Program} {w : World} {K : PySem.W.Frag} {mg : Str → Option Value} {base : Heap}
def spInBoth (K : PySem.W.Frag) : Sp := fun vs H Q _ => ∃ (u v : V) (ms ns : List Int), vs = [u, v] ∧ Ints K H u ms ∧ Ints K H v ns ∧ ms.length ≤ 100 ∧ ns.length ≤ 100 ∧
  ∀ (p : Addr) (H' : Hp), L2.Same H H' → H p = none → H' p = some (.lst ((ms.filter fun x => decide (x ∈ ns)).map V.int)) → Q (.ref p) H'
theorem cInBoth (T : Txt K mg) : Cal P w K mg base 1 "_in_both" (spInBoth K) [] := by
  refine cal_of T.inBoth scInBoth (fun _ _ _ _ _ _ us hl => match us, hl with | [_, _], _ => rfl) (fun vs H Q E h => ?_) (fun f cdv A outer s H vs Q E hr h => ?_)
  · obtain ⟨u, v, ms, ns, rfl, _⟩ := h
    rfl
  obtain ⟨u, v, ms, ns, rfl, hu, hv, lm, ln, q⟩ := h
  refine ⟨_, (pss_cons (ps_set (i := 2) scInBoth.nd rfl (.inr rfl) (pe_callTy (cr_setIK (K := K) (w := w) rfl rfl rfl) (by rfl) T.set (by decide +kernel) (pa_cons (pv 1) pa_nil)))
 (pss_one (ps_ret (pe_lc (own := [("x", 3)]) (by rfl) scInBoth.nd (pi_seq (K := K) rfl (pv 0)) (blkOk_by (own := [("x", 3)]) (N := ["first", "second", "among", "x"]) (sc := defScope sInBoth) (by decide +kernel)) (fun _ _ _ _ _ => (pg_name (i := 3) scInBoth.nd rfl (.inl rfl))) (fun _ _ _ _ _ => pts_one (pt_cmpR (op_sinK (w := w) rfl) (pv 3) (pv 2) rfl)) (fun _ _ _ _ _ => (pv 3)))))), ?_⟩
  obtain ⟨b, rfl, hb⟩ := hv
  obtain ⟨a, rfl, ha⟩ := hu
  refine ⟨.ref b, rfl, b, ns, rfl, hb, by omega, fun d c _ nd => ?_⟩
  have s1 := same_up (o := SetO w d (fun j => decide (j ∈ ns)) c) nd
  have gd : upd H d (SetO w d (fun j => decide (j ∈ ns)) c) d = _ := upd_same
  generalize upd H d (SetO w d (fun j => decide (j ∈ ns)) c) = G at s1 gd ⊢
  refine ⟨.ref a, rfl, a, ms.map V.int, rfl, ha.same s1, fun J fc D nD => ?_⟩
  refine lc_it (n := (ms.map V.int).length) (fun i X => L2.Same G X ∧ X D = some (.lst (((ms.take i).filter fun x => decide (x ∈ ns)).map V.int))) ⟨same_up nD, upd_same⟩
    (fun i X hi z => (fc X z.1).go i hi) (fun X z => (fc X z.1).stop) (fun i x X X' hi z y => ?_) (fun X z => ?_)
  · obtain ⟨sX, gX⟩ := z
    obtain ⟨rfl, hx⟩ := (fc X sX).yld i x X' y
    obtain ⟨m, hm, rfl⟩ : ∃ m, ms[i]? = some m ∧ x = V.int m := by
      rw [List.getElem?_map] at hx
      obtain ⟨m, h, e⟩ := Option.map_eq_some_iff.mp hx
      exact ⟨m, h, e.symm⟩
    have ht : ms.take (i + 1) = ms.take i ++ [m] := by rw [List.take_add_one, hm]; rfl
    refine ⟨rfl, .int m, rfl, .ref d, rfl, m, d, _, c, rfl, rfl, sX _ _ gd, _, rfl, ?_⟩
    refine ite2 (fun yes => ?_) (fun no => ?_)
    · refine ⟨.int m, rfl, _, gX, ?_, same_mut sX nD, ?_⟩
      · rw [List.length_map]
        refine Nat.lt_of_le_of_lt (Nat.le_trans (List.length_filter_le _ _) ?_) (show 100 < sizeLine by decide)
        rw [List.length_take]
        omega
      · rw [upd_same, ht, List.filter_append, List.map_append, List.filter_cons, if_pos yes]
        rfl
    · refine ⟨sX, ?_⟩
      rw [ht, List.filter_append, List.filter_cons, if_neg no, gX]
      simp
  · obtain ⟨sX, gX⟩ := z
    rw [List.length_map, List.take_of_length_le (Nat.le_refl _)] at gX
    exact q D X (s1.trans sX) (s1.free nD) gX
def spTied (K : PySem.W.Frag) : Sp := fun vs H Q _ => ∃ (t : Addr) (v : V) (es : List (Int × Int)) (ns : List Int), vs = [.ref t, v] ∧ Prs K H t es ∧ Ints K H v ns ∧ es.length ≤ 40 ∧ ns.length ≤ 100 ∧
  ∀ (p : Addr) (zs : List Int) (H' : Hp), L2.Same H H' → H p = none → zs.Pairwise (· < ·) → (∀ x, x ∈ zs ↔ (es.any fun e => decide (e.1 = x) && decide (e.2 ∈ ns)) = true) → H' p = some (.lst (zs.map V.int)) → Q (.ref p) H'
theorem cTiedInto (T : Txt K mg) : Cal P w K mg base 1 "_tied_into" (spTied K) [] := by
  refine cal_of T.tiedInto scTiedInto (fun _ _ _ _ _ _ us hl => match us, hl with | [_, _], _ => rfl) (fun vs H Q E h => ?_) (fun f cdv A outer s H vs Q E hr h => ?_)
  · obtain ⟨t, v, es, ns, rfl, _⟩ := h
    rfl
  obtain ⟨t, v, es, ns, rfl, ht, hv, le, ln, q⟩ := h
  refine ⟨_, (pss_cons (ps_set (i := 2) scTiedInto.nd rfl (.inr rfl) (pe_callTy (cr_setIK (K := K) (w := w) rfl rfl rfl) (by rfl) T.set (by decide +kernel) (pa_cons (pv 1) pa_nil)))
 (pss_one (ps_ret (pe_callB (cr_sortedSet rfl) (by rfl) T.sorted (by decide +kernel) (pa_cons (pe_set (own := [("x", 3), ("y", 4)]) (o0 := fun D => SetO w D (fun _ => false) 0) (add := rSAdd w) (by rfl) scTiedInto.nd (pi_tup (pv 0)) (blkOk_by (own := [("x", 3), ("y", 4)]) (N := ["ties", "things", "among", "x", "y"]) (sc := defScope sTiedInto) (by decide +kernel)) (fun _ _ => setO_new (setR_fresh w)) (fun Y _ h _ => by
    have h : Y.w = w := h
    rw [← h]
    exact mt_sadd) (fun _ _ _ _ _ => (pg_tupK (K := K) (n := 2) rfl rfl (pgs_cons (pg_name (i := 3) scTiedInto.nd rfl (.inl rfl)) (pgs_cons (pg_name (i := 4) scTiedInto.nd rfl (.inl rfl)) pgs_nil)))) (fun _ _ _ _ _ => pts_one (pt_cmpR (op_sinK (w := w) rfl) (pv 4) (pv 2) rfl)) (fun _ _ _ _ _ => (pv 3))) pa_nil))))), ?_⟩
  obtain ⟨b, rfl, hb⟩ := hv
  refine ⟨.ref b, rfl, b, ns, rfl, hb, by omega, fun d c _ nd => ?_⟩
  have s1 := same_up (o := SetO w d (fun j => decide (j ∈ ns)) c) nd
  have gd : upd H d (SetO w d (fun j => decide (j ∈ ns)) c) d = _ := upd_same
  generalize upd H d (SetO w d (fun j => decide (j ∈ ns)) c) = G at s1 gd ⊢
  obtain ⟨qs, hq1, hq2⟩ := prs_st (Tl.Same.stay s1) ht
  have lq := hq2.length
  refine ⟨.ref t, rfl, t, rfl, ⟨_, hq1⟩, fun D nD => ?_⟩
  refine set_it (o0 := fun D => SetO w D (fun _ => false) 0) (add := rSAdd w) (n := (qs.map V.ref).length) (fun i X => L2.Same G X ∧ ∃ n, n ≤ i ∧ X D = some (SetO w D (fun j => (es.take i).any fun e => decide (e.1 = j) && decide (e.2 ∈ ns)) n)) ⟨same_up nD, 0, Nat.le_refl _, upd_same⟩
    (fun i X hi z => (facts_t ((Tl.Same.stay z.1).tup hq1)).go i hi) (fun X z => (facts_t ((Tl.Same.stay z.1).tup hq1)).stop) (fun i x X X' hi z y => ?_) (fun X z => ?_)
  · obtain ⟨sX, n, hn, gX⟩ := z
    obtain ⟨rfl, hx⟩ := (facts_t ((Tl.Same.stay sX).tup hq1)).yld i x X' y
    obtain ⟨qa, hqa, rfl⟩ : ∃ m, qs[i]? = some m ∧ x = V.ref m := by
      rw [List.getElem?_map] at hx
      obtain ⟨m, h, e⟩ := Option.map_eq_some_iff.mp hx
      exact ⟨m, h, e.symm⟩
    obtain ⟨e, he, hpe⟩ := getP hq2 hqa
    have ht : es.take (i + 1) = es.take i ++ [e] := by rw [List.take_add_one, he]; rfl
    refine ⟨qa, _, rfl, (Tl.Same.stay sX).tup hpe, rfl, .int e.1, [.int e.2], rfl, .int e.2, [], rfl, rfl, rfl, .int e.2, rfl, .ref d, rfl, e.2, d, _, c, rfl, rfl, sX _ _ gd, _, rfl, ?_⟩
    refine ite2 (fun yes => ?_) (fun no => ?_)
    · refine ⟨.int e.1, rfl, D, e.1, _, n, rfl, rfl, gX, ?_, same_mut sX nD, ?_⟩
      · rw [List.length_map] at hi
        exact Nat.lt_of_lt_of_le (show n + 1 < 100 by omega) (by decide)
      · refine ⟨_, ?_, upd_same.trans (congrArg some (seto_ext fun j => ?_))⟩
        · split <;> omega
        · rw [ht, List.any_append, List.any_cons, List.any_nil, Bool.or_false, yes, Bool.and_true]
          congr 1
          exact decide_eq_decide.mpr ⟨fun h => h.symm, fun h => h.symm⟩
    · refine ⟨sX, n, by omega, gX.trans (congrArg some (seto_ext fun j => ?_))⟩
      rw [ht, List.any_append, List.any_cons, List.any_nil, Bool.or_false, Bool.eq_false_iff.mpr no, Bool.and_false, Bool.or_false]
  · obtain ⟨sX, n, hn, gX⟩ := z
    rw [List.length_map] at hn
    rw [List.length_map, List.take_of_length_le (show es.length ≤ qs.length by omega)] at gX
    refine ⟨D, _, n, rfl, gX, by omega, fun zs p asc mem _ np => ?_⟩
    have s3 := same_up (o := .lst (zs.map V.int)) np
    exact q p zs _ ((s1.trans sX).trans s3) ((s1.trans sX).free np) asc mem upd_same
end
end K07
set_option Elab.async false
set_option linter.all false
set_option autoImplicit false
set_option maxRecDepth 100000
set_option maxHeartbeats 4000000
namespace K07
open PySem PySem.Spec PyProof.Rows L2 Tl
open C8 (Cal pe_c)
/-! ### the program: what is in a concept -/
theorem lastP2 {α β : Type} {F : α → β → Prop} : ∀ {xs : List α} {c : β} {cs : List β}, Paired F xs (cs ++ [c]) → ∃ xs' y, xs = xs' ++ [y] ∧ Paired F xs' cs ∧ F y c
  | _, c, [], h => by
    cases h with
    | cons r t => cases t; exact ⟨[], _, rfl, .nil, r⟩
  | _, c, b :: cs, h => by
    cases h with
    | cons r t =>
      obtain ⟨xs', y, rfl, h1, h2⟩ := lastP2 (cs := cs) t
      exact ⟨_ :: xs', y, rfl, .cons r h1, h2⟩
def Run : List C → List C → List C → Prop
  | cs, [], r => cs = r
  | cs, .some t c :: ys, r => ∃ cs', cs = cs' ++ [c] ∧ Run (cs' ++ [.some t c]) ys r
  | cs, .and a b :: ys, r => ∃ cs', cs = cs' ++ [a] ++ [b] ∧ Run (cs' ++ [.and a b]) ys r
  | cs, x :: ys, r => Run (cs ++ [x]) ys r
theorem run_post : ∀ (c : C) (cs ys r : List C), Run (cs ++ [c]) ys r → Run cs (post c ++ ys) r
  | .all, _, _, _, h => h
  | .non, _, _, _, h => h
  | .word _, _, _, _, h => h
  | .some t c, cs, ys, r, h => by
    show Run cs ((post c ++ [.some t c]) ++ ys) r
    rw [List.append_assoc]
    exact run_post c cs _ r ⟨cs, rfl, h⟩
  | .and a b, cs, ys, r, h => by
    show Run cs ((post a ++ (post b ++ [.and a b])) ++ ys) r
    rw [List.append_assoc, List.append_assoc]
    exact run_post a cs _ r (run_post b _ _ r ⟨cs, rfl, h⟩)
theorem drop_at {α : Type} {l : List α} {i : Nat} {c : α} (h : l[i]? = some c) : l.drop i = c :: l.drop (i + 1) := by
  obtain ⟨hi, e⟩ := List.getElem?_eq_some_iff.mp h
  rw [List.drop_eq_getElem_cons hi, e]
section
variable {P : Program} {w : World} {K : PySem.W.Frag} {mg : Str → Option Value} {base : Heap}
def Stk (K : PySem.W.Frag) (W : Wd) (l : Addr) (X : Hp) (v : V) (c : C) : Prop := ∃ a, v = .ref a ∧ ((a ≠ l ∧ SqL K X a ((den W c).map V.int)) ∨ SqT K X a ((den W c).map V.int))
theorem stk_same {W : Wd} {l : Addr} {X X' : Hp} {v : V} {c : C} (s : L2.Same X X') (h : Stk K W l X v c) : Stk K W l X' v c := by
  obtain ⟨a, e, ⟨n, h⟩ | h⟩ := h
  · exact ⟨a, e, .inl ⟨n, s.seq h⟩⟩
  · exact ⟨a, e, .inr ((Tl.Same.stay s).tup h)⟩
theorem stk_mut {W : Wd} {l : Addr} {X : Hp} {v : V} {c : C} {o : HO} (m : Mut (X l)) (h : Stk K W l X v c) : Stk K W l (upd X l o) v c := by
  obtain ⟨a, e, ⟨n, h⟩ | h⟩ := h
  · exact ⟨a, e, .inl ⟨n, seq_off (fun o z => (upd_ne n).trans z) h⟩⟩
  · exact ⟨a, e, .inr ((stay_mut m).tup h)⟩
theorem Stk.ints {W : Wd} {l : Addr} {X : Hp} {v : V} {c : C} (h : Stk K W l X v c) : Ints K X v (den W c) := by
  obtain ⟨a, e, ⟨_, h⟩ | h⟩ := h
  · exact ⟨a, e, .inl h⟩
  · exact ⟨a, e, .inr h⟩
structure MI (K : PySem.W.Frag) (W : Wd) (G : Hp) (l p : Addr) (xs : List V) (ps : List C) (vs : List V) (cs : List C) (X : Hp) : Prop where
  g : L2.Same G X
  nl : G l = none
  pl : p ≠ l
  gp : X p = some (.lst xs)
  cn : Paired (Con K X) xs ps
  gl : X l = some (.lst vs)
  st : Paired (Stk K W l X) vs cs
theorem MI.same {W : Wd} {G : Hp} {l p : Addr} {xs : List V} {ps : List C} {vs : List V} {cs : List C} {X X' : Hp} (m : MI K W G l p xs ps vs cs X) (s : L2.Same X X') : MI K W G l p xs ps vs cs X' :=
  ⟨m.g.trans s, m.nl, m.pl, s _ _ m.gp, Paired.mapP m.cn fun _ _ z => z.st (Tl.Same.stay s), s _ _ m.gl, Paired.mapP m.st fun _ _ z => stk_same s z⟩
theorem MI.set {W : Wd} {G : Hp} {l p : Addr} {xs : List V} {ps : List C} {vs vs' : List V} {cs cs' : List C} {X : Hp} (m : MI K W G l p xs ps vs cs X) (h : Paired (Stk K W l X) vs' cs') : MI K W G l p xs ps vs' cs' (upd X l (.lst vs')) :=
  ⟨same_mut m.g m.nl, m.nl, m.pl, (upd_ne m.pl).trans m.gp, Paired.mapP m.cn fun _ _ z => z.st (stay_mut (by rw [m.gl]; trivial)), upd_same, Paired.mapP h fun _ _ z => stk_mut (by rw [m.gl]; trivial) z⟩
theorem MI.push {W : Wd} {G : Hp} {l p : Addr} {xs : List V} {ps : List C} {vs : List V} {cs : List C} {X X' : Hp} {y : V} {c : C} (m : MI K W G l p xs ps vs cs X) (s : L2.Same X X') (h : Stk K W l X' y c) : MI K W G l p xs ps (vs ++ [y]) (cs ++ [c]) (upd X' l (.lst (vs ++ [y]))) :=
  (m.same s).set (snoc (m.same s).st h)
def spMem (K : PySem.W.Frag) : Sp := fun vs H Q _ => ∃ (v u : V) (W : Wd) (c : C), vs = [v, u] ∧ IsWd K H v W ∧ WOk W ∧ Con K H u c ∧ Fit c ∧ nodes c ≤ 300 ∧
  ∀ (y : V) (H' : Hp), L2.Same H H' → Ints K H' y (den W c) → Q y H'
theorem cMembers (T : Txt K mg) : Cal P w K mg base 5 "_members" (spMem K) [] := by
  refine cal_of T.members scMembers (fun _ _ _ _ _ _ us hl => match us, hl with | [_, _], _ => rfl) (fun vs H Q E h => ?_) (fun f cdv A outer s H vs Q E hr h => ?_)
  · obtain ⟨v, u, W, c, rfl, _⟩ := h
    rfl
  obtain ⟨v, u, W, c0, rfl, hW, ok, hc, fit, few, q⟩ := h
  have hu := hu_of hr
  refine ⟨_, (pss_cons (ps_asg (pv 0) (pg_tup rfl (pgs_cons (pg_name (i := 2) scMembers.nd rfl (.inl rfl)) (pgs_cons (pg_name (i := 3) scMembers.nd rfl (.inl rfl)) (pgs_cons (pg_name (i := 4) scMembers.nd rfl (.inl rfl)) pgs_nil)))))
 (pss_cons (ps_set (i := 5) scMembers.nd rfl (.inl rfl) (pe_callTy (cr_dctT rfl) (by rfl) T.dict (by decide +kernel) (pa_cons (pv 3) pa_nil)))
 (pss_cons (ps_set (i := 6) scMembers.nd rfl (.inl rfl) (pe_callTy (cr_dctT rfl) (by rfl) T.dict (by decide +kernel) (pa_cons (pv 4) pa_nil)))
 (pss_cons (ps_set (i := 7) scMembers.nd rfl (.inl rfl) (pe_lst pa_nil))
 (pss_cons (ps_for PassesOwn.never rfl (pi_list (pe_c (cBottomUp T) hr (by decide) rfl (pa_cons (pv 1) pa_nil))) (pg_name (i := 8) scMembers.nd rfl (.inl rfl))
 (pss_one (ps_if (pt_cmpR op_eq (pe_ix ix_tup (pv 8) pe_int (fun _ _ => rfl)) pe_str (nomark _))
 (pss_one (ps_expr (pe_bm PySem.F.plainAttrs_list PySem.F.slot_list_append PySem.F.type_list_append mt_append (pv 7) (pa_cons (pe_listRg rfl rfl T.list (prg_1 rfl T.range (pv 2))) pa_nil))))
 (pss_one (ps_if (pt_cmpR op_eq (pe_ix ix_tup (pv 8) pe_int (fun _ _ => rfl)) pe_str (nomark _))
 (pss_one (ps_expr (pe_bm PySem.F.plainAttrs_list PySem.F.slot_list_append PySem.F.type_list_append mt_append (pv 7) (pa_cons (pe_tup pa_nil) pa_nil))))
 (pss_one (ps_if (pt_cmpR op_eq (pe_ix ix_tup (pv 8) pe_int (fun _ _ => rfl)) pe_str (nomark _))
 (pss_one (ps_expr (pe_bm PySem.F.plainAttrs_list PySem.F.slot_list_append PySem.F.type_list_append mt_append (pv 7) (pa_cons (pe_dget2 hu (pv 5) (pe_ix ix_tup (pv 8) pe_int (fun _ _ => rfl)) (pe_tup pa_nil) ⟨rfl, rfl, rfl, rfl⟩) pa_nil))))
 (pss_one (ps_if (pt_cmpR op_eq (pe_ix ix_tup (pv 8) pe_int (fun _ _ => rfl)) pe_str (nomark _))
 (pss_cons (ps_set (i := 9) scMembers.nd rfl (.inl rfl) (pe_bm0 PySem.F.plainAttrs_list PySem.F.slot_list_pop PySem.F.type_list_pop mt_pop (pv 7)))
 (pss_one (ps_expr (pe_bm PySem.F.plainAttrs_list PySem.F.slot_list_append PySem.F.type_list_append mt_append (pv 7) (pa_cons (pe_c (cInBoth T) hr (by decide) rfl (pa_cons (pe_bm0 PySem.F.plainAttrs_list PySem.F.slot_list_pop PySem.F.type_list_pop mt_pop (pv 7)) (pa_cons (pv 9) pa_nil))) pa_nil)))))
 (pss_one (ps_expr (pe_bm PySem.F.plainAttrs_list PySem.F.slot_list_append PySem.F.type_list_append mt_append (pv 7) (pa_cons (pe_c (cTiedInto T) hr (by decide) rfl (pa_cons (pe_dget2 hu (pv 6) (pe_ix ix_tup (pv 8) pe_int (fun _ _ => rfl)) (pe_tup pa_nil) ⟨rfl, rfl, rfl, rfl⟩) (pa_cons (pe_bm0 PySem.F.plainAttrs_list PySem.F.slot_list_pop PySem.F.type_list_pop mt_pop (pv 7)) pa_nil))) pa_nil)))))))))))))
 (pss_one (ps_ret (pe_bm0 PySem.F.plainAttrs_list PySem.F.slot_list_pop PySem.F.type_list_pop mt_pop (pv 7))))))))), ?_⟩
  obtain ⟨wa, na, ra, rfl, hw, hN, hR⟩ := hW
  have okm := ok.many
  refine ⟨.ref wa, rfl, wa, _, rfl, hw, rfl, .int W.many, _, rfl, .ref na, _, rfl, .ref ra, [], rfl, rfl, ?_⟩
  -- the two dicts
  obtain ⟨ps1, ⟨o1, fz1, no1⟩, hps1⟩ := hN
  obtain ⟨kvs1, hk1, hk1'⟩ := ent_of_names hps1
  refine ⟨.ref na, rfl, na, o1, ps1, kvs1, rfl, fz1, no1, hk1, fun d1 nd1 => ?_⟩
  rw [merged_ent hk1' ok.names.1]
  have s1 := same_up (o := .dK kvs1) nd1
  obtain ⟨ps2, ⟨o2, fz2, no2⟩, hps2⟩ := roles_st (Tl.Same.stay s1) hR
  obtain ⟨kvs2, hk2, hk2'⟩ := ent_of_roles hps2
  refine ⟨.ref ra, rfl, ra, o2, ps2, kvs2, rfl, fz2, no2, hk2, fun d2 nd2 => ?_⟩
  rw [merged_ent hk2' ok.roles.1]
  have s2 := same_add s1 (o := .dK kvs2) nd2
  have gd1 : (upd (upd H d1 (.dK kvs1)) d2 (.dK kvs2)) d1 = some (.dK kvs1) := (same_up nd2) _ _ upd_same
  have gd2 : (upd (upd H d1 (.dK kvs1)) d2 (.dK kvs2)) d2 = some (.dK kvs2) := upd_same
  have kn : Paired (Ent fun t xs => SqT K (upd (upd H d1 (.dK kvs1)) d2 (.dK kvs2)) t (xs.map V.int)) kvs1 W.names := Paired.mapP hk1' fun _ _ z => by
    obtain ⟨e, t, e2, h⟩ := z
    exact ⟨e, t, e2, (Tl.Same.stay s2).tup h⟩
  have kr : Paired (Ent fun t xs => Prs K (upd (upd H d1 (.dK kvs1)) d2 (.dK kvs2)) t xs) kvs2 W.roles := Paired.mapP hk2' fun _ _ z => by
    obtain ⟨e, t, e2, h⟩ := z
    exact ⟨e, t, e2, prs_st (stay_new nd2) h⟩
  generalize hG : upd (upd H d1 (HO.dK kvs1)) d2 (HO.dK kvs2) = G at s2 gd1 gd2 kn kr ⊢
  -- the stack
  refine ⟨Nat.zero_le _, fun l nl => ?_⟩
  have s3 := same_up (o := .lst []) nl
  refine ⟨u, rfl, u, c0, rfl, hc.st (Tl.Same.stay (s2.trans s3)), fit, few, fun p xs X0 s4 np gp hp => ⟨p, rfl, ⟨_, lst_of gp⟩, ?_⟩⟩
  have pl : p ≠ l := fun z => by subst z; rw [upd_same] at np; cases np
  have len : xs.length ≤ 300 := by rw [hp.length, post_len]; exact few
  refine for_list (K := K) (a := p) (xs := xs) (fun i σ X => ∃ (vs : List V) (cs : List C) (t8 t9 : Option V), σ = [some (.ref wa), some u, some (.int W.many), some (.ref na), some (.ref ra), some (.ref d1), some (.ref d2), some (.ref l), t8, t9] ∧
      MI K W G l p xs (post c0) vs cs X ∧ Run cs ((post c0).drop i) [c0] ∧ vs.length ≤ i)
    ⟨[], [], none, none, rfl, ⟨s3.trans s4, nl, pl, gp, hp, s4 _ _ upd_same, .nil⟩, by
      have := run_post c0 [] [] [c0] rfl
      rw [List.append_nil] at this
      exact this, Nat.le_refl _⟩ (fun i σ X _ z => ?_) (fun i x σ X hx z => ?_) (fun σ X z => ?_)
  · obtain ⟨vs, cs, t8, t9, rfl, mi, _, _⟩ := z
    exact lst_of mi.gp
  · obtain ⟨vs, cs, t8, t9, rfl, mi, run, lv⟩ := z
    obtain ⟨c, hci, hcx⟩ := getP mi.cn hx
    rw [drop_at hci] at run
    have li : i < xs.length := (List.getElem?_eq_some_iff.mp hx).1
    have small : vs.length < sizeLine := Nat.lt_of_lt_of_le (show vs.length < 400 by omega) (by decide)
    obtain ⟨ca, cxs, rfl, hca⟩ := con_ref hcx
    cases c with
    | all =>
      obtain ⟨b, e, hb⟩ := con_all hcx
      cases e
      refine ⟨.ref ca, rfl, ca, _, 0, _, rfl, rfl, hb, atI_nat (j := 0) rfl, rfl, _, rfl, ?_⟩
      rw [seq]
      refine iteT ⟨.ref l, rfl, .inl ⟨rfl, _, lst_of mi.gl⟩, .int W.many, rfl, W.many, rfl, RgOk.of_le (by omega) (by omega) (by omega) (by omega), fun t nt => ?_⟩
      have st := same_up (o := .lst (rgV 0 W.many)) nt
      refine ⟨l, vs, .ref t, rfl, rfl, st _ _ mi.gl, small, vs ++ [.ref t], cs ++ [.all], _, _, rfl, mi.push st ⟨t, rfl, .inl ⟨fun z => ?_, lst_of ?_⟩⟩, run, by rw [List.length_append]; show vs.length + 1 ≤ i + 1; omega⟩
      · rw [z, mi.gl] at nt
        cases nt
      · rw [upd_same, rgV_eq]
        rfl
    | non =>
      obtain ⟨b, e, hb⟩ := con_non hcx
      cases e
      refine ⟨.ref ca, rfl, ca, _, 0, _, rfl, rfl, hb, atI_nat (j := 0) rfl, rfl, _, rfl, ?_⟩
      rw [sne t_na]
      refine iteF ⟨.ref ca, rfl, ca, _, 0, _, rfl, rfl, hb, atI_nat (j := 0) rfl, rfl, _, rfl, ?_⟩
      rw [seq]
      refine iteT ⟨.ref l, rfl, .inl ⟨rfl, _, lst_of mi.gl⟩, Nat.zero_le _, fun t nt => ?_⟩
      have st := same_up (o := .tup []) nt
      refine ⟨l, vs, .ref t, rfl, rfl, st _ _ mi.gl, small, vs ++ [.ref t], cs ++ [.non], _, _, rfl, mi.push st ⟨t, rfl, .inr (tupOf upd_same)⟩, run, by rw [List.length_append]; show vs.length + 1 ≤ i + 1; omega⟩
    | word y =>
      obtain ⟨b, e, hb⟩ := con_word hcx
      cases e
      refine ⟨.ref ca, rfl, ca, _, 0, _, rfl, rfl, hb, atI_nat (j := 0) rfl, rfl, _, rfl, ?_⟩
      rw [sne t_wa]
      refine iteF ⟨.ref ca, rfl, ca, _, 0, _, rfl, rfl, hb, atI_nat (j := 0) rfl, rfl, _, rfl, ?_⟩
      rw [sne t_wn]
      refine iteF ⟨.ref ca, rfl, ca, _, 0, _, rfl, rfl, hb, atI_nat (j := 0) rfl, rfl, _, rfl, ?_⟩
      rw [seq]
      refine iteT ⟨.ref l, rfl, .inl ⟨rfl, _, lst_of mi.gl⟩, .ref d1, rfl, d1, rfl, .inl ⟨kvs1, .inl (mi.g _ _ gd1)⟩, .ref ca, rfl, ca, _, 1, .str y, rfl, rfl, hb, atI_nat (j := 1) rfl, Nat.zero_le _, fun z nz => ?_⟩
      have st := same_up (o := .tup []) nz
      have gd : (upd X z (.tup [])) d1 = some (.dK kvs1) := st _ _ (mi.g _ _ gd1)
      obtain ⟨t, ev, ht⟩ : ∃ t, (valV kvs1 (.inr y)).getD (.ref z) = .ref t ∧ SqT K (upd X z (.tup [])) t ((den W (.word y)).map V.int) := by
        show ∃ t, _ ∧ SqT K _ t ((lookN W y).map V.int)
        unfold lookN
        rcases ent_look kn y with ⟨e1, e2⟩ | ⟨t, xs, e1, e2, ht⟩
        · rw [e1, e2]
          exact ⟨z, rfl, tupOf upd_same⟩
        · rw [e1, e2]
          exact ⟨t, rfl, (Tl.Same.stay (mi.g.trans st)).tup ht⟩
      refine ⟨_, DGet.k (k := .inr y) gd, l, vs, _, rfl, rfl, st _ _ mi.gl, small, vs ++ [_], cs ++ [.word y], _, _, rfl, mi.push (c := .word y) st ⟨t, ev, .inr ht⟩, run, by rw [List.length_append]; show vs.length + 1 ≤ i + 1; omega⟩
    | and a1 a2 =>
      obtain ⟨b, u1, u2, e, hb, h1, h2⟩ := con_and hcx
      cases e
      refine ⟨.ref ca, rfl, ca, _, 0, _, rfl, rfl, hb, atI_nat (j := 0) rfl, rfl, _, rfl, ?_⟩
      rw [sne t_da]
      refine iteF ⟨.ref ca, rfl, ca, _, 0, _, rfl, rfl, hb, atI_nat (j := 0) rfl, rfl, _, rfl, ?_⟩
      rw [sne t_dn]
      refine iteF ⟨.ref ca, rfl, ca, _, 0, _, rfl, rfl, hb, atI_nat (j := 0) rfl, rfl, _, rfl, ?_⟩
      rw [sne t_dw]
      refine iteF ⟨.ref ca, rfl, ca, _, 0, _, rfl, rfl, hb, atI_nat (j := 0) rfl, rfl, _, rfl, ?_⟩
      rw [seq]
      obtain ⟨cs', rfl, run⟩ := run
      obtain ⟨vs1, y2, rfl, st1, hy2⟩ := lastP2 mi.st
      refine iteT ⟨.ref l, rfl, .inl ⟨rfl, _, lst_of mi.gl⟩, l, _, y2, rfl, rfl, mi.gl, by simp, ?_⟩
      rw [List.dropLast_concat]
      have m1 := mi.set st1
      have hy2' := stk_mut (o := .lst vs1) (show Mut (X l) by rw [mi.gl]; trivial) hy2
      generalize upd X l (HO.lst vs1) = X1 at m1 hy2' ⊢
      obtain ⟨vs2, y1, rfl, st2, hy1⟩ := lastP2 m1.st
      refine ⟨.ref l, rfl, .inl ⟨rfl, _, lst_of m1.gl⟩, .ref l, rfl, .inl ⟨rfl, _, lst_of m1.gl⟩, l, _, y1, rfl, rfl, m1.gl, by simp, ?_⟩
      rw [List.dropLast_concat]
      have m2 := m1.set st2
      have hy2'' := stk_mut (o := .lst vs2) (show Mut (X1 l) by rw [m1.gl]; trivial) hy2'
      have hy1' := stk_mut (o := .lst vs2) (show Mut (X1 l) by rw [m1.gl]; trivial) hy1
      generalize upd X1 l (HO.lst vs2) = X2 at m2 hy2'' hy1' ⊢
      refine ⟨y2, rfl, y1, y2, den W a1, den W a2, rfl, hy1'.ints, hy2''.ints, by have := den_len ok a1; omega, by have := den_len ok a2; omega, fun p' X3 s np gp => ?_⟩
      rw [List.length_append, List.length_append] at lv small
      have lv' : vs2.length + 1 + 1 ≤ i := lv
      refine ⟨l, vs2, .ref p', rfl, rfl, s _ _ m2.gl, by omega, vs2 ++ [.ref p'], cs' ++ [.and a1 a2], _, _, rfl, m2.push (c := .and a1 a2) s ⟨p', rfl, .inl ⟨fun z => ?_, lst_of gp⟩⟩, run, by rw [List.length_append]; show vs2.length + 1 ≤ i + 1; omega⟩
      rw [z, m2.gl] at np
      cases np
    | some r c2 =>
      obtain ⟨b, u2, e, hb, h2⟩ := con_some hcx
      cases e
      refine ⟨.ref ca, rfl, ca, _, 0, _, rfl, rfl, hb, atI_nat (j := 0) rfl, rfl, _, rfl, ?_⟩
      rw [sne t_sa]
      refine iteF ⟨.ref ca, rfl, ca, _, 0, _, rfl, rfl, hb, atI_nat (j := 0) rfl, rfl, _, rfl, ?_⟩
      rw [sne t_sn]
      refine iteF ⟨.ref ca, rfl, ca, _, 0, _, rfl, rfl, hb, atI_nat (j := 0) rfl, rfl, _, rfl, ?_⟩
      rw [sne t_sw]
      refine iteF ⟨.ref ca, rfl, ca, _, 0, _, rfl, rfl, hb, atI_nat (j := 0) rfl, rfl, _, rfl, ?_⟩
      rw [sne t_sd]
      obtain ⟨cs', rfl, run⟩ := run
      obtain ⟨vs1, y, rfl, st1, hy⟩ := lastP2 mi.st
      refine iteF ⟨.ref l, rfl, .inl ⟨rfl, _, lst_of mi.gl⟩, .ref d2, rfl, d2, rfl, .inl ⟨kvs2, .inl (mi.g _ _ gd2)⟩, .ref ca, rfl, ca, _, 1, .str r, rfl, rfl, hb, atI_nat (j := 1) rfl, Nat.zero_le _, fun z nz => ?_⟩
      have st := same_up (o := .tup []) nz
      have gd : (upd X z (.tup [])) d2 = some (.dK kvs2) := st _ _ (mi.g _ _ gd2)
      obtain ⟨t, ev, ht⟩ : ∃ t, (valV kvs2 (.inr r)).getD (.ref z) = .ref t ∧ Prs K (upd X z (.tup [])) t (lookR W r) := by
        unfold lookR
        rcases ent_look kr r with ⟨e1, e2⟩ | ⟨t, xs, e1, e2, ht⟩
        · rw [e1, e2]
          exact ⟨z, rfl, [], tupOf upd_same, .nil⟩
        · rw [e1, e2]
          exact ⟨t, rfl, prs_st (Tl.Same.stay (mi.g.trans st)) ht⟩
      have m0 := mi.same st
      have hy0 := stk_same st hy
      generalize upd X z (HO.tup []) = X0' at st gd ht m0 hy0 ⊢
      refine ⟨_, DGet.k (k := .inr r) gd, .ref l, rfl, .inl ⟨rfl, _, lst_of m0.gl⟩, l, _, y, rfl, rfl, m0.gl, by simp, ?_⟩
      rw [List.dropLast_concat]
      obtain ⟨w1, w2, e12, st1', _⟩ := lastP2 m0.st
      have ew := List.append_inj' e12 rfl
      rw [← ew.1] at st1'
      have m1 := m0.set st1'
      have hy1 := stk_mut (o := .lst vs1) (show Mut (X0' l) by rw [m0.gl]; trivial) hy0
      have ht1 := prs_st (stay_mut (o := .lst vs1) (show Mut (X0' l) by rw [m0.gl]; trivial)) ht
      generalize upd X0' l (HO.lst vs1) = X2 at m1 hy1 ht1 ⊢
      have good := lookR_good ok r
      have few' := lex_len (by omega) okm.2 good.1 good.2
      refine ⟨t, y, lookR W r, den W c2, by rw [ev]; rfl, ht1, hy1.ints, by omega, by have := den_len ok c2; omega, fun p' zs X3 s np asc mem gp => ?_⟩
      rw [List.length_append] at lv small
      have lv' : vs1.length + 1 ≤ i := lv
      have ez : zs = den W (.some r c2) := by
        refine asc_eq _ _ asc (den_good ok _).1 fun x => ?_
        rw [mem x]
        show _ ↔ x ∈ (rgI W.many).filter fun x => (lookR W r).any fun e => decide (e.1 = x) && decide (e.2 ∈ den W c2)
        rw [List.mem_filter, mem_rgI]
        constructor
        · intro h
          refine ⟨?_, h⟩
          obtain ⟨e, he, h⟩ := List.any_eq_true.mp h
          rw [Bool.and_eq_true, decide_eq_true_eq] at h
          rw [← h.1]
          exact (good.2 e he).1
        · exact fun h => h.2
      subst ez
      refine ⟨l, vs1, .ref p', rfl, rfl, s _ _ m1.gl, by omega, vs1 ++ [.ref p'], cs' ++ [.some r c2], _, _, rfl, m1.push (c := .some r c2) s ⟨p', rfl, .inl ⟨fun z => ?_, lst_of gp⟩⟩, run, by rw [List.length_append]; show vs1.length + 1 ≤ i + 1; omega⟩
      rw [z, m1.gl] at np
      cases np
  · obtain ⟨vs, cs, t8, t9, rfl, mi, run, lv⟩ := z
    rw [List.drop_of_length_le (by rw [post_len, ← post_len c0, ← hp.length]; exact Nat.le_refl _)] at run
    obtain rfl : cs = [c0] := run
    obtain ⟨vs1, y, rfl, st1, hy⟩ := lastP2 (cs := []) mi.st
    cases st1
    refine ⟨.ref l, rfl, .inl ⟨rfl, _, lst_of mi.gl⟩, l, _, y, rfl, rfl, mi.gl, by simp, ?_⟩
    exact q y _ (s2.trans (same_mut mi.g mi.nl)) (stk_mut (show Mut (X l) by rw [mi.gl]; trivial) hy).ints
end
end K07
set_option Elab.async false
set_option linter.all false
set_option autoImplicit false
set_option maxRecDepth 100000
set_option maxHeartbeats 4000000
namespace K07
open PySem PySem.Spec PyProof.Rows L2 Tl
open C8 (Cal pe_c)
/-- what stands outside -/
def outs (W : Wd) (a b : C) : List Int := (den W a).filter fun x => !decide (x ∈ den W b)
/-- a concept that is right and small, as a value -/
structure Arg (K : PySem.W.Frag) (H : Hp) (u : V) (c : C) : Prop where
  con : Con K H u c
  fit : Fit c
  few : nodes c ≤ 300
theorem Arg.st {K : PySem.W.Frag} {H H' : Hp} {u : V} {c : C} (a : Arg K H u c) (s : Stay H H') : Arg K H' u c := ⟨a.con.st s, a.fit, a.few⟩
theorem Arg.same {K : PySem.W.Frag} {H H' : Hp} {u : V} {c : C} (a : Arg K H u c) (s : L2.Same H H') : Arg K H' u c := a.st (Tl.Same.stay s)
section
variable {P : Program} {w : World} {K : PySem.W.Frag} {mg : Str → Option Value} {base : Heap}
def spLO (K : PySem.W.Frag) : Sp := fun vs H Q _ => ∃ (v u1 u2 : V) (W : Wd) (c1 c2 : C), vs = [v, u1, u2] ∧ IsWd K H v W ∧ WOk W ∧ Arg K H u1 c1 ∧ Arg K H u2 c2 ∧
  ∀ (y : V) (H' : Hp), L2.Same H H' → ((outs W c1 c2 = [] ∧ y = .non) ∨ ∃ z zs, outs W c1 c2 = z :: zs ∧ y = .int z) → Q y H'
theorem cLeastOutside (T : Txt K mg) : Cal P w K mg base 6 "_least_outside" (spLO K) [] := by
  refine cal_of T.leastOutside scLeastOutside (fun _ _ _ _ _ _ us hl => match us, hl with | [_, _, _], _ => rfl) (fun vs H Q E h => ?_) (fun f cdv A outer s H vs Q E hr h => ?_)
  · obtain ⟨v, u1, u2, W, c1, c2, rfl, _⟩ := h
    rfl
  obtain ⟨v, u1, u2, W, c1, c2, rfl, hW, ok, a1, a2, q⟩ := h
  refine ⟨_, (pss_cons (ps_set (i := 3) scLeastOutside.nd rfl (.inr rfl) (pe_callTy (cr_setIK (K := K) (w := w) rfl rfl rfl) (by rfl) T.set (by decide +kernel) (pa_cons (pe_c (cMembers T) hr (by decide) rfl (pa_cons (pv 0) (pa_cons (pv 2) pa_nil))) pa_nil)))
 (pss_cons (ps_setLc (i := 4) (own := [("x", 5)]) (by rfl) scLeastOutside.nd rfl rfl (sw_true rfl rfl rfl (by decide +kernel)) (pi_seq (K := K) rfl (pe_c (cMembers T) hr (by decide) rfl (pa_cons (pv 0) (pa_cons (pv 1) pa_nil)))) (blkOk_by (own := [("x", 5)]) (N := ["world", "left", "right", "among", "outside", "x"]) (sc := defScope sLeastOutside) (by decide +kernel)) (fun _ _ _ _ _ => (pg_name (i := 5) scLeastOutside.nd rfl (.inl rfl))) (fun _ _ _ _ _ => pts_one (pt_cmpR (op_snotinK (w := w) rfl) (pv 5) (pv 3) rfl)) (fun _ _ _ _ _ => (pv 5)))
 (pss_one (ps_ret (pe_ifExp (pt_truth (pv 4) (fun _ => rfl)) (pe_ix ix_list (pv 4) pe_int (fun _ _ => rfl)) pe_non))))), ?_⟩
  refine ⟨v, rfl, u2, rfl, v, u2, W, c2, rfl, hW, ok, a2.con, a2.fit, a2.few, fun y1 X1 s1 hy1 => ?_⟩
  obtain ⟨b, rfl, hb⟩ := hy1
  refine ⟨b, den W c2, rfl, hb, by have := den_len ok c2; omega, fun d c _ nd => ?_⟩
  have s2 := same_up (o := SetO w d (fun j => decide (j ∈ den W c2)) c) nd
  have gd : upd X1 d (SetO w d (fun j => decide (j ∈ den W c2)) c) d = _ := upd_same
  generalize upd X1 d (SetO w d (fun j => decide (j ∈ den W c2)) c) = G at s2 gd ⊢
  refine ⟨v, rfl, u1, rfl, v, u1, W, c1, rfl, iswd_st (Tl.Same.stay (s1.trans s2)) hW, ok, (a1.same (s1.trans s2)).con, a1.fit, a1.few, fun y2 X2 s3 hy2 => ?_⟩
  obtain ⟨a, rfl, ha⟩ := hy2
  have gd2 := s3 _ _ gd
  refine ⟨a, (den W c1).map V.int, rfl, ha, fun J fc D nD => ?_⟩
  have lm := den_len ok c1
  refine lc_it (n := ((den W c1).map V.int).length) (fun i X => L2.Same X2 X ∧ X D = some (.lst ((((den W c1).take i).filter fun x => !decide (x ∈ den W c2)).map V.int))) ⟨same_up nD, upd_same⟩
    (fun i X hi z => (fc X z.1).go i hi) (fun X z => (fc X z.1).stop) (fun i x X X' hi z y => ?_) (fun X z => ?_)
  · obtain ⟨sX, gX⟩ := z
    obtain ⟨rfl, hx⟩ := (fc X sX).yld i x X' y
    obtain ⟨m, hm, rfl⟩ : ∃ m, (den W c1)[i]? = some m ∧ x = V.int m := by
      rw [List.getElem?_map] at hx
      obtain ⟨m, h, e⟩ := Option.map_eq_some_iff.mp hx
      exact ⟨m, h, e.symm⟩
    have ht : (den W c1).take (i + 1) = (den W c1).take i ++ [m] := by rw [List.take_add_one, hm]; rfl
    refine ⟨rfl, .int m, rfl, .ref d, rfl, m, d, _, c, rfl, rfl, sX _ _ gd2, _, rfl, ?_⟩
    refine ite2 (fun yes => ?_) (fun no => ?_)
    · refine ⟨.int m, rfl, _, gX, ?_, same_mut sX nD, ?_⟩
      · rw [List.length_map]
        refine Nat.lt_of_le_of_lt (Nat.le_trans (List.length_filter_le _ _) ?_) (show 100 < sizeLine by decide)
        rw [List.length_take]
        omega
      · rw [upd_same, ht, List.filter_append, List.map_append, List.filter_cons, if_pos yes]
        rfl
    · refine ⟨sX, ?_⟩
      rw [ht, List.filter_append, List.filter_cons, if_neg no, gX]
      simp
  · obtain ⟨sX, gX⟩ := z
    rw [List.length_map, List.take_of_length_le (Nat.le_refl _)] at gX
    have gX : X D = some (.lst ((outs W c1 c2).map V.int)) := gX
    have sA := ((s1.trans s2).trans s3).trans sX
    refine ⟨.ref D, rfl, _, .inl ⟨_, lst_of gX, rfl⟩, ?_⟩
    cases ho : outs W c1 c2 with
    | nil =>
      exact iteF (q .non X sA (.inl ⟨ho, rfl⟩))
    | cons z zs =>
      rw [ho] at gX
      refine iteT ⟨.ref D, rfl, D, _, 0, .int z, rfl, rfl, lst_of gX, atI_nat (j := 0) rfl, q (.int z) X sA (.inr ⟨z, zs, ho, rfl⟩)⟩
def spHolds (K : PySem.W.Frag) : Sp := fun vs H Q _ => ∃ (v u1 u2 : V) (W : Wd) (c1 c2 : C), vs = [v, u1, u2] ∧ IsWd K H v W ∧ WOk W ∧ Arg K H u1 c1 ∧ Arg K H u2 c2 ∧
  ∀ (H' : Hp), L2.Same H H' → Q (.bl (outs W c1 c2).isEmpty) H'
theorem fDoesHold (T : Txt K mg) : CalF P w K mg base 8 "does_hold_in" sDoesHoldIn ["world", "left", "right"] (spHolds K) := by
  refine calF_of T.doesHoldIn scDoesHoldIn (fun vs H Q E h => ?_) (fun f cdv A outer s H vs Q E hr h => ?_)
  · obtain ⟨v, u1, u2, W, c1, c2, rfl, _⟩ := h
    rfl
  obtain ⟨v, u1, u2, W, c1, c2, rfl, hW, ok, a1, a2, q⟩ := h
  refine ⟨_, (pss_cons (ps_expr (pe_c (cCheckWorld T) hr (by decide) rfl (pa_cons (pv 0) pa_nil)))
 (pss_cons (ps_expr (pe_c (cCheckConcept T) hr (by decide) rfl (pa_cons (pv 1) pa_nil)))
 (pss_cons (ps_expr (pe_c (cCheckConcept T) hr (by decide) rfl (pa_cons (pv 2) pa_nil)))
 (pss_one (ps_ret (pe_cmpR op_isN (pe_c (cLeastOutside T) hr (by decide) rfl (pa_cons (pv 0) (pa_cons (pv 1) (pa_cons (pv 2) pa_nil)))) pe_non (nomark _))))))), ?_⟩
  refine ⟨v, rfl, v, W, rfl, hW, ok, fun X1 s1 => ?_⟩
  refine ⟨u1, rfl, u1, c1, rfl, (a1.same s1).con, a1.fit, a1.few, fun X2 s2 => ?_⟩
  refine ⟨u2, rfl, u2, c2, rfl, (a2.same (s1.trans s2)).con, a2.fit, a2.few, fun X3 s3 => ?_⟩
  have sA := (s1.trans s2).trans s3
  refine ⟨v, rfl, u1, rfl, u2, rfl, v, u1, u2, W, c1, c2, rfl, iswd_st (Tl.Same.stay sA) hW, ok, a1.same sA, a2.same sA, fun y X4 s4 hy => ⟨rfl, ?_⟩⟩
  have e : decide (y = V.non) = (outs W c1 c2).isEmpty := by
    rcases hy with ⟨ho, rfl⟩ | ⟨z, zs, ho, rfl⟩
    · rw [ho]
      rfl
    · have h1 : decide (V.int z = V.non) = false := decide_eq_false fun e => nomatch e
      rw [h1, ho]
      rfl
  rw [e]
  exact q X4 (sA.trans s4)
theorem cDoesHold (T : Txt K mg) : Cal P w K mg base 8 "does_hold_in" (spHolds K) [] := (fDoesHold T).cal fun _ _ _ _ _ _ us hl => match us, hl with | [_, _, _], _ => rfl
end
end K07
set_option Elab.async false
set_option linter.all false
set_option autoImplicit false
set_option maxRecDepth 100000
set_option maxHeartbeats 4000000
namespace K07
open PySem PySem.Spec PyProof.Rows L2 Tl
open C8 (Cal pe_c)
/-! ### books -/
def Ax (K : PySem.W.Frag) (H : Hp) (x : V) (e : C × C) : Prop := ∃ p u w, x = .ref p ∧ SqT K H p [u, w] ∧ Arg K H u e.1 ∧ Arg K H w e.2
theorem ax_st {K : PySem.W.Frag} {H H' : Hp} {x : V} {e : C × C} (s : Stay H H') (h : Ax K H x e) : Ax K H' x e := by
  obtain ⟨p, u, w, rfl, h1, h2, h3⟩ := h
  exact ⟨p, u, w, rfl, s.tup h1, h2.st s, h3.st s⟩
def Bk (K : PySem.W.Frag) (H : Hp) (v : V) (bs : List (C × C)) : Prop := ∃ t xs, v = .ref t ∧ SqT K H t xs ∧ Paired (Ax K H) xs bs
theorem bk_st {K : PySem.W.Frag} {H H' : Hp} {v : V} {bs : List (C × C)} (s : Stay H H') (h : Bk K H v bs) : Bk K H' v bs := by
  obtain ⟨t, xs, rfl, h1, h2⟩ := h
  exact ⟨t, xs, rfl, s.tup h1, Paired.mapP h2 fun _ _ z => ax_st s z⟩
/-- the first axiom that does not hold, from the place j on -/
def jmFrom (W : Wd) : Nat → List (C × C) → PyData
  | _, [] => .tuple [.str "model"]
  | j, e :: bs => match outs W e.1 e.2 with
    | [] => jmFrom W (j + 1) bs
    | z :: _ => .tuple [.str "axiom", .int (j : Int), .int z]
section
variable {P : Program} {w : World} {K : PySem.W.Frag} {mg : Str → Option Value} {base : Heap}
def spBook (K : PySem.W.Frag) : Sp := fun vs H Q _ => ∃ (v : V) (bs : List (C × C)), vs = [v] ∧ Bk K H v bs ∧ ∀ H', L2.Same H H' → Q (.bl true) H'
theorem cIsBook (T : Txt K mg) : Cal P w K mg base 5 "is_book" (spBook K) [] := by
  refine cal_of T.isBook scIsBook (fun _ _ _ _ _ _ us hl => match us, hl with | [_], _ => rfl) (fun vs H Q E h => ?_) (fun f cdv A outer s H vs Q E hr h => ?_)
  · obtain ⟨v, bs, rfl, _⟩ := h
    rfl
  obtain ⟨v, bs, rfl, hb, q⟩ := h
  refine ⟨_, (pss_cons (ps_if (pt_not (pt_val (pe_callB call_isi (by rfl) T.isinstance (by decide +kernel) (pa_cons (pv 0) (pa_cons (pe_bltn (v := V.ty "tuple") (u := Value.type "tuple") (by rfl) T.tuple (by decide +kernel) rfl) pa_nil)))))
 (pss_one (ps_ret pe_bl))
 pss_nil)
 (pss_cons (ps_for PassesOwn.never rfl (pi_tup (pv 0)) (pg_name (i := 1) scIsBook.nd rfl (.inl rfl))
 (pss_one (ps_if (PW.pt (pw_or (pt_not (pt_val (pe_c (cIsPair T) hr (by decide) rfl (pa_cons (pv 1) pa_nil)))) (pw_or (pt_not (pt_val (pe_c (cIsConcept T) hr (by decide) rfl (pa_cons (pe_ix ix_tup (pv 1) pe_int (fun _ _ => rfl)) pa_nil)))) (pw_or1 (pt_not (pt_val (pe_c (cIsConcept T) hr (by decide) rfl (pa_cons (pe_ix ix_tup (pv 1) pe_int (fun _ _ => rfl)) pa_nil))))))))
 (pss_one (ps_ret pe_bl))
 pss_nil)))
 (pss_one (ps_ret pe_bl)))), ?_⟩
  obtain ⟨t, xs, rfl, ht, hp⟩ := hb
  refine ⟨.ref t, rfl, .ref t, .ty "tuple", .type "tuple", .type "tuple", true, rfl, .ty _, ty_tup ht, kit_ty (by decide +kernel), true, rfl, iteF ?_⟩
  refine ⟨.ref t, rfl, t, rfl, ⟨_, ht⟩, ?_⟩
  refine for_tup (K := K) (a := t) (xs := xs) (fun i σ X => (∃ y, σ = [some (.ref t), y]) ∧ L2.Same H X) ⟨⟨_, rfl⟩, L2.Same.refl H⟩ (fun i σ X _ z => (Tl.Same.stay z.2).tup ht) (fun i x σ X hx z => ?_) (fun σ X z => ?_)
  · obtain ⟨⟨y, rfl⟩, sX⟩ := z
    obtain ⟨e, he, r⟩ := getP hp hx
    obtain ⟨p, u, w', rfl, h1, h2, h3⟩ := ax_st (Tl.Same.stay sX) r
    refine ⟨.ref p, rfl, p, _, _, rfl, h1, true, rfl, iteF ?_⟩
    refine ⟨.ref p, rfl, p, _, 0, _, rfl, rfl, h1, atI_nat (j := 0) rfl, u, e.1, rfl, h2.con, h2.fit, h2.few, fun X2 s2 => ⟨true, rfl, iteF ?_⟩⟩
    refine ⟨.ref p, rfl, p, _, 1, _, rfl, rfl, (Tl.Same.stay s2).tup h1, atI_nat (j := 1) rfl, w', e.2, rfl, (h3.same s2).con, h3.fit, h3.few, fun X3 s3 => ⟨true, rfl, iteF ?_⟩⟩
    exact ⟨⟨_, rfl⟩, (sX.trans s2).trans s3⟩
  · exact q X z.2
theorem cCheckBook (T : Txt K mg) : Cal P w K mg base 6 "check_book" (fun vs H Q _ => ∃ (v : V) (bs : List (C × C)), vs = [v] ∧ Bk K H v bs ∧ ∀ H', L2.Same H H' → Q .non H') [] := by
  refine cal_of T.checkBook scCheckBook (fun _ _ _ _ _ _ us hl => match us, hl with | [_], _ => rfl) (fun vs H Q E h => ?_) (fun f cdv A outer s H vs Q E hr h => ?_)
  · obtain ⟨v, bs, rfl, _⟩ := h
    rfl
  obtain ⟨v, bs, rfl, hb, q⟩ := h
  refine ⟨_, (pss_one (ps_if (pt_not (pt_val (pe_c (cIsBook T) hr (by decide) rfl (pa_cons (pv 0) pa_nil))))
 (pss_one ps_never)
 pss_nil)), ?_⟩
  exact ⟨v, rfl, v, bs, rfl, hb, fun H' e => ⟨true, rfl, iteF (q H' e)⟩⟩
def spJudge (K : PySem.W.Frag) : Sp := fun vs H Q _ => ∃ (v u : V) (W : Wd) (bs : List (C × C)), vs = [v, u] ∧ IsWd K H v W ∧ WOk W ∧ Bk K H u bs ∧
  ∀ (y : V) (H' : Hp), L2.Same H H' → Dt K H' y (jmFrom W 0 bs) → Q y H'
theorem fJudgeModel (T : Txt K mg) : CalF P w K mg base 8 "judge_model" sJudgeModel ["world", "book"] (spJudge K) := by
  refine calF_of T.judgeModel scJudgeModel (fun vs H Q E h => ?_) (fun f cdv A outer s H vs Q E hr h => ?_)
  · obtain ⟨v, u, W, bs, rfl, _⟩ := h
    rfl
  obtain ⟨v, u, W, bs, rfl, hW, ok, hb, q⟩ := h
  refine ⟨_, (pss_cons (ps_expr (pe_c (cCheckWorld T) hr (by decide) rfl (pa_cons (pv 0) pa_nil)))
 (pss_cons (ps_expr (pe_c (cCheckBook T) hr (by decide) rfl (pa_cons (pv 1) pa_nil)))
 (pss_cons (ps_for PassesOwn.never rfl (pi_enumT (K := K) rfl rfl T.enumerate (pa_cons (pv 1) pa_nil)) (pg_tup rfl (pgs_cons (pg_name (i := 2) scJudgeModel.nd rfl (.inl rfl)) (pgs_cons (pg_tup rfl (pgs_cons (pg_name (i := 3) scJudgeModel.nd rfl (.inl rfl)) (pgs_cons (pg_name (i := 4) scJudgeModel.nd rfl (.inl rfl)) pgs_nil))) pgs_nil)))
 (pss_cons (ps_set (i := 5) scJudgeModel.nd rfl (.inl rfl) (pe_c (cLeastOutside T) hr (by decide) rfl (pa_cons (pv 0) (pa_cons (pv 3) (pa_cons (pv 4) pa_nil)))))
 (pss_one (ps_if (pt_cmpR op_notN (pv 5) pe_non (nomark _))
 (pss_one (ps_ret (pe_tup (pa_cons pe_str (pa_cons (pv 2) (pa_cons (pv 5) pa_nil))))))
 pss_nil))))
 (pss_one (ps_ret (pe_tup (pa_cons pe_str pa_nil))))))), ?_⟩
  refine ⟨v, rfl, v, W, rfl, hW, ok, fun X1 s1 => ?_⟩
  refine ⟨u, rfl, u, bs, rfl, bk_st (Tl.Same.stay s1) hb, fun X2 s2 => ?_⟩
  have sA := s1.trans s2
  obtain ⟨t, xs, rfl, ht, hp⟩ := bk_st (Tl.Same.stay sA) hb
  have hW2 := iswd_st (Tl.Same.stay sA) hW
  refine ⟨.ref t, rfl, t, xs, rfl, ht, ?_⟩
  refine for_enumT (K := K) (a := t) (xs := xs) (fun i σ X => (∃ t2 t3 t4 t5, σ = [some v, some (.ref t), t2, t3, t4, t5]) ∧ L2.Same X2 X ∧ jmFrom W i (bs.drop i) = jmFrom W 0 bs) ⟨⟨_, _, _, _, rfl⟩, L2.Same.refl _, rfl⟩ (fun i σ X _ z => (Tl.Same.stay z.2.1).tup ht) (fun i x σ X Tn hx z nT => ?_) (fun σ X z => ?_)
  · obtain ⟨⟨t2, t3, t4, t5, rfl⟩, sX, ej⟩ := z
    obtain ⟨e, he, r⟩ := getP hp hx
    have sT := same_up (o := .tup [.int (i : Nat), x]) nT
    obtain ⟨p, u1, u2, rfl, h1, h2, h3⟩ := ax_st (Tl.Same.stay (sX.trans sT)) r
    have hT : SqT K (upd X Tn (.tup [.int (i : Nat), .ref p])) Tn [.int (i : Nat), .ref p] := tupOf upd_same
    generalize upd X Tn (.tup [.int (i : Nat), .ref p]) = X3 at sT h1 h2 h3 hT ⊢
    refine ⟨Tn, _, rfl, hT, rfl, .int (i : Nat), _, rfl, .ref p, [], rfl, p, _, rfl, h1, rfl, u1, _, rfl, u2, [], rfl, rfl, rfl, ?_⟩
    refine ⟨v, rfl, u1, rfl, u2, rfl, v, u1, u2, W, e.1, e.2, rfl, iswd_st (Tl.Same.stay (sX.trans sT)) hW2, ok, h2, h3, fun y X4 s4 hy => ?_⟩
    refine ⟨y, rfl, rfl, _, rfl, ?_⟩
    rw [drop_at he] at ej
    rcases hy with ⟨ho, rfl⟩ | ⟨z, zs, ho, rfl⟩
    · refine iteF ⟨⟨_, _, _, _, rfl⟩, (sX.trans sT).trans s4, ?_⟩
      rw [← ej, jmFrom, ho]
    · have hn : (!decide (V.int z = V.non)) = true := by
        rw [decide_eq_false fun e => nomatch e]
        rfl
      rw [hn]
      refine iteT ⟨.int (i : Nat), rfl, .int z, rfl, by show 3 ≤ sizeLine; decide, fun r nr => ?_⟩
      refine q (.ref r) _ (((sA.trans sX).trans sT).trans (same_add s4 nr)) ?_
      rw [← ej, jmFrom, ho]
      exact .tup (tupOf upd_same) (.cons (.str _) (.cons (.int _) (.cons (.int _) .nil)))
  · obtain ⟨_, sX, ej⟩ := z
    rw [List.drop_of_length_le (by rw [hp.length]; exact Nat.le_refl _)] at ej
    refine ⟨by show 1 ≤ sizeLine; decide, fun r nr => ?_⟩
    refine q (.ref r) _ ((sA.trans sX).trans (same_up nr)) ?_
    rw [← ej]
    exact .tup (tupOf upd_same) (.cons (.str _) .nil)
theorem cJudgeModel (T : Txt K mg) : Cal P w K mg base 8 "judge_model" (spJudge K) [] := (fJudgeModel T).cal fun _ _ _ _ _ _ us hl => match us, hl with | [_, _], _ => rfl
end
end K07
set_option Elab.async false
set_option linter.all false
set_option autoImplicit false
set_option maxRecDepth 100000
set_option maxHeartbeats 4000000
namespace Tl
open PySem PySem.Spec PyProof.Rows L2
theorem sql_same {K : PySem.W.Frag} {H H' : Hp} {a : Addr} {xs : List V} (e : L2.Same H H') (h : SqL K H a xs) : SqL K H' a xs := e.seq h
mutual
theorem Dp.sames {K : PySem.W.Frag} {H H' : Hp} (e : L2.Same H H') : ∀ (d : PyData) (v : V), Dp K H v d → Dp K H' v d
  | .none, _, h => by cases h; exact .non
  | .bool _, _, h => by cases h; exact .bl _
  | .int _, _, h => by cases h; exact .int _
  | .str _, _, h => by cases h; exact .str _
  | .list ds, _, h => by
    cases h with
    | lst h1 h2 => exact .lst (e.seq h1) (Dp.samesAll e ds _ h2)
  | .tuple ds, _, h => by
    cases h with
    | tup h1 h2 => exact .tup ((Tl.Same.stay e).tup h1) (Dp.samesAll e ds _ h2)
  | .dict _, _, h => by cases h
theorem Dp.samesAll {K : PySem.W.Frag} {H H' : Hp} (e : L2.Same H H') : ∀ (ds : List PyData) (vs : List V), DpAll K H vs ds → DpAll K H' vs ds
  | [], _, h => by cases h; exact .nil
  | d :: ds, _, h => by
    cases h with
    | cons h1 h2 => exact .cons (Dp.sames e d _ h1) (Dp.samesAll e ds _ h2)
end
end Tl
namespace K07
open PySem PySem.Spec PyProof.Rows L2 Tl
open C8 (Cal pe_c)
def isInt : PyData → Bool
  | .int _ => true
  | _ => false
def tailInts : PyData → Bool
  | .tuple (_ :: t) => t.all isInt
  | _ => true
/-- what model_holds says of a value -/
def mh (d D : PyData) : Bool := PyData.eqv d D && tailInts d
theorem eqv_int {a : PyData} {j : Int} (h : PyData.eqv a (.int j) = true) : (∃ n, a = .int n) ∨ ∃ b, a = .bool b := by
  cases a with
  | int n => exact .inl ⟨n, rfl⟩
  | bool b => exact .inr ⟨b, rfl⟩
  | none => simp [PyData.eqv] at h
  | str _ => simp [PyData.eqv] at h
  | list _ => simp [PyData.eqv] at h
  | tuple _ => simp [PyData.eqv] at h
  | dict _ => simp [PyData.eqv] at h
theorem eqv_tup {a : PyData} {es : List PyData} (h : PyData.eqv a (.tuple es) = true) : ∃ ds, a = .tuple ds ∧ PyData.eqvAll ds es = true := by
  cases a with
  | tuple ds => exact ⟨ds, rfl, by simpa [PyData.eqv] using h⟩
  | none => simp [PyData.eqv] at h
  | bool _ => simp [PyData.eqv] at h
  | int _ => simp [PyData.eqv] at h
  | str _ => simp [PyData.eqv] at h
  | list _ => simp [PyData.eqv] at h
  | dict _ => simp [PyData.eqv] at h
theorem eqvAll_cons {ds es : List PyData} {e : PyData} (h : PyData.eqvAll ds (e :: es) = true) : ∃ d r, ds = d :: r ∧ PyData.eqv d e = true ∧ PyData.eqvAll r es = true := by
  cases ds with
  | nil => simp [PyData.eqvAll] at h
  | cons d r =>
    rw [PyData.eqvAll, Bool.and_eq_true] at h
    exact ⟨d, r, rfl, h.1, h.2⟩
theorem eqvAll_nil {ds : List PyData} (h : PyData.eqvAll ds [] = true) : ds = [] := by
  cases ds with
  | nil => rfl
  | cons d r => simp [PyData.eqvAll] at h
/-- what judge_model may say -/
inductive Due : PyData → Prop
  | model : Due (.tuple [.str "model"])
  | axiom_ (j z : Int) : Due (.tuple [.str "axiom", .int j, .int z])
theorem due_jm (W : Wd) : ∀ (bs : List (C × C)) (j : Nat), Due (jmFrom W j bs)
  | [], _ => .model
  | e :: bs, j => by
    rw [jmFrom]
    cases outs W e.1 e.2 with
    | nil => exact due_jm W bs (j + 1)
    | cons z zs => exact .axiom_ _ _
/-- the tail of a value that is like what judge_model says: ints and bools -/
theorem due_tail {K : PySem.W.Frag} {H : Hp} {x : V} {d D : PyData} (hx : Dp K H x d) (due : Due D) (h : PyData.eqv d D = true) :
    ∃ a y ys e tl, x = .ref a ∧ SqT K H a (y :: ys) ∧ d = .tuple (e :: tl) ∧ ys.length ≤ 2 ∧ Paired (fun y a => (∃ n, y = V.int n ∧ a = PyData.int n) ∨ ∃ b, y = V.bl b ∧ a = PyData.bool b) ys tl := by
  have one : ∀ {y : V} {a : PyData} {j : Int}, Dp K H y a → PyData.eqv a (.int j) = true → (∃ n, y = V.int n ∧ a = PyData.int n) ∨ ∃ b, y = V.bl b ∧ a = PyData.bool b := fun {y a j} hy he => by
    rcases eqv_int he with ⟨n, rfl⟩ | ⟨b, rfl⟩
    · cases hy; exact .inl ⟨n, rfl, rfl⟩
    · cases hy; exact .inr ⟨b, rfl, rfl⟩
  cases due with
  | model =>
    obtain ⟨ds, rfl, h⟩ := eqv_tup h
    obtain ⟨d0, r, rfl, _, h⟩ := eqvAll_cons h
    obtain rfl := eqvAll_nil h
    cases hx with
    | tup h1 h2 =>
      cases h2 with
      | cons g1 g2 => cases g2; exact ⟨_, _, [], _, [], rfl, h1, rfl, by decide, .nil⟩
  | axiom_ j z =>
    obtain ⟨ds, rfl, h⟩ := eqv_tup h
    obtain ⟨d0, r, rfl, _, h⟩ := eqvAll_cons h
    obtain ⟨d1, r, rfl, e1, h⟩ := eqvAll_cons h
    obtain ⟨d2, r, rfl, e2, h⟩ := eqvAll_cons h
    obtain rfl := eqvAll_nil h
    cases hx with
    | tup h1 h2 =>
      cases h2 with
      | cons g1 g2 => cases g2 with
        | cons g2 g3 => cases g3 with
          | cons g3 g4 => cases g4; exact ⟨_, _, [_, _], _, [_, _], rfl, h1, rfl, Nat.le_refl 2, .cons (one g2 e1) (.cons (one g3 e2) .nil)⟩
theorem due_shaped {D : PyData} (due : Due D) : SeqAt.shaped D = true := by
  cases due with
  | model => decide +kernel
  | axiom_ j z =>
    simp [SeqAt.shaped, PyData.canLay0, PyData.canLayAll0, PyData.depth, PyData.depthAll]
    decide +kernel
section
variable {P : Program} {w : World} {K : PySem.W.Frag} {mg : Str → Option Value} {base : Heap}
def spIsInt2 : Sp := fun vs H Q _ => (∃ i : Int, vs = [.int i] ∧ Q (.bl true) H) ∨ ∃ b : Bool, vs = [.bl b] ∧ Q (.bl false) H
theorem cIsInt2 (T : Txt K mg) : Cal P w K mg base 1 "is_integer" spIsInt2 [] := by
  refine cal_of T.isInteger scIsInteger (fun _ _ _ _ _ _ us hl => match us, hl with | [_], _ => rfl) (fun vs H Q E h => ?_) (fun f cdv A outer s H vs Q E hr h => ?_)
  · rcases h with ⟨x, rfl, _⟩ | ⟨x, rfl, _⟩ <;> rfl
  refine ⟨_, (pss_one (ps_ret (pe_and (pe_callB call_isi (by rfl) T.isinstance (by decide +kernel) (pa_cons (pv 0) (pa_cons (pe_bltn (v := V.ty "int") (u := Value.type "int") (by rfl) T.int (by decide +kernel) rfl) pa_nil))) (pe_one (pe_notT (pe_callB call_isi (by rfl) T.isinstance (by decide +kernel) (pa_cons (pv 0) (pa_cons (pe_bltn (v := V.ty "bool") (u := Value.type "bool") (by rfl) T.bool (by decide +kernel) rfl) pa_nil)))))))), ?_⟩
  rcases h with ⟨i, rfl, q⟩ | ⟨b, rfl, q⟩
  · exact ⟨.int i, rfl, .int i, .ty "int", .type "int", .type "int", true, rfl, .ty _, .base (.int i), kit_ty (by decide +kernel), true, rfl, .int i, rfl, .int i, .ty "bool", .type "int", .type "bool", false, rfl, .ty _, .base (.int i), kit_ty (by decide +kernel), false, rfl, q⟩
  · exact ⟨.bl b, rfl, .bl b, .ty "int", .type "bool", .type "int", true, rfl, .ty _, .base (.bl b), kit_ty (by decide +kernel), true, rfl, .bl b, rfl, .bl b, .ty "bool", .type "bool", .type "bool", true, rfl, .ty _, .base (.bl b), kit_ty (by decide +kernel), true, rfl, q⟩
def spHoldsM (K : PySem.W.Frag) : Sp := fun vs H Q _ => ∃ (v u x : V) (W : Wd) (bs : List (C × C)) (d : PyData), vs = [v, u, x] ∧ IsWd K H v W ∧ WOk W ∧ Bk K H u bs ∧ Dp K H x d ∧ SeqAt.shaped d = true ∧
  ∀ H', L2.Same H H' → Q (.bl (mh d (jmFrom W 0 bs))) H'
theorem fModelHolds (T : Txt K mg) : CalF P w K mg base 9 "model_holds" sModelHolds ["world", "book", "thing"] (spHoldsM K) := by
  refine calF_of T.modelHolds scModelHolds (fun vs H Q E h => ?_) (fun f cdv A outer s H vs Q E hr h => ?_)
  · obtain ⟨v, u, x, W, bs, d, rfl, _⟩ := h
    rfl
  obtain ⟨v, u, x, W, bs, d, rfl, hW, ok, hb, hx, sh, q⟩ := h
  have hu64 := hr.units
  refine ⟨_, (pss_cons (ps_if (pt_cmpR (op_neD hu64) (pv 2) (pe_c (cJudgeModel T) hr (by decide) rfl (pa_cons (pv 0) (pa_cons (pv 1) pa_nil))) (nomark _))
 (pss_one (ps_ret pe_bl))
 pss_nil)
 (pss_one (ps_ret (pe_callB (cr_all rfl) (by rfl) T.all (by decide +kernel) (pa_cons (pe_lc (own := [("number", 3)]) (by rfl) scModelHolds.nd (pi_tup (pe_slice sl_tupA (pv 2) (po_some pe_int) po_none)) (blkOk_by (own := [("number", 3)]) (N := ["world", "book", "thing", "number"]) (sc := defScope sModelHolds) (by decide +kernel)) (fun _ _ _ _ _ => (pg_name (i := 3) scModelHolds.nd rfl (.inl rfl))) (fun _ _ _ _ _ => pts_nil) (fun _ _ _ _ _ => (pe_c (cIsInt2 T) hr (by decide) rfl (pa_cons (pv 3) pa_nil)))) pa_nil))))), ?_⟩
  refine ⟨x, rfl, v, rfl, u, rfl, v, u, W, bs, rfl, hW, ok, hb, fun y X1 s1 hy => ?_⟩
  have due := due_jm W bs 0
  have hx1 := Dp.sames s1 d x hx
  refine ⟨d, jmFrom W 0 bs, hx1, hy.p, sh, due_shaped due, _, rfl, ?_⟩
  by_cases he : PyData.eqv d (jmFrom W 0 bs) = true
  case neg =>
    have he' : PyData.eqv d (jmFrom W 0 bs) = false := Bool.eq_false_iff.mpr he
    rw [he']
    refine iteT ?_
    have e0 : mh d (jmFrom W 0 bs) = false := by unfold mh; rw [he']; rfl
    rw [← e0]
    exact q X1 s1
  rw [he]
  obtain ⟨a, z, zs, e0, tl, rfl, ha, rfl, l2, hp⟩ := due_tail hx1 due he
  refine iteF ⟨.ref a, rfl, 1, rfl, a, _, rfl, ha, fun h => ?_, fun _ p np => ?_⟩
  · exfalso
    have h1 := h.1
    rw [show HT.sIx (z :: zs).length 0 (some 1) = min 1 (z :: zs).length from HT.sIx_nat _ _ 1, List.length_cons] at h1
    omega
  have ecut : cutV (z :: zs) (some 1) none = zs := by
    unfold cutV
    rw [HT.sIx_none, show HT.sIx (z :: zs).length 0 (some 1) = min 1 (z :: zs).length from HT.sIx_nat _ _ 1, List.length_cons, show min 1 (zs.length + 1) = 1 by omega]
    show (zs).take _ = zs
    exact List.take_of_length_le (by omega)
  rw [ecut]
  have s2 := same_up (o := .tup zs) np
  have hz : SqT K (upd X1 p (.tup zs)) p zs := tupOf upd_same
  generalize upd X1 p (.tup zs) = X2 at s2 hz ⊢
  refine ⟨p, rfl, ⟨_, hz⟩, fun D nD => ?_⟩
  refine lc_tup (K := K) (a := p) (xs := zs) (fun i X => L2.Same X2 X ∧ X D = some (.lst (((tl.take i).map isInt).map V.bl))) ⟨same_up nD, upd_same⟩ (fun i X _ z => (Tl.Same.stay z.1).tup hz) (fun i x X hx z => ?_) (fun X z => ?_)
  · obtain ⟨sX, gX⟩ := z
    obtain ⟨c, hc, hcx⟩ := getP hp hx
    have ht : tl.take (i + 1) = tl.take i ++ [c] := by rw [List.take_add_one, hc]; rfl
    have ll : ((tl.take i).map isInt).length ≤ 2 := by
      rw [List.length_map, List.length_take, ← hp.length]
      omega
    have post : ∀ b, isInt c = b → ∃ acc, X D = some (.lst acc) ∧ acc.length < sizeLine ∧ L2.Same X2 (upd X D (.lst (acc ++ [V.bl b]))) ∧ (upd X D (.lst (acc ++ [V.bl b]))) D = some (.lst (((tl.take (i + 1)).map isInt).map V.bl)) := fun b eb => by
      refine ⟨_, gX, ?_, same_mut sX nD, ?_⟩
      · rw [List.length_map]
        exact Nat.lt_of_le_of_lt ll (by decide)
      · rw [upd_same, ht, List.map_append, List.map_append, ← eb]
        rfl
    rcases hcx with ⟨n, rfl, rfl⟩ | ⟨b, rfl, rfl⟩
    · exact ⟨rfl, .int n, rfl, .inl ⟨n, rfl, post true rfl⟩⟩
    · exact ⟨rfl, .bl b, rfl, .inr ⟨b, rfl, post false rfl⟩⟩
  · obtain ⟨sX, gX⟩ := z
    rw [List.take_of_length_le (by rw [hp.length]; exact Nat.le_refl _)] at gX
    refine ⟨D, _, rfl, lst_of gX, ?_⟩
    have em : (tl.map isInt).all id = mh (.tuple (e0 :: tl)) (jmFrom W 0 bs) := by
      unfold mh
      rw [he, Bool.true_and, List.all_map]
      rfl
    rw [em]
    exact q X ((s1.trans s2).trans sX)
theorem cModelHolds (T : Txt K mg) : Cal P w K mg base 9 "model_holds" (spHoldsM K) [] := (fModelHolds T).cal fun _ _ _ _ _ _ us hl => match us, hl with | [_, _, _], _ => rfl
end
end K07
set_option Elab.async false
set_option linter.all false
set_option autoImplicit false
set_option maxRecDepth 100000
set_option maxHeartbeats 4000000
namespace K07
open PySem PySem.Spec PyProof.Rows L2 Tl
open C8 (Cal pe_c)
theorem ifm {b : Bool} {p p' n : Prop} (h : p → p') (k : if b = true then p else n) : if b = true then p' else n := by
  cases b
  · exact k
  · exact h k
theorem eqv_lnil (ns : List Int) : PyData.eqv (.list (ns.map PyData.int)) (.list []) = ns.isEmpty := by
  show PyData.eqvAll _ [] = _
  rw [eqv_nil]
  cases ns <;> rfl
theorem outs_asc {W : Wd} (ok : WOk W) (a b : C) : (outs W a b).Pairwise (· < ·) := (den_good ok a).1.sublist List.filter_sublist
theorem outs_len {W : Wd} (ok : WOk W) (a b : C) : (outs W a b).length ≤ 10 := Nat.le_trans (List.length_filter_le _ _) (den_len ok a)
theorem min_head {z : Int} {zs : List Int} {M : Int} (asc : (z :: zs).Pairwise (· < ·)) (h1 : M ∈ z :: zs) (h2 : ∀ a ∈ z :: zs, M ≤ a) : M = z := by
  have := h2 z List.mem_cons_self
  rcases List.mem_cons.mp h1 with h | h
  · exact h
  · have := (List.pairwise_cons.mp asc).1 M h
    omega
theorem seq_filt {K : PySem.W.Frag} {J : It} {ms : List Int} {g : TG} {tt : TT} {te : TE} {vs : List Nat} {σ : L2.St} {Z : Hp} {D : Addr} {Qd : Hp → Prop} (p : Int → Bool) (fc : ∀ G, L2.Same Z G → Facts J (ms.map V.int) G) (nD : Z D = none) (len : ms.length ≤ 100)
    (hs : ∀ (m : Int) (X : Hp) (R : VK) (N : Hp → Prop), L2.Same Z X → (∀ X', L2.Same X X' → if p m = true then R (.int m) X' else N X') → g (.int m) (wipe σ vs) X fun σ2 H2 => wipe σ2 vs = wipe σ vs ∧ tt σ2 H2 fun b H3 => if b = true then te σ2 H3 R else N H3)
    (hd : ∀ X, L2.Same Z X → X D = some (.lst ((ms.filter p).map V.int)) → Qd X) :
    ∃ W : Nat → Nat → Hp → Prop, (∃ m, W 0 m (upd Z D (.lst []))) ∧ ∀ i m H, W i m H →
      (J.stop i H ∧ Qd H) ∨ (J.go i H ∧ ∃ Nx : Hp → Prop, (∀ H', Nx H' → ∃ m', m' < m ∧ W (i + 1) m' H') ∧ ∀ x H', J.yld i H x H' → g x (wipe σ vs) H' fun σ2 H2 => wipe σ2 vs = wipe σ vs ∧ tt σ2 H2 fun b H3 =>
        if b = true then te σ2 H3 fun y H4 => ∃ acc, H4 D = some (.lst acc) ∧ acc.length < sizeLine ∧ Nx (upd H4 D (.lst (acc ++ [y]))) else Nx H3) := by
  refine lc_it (n := (ms.map V.int).length) (fun i X => L2.Same Z X ∧ X D = some (.lst (((ms.take i).filter p).map V.int))) ⟨same_up nD, upd_same⟩ (fun i X hi z => (fc X z.1).go i hi) (fun X z => (fc X z.1).stop) (fun i x X X1 hi z y => ?_) (fun X z => ?_)
  · obtain ⟨sX, gX⟩ := z
    obtain ⟨rfl, hx⟩ := (fc X sX).yld i x X1 y
    obtain ⟨m, hmi, rfl⟩ : ∃ m, ms[i]? = some m ∧ x = V.int m := by
      rw [List.getElem?_map] at hx
      obtain ⟨m, h, e⟩ := Option.map_eq_some_iff.mp hx
      exact ⟨m, h, e.symm⟩
    have ht : ms.take (i + 1) = ms.take i ++ [m] := by rw [List.take_add_one, hmi]; rfl
    refine hs m _ _ _ sX fun X' e => ?_
    refine ite2 (fun yes => ?_) (fun no => ?_)
    · refine ⟨_, e _ _ gX, ?_, same_mut (sX.trans e) nD, ?_⟩
      · rw [List.length_map]
        refine Nat.lt_of_le_of_lt (Nat.le_trans (List.length_filter_le _ _) ?_) (show 100 < sizeLine by decide)
        rw [List.length_take]
        omega
      · rw [upd_same, ht, List.filter_append, List.map_append, List.filter_cons, if_pos yes]
        rfl
    · refine ⟨sX.trans e, ?_⟩
      rw [ht, List.filter_append, List.filter_cons, if_neg no, e _ _ gX]
      simp
  · obtain ⟨sX, gX⟩ := z
    rw [List.length_map, List.take_of_length_le (Nat.le_refl _)] at gX
    exact hd X sX gX
section
variable {P : Program} {w : World} {K : PySem.W.Frag} {mg : Str → Option Value} {base : Heap}
def spModel (K : PySem.W.Frag) : Sp := fun vs H Q _ => ∃ (v u : V) (W : Wd) (bs : List (C × C)), vs = [v, u] ∧ IsWd K H v W ∧ WOk W ∧ Bk K H u bs ∧ (∀ e ∈ bs, dep e.1 ≤ 40 ∧ dep e.2 ≤ 40) ∧
  ∀ (y : V) (H' : Hp), L2.Same H H' → Dt K H' y (jmFrom W 0 bs) → Q y H'
theorem cLawModel (T : Txt K mg) : Cal P w K mg base 41 "_law_model" (spModel K) [] := by
  refine cal_of T.lawModel scLawModel (fun _ _ _ _ _ _ us hl => match us, hl with | [_, _], _ => rfl) (fun vs H Q E h => ?_) (fun f cdv A outer s H vs Q E hr h => ?_)
  · obtain ⟨v, u, W, bs, rfl, _⟩ := h
    rfl
  obtain ⟨v, u, W, bs, rfl, hW, ok, hb, dps, q⟩ := h
  have hu64 := hr.units
  refine ⟨_, (pss_cons (ps_for PassesOwn.never rfl (pi_enumT (K := K) rfl rfl T.enumerate (pa_cons (pv 1) pa_nil)) (pg_tup rfl (pgs_cons (pg_name (i := 2) scLawModel.nd rfl (.inl rfl)) (pgs_cons (pg_tup rfl (pgs_cons (pg_name (i := 3) scLawModel.nd rfl (.inl rfl)) (pgs_cons (pg_name (i := 4) scLawModel.nd rfl (.inl rfl)) pgs_nil))) pgs_nil)))
 (pss_cons (ps_set (i := 5) scLawModel.nd rfl (.inr rfl) (pe_c (cLawThings T 40) hr (by decide) rfl (pa_cons (pv 0) (pa_cons (pv 4) (pa_cons pe_int pa_nil)))))
 (pss_cons (ps_setLc (i := 6) (own := [("x", 7)]) (by rfl) scLawModel.nd rfl rfl (sw_true rfl rfl rfl (by decide +kernel)) (pi_seq (K := K) rfl (pe_c (cLawThings T 40) hr (by decide) rfl (pa_cons (pv 0) (pa_cons (pv 3) (pa_cons pe_int pa_nil))))) (blkOk_by (own := [("x", 7)]) (N := ["world", "book", "j", "left", "right", "goals", "out", "x"]) (sc := defScope sLawModel) (by decide +kernel)) (fun _ _ _ _ _ => (pg_name (i := 7) scLawModel.nd rfl (.inl rfl))) (fun _ _ _ _ _ => pts_one (pt_cmpR (op_notinK (K := K) rfl) (pv 7) (pv 5) rfl)) (fun _ _ _ _ _ => (pv 7)))
 (pss_one (ps_if (pt_cmpR (op_neD hu64) (pv 6) (pe_lst pa_nil) (nomark _))
 (pss_one (ps_ret (pe_tup (pa_cons pe_str (pa_cons (pv 2) (pa_cons (pe_callB (cr_minI rfl) (by rfl) T.min (by decide +kernel) (pa_cons (pv 6) pa_nil)) pa_nil))))))
 pss_nil)))))
 (pss_one (ps_ret (pe_tup (pa_cons pe_str pa_nil))))), ?_⟩
  obtain ⟨t, xs, rfl, ht, hp⟩ := hb
  refine ⟨.ref t, rfl, t, xs, rfl, ht, ?_⟩
  refine for_enumT (K := K) (a := t) (xs := xs) (fun i σ X => (∃ t2 t3 t4 t5 t6 t7, σ = [some v, some (.ref t), t2, t3, t4, t5, t6, t7]) ∧ L2.Same H X ∧ jmFrom W i (bs.drop i) = jmFrom W 0 bs) ⟨⟨_, _, _, _, _, _, rfl⟩, L2.Same.refl _, rfl⟩ (fun i σ X _ z => (Tl.Same.stay z.2.1).tup ht) (fun i x σ X Tn hx z nT => ?_) (fun σ X z => ?_)
  · obtain ⟨⟨t2, t3, t4, t5, t6, t7, rfl⟩, sX, ej⟩ := z
    obtain ⟨e, he, r⟩ := getP hp hx
    have de := dps e (List.mem_of_getElem? he)
    have sT := same_up (o := .tup [.int (i : Nat), x]) nT
    obtain ⟨p, u1, u2, rfl, h1, h2, h3⟩ := ax_st (Tl.Same.stay (sX.trans sT)) r
    have hT : SqT K (upd X Tn (.tup [.int (i : Nat), .ref p])) Tn [.int (i : Nat), .ref p] := tupOf upd_same
    have sA := sX.trans sT
    generalize upd X Tn (.tup [.int (i : Nat), .ref p]) = X3 at sT sA h1 h2 h3 hT ⊢
    have hW3 := iswd_st (Tl.Same.stay sA) hW
    refine ⟨Tn, _, rfl, hT, rfl, .int (i : Nat), _, rfl, .ref p, [], rfl, p, _, rfl, h1, rfl, u1, _, rfl, u2, [], rfl, rfl, rfl, ?_⟩
    refine ⟨v, rfl, u2, rfl, v, u2, W, e.2, rfl, hW3, ok, h3.con, de.2, fun pg X4 s4 ng gg => ?_⟩
    refine ⟨v, rfl, u1, rfl, v, u1, W, e.1, rfl, iswd_st (Tl.Same.stay s4) hW3, ok, (h2.same s4).con, de.1, fun pl X5 s5 nl gl => ?_⟩
    have gg5 := s5 _ _ gg
    refine ⟨pl, (den W e.1).map V.int, rfl, .inl (lst_of gl), fun J fc D nD => ?_⟩
    refine seq_filt (K := K) (fun x => !decide (x ∈ den W e.2)) fc nD (by have := den_len ok e.1; omega) (fun m X R N sX k => ?_) (fun X6 s6 g6 => ?_)
    · refine ⟨rfl, .int m, rfl, .ref pg, rfl, pg, _, rfl, .inl (lst_of (sX _ _ gg5)), rfl, flat_ints _, _, rfl, ?_⟩
      show if (!inV (.int m) ((den W e.2).map V.int)) = true then _ else _
      rw [inV_int]
      exact ifm (fun h => ⟨.int m, rfl, h⟩) (k X (L2.Same.refl X))
    have g6 : X6 D = some (.lst ((outs W e.1 e.2).map V.int)) := g6
    refine ⟨.ref D, rfl, Nat.zero_le _, fun z1 nz1 => ?_⟩
    have s7 := same_up (o := .lst []) nz1
    have g7 := s7 _ _ g6
    refine ⟨.list ((outs W e.1 e.2).map PyData.int), .list [], .lst (lst_of g7) (dp_ints _), .lst (lst_of upd_same) .nil, shaped_ints _, shaped_nil, _, rfl, ?_⟩
    rw [eqv_lnil]
    have sB : L2.Same H (upd X6 z1 (.lst [])) := (((sA.trans s4).trans s5).trans s6).trans s7
    generalize upd X6 z1 (.lst []) = X7 at s7 g7 sB ⊢
    rw [drop_at he] at ej
    cases ho : outs W e.1 e.2 with
    | nil =>
      refine iteF ⟨⟨_, _, _, _, _, _, rfl⟩, sB, ?_⟩
      rw [← ej, jmFrom, ho]
    | cons z zs =>
      refine iteT ⟨.int (i : Nat), rfl, .ref D, rfl, D, outs W e.1 e.2, rfl, lst_of g7, by rw [ho]; exact List.cons_ne_nil _ _, fun M h1 h2 => ?_⟩
      have asc := outs_asc ok e.1 e.2
      rw [ho] at h1 h2 asc
      obtain rfl := min_head asc h1 h2
      refine ⟨by show 3 ≤ sizeLine; decide, fun r nr => ?_⟩
      refine q (.ref r) _ (same_add sB nr) ?_
      rw [← ej, jmFrom, ho]
      exact .tup (tupOf upd_same) (.cons (.str _) (.cons (.int _) (.cons (.int _) .nil)))
  · obtain ⟨_, sX, ej⟩ := z
    rw [List.drop_of_length_le (by rw [hp.length]; exact Nat.le_refl _)] at ej
    refine ⟨by show 1 ≤ sizeLine; decide, fun r nr => ?_⟩
    refine q (.ref r) _ (sX.trans (same_up nr)) ?_
    rw [← ej]
    exact .tup (tupOf upd_same) (.cons (.str _) .nil)
end
end K07
set_option Elab.async false
set_option linter.all false
set_option autoImplicit false
set_option maxRecDepth 100000
set_option maxHeartbeats 4000000
namespace K07
open PySem PySem.Spec PyProof.Rows L2 Tl
open C8 (Cal pe_c)
def axD (e : C × C) : PyData := .tuple [e.1.d, e.2.d]
theorem dp_ax {K : PySem.W.Frag} {H : Hp} {xs : List V} {bs : List (C × C)} (h : Paired (Ax K H) xs bs) : DpAll K H xs (bs.map axD) := by
  induction h with
  | nil => exact .nil
  | cons r _ ih =>
    obtain ⟨p, u, w, rfl, h1, h2, h3⟩ := r
    exact .cons (.tup h1 (.cons h2.con.p (.cons h3.con.p .nil))) ih
theorem ax_shaped {K : PySem.W.Frag} {H : Hp} {xs : List V} {bs : List (C × C)} (h : Paired (Ax K H) xs bs) : PyData.canLayAll0 (bs.map axD) = true ∧ PyData.depthAll (bs.map axD) ≤ 61 := by
  induction h with
  | nil => exact ⟨by simp [PyData.canLayAll0], by simp [PyData.depthAll]⟩
  | @cons x e _ bs r _ ih =>
    obtain ⟨p, u, w, rfl, h1, h2, h3⟩ := r
    have k1 := con_canLay e.1 h2.fit.1
    have k2 := con_canLay e.2 h3.fit.1
    have d1 := con_depth e.1
    have d2 := con_depth e.2
    have f1 := h2.fit.2
    have f2 := h3.fit.2
    constructor
    · simp [PyData.canLayAll0, PyData.canLay0, axD, k1, k2, ih.1]
    · have := ih.2
      simp [PyData.depthAll, PyData.depth, axD]
      omega
theorem shaped_ax {K : PySem.W.Frag} {H : Hp} {xs : List V} {bs : List (C × C)} (h : Paired (Ax K H) xs bs) : SeqAt.shaped (.list (bs.map axD)) = true := by
  have := ax_shaped h
  unfold SeqAt.shaped
  rw [PyData.canLay0, this.1, PyData.depth, decide_eq_true (show PyData.depthAll (bs.map axD) + 1 ≤ 64 by omega)]
  rfl
theorem eqv_ax (bs : List (C × C)) : PyData.eqv (.list (bs.map axD)) (.list []) = bs.isEmpty := by
  show PyData.eqvAll _ [] = _
  rw [eqv_nil]
  cases bs <;> rfl
def Sm (e : C × C) : Prop := dep e.1 ≤ 4 ∧ dep e.2 ≤ 4
section
variable {P : Program} {w : World} {K : PySem.W.Frag} {mg : Str → Option Value} {base : Heap}
def spBookL (K : PySem.W.Frag) : Sp := fun vs H Q _ => ∃ (d l b : Addr) (ws : List Str) (m : Int), vs = [.ref d, .ref b, .int m, .int 2] ∧ Deck H d l ∧ Words K H d l b ws ∧ 0 ≤ m ∧ m ≤ 20 ∧
  ∀ (v : V) (bs : List (C × C)) (H' : Hp), Bk K H' v bs → (∀ e ∈ bs, Sm e) → bs.length ≤ m → Off d l H H' → Deck H' d l → Q v H'
theorem cLawBook (T : Txt K mg) : Cal P w K mg base 6 "_law_book" (spBookL K) [] := by
  refine cal_of T.lawBook scLawBook (fun _ _ _ _ _ _ us hl => match us, hl with | [_, _, _, _], _ => rfl) (fun vs H Q E h => ?_) (fun f cdv A outer s H vs Q E hr h => ?_)
  · obtain ⟨d, l, b, ws, m, rfl, _⟩ := h
    rfl
  obtain ⟨d, l, b, ws, m, rfl, D, W, m0, m20, q⟩ := h
  have hu64 := hr.units
  refine ⟨_, (pss_cons (ps_set (i := 4) scLawBook.nd rfl (.inl rfl) (pe_lst pa_nil))
 (pss_cons (ps_for PassesOwn.never rfl (pi_range1 rfl T.range (pa_cons (pe_c (cLawDraw T) hr (by decide) rfl (pa_cons (pv 0) (pa_cons (pe_op op_add (pv 2) pe_int) pa_nil))) pa_nil)) (pg_name (i := 5) scLawBook.nd rfl (.inl rfl))
 (pss_cons (ps_set (i := 6) scLawBook.nd rfl (.inl rfl) (pe_tup (pa_cons (pe_c (cLawConcept T 3) hr (by decide) rfl (pa_cons (pv 0) (pa_cons (pv 1) (pa_cons (pv 3) pa_nil)))) (pa_cons (pe_c (cLawConcept T 3) hr (by decide) rfl (pa_cons (pv 0) (pa_cons (pv 1) (pa_cons (pv 3) pa_nil)))) pa_nil))))
 (pss_one (ps_expr (pe_bm PySem.F.plainAttrs_list PySem.F.slot_list_append PySem.F.type_list_append mt_append (pv 4) (pa_cons (pe_ifExp (PW.pt (pw_and (pt_cmpR (op_neD hu64) (pv 4) (pe_lst pa_nil) (nomark _)) (pw_and1 (pt_cmpR op_eq (pe_c (cLawDraw T) hr (by decide) rfl (pa_cons (pv 0) (pa_cons pe_int pa_nil))) pe_int (nomark _))))) (pe_c (cLawPick T) hr (by decide) rfl (pa_cons (pv 0) (pa_cons (pv 4) pa_nil))) (pv 6)) pa_nil))))))
 (pss_one (ps_ret (pe_callTy call_tuple_of (by rfl) T.tuple (by decide +kernel) (pa_cons (pv 4) pa_nil)))))), ?_⟩
  refine ⟨Nat.zero_le _, fun p np => ?_⟩
  obtain ⟨pd, pl⟩ := D.off np
  refine ⟨.ref d, rfl, .int m, rfl, m, 1, rfl, rfl, d, l, m + 1, rfl, D.new np, by omega, by omega, fun k G k0 k1 o1 D1 => ?_⟩
  refine ⟨k, rfl, by omega, by omega, ?_⟩
  have gp : G p = some (.lst []) := o1 _ _ pd pl upd_same
  refine for_range (lo := 0) (n := k.toNat) (fun i σ X => (∃ t5 t6, σ = [some (.ref d), some (.ref b), some (.int m), some (.int 2), some (.ref p), t5, t6]) ∧ Off d l H X ∧ Deck X d l ∧ ∃ xs bs, X p = some (.lst xs) ∧ Paired (Ax K X) xs bs ∧ bs.length = i ∧ ∀ e ∈ bs, Sm e)
    ⟨⟨_, _, rfl⟩, (off_new np).trans o1, D1, [], [], gp, .nil, rfl, fun e h => nomatch h⟩ (fun i σ X hi z => ?_) (fun σ X z => ?_)
  · obtain ⟨⟨t5, t6, rfl⟩, oX, DX, xs, bs, gX, hp, lb, sm⟩ := z
    have WX := W.off oX
    refine ⟨.ref d, rfl, .ref b, rfl, .int 2, rfl, d, l, b, ws, rfl, DX, WX, fun u1 c1 X1 hc1 ok1 dp1 nn1 o2 D2 => ?_⟩
    refine ⟨.ref d, rfl, .ref b, rfl, .int 2, rfl, d, l, b, ws, rfl, D2, WX.off o2, fun u2 c2 X2 hc2 ok2 dp2 nn2 o3 D3 => ?_⟩
    refine ⟨by show 2 ≤ sizeLine; decide, fun a na => ?_⟩
    have dp1 : dep c1 ≤ 3 := dp1
    have dp2 : dep c2 ≤ 3 := dp2
    have nn1 : nodes c1 + 1 ≤ 8 := nn1
    have nn2 : nodes c2 + 1 ≤ 8 := nn2
    have s4 := same_up (o := .tup [u1, u2]) na
    have hax : Ax K (upd X2 a (.tup [u1, u2])) (.ref a) (c1, c2) := ⟨a, u1, u2, rfl, tupOf upd_same, (show Arg K _ u1 c1 from ⟨(hc1.st (o3.stay D2)).st (Tl.Same.stay s4), ⟨ok1, by omega⟩, by omega⟩), (show Arg K _ u2 c2 from ⟨hc2.st (Tl.Same.stay s4), ⟨ok2, by omega⟩, by omega⟩)⟩
    have o4 : Off d l X (upd X2 a (.tup [u1, u2])) := (o2.trans o3).trans (s4.off (d := d) (l := l))
    have D4 := D3.new na (o := .tup [u1, u2])
    generalize upd X2 a (.tup [u1, u2]) = X3 at s4 hax o4 D4 ⊢
    have g3 := o4 _ _ pd pl gX
    have hp3 := Paired.mapP hp fun _ _ z => ax_st (o4.stay DX) z
    -- appended
    have fin : ∀ (x : V) (e : C × C) (Y : Hp), Ax K Y x e → Sm e → Off d l X3 Y → Deck Y d l →
        rAppend (.ref p) [x] Y fun _ X' => (∃ t5 t6', [some (.ref d), some (.ref b), some (.int m), some (.int 2), some (.ref p), some (V.int (0 + (i : Int))), some (.ref a)] = [some (.ref d), some (.ref b), some (.int m), some (.int 2), some (.ref p), t5, t6']) ∧ Off d l H X' ∧ Deck X' d l ∧ ∃ xs bs, X' p = some (.lst xs) ∧ Paired (Ax K X') xs bs ∧ bs.length = i + 1 ∧ ∀ e ∈ bs, Sm e := fun x e Y hx he oY DY => by
      have gY := oY _ _ pd pl g3
      have stY : Stay Y (upd Y p (.lst (xs ++ [x]))) := stay_mut (by rw [gY]; trivial)
      refine ⟨p, xs, x, rfl, rfl, gY, ?_, ⟨_, _, rfl⟩, ((oX.trans o4).trans oY).mut np, DY.mut pd pl, xs ++ [x], bs ++ [e], upd_same, snoc (Paired.mapP hp3 fun _ _ z => ax_st ((oY.stay D4).trans stY) z) (ax_st stY hx), by rw [List.length_append, lb]; rfl, fun e' he' => ?_⟩
      · rw [hp.length, lb]
        exact Nat.lt_of_lt_of_le (show i < 100 by omega) (by decide)
      · rcases List.mem_append.mp he' with h | h
        · exact sm e' h
        · rw [List.mem_singleton.mp h]
          exact he
    have plain : ∀ (Y : Hp), Off d l X3 Y → Deck Y d l → _ := fun Y oY DY => fin (.ref a) (c1, c2) Y (ax_st (oY.stay D4) hax) ⟨show dep c1 ≤ 4 by omega, show dep c2 ≤ 4 by omega⟩ oY DY
    refine ⟨.ref p, rfl, .inl ⟨rfl, _, lst_of g3⟩, .ref p, rfl, Nat.zero_le _, fun z nz => ?_⟩
    have s5 := same_up (o := .lst []) nz
    refine ⟨.list (bs.map axD), .list [], .lst (lst_of (s5 _ _ g3)) (dp_ax (Paired.mapP hp3 fun _ _ z => ax_st (Tl.Same.stay s5) z)), .lst (lst_of upd_same) .nil, shaped_ax hp3, shaped_nil, _, rfl, ?_⟩
    rw [eqv_ax]
    have D5 := D4.new nz (o := .lst [])
    have o5 := s5.off (d := d) (l := l)
    generalize upd X3 z (.lst []) = X4 at s5 D5 o5 ⊢
    refine ite2 (fun ne => ?_) (fun _ => iteF ⟨.ref a, rfl, plain X4 o5 D5⟩)
    refine ⟨.ref d, rfl, d, l, 8, rfl, D5, by omega, by omega, fun j X5 j0 j1 o6 D6 => ⟨rfl, _, rfl, ite2 (fun _ => ?_) (fun _ => ?_)⟩⟩
    · refine ⟨.ref d, rfl, .ref p, rfl, d, l, p, xs, rfl, D6, lst_of (o6 _ _ pd pl (s5 _ _ g3)), pd, pl, fun e => ?_, ?_, fun x X6 hx o7 D7 => ?_⟩
      · subst e
        cases hp
        exact absurd ne (by decide)
      · rw [hp.length, lb]
        omega
      · obtain ⟨e, he, r⟩ := memP hp3 hx
        exact fin x e X6 (ax_st (((o5.trans o6).trans o7).stay D4) r) (sm e he) ((o5.trans o6).trans o7) D7
    · exact ⟨.ref a, rfl, plain X5 (o5.trans o6) D6⟩
  · obtain ⟨⟨t5, t6, rfl⟩, oX, DX, xs, bs, gX, hp, lb, sm⟩ := z
    refine ⟨.ref p, rfl, p, xs, rfl, .inl ⟨lst_of gX, fun r nr => ?_⟩⟩
    have s1 := same_up (o := .tup xs) nr
    exact q (.ref r) bs _ ⟨r, xs, rfl, tupOf upd_same, Paired.mapP hp fun _ _ z => ax_st (Tl.Same.stay s1) z⟩ sm (by omega) (oX.trans (s1.off (d := d) (l := l))) (DX.new nr)
end
end K07
set_option Elab.async false
set_option linter.all false
set_option autoImplicit false
set_option maxRecDepth 100000
set_option maxHeartbeats 4000000
namespace K07
open PySem PySem.Spec PyProof.Rows L2 Tl
open C8 (Cal pe_c)
theorem due_dt {K : PySem.W.Frag} {H : Hp} {a : Addr} (h : SqT K H a [.str "model"]) : Dp K H (.ref a) (.tuple [.str "model"]) := .tup h (.cons (.str _) .nil)
theorem insP {α β : Type} {F : α → β → Prop} {xs : List α} {ys : List β} {x : α} {y : β} (n : Nat) (h : Paired F xs ys) (hx : F x y) : Paired F (xs.take n ++ [x] ++ xs.drop n) (ys.take n ++ [y] ++ ys.drop n) := by
  induction h generalizing n with
  | nil => simpa using Paired.cons hx .nil
  | cons r t ih =>
    cases n with
    | zero => exact .cons hx (.cons r t)
    | succ n => exact .cons r (ih n)
section
variable {P : Program} {w : World} {K : PySem.W.Frag} {mg : Str → Option Value} {base : Heap}
def spMade (K : PySem.W.Frag) : Sp := fun vs H Q _ => ∃ (d l b : Addr) (ws : List Str) (v : V) (W : Wd), vs = [.ref d, v, .ref b] ∧ Deck H d l ∧ Words K H d l b ws ∧ IsWd K H v W ∧ WOk W ∧
  ∀ (u : V) (bs : List (C × C)) (H' : Hp), Bk K H' u bs → (∀ e ∈ bs, Sm e) → bs.length ≤ 6 → Off d l H H' → Deck H' d l → Q u H'
theorem cLawMade (T : Txt K mg) : Cal P w K mg base 42 "_law_made" (spMade K) [] := by
  refine cal_of T.lawMade scLawMade (fun _ _ _ _ _ _ us hl => match us, hl with | [_, _, _], _ => rfl) (fun vs H Q E h => ?_) (fun f cdv A outer s H vs Q E hr h => ?_)
  · obtain ⟨d, l, b, ws, v, W, rfl, _⟩ := h
    rfl
  obtain ⟨d, l, b, ws, v, W, rfl, D, Wo, hW, ok, q⟩ := h
  have hu64 := hr.units
  refine ⟨_, (pss_cons (ps_set (i := 3) scLawMade.nd rfl (.inl rfl) (pe_lst pa_nil))
 (pss_cons (ps_for PassesOwn.never rfl (pi_range1 rfl T.range (pa_cons pe_int pa_nil)) (pg_name (i := 4) scLawMade.nd rfl (.inl rfl))
 (pss_cons (ps_par (i := 5) (j := 6) rfl scLawMade.nd rfl rfl (by decide) rfl rfl (pa_cons (pe_c (cLawConcept T 3) hr (by decide) rfl (pa_cons (pv 0) (pa_cons (pv 2) (pa_cons pe_int pa_nil)))) (pa_cons (pe_c (cLawConcept T 3) hr (by decide) rfl (pa_cons (pv 0) (pa_cons (pv 2) (pa_cons pe_int pa_nil)))) pa_nil)) rfl)
 (C8.pss_cut (ps_if (pt_cmpR (op_neD hu64) (pe_c (cLawModel T) hr (by decide) rfl (pa_cons (pv 1) (pa_cons (pe_tup (pa_cons (pe_tup (pa_cons (pv 5) (pa_cons (pv 6) pa_nil))) pa_nil)) pa_nil))) (pe_tup (pa_cons pe_str pa_nil)) (nomark _))
 (pss_one (ps_set (i := 5) scLawMade.nd rfl (.inl rfl) (pe_tup (pa_cons pe_str (pa_cons (pv 5) (pa_cons (pv 6) pa_nil))))))
 pss_nil)
 (pss_one (ps_expr (pe_bm PySem.F.plainAttrs_list PySem.F.slot_list_append PySem.F.type_list_append mt_append (pv 3) (pa_cons (pe_tup (pa_cons (pv 5) (pa_cons (pv 6) pa_nil))) pa_nil)))))))
 (C8.pss_cut (ps_if (pt_cmpR op_gt (pe_c (cLawDraw T) hr (by decide) rfl (pa_cons (pv 0) (pa_cons pe_int pa_nil))) pe_int (nomark _))
 (pss_one (ps_expr (pe_bm PySem.F.plainAttrs_list PySem.F.slot_list_insert PySem.F.type_list_insert mt_insert (pv 3) (pa_cons (pe_c (cLawDraw T) hr (by decide) rfl (pa_cons (pv 0) (pa_cons pe_int pa_nil))) (pa_cons (pe_tup (pa_cons (pe_tup (pa_cons pe_str pa_nil)) (pa_cons (pe_c (cLawPick T) hr (by decide) rfl (pa_cons (pv 0) (pa_cons (pe_lst (pa_cons (pe_tup (pa_cons pe_str pa_nil)) (pa_cons (pe_tup (pa_cons pe_str (pa_cons (pe_tup (pa_cons pe_str pa_nil)) (pa_cons (pe_tup (pa_cons pe_str pa_nil)) pa_nil)))) (pa_cons (pe_tup (pa_cons pe_str (pa_cons (pe_ix ix_list (pv 2) pe_int (fun _ _ => rfl)) (pa_cons (pe_tup (pa_cons pe_str pa_nil)) pa_nil)))) pa_nil)))) pa_nil))) pa_nil))) pa_nil)))))
 pss_nil)
 (pss_one (ps_ret (pe_callTy call_tuple_of (by rfl) T.tuple (by decide +kernel) (pa_cons (pv 3) pa_nil))))))), ?_⟩
  refine ⟨Nat.zero_le _, fun p np => ?_⟩
  obtain ⟨pd, pl⟩ := D.off np
  refine ⟨5, rfl, by omega, by omega, ?_⟩
  refine for_range (lo := 0) (n := 5) (fun i σ X => (∃ t4 t5 t6, σ = [some (.ref d), some v, some (.ref b), some (.ref p), t4, t5, t6]) ∧ Off d l H X ∧ Deck X d l ∧ ∃ xs bs, X p = some (.lst xs) ∧ Paired (Ax K X) xs bs ∧ bs.length = i ∧ ∀ e ∈ bs, Sm e)
    ⟨⟨_, _, _, rfl⟩, off_new np, D.new np, [], [], upd_same, .nil, rfl, fun e h => nomatch h⟩ (fun i σ X hi z => ?_) (fun σ X z => ?_)
  · obtain ⟨⟨t4, t5, t6, rfl⟩, oX, DX, xs, bs, gX, hp, lb, sm⟩ := z
    have WX := Wo.off oX
    refine ⟨.ref d, rfl, .ref b, rfl, d, l, b, ws, rfl, DX, WX, fun u1 c1 X1 hc1 ok1 dp1 nn1 o2 D2 => ?_⟩
    refine ⟨.ref d, rfl, .ref b, rfl, d, l, b, ws, rfl, D2, WX.off o2, fun u2 c2 X2 hc2 ok2 dp2 nn2 o3 D3 => ⟨u1, u2, rfl, ?_⟩⟩
    have dp1 : dep c1 ≤ 3 := dp1
    have dp2 : dep c2 ≤ 3 := dp2
    have nn1 : nodes c1 + 1 ≤ 8 := nn1
    have nn2 : nodes c2 + 1 ≤ 8 := nn2
    have oY := o2.trans o3
    have a1 : Arg K X2 u1 c1 := ⟨hc1.st (o3.stay D2), ⟨ok1, by omega⟩, by omega⟩
    have a2 : Arg K X2 u2 c2 := ⟨hc2, ⟨ok2, by omega⟩, by omega⟩
    have hW2 := iswd_st ((oX.stay D).trans (oY.stay DX)) hW
    refine ⟨fun σ Y => (∃ u c, σ = [some (.ref d), some v, some (.ref b), some (.ref p), some (.int (0 + (i : Int))), some u, some u2] ∧ Arg K Y u c ∧ dep c ≤ 4) ∧ L2.Same X2 Y, ?_, ?_⟩
    · refine ⟨v, rfl, u1, rfl, u2, rfl, by show 2 ≤ sizeLine; decide, fun ea ne => ?_⟩
      refine ⟨by show 1 ≤ sizeLine; decide, fun ta nt => ?_⟩
      have s1 := same_up (o := .tup [u1, u2]) ne
      have s2 := same_up (o := .tup [.ref ea]) nt
      have hea := (Tl.Same.stay s2).tup (tupOf (K := K) (upd_same (a := ea) (H := X2) (o := .tup [u1, u2])))
      have hta := tupOf (K := K) (upd_same (a := ta) (H := upd X2 ea (.tup [u1, u2])) (o := .tup [.ref ea]))
      have s12 := s1.trans s2
      generalize upd (upd X2 ea (.tup [u1, u2])) ta (.tup [.ref ea]) = Y at s2 hea hta s12 ⊢
      refine ⟨v, .ref ta, W, [(c1, c2)], rfl, iswd_st (Tl.Same.stay s12) hW2, ok, ⟨ta, _, rfl, hta, .cons ⟨ea, u1, u2, rfl, hea, a1.same s12, a2.same s12⟩ .nil⟩, fun e he => ?_, fun y Y1 s3 hy => ?_⟩
      · obtain rfl := List.mem_singleton.mp he
        exact ⟨show dep c1 ≤ 40 by omega, show dep c2 ≤ 40 by omega⟩
      refine ⟨by show 1 ≤ sizeLine; decide, fun z nz => ?_⟩
      have s4 := same_up (o := .tup [.str "model"]) nz
      refine ⟨jmFrom W 0 [(c1, c2)], .tuple [.str "model"], (hy.st (Tl.Same.stay s4)).p, due_dt (tupOf upd_same), due_shaped (due_jm W _ 0), due_shaped .model, _, rfl, ?_⟩
      have sA := (s12.trans s3).trans s4
      generalize upd Y1 z (.tup [.str "model"]) = Y2 at s4 sA ⊢
      refine ite2 (fun _ => ?_) (fun _ => ?_)
      · refine ⟨u1, rfl, u2, rfl, by show 3 ≤ sizeLine; decide, fun r nr => ?_⟩
        have s5 := same_up (o := .tup [.str "and", u1, u2]) nr
        have b1 := a1.same (sA.trans s5)
        have b2 := a2.same (sA.trans s5)
        refine ⟨⟨.ref r, .and c1 c2, rfl, ⟨mk_and (tupOf upd_same) b1.con b2.con, ⟨⟨ok1, ok2⟩, by show max (dep c1) (dep c2) + 1 ≤ 60; omega⟩, by show nodes c1 + nodes c2 + 1 ≤ 300; omega⟩, by show max (dep c1) (dep c2) + 1 ≤ 4; omega⟩, sA.trans s5⟩
      · exact ⟨⟨u1, c1, rfl, a1.same sA, by omega⟩, sA⟩
    rintro σ' Y ⟨⟨u, c, rfl, ha, dc⟩, sY⟩
    have oXY : Off d l X Y := oY.trans (sY.off (d := d) (l := l))
    have gY := oXY _ _ pd pl gX
    have DY : Deck Y d l := by
      obtain ⟨ns, m, t, h1, h2, h3⟩ := D3
      exact ⟨ns, m, t, sY _ _ h1, sY _ _ h2, h3⟩
    refine ⟨.ref p, rfl, .inl ⟨rfl, _, lst_of gY⟩, u, rfl, u2, rfl, by show 2 ≤ sizeLine; decide, fun r nr => ?_⟩
    have s6 := same_up (o := .tup [u, u2]) nr
    have g6 := s6 _ _ gY
    have hr6 : SqT K (upd Y r (.tup [u, u2])) r [u, u2] := tupOf upd_same
    have D6 := DY.new nr (o := .tup [u, u2])
    have o6 := oXY.trans (s6.off (d := d) (l := l))
    generalize upd Y r (.tup [u, u2]) = Y6 at s6 g6 hr6 D6 o6 ⊢
    have st7 : Stay Y6 (upd Y6 p (.lst (xs ++ [.ref r]))) := stay_mut (by rw [g6]; trivial)
    refine ⟨p, xs, .ref r, rfl, rfl, g6, ?_, ⟨_, _, _, rfl⟩, (oX.trans o6).mut np, D6.mut pd pl, xs ++ [.ref r], bs ++ [(c, c2)], upd_same, snoc (Paired.mapP hp fun _ _ z => ax_st ((o6.stay DX).trans st7) z) ⟨r, u, u2, rfl, st7.tup hr6, ha.st ((Tl.Same.stay s6).trans st7), a2.st ((Tl.Same.stay (sY.trans s6)).trans st7)⟩, by rw [List.length_append, lb]; rfl, fun e he => ?_⟩
    · rw [hp.length, lb]
      exact Nat.lt_of_lt_of_le (show i < 100 by omega) (by decide)
    · rcases List.mem_append.mp he with h | h
      · exact sm e h
      · rw [List.mem_singleton.mp h]
        exact ⟨dc, show dep c2 ≤ 4 by omega⟩
  · obtain ⟨⟨t4, t5, t6, rfl⟩, oX, DX, xs, bs, gX, hp, lb, sm⟩ := z
    have WX := Wo.off oX
    refine ⟨fun σ Y => σ = [some (.ref d), some v, some (.ref b), some (.ref p), t4, t5, t6] ∧ Off d l H Y ∧ Deck Y d l ∧ ∃ xs bs, Y p = some (.lst xs) ∧ Paired (Ax K Y) xs bs ∧ bs.length ≤ 6 ∧ ∀ e ∈ bs, Sm e, ?_, ?_⟩
    · refine ⟨.ref d, rfl, d, l, 3, rfl, DX, by omega, by omega, fun k X1 k0 k1 o1 D1 => ⟨_, 0, rfl, rfl, _, rfl, ite2 (fun _ => ?_) (fun _ => ?_)⟩⟩
      · have g1 := o1 _ _ pd pl gX
        refine ⟨.ref p, rfl, .inl ⟨rfl, _, lst_of g1⟩, .ref d, rfl, d, l, 6, rfl, D1, by omega, by omega, fun j X2 j0 j1 o2 D2 => ?_⟩
        refine ⟨by show 1 ≤ sizeLine; decide, fun aa na => ?_⟩
        have D3 := D2.new na (o := .tup [.str "all"])
        have s3 := same_up (o := .tup [.str "all"]) na
        have h3 : SqT K (upd X2 aa (.tup [.str "all"])) aa [.str "all"] := tupOf upd_same
        generalize upd X2 aa (.tup [.str "all"]) = X3 at D3 s3 h3 ⊢
        refine ⟨.ref d, rfl, ?_⟩
        refine ⟨by show 1 ≤ sizeLine; decide, fun n1 m1 => ?_⟩
        have D4 := D3.new m1 (o := .tup [.str "none"])
        have s4 := same_up (o := .tup [.str "none"]) m1
        have h4 : SqT K (upd X3 n1 (.tup [.str "none"])) n1 [.str "none"] := tupOf upd_same
        generalize upd X3 n1 (.tup [.str "none"]) = X4 at D4 s4 h4 ⊢
        refine ⟨by show 1 ≤ sizeLine; decide, fun n2 m2 => ?_⟩
        have D5 := D4.new m2 (o := .tup [.str "all"])
        have s5 := same_up (o := .tup [.str "all"]) m2
        have h5 : SqT K (upd X4 n2 (.tup [.str "all"])) n2 [.str "all"] := tupOf upd_same
        generalize upd X4 n2 (.tup [.str "all"]) = X5 at D5 s5 h5 ⊢
        refine ⟨by show 1 ≤ sizeLine; decide, fun n3 m3 => ?_⟩
        have D6 := D5.new m3 (o := .tup [.str "none"])
        have s6 := same_up (o := .tup [.str "none"]) m3
        have h6 : SqT K (upd X5 n3 (.tup [.str "none"])) n3 [.str "none"] := tupOf upd_same
        generalize upd X5 n3 (.tup [.str "none"]) = X6 at D6 s6 h6 ⊢
        refine ⟨by show 3 ≤ sizeLine; decide, fun n4 m4 => ?_⟩
        have D7 := D6.new m4 (o := .tup [.str "and", .ref n2, .ref n3])
        have s7 := same_up (o := .tup [.str "and", .ref n2, .ref n3]) m4
        have h7 : SqT K (upd X6 n4 (.tup [.str "and", .ref n2, .ref n3])) n4 [.str "and", .ref n2, .ref n3] := tupOf upd_same
        generalize upd X6 n4 (.tup [.str "and", .ref n2, .ref n3]) = X7 at D7 s7 h7 ⊢
        have o27 : Off d l X2 X7 := ((((s3.trans s4).trans s5).trans s6).trans s7).off
        have W7 := ((WX.off o1).off o2).off o27
        obtain ⟨w0, wr, rfl⟩ : ∃ w0 wr, ws = w0 :: wr := by
          cases ws with
          | nil => exact absurd rfl Wo.2.2.2.1
          | cons a r => exact ⟨a, r, rfl⟩
        refine ⟨.ref b, rfl, b, _, 0, .str w0, rfl, rfl, W7.1, atI_nat (j := 0) rfl, ?_⟩
        refine ⟨by show 1 ≤ sizeLine; decide, fun n5 m5 => ?_⟩
        have D8 := D7.new m5 (o := .tup [.str "none"])
        have s8 := same_up (o := .tup [.str "none"]) m5
        have h8 : SqT K (upd X7 n5 (.tup [.str "none"])) n5 [.str "none"] := tupOf upd_same
        generalize upd X7 n5 (.tup [.str "none"]) = X8 at D8 s8 h8 ⊢
        refine ⟨by show 3 ≤ sizeLine; decide, fun n6 m6 => ?_⟩
        have D9 := D8.new m6 (o := .tup [.str "some", .str w0, .ref n5])
        have s9 := same_up (o := .tup [.str "some", .str w0, .ref n5]) m6
        have h9 : SqT K (upd X8 n6 (.tup [.str "some", .str w0, .ref n5])) n6 [.str "some", .str w0, .ref n5] := tupOf upd_same
        generalize upd X8 n6 (.tup [.str "some", .str w0, .ref n5]) = X9 at D9 s9 h9 ⊢
        have s49 := ((((s5.trans s6).trans s7).trans s8).trans s9)
        have hw0 : isW w0 = true := Wo.2.2.2.2.2 w0 List.mem_cons_self
        have k1 : Arg K X9 (.ref n1) .non := ⟨mk_non ((Tl.Same.stay s49).tup h4), ⟨trivial, by decide⟩, by decide⟩
        have k2 : Arg K X9 (.ref n4) (.and .all .non) := ⟨mk_and ((Tl.Same.stay (s8.trans s9)).tup h7) (mk_all ((Tl.Same.stay (((s6.trans s7).trans s8).trans s9)).tup h5)) (mk_non ((Tl.Same.stay ((s7.trans s8).trans s9)).tup h6)), ⟨⟨trivial, trivial⟩, by decide⟩, by decide⟩
        have k3 : Arg K X9 (.ref n6) (.some w0 .non) := ⟨mk_some h9 (mk_non ((Tl.Same.stay s9).tup h8)), ⟨⟨hw0, trivial⟩, by show 1 + 1 ≤ 60; decide⟩, by show 1 + 1 ≤ 300; decide⟩
        refine ⟨by show 3 ≤ sizeLine; decide, fun lp nlp => ?_⟩
        have D10 := D9.new nlp (o := .lst [.ref n1, .ref n4, .ref n6])
        have s10 := same_up (o := .lst [.ref n1, .ref n4, .ref n6]) nlp
        have h10 : (upd X9 lp (.lst [.ref n1, .ref n4, .ref n6])) lp = some (.lst [.ref n1, .ref n4, .ref n6]) := upd_same
        have lpd := D9.off nlp
        generalize upd X9 lp (.lst [.ref n1, .ref n4, .ref n6]) = X10 at D10 s10 h10 ⊢
        refine ⟨d, l, lp, _, rfl, D10, lst_of h10, lpd.1, lpd.2, by simp, by show 3 ≤ 100000; decide, fun x X11 hx o11 D11 => ?_⟩
        have st11 := (Tl.Same.stay s10).trans (o11.stay D10)
        obtain ⟨cx, hcx, dcx⟩ : ∃ c, Arg K X11 x c ∧ dep c ≤ 4 := by
          simp only [List.mem_cons, List.not_mem_nil, or_false] at hx
          rcases hx with rfl | rfl | rfl
          · exact ⟨_, k1.st st11, by decide⟩
          · exact ⟨_, k2.st st11, by decide⟩
          · exact ⟨_, k3.st st11, by show 1 + 1 ≤ 4; decide⟩
        refine ⟨by show 2 ≤ sizeLine; decide, fun r nr => ?_⟩
        have s12 := same_up (o := .tup [.ref aa, x]) nr
        have h12 : SqT K (upd X11 r (.tup [.ref aa, x])) r [.ref aa, x] := tupOf upd_same
        have D12 := D11.new nr (o := .tup [.ref aa, x])
        generalize upd X11 r (.tup [.ref aa, x]) = X12 at s12 h12 D12 ⊢
        have o212 : Off d l X2 X12 := ((o27.trans ((s8.trans s9).trans s10).off).trans o11).trans s12.off
        have o12 : Off d l X X12 := (o1.trans o2).trans o212
        have g12 := o12 _ _ pd pl gX
        have kall : Arg K X12 (.ref aa) .all := ⟨mk_all (((Tl.Same.stay s4).trans ((Tl.Same.stay s49).trans (st11.trans (Tl.Same.stay s12)))).tup h3), ⟨trivial, by decide⟩, by decide⟩
        have stF : Stay X12 (upd X12 p (.lst (xs.take j.toNat ++ [.ref r] ++ xs.drop j.toNat))) := stay_mut (by rw [g12]; trivial)
        refine ⟨p, xs, j, .ref r, rfl, rfl, g12, ?_, by omega, by omega, rfl, (oX.trans o12).mut np, D12.mut pd pl, xs.take j.toNat ++ [.ref r] ++ xs.drop j.toNat, bs.take j.toNat ++ [(.all, cx)] ++ bs.drop j.toNat, upd_same, insP j.toNat (Paired.mapP hp fun _ _ z => ax_st ((o12.stay DX).trans stF) z) ⟨r, .ref aa, x, rfl, stF.tup h12, kall.st stF, hcx.st ((Tl.Same.stay s12).trans stF)⟩, ?_, fun e he => ?_⟩
        · rw [hp.length, lb]
          exact Nat.lt_of_lt_of_le (show 5 < 100 by omega) (by decide)
        · simp [List.length_take]
          omega
        · rcases List.mem_append.mp he with h | h
          · rcases List.mem_append.mp h with h | h
            · exact sm e (List.mem_of_mem_take h)
            · rw [List.mem_singleton.mp h]
              exact ⟨show dep .all ≤ 4 by decide, dcx⟩
          · exact sm e (List.mem_of_mem_drop h)
      · exact ⟨rfl, oX.trans o1, D1, xs, bs, o1 _ _ pd pl gX, Paired.mapP hp fun _ _ z => ax_st (o1.stay DX) z, by omega, sm⟩
    rintro σ' Y ⟨rfl, oY, DY, xs', bs', gY, hp', lb', sm'⟩
    refine ⟨.ref p, rfl, p, xs', rfl, .inl ⟨lst_of gY, fun r nr => ?_⟩⟩
    have s1 := same_up (o := .tup xs') nr
    exact q (.ref r) bs' _ ⟨r, xs', rfl, tupOf upd_same, Paired.mapP hp' fun _ _ z => ax_st (Tl.Same.stay s1) z⟩ sm' lb' (oY.trans (s1.off (d := d) (l := l))) (DY.new nr)
end
end K07
set_option Elab.async false
set_option linter.all false
set_option autoImplicit false
set_option maxRecDepth 100000
set_option maxHeartbeats 8000000
namespace K07
open PySem PySem.Spec PyProof.Rows L2 Tl
open C8 (Cal pe_c)
/-! ### values with something otherwise -/
def oddD : List PyData := [.none, .int 0, .str "a"]
def oddV : List V := [.non, .int 0, .str "a"]
def bentI (i : Int) : List PyData := [.bool (decide (V.int i = V.int 1)), .int (i + 1), .int (i - 1), .int (-i), .int 0, .int 1, .str (toString i), .tuple [.int i], .none]
def bentS (s : Str) : List PyData := [.str (s ++ "x"), .str (Txt.upper s), .str (cutS s none (some (-1))), .str (s ++ " "), .str (s ++ "\n"), .str "some", .str "and", .str "aaaaaaaaaaa", .str "all"]
def candL : PyData → List PyData
  | .int i => bentI i
  | .str s => bentS s ++ oddD
  | _ => []
inductive Leaf : V → PyData → Prop
  | int (i : Int) (h : -100 ≤ i ∧ i ≤ 100) : Leaf (.int i) (.int i)
  | str (s : Str) (h : s.length ≤ 100) : Leaf (.str s) (.str s)
def Odd (K : PySem.W.Frag) (H : Hp) (d l od : Addr) : Prop := SqL K H od oddV ∧ od ≠ d ∧ od ≠ l
theorem Odd.off {K : PySem.W.Frag} {H H' : Hp} {d l od : Addr} (h : Odd K H d l od) (o : Off d l H H') : Odd K H' d l od := ⟨o.seq h.2.1 h.2.2 h.1, h.2⟩
theorem small_log {i : Int} (h : -100 ≤ i ∧ i ≤ 100) : i.natAbs.log2 < 1920 := by
  have h1 : i.natAbs ≤ 100 := by omega
  by_cases h0 : i.natAbs = 0
  · rw [h0]; decide
  · rw [Nat.log2_lt h0]
    exact Nat.lt_of_le_of_lt h1 (by decide)
section
variable {P : Program} {w : World} {K : PySem.W.Frag} {mg : Str → Option Value} {base : Heap}
theorem pick_any {H : Hp} {d l p : Addr} {xs : List V} {ds : List PyData} {Q : VK} (D : Deck H d l) (hp : SqL K H p xs) (pd : p ≠ d) (pl : p ≠ l) (h : Paired (Dt K H) xs ds) (ne : xs ≠ []) (len : xs.length ≤ 1000)
    (k : ∀ (y : V) (a : PyData) (H' : Hp), Dt K H' y a → a ∈ ds → Off d l H H' → Deck H' d l → Q y H') : spPick K [.ref d, .ref p] H Q fun _ _ _ => False :=
  ⟨d, l, p, xs, rfl, D, hp, pd, pl, ne, by omega, fun x H' hx o D' => by
    obtain ⟨a, ha, r⟩ := memP h hx
    exact k x a H' (r.st (o.stay D)) ha o D'⟩
theorem odd_dt (H : Hp) : Paired (Dt K H) oddV oddD := .cons .non (.cons (.int _) (.cons (.str _) .nil))
def spBentL (K : PySem.W.Frag) : Sp := fun vs H Q _ => ∃ (d l od : Addr) (y : V) (a : PyData) (k : Int), vs = [.ref d, y, .ref od, .int k] ∧ Deck H d l ∧ Odd K H d l od ∧ Leaf y a ∧
  ∀ (y' : V) (a' : PyData) (H' : Hp), Dt K H' y' a' → a' ∈ candL a → Off d l H H' → Deck H' d l → Q y' H'
theorem cBentL1 (T : Txt K mg) (ih : Cal P w K mg base 0 "_law_bent" (fun _ _ _ _ => False) []) : Cal P w K mg base 3 "_law_bent" (spBentL K) [] := by
  refine cal_of T.lawBent scLawBent (fun _ _ _ _ _ _ us hl => match us, hl with | [_, _, _, _], _ => rfl) (fun vs H Q E h => ?_) (fun f cdv A outer s H vs Q E hr h => ?_)
  · obtain ⟨d, l, od, y, a, k, rfl, _⟩ := h
    rfl
  obtain ⟨d, l, od, y, a, k, rfl, D, O, lf, q⟩ := h
  have hu64 := hr.units
  refine ⟨_, (pss_cons (ps_if (PW.pt (pw_and (pt_val (pe_callB call_isi (by rfl) T.isinstance (by decide +kernel) (pa_cons (pv 1) (pa_cons (pe_bltn (v := V.ty "tuple") (u := Value.type "tuple") (by rfl) T.tuple (by decide +kernel) rfl) pa_nil)))) (pw_and (pt_cmpR (op_neD hu64) (pv 1) (pe_tup pa_nil) (nomark _)) (pw_and (pt_cmpR op_gt (pv 3) pe_int (nomark _)) (pw_and1 (pt_cmpR op_gt (pe_c (cLawDraw T) hr (by decide) rfl (pa_cons (pv 0) (pa_cons pe_int pa_nil))) pe_int (nomark _)))))))
 (pss_cons (ps_set (i := 4) scLawBent.nd rfl (.inl rfl) (pe_c (cLawDraw T) hr (by decide) rfl (pa_cons (pv 0) (pa_cons (pe_callB call_len_seq (by rfl) T.len (by decide +kernel) (pa_cons (pv 1) pa_nil)) pa_nil))))
 (pss_one (ps_ret (pe_op op_catA (pe_op op_catA (pe_slice sl_tupA (pv 1) po_none (po_some (pv 4))) (pe_tup (pa_cons (pe_c ih hr (by decide) rfl (pa_cons (pv 0) (pa_cons (pe_ix ix_tup (pv 1) (pv 4) (fun _ _ => rfl)) (pa_cons (pv 2) (pa_cons (pe_op op_sub (pv 3) pe_int) pa_nil))))) pa_nil))) (pe_slice sl_tupA (pv 1) (po_some (pe_op op_add (pv 4) pe_int)) po_none)))))
 pss_nil)
 (pss_cons (ps_if (pt_val (pe_callB call_isi (by rfl) T.isinstance (by decide +kernel) (pa_cons (pv 1) (pa_cons (pe_bltn (v := V.ty "tuple") (u := Value.type "tuple") (by rfl) T.tuple (by decide +kernel) rfl) pa_nil))))
 (pss_cons (ps_set (i := 4) scLawBent.nd rfl (.inl rfl) (pe_c (cLawDraw T) hr (by decide) rfl (pa_cons (pv 0) (pa_cons (pe_callB (call_max2 rfl) (by rfl) T.max (by decide +kernel) (pa_cons pe_int (pa_cons (pe_callB call_len_seq (by rfl) T.len (by decide +kernel) (pa_cons (pv 1) pa_nil)) pa_nil))) pa_nil))))
 (pss_cons (ps_set (i := 5) scLawBent.nd rfl (.inl rfl) (pe_lst (pa_cons (pe_callTy call_list_of (by rfl) T.list (by decide +kernel) (pa_cons (pv 1) pa_nil)) (pa_cons (pe_op op_catA (pe_slice sl_tupA (pv 1) po_none (po_some (pv 4))) (pe_slice sl_tupA (pv 1) (po_some (pe_op op_add (pv 4) pe_int)) po_none)) (pa_cons (pe_op op_catA (pe_op op_catA (pe_slice sl_tupA (pv 1) po_none (po_some (pv 4))) (pe_slice sl_tupA (pv 1) (po_some (pv 4)) (po_some (pe_op op_add (pv 4) pe_int)))) (pe_slice sl_tupA (pv 1) (po_some (pv 4)) po_none)) (pa_cons (pe_revT (K := K) rfl (pv 1)) pa_nil))))))
 (pss_cons (ps_expr (pe_bm PySem.F.plainAttrs_list PySem.F.slot_list_extend PySem.F.type_list_extend mt_extend (pv 5) (pa_cons (pe_lst (pa_cons (pe_op op_catA (pv 1) (pe_tup (pa_cons (pe_c (cLawPick T) hr (by decide) rfl (pa_cons (pv 0) (pa_cons (pv 2) pa_nil))) pa_nil))) (pa_cons (pe_tup (pa_cons (pv 1) pa_nil)) (pa_cons (pe_slice sl_tupA (pv 1) po_none (po_some (pv 4))) (pa_cons (pe_op op_catA (pe_slice sl_tupA (pv 1) (po_some (pv 4)) po_none) (pe_slice sl_tupA (pv 1) po_none (po_some (pv 4)))) pa_nil))))) pa_nil)))
 (pss_cons (ps_expr (pe_bm PySem.F.plainAttrs_list PySem.F.slot_list_append PySem.F.type_list_append mt_append (pv 5) (pa_cons (pe_c (cLawPick T) hr (by decide) rfl (pa_cons (pv 0) (pa_cons (pv 2) pa_nil))) pa_nil)))
 (pss_one (ps_ret (pe_c (cLawPick T) hr (by decide) rfl (pa_cons (pv 0) (pa_cons (pv 5) pa_nil)))))))))
 pss_nil)
 (pss_cons (ps_if (pt_val (pe_callB call_isi (by rfl) T.isinstance (by decide +kernel) (pa_cons (pv 1) (pa_cons (pe_bltn (v := V.ty "int") (u := Value.type "int") (by rfl) T.int (by decide +kernel) rfl) pa_nil))))
 (pss_one (ps_ret (pe_c (cLawPick T) hr (by decide) rfl (pa_cons (pv 0) (pa_cons (pe_lst (pa_cons (pe_cmpR op_eq (pv 1) pe_int (nomark _)) (pa_cons (pe_op op_add (pv 1) pe_int) (pa_cons (pe_op op_sub (pv 1) pe_int) (pa_cons (pe_un un_neg (pv 1)) (pa_cons pe_int (pa_cons pe_int (pa_cons (pe_callTy call_str_int (by rfl) T.str (by decide +kernel) (pa_cons (pv 1) pa_nil)) (pa_cons (pe_tup (pa_cons (pv 1) pa_nil)) (pa_cons pe_non pa_nil)))))))))) pa_nil)))))
 pss_nil)
 (pss_cons (ps_if (PW.pt (pw_and (pt_val (pe_callB call_isi (by rfl) T.isinstance (by decide +kernel) (pa_cons (pv 1) (pa_cons (pe_bltn (v := V.ty "str") (u := Value.type "str") (by rfl) T.str (by decide +kernel) rfl) pa_nil)))) (pw_and1 (pt_cmpR op_eq (pe_c (cLawDraw T) hr (by decide) rfl (pa_cons (pv 0) (pa_cons pe_int pa_nil))) pe_int (nomark _)))))
 (pss_one (ps_ret (pe_c (cLawPick T) hr (by decide) rfl (pa_cons (pv 0) (pa_cons (pe_lst (pa_cons (pe_op op_add_str (pv 1) pe_str) (pa_cons (pe_bm0 PySem.F.plainAttrs_str PySem.F.slot_str_upper PySem.F.type_str_upper mt_upper (pv 1)) (pa_cons (pe_slice sl_str (pv 1) po_none (po_some (pe_un un_neg pe_int))) (pa_cons (pe_op op_add_str (pv 1) pe_str) (pa_cons (pe_op op_add_str (pv 1) pe_str) (pa_cons pe_str (pa_cons pe_str (pa_cons (pe_op op_mulA pe_str pe_int) (pa_cons pe_str pa_nil)))))))))) pa_nil)))))
 pss_nil)
 (pss_one (ps_ret (pe_c (cLawPick T) hr (by decide) rfl (pa_cons (pv 0) (pa_cons (pv 2) pa_nil))))))))), ?_⟩
  cases lf with
  | int i hi =>
    refine ⟨.int i, rfl, .int i, .ty "tuple", .type "int", .type "tuple", false, rfl, .ty _, .base (.int i), kit_ty (by decide +kernel), false, rfl, iteF (iteF ?_)⟩
    refine ⟨.int i, rfl, .int i, .ty "tuple", .type "int", .type "tuple", false, rfl, .ty _, .base (.int i), kit_ty (by decide +kernel), false, rfl, iteF ?_⟩
    refine ⟨.int i, rfl, .int i, .ty "int", .type "int", .type "int", true, rfl, .ty _, .base (.int i), kit_ty (by decide +kernel), true, rfl, iteT ?_⟩
    refine ⟨.ref d, rfl, .int i, rfl, rfl, .int i, rfl, i, 1, rfl, rfl, .int i, rfl, i, 1, rfl, rfl, .int i, rfl, i, rfl, .int i, rfl, i, rfl, small_log hi, .int i, rfl, by show 1 ≤ sizeLine; decide, fun t nt => ?_⟩
    refine ⟨by show 9 ≤ sizeLine; decide, fun p np => ?_⟩
    have D1 := D.new nt (o := .tup [.int i])
    have D2 := D1.new np (o := .lst [.bl (decide (V.int i = V.int 1)), .int (i + 1), .int (i - 1), .int (-i), .int 0, .int 1, .str (toString i), .ref t, .non])
    have hp := D1.off np
    have s1 := same_up (o := .lst [.bl (decide (V.int i = V.int 1)), .int (i + 1), .int (i - 1), .int (-i), .int 0, .int 1, .str (toString i), .ref t, .non]) np
    have ht := (Tl.Same.stay s1).tup (tupOf (K := K) (upd_same (a := t) (H := H) (o := .tup [.int i])))
    refine pick_any (K := K) D2 (lst_of upd_same) hp.1 hp.2 (ds := bentI i) (.cons (.bl _) (.cons (.int _) (.cons (.int _) (.cons (.int _) (.cons (.int _) (.cons (.int _) (.cons (.str _) (.cons (.tup ht (.cons (.int _) .nil)) (.cons .non .nil))))))))) (by simp) (by show 9 ≤ 1000; decide) fun y' a' H' h1 h2 o3 D3 => ?_
    exact q y' a' H' h1 h2 (((same_up nt).trans s1).off.trans o3) D3
  | str x hx =>
    have sz : x.length ≤ sizeLine := Nat.le_of_lt (small1000 (by omega))
    refine ⟨.str x, rfl, .str x, .ty "tuple", .type "str", .type "tuple", false, rfl, .ty _, .base (.str x), kit_ty (by decide +kernel), false, rfl, iteF (iteF ?_)⟩
    refine ⟨.str x, rfl, .str x, .ty "tuple", .type "str", .type "tuple", false, rfl, .ty _, .base (.str x), kit_ty (by decide +kernel), false, rfl, iteF ?_⟩
    refine ⟨.str x, rfl, .str x, .ty "int", .type "str", .type "int", false, rfl, .ty _, .base (.str x), kit_ty (by decide +kernel), false, rfl, iteF ?_⟩
    refine ⟨.str x, rfl, .str x, .ty "str", .type "str", .type "str", true, rfl, .ty _, .base (.str x), kit_ty (by decide +kernel), true, rfl, iteT ?_⟩
    refine ⟨.ref d, rfl, d, l, 2, rfl, D, by omega, by omega, fun j X j0 j1 o1 D1 => ⟨rfl, _, rfl, ite2 (fun _ => ?_) (fun _ => ?_)⟩⟩
    · have add : ∀ z : Str, z.length ≤ 1 → x.length + z.length ≤ sizeLine := fun z hz => Nat.le_trans (show x.length + z.length ≤ 200 by omega) (by decide)
      refine ⟨.ref d, rfl, .str x, rfl, x, "x", rfl, rfl, add _ (by decide), .str x, rfl, rfl, x, rfl, rfl, Nat.le_trans hx (by decide), .str x, rfl, 1, rfl, -1, rfl, x, rfl, sz, .str x, rfl, x, " ", rfl, rfl, add _ (by decide), .str x, rfl, x, "\n", rfl, rfl, add _ (by decide), rfl, rfl, ?_⟩
      refine ⟨by show 9 ≤ sizeLine; decide, fun p np => ?_⟩
      have hp := D1.off np
      refine pick_any (K := K) (D1.new np) (lst_of upd_same) hp.1 hp.2 (ds := bentS x) (.cons (.str _) (.cons (.str _) (.cons (.str _) (.cons (.str _) (.cons (.str _) (.cons (.str _) (.cons (.str _) (.cons (.str _) (.cons (.str _) .nil))))))))) (by simp) (by show 9 ≤ 1000; decide) fun y' a' H' h1 h2 o3 D3 => ?_
      exact q y' a' H' h1 (List.mem_append_left _ h2) ((o1.trans (off_new np)).trans o3) D3
    · have O1 := O.off o1
      refine ⟨.ref d, rfl, .ref od, rfl, pick_any (K := K) D1 O1.1 O1.2.1 O1.2.2 (odd_dt X) (by simp [oddV]) (by decide) fun y' a' H' h1 h2 o3 D3 => ?_⟩
      exact q y' a' H' h1 (List.mem_append_right _ h2) (o1.trans o3) D3
end
end K07
set_option Elab.async false
set_option linter.all false
set_option autoImplicit false
set_option maxRecDepth 100000
set_option maxHeartbeats 8000000
namespace Tl
open PySem PySem.Spec PyProof.Rows L2
theorem cat_r {K : PySem.W.Frag} {H : Hp} {Q : VK} {a b : Addr} {xs ys : List V} (ha : SqT K H a xs) (hb : SqT K H b ys) (len : xs.length + ys.length ≤ sizeLine) (q : ∀ r H', L2.Same H H' → SqT K H' r (xs ++ ys) → Q (.ref r) H') : rCatA K (.ref a) (.ref b) H Q := by
  refine ⟨a, b, xs, ys, rfl, rfl, ha, hb, len, fun e => ?_, fun _ e => ?_, fun _ _ p np => q p _ (same_up np) (tupOf upd_same)⟩
  · subst e
    exact q b H (L2.Same.refl H) hb
  · subst e
    exact q a H (L2.Same.refl H) (by rw [List.append_nil]; exact ha)
theorem sl_r {K : PySem.W.Frag} {H : Hp} {Q : VK} {a : Addr} {xs : List V} {lo hi : Option Int} (ha : SqT K H a xs) (q : ∀ r H', L2.Same H H' → SqT K H' r (cutV xs lo hi) → Q (.ref r) H') : rSlA K (.ref a) lo hi H Q := by
  refine ⟨a, xs, rfl, ha, fun e => ?_, fun _ p np => q p _ (same_up np) (tupOf upd_same)⟩
  refine q a H (L2.Same.refl H) ?_
  unfold cutV
  rw [e.1, e.2, List.drop_zero, Nat.sub_zero, List.take_of_length_le (Nat.le_refl _)]
  exact ha
theorem cut_to {xs : List V} (k : Nat) : cutV xs none (some (k : Int)) = xs.take k := by
  unfold cutV
  rw [HT.sIx_none, HT.sIx_nat, List.drop_zero, Nat.sub_zero]
  by_cases h : k ≤ xs.length
  · rw [Nat.min_eq_left h]
  · rw [Nat.min_eq_right (by omega), List.take_of_length_le (Nat.le_refl _), List.take_of_length_le (by omega)]
theorem cut_from {xs : List V} (k : Nat) : cutV xs (some (k : Int)) none = xs.drop k := by
  unfold cutV
  rw [HT.sIx_none, HT.sIx_nat]
  by_cases h : k ≤ xs.length
  · rw [Nat.min_eq_left h]
    exact List.take_of_length_le (by rw [List.length_drop]; exact Nat.le_refl _)
  · rw [Nat.min_eq_right (by omega), List.drop_of_length_le (Nat.le_refl _), List.drop_of_length_le (by omega), List.take_nil]
theorem cut_one {xs : List V} (k : Nat) : cutV xs (some (k : Int)) (some ((k : Int) + 1)) = (xs.drop k).take 1 := by
  have e : ((k : Int) + 1) = ((k + 1 : Nat) : Int) := by omega
  unfold cutV
  rw [e, HT.sIx_nat, HT.sIx_nat]
  by_cases h : k + 1 ≤ xs.length
  · rw [Nat.min_eq_left h, Nat.min_eq_left (by omega), show k + 1 - k = 1 by omega]
  · rw [Nat.min_eq_right (by omega), show xs.length - min k xs.length = 0 by omega, List.take_zero]
    by_cases h2 : k = xs.length
    · subst h2
      rw [List.drop_of_length_le (Nat.le_refl _), List.take_nil]
    · rw [List.drop_of_length_le (by omega), List.take_nil]
section
variable {K : PySem.W.Frag} {H : Hp}
theorem dts_app : ∀ {xs ys : List V} {ds es : List PyData}, Dts K H xs ds → Dts K H ys es → Dts K H (xs ++ ys) (ds ++ es)
  | _, _, _, _, .nil, h => h
  | _, _, _, _, .cons r t, h => .cons r (dts_app t h)
theorem dts_take : ∀ {xs : List V} {ds : List PyData} (n : Nat), Dts K H xs ds → Dts K H (xs.take n) (ds.take n)
  | _, _, 0, _ => by rw [List.take_zero, List.take_zero]; exact .nil
  | _, _, _ + 1, .nil => .nil
  | _, _, n + 1, .cons r t => .cons r (dts_take n t)
theorem dts_drop : ∀ {xs : List V} {ds : List PyData} (n : Nat), Dts K H xs ds → Dts K H (xs.drop n) (ds.drop n)
  | _, _, 0, h => h
  | _, _, _ + 1, .nil => .nil
  | _, _, n + 1, .cons _ t => dts_drop n t
theorem dts_rev {xs : List V} {ds : List PyData} (h : Dts K H xs ds) : Dts K H xs.reverse ds.reverse := by
  match h with
  | .nil => exact .nil
  | .cons r t =>
    rw [List.reverse_cons, List.reverse_cons]
    exact dts_app (dts_rev t) (.cons r .nil)
theorem dts_len : ∀ {xs : List V} {ds : List PyData}, Dts K H xs ds → xs.length = ds.length
  | _, _, .nil => rfl
  | _, _, .cons _ t => by rw [List.length_cons, List.length_cons, dts_len t]
theorem dts_dp {xs : List V} {ds : List PyData} (h : Dts K H xs ds) : DpAll K H xs ds := Dts.dp ds xs h
end
end Tl
namespace K07
open PySem PySem.Spec PyProof.Rows L2 Tl
open C8 (Cal pe_c)
/-- what bending a tuple of leaves may give -/
def candT (ds : List PyData) : List PyData :=
  ((List.range ds.length).flatMap fun n => (candL (ds.getD n .none)).map fun a => .tuple (ds.take n ++ [a] ++ ds.drop (n + 1))) ++
  ((List.range ds.length).flatMap fun n => [.list ds, .tuple (ds.take n ++ ds.drop (n + 1)), .tuple (ds.take n ++ (ds.drop n).take 1 ++ ds.drop n), .tuple ds.reverse, .tuple [.tuple ds], .tuple (ds.take n), .tuple (ds.drop n ++ ds.take n)]) ++
  (oddD.map fun o => .tuple (ds ++ [o])) ++ oddD
theorem in1 {ds : List PyData} {n : Nat} {a : PyData} (h : n < ds.length) (ha : a ∈ candL (ds.getD n .none)) : .tuple (ds.take n ++ [a] ++ ds.drop (n + 1)) ∈ candT ds := by
  unfold candT
  refine List.mem_append_left _ (List.mem_append_left _ (List.mem_append_left _ ?_))
  exact List.mem_flatMap.mpr ⟨n, List.mem_range.mpr h, List.mem_map.mpr ⟨a, ha, rfl⟩⟩
theorem in2 {ds : List PyData} {n : Nat} {a : PyData} (h : n < ds.length) (ha : a ∈ [PyData.list ds, .tuple (ds.take n ++ ds.drop (n + 1)), .tuple (ds.take n ++ (ds.drop n).take 1 ++ ds.drop n), .tuple ds.reverse, .tuple [.tuple ds], .tuple (ds.take n), .tuple (ds.drop n ++ ds.take n)]) : a ∈ candT ds := by
  unfold candT
  refine List.mem_append_left _ (List.mem_append_left _ (List.mem_append_right _ ?_))
  exact List.mem_flatMap.mpr ⟨n, List.mem_range.mpr h, ha⟩
theorem in3 {ds : List PyData} {o : PyData} (h : o ∈ oddD) : .tuple (ds ++ [o]) ∈ candT ds := by
  unfold candT
  exact List.mem_append_left _ (List.mem_append_right _ (List.mem_map.mpr ⟨o, h, rfl⟩))
theorem in4 {ds : List PyData} {o : PyData} (h : o ∈ oddD) : o ∈ candT ds := List.mem_append_right _ h
theorem leaf_dt {K : PySem.W.Frag} {H : Hp} {xs : List V} {ds : List PyData} (h : Paired Leaf xs ds) : Dts K H xs ds := by
  induction h with
  | nil => exact .nil
  | cons r _ ih =>
    cases r with
    | int i _ => exact .cons (.int i) ih
    | str s _ => exact .cons (.str s) ih
theorem leaf_canLay {xs : List V} {ds : List PyData} (h : Paired Leaf xs ds) (ok : ∀ s, PyData.str s ∈ ds → PyData.strOk s = true) : PyData.canLayAll0 ds = true ∧ PyData.depthAll ds = 0 := by
  induction h with
  | nil => exact ⟨by simp [PyData.canLayAll0], by simp [PyData.depthAll]⟩
  | cons r _ ih =>
    obtain ⟨h1, h2⟩ := ih fun s hs => ok s (List.mem_cons_of_mem _ hs)
    cases r with
    | int i _ => exact ⟨by simp [PyData.canLayAll0, PyData.canLay0, h1], by simp [PyData.depthAll, PyData.depth, h2]⟩
    | str s _ => exact ⟨by simp [PyData.canLayAll0, PyData.canLay0, h1, ok s List.mem_cons_self], by simp [PyData.depthAll, PyData.depth, h2]⟩
section
variable {P : Program} {w : World} {K : PySem.W.Frag} {mg : Str → Option Value} {base : Heap}
theorem cBentL (T : Txt K mg) : Cal P w K mg base 3 "_law_bent" (spBentL K) [] := cBentL1 T (cal_false T.lawBent (ps := ["deck", "thing", "odd", "deep"]) (fun _ _ _ _ _ _ us hl => match us, hl with | [_, _, _, _], _ => rfl))
def spBentT (K : PySem.W.Frag) : Sp := fun vs H Q _ => ∃ (d l od a : Addr) (xs : List V) (ds : List PyData), vs = [.ref d, .ref a, .ref od, .int 3] ∧ Deck H d l ∧ Odd K H d l od ∧ SqT K H a xs ∧ Paired Leaf xs ds ∧ (∀ s, PyData.str s ∈ ds → PyData.strOk s = true) ∧ ds ≠ [] ∧ ds.length ≤ 10 ∧
  ∀ (y' : V) (a' : PyData) (H' : Hp), (Dt K H' y' a' ∨ ∃ q1, y' = .ref q1 ∧ H q1 = none ∧ H' q1 = some (.lst xs) ∧ a' = .list ds) → a' ∈ candT ds → Off d l H H' → Deck H' d l → Q y' H'
theorem cLawBent (T : Txt K mg) : Cal P w K mg base 4 "_law_bent" (spBentT K) [] := by
  have ih := cBentL (P := P) (w := w) (base := base) T
  refine cal_of T.lawBent scLawBent (fun _ _ _ _ _ _ us hl => match us, hl with | [_, _, _, _], _ => rfl) (fun vs H Q E h => ?_) (fun f cdv A outer s H vs Q E hr h => ?_)
  · obtain ⟨d, l, od, a, xs, ds, rfl, _⟩ := h
    rfl
  obtain ⟨d, l, od, a, xs, ds, rfl, D, O, ha, lf, okS, ne, len, q⟩ := h
  have hu64 := hr.units
  refine ⟨_, (pss_cons (ps_if (PW.pt (pw_and (pt_val (pe_callB call_isi (by rfl) T.isinstance (by decide +kernel) (pa_cons (pv 1) (pa_cons (pe_bltn (v := V.ty "tuple") (u := Value.type "tuple") (by rfl) T.tuple (by decide +kernel) rfl) pa_nil)))) (pw_and (pt_cmpR (op_neD hu64) (pv 1) (pe_tup pa_nil) (nomark _)) (pw_and (pt_cmpR op_gt (pv 3) pe_int (nomark _)) (pw_and1 (pt_cmpR op_gt (pe_c (cLawDraw T) hr (by decide) rfl (pa_cons (pv 0) (pa_cons pe_int pa_nil))) pe_int (nomark _)))))))
 (pss_cons (ps_set (i := 4) scLawBent.nd rfl (.inl rfl) (pe_c (cLawDraw T) hr (by decide) rfl (pa_cons (pv 0) (pa_cons (pe_callB call_len_seq (by rfl) T.len (by decide +kernel) (pa_cons (pv 1) pa_nil)) pa_nil))))
 (pss_one (ps_ret (pe_op op_catA (pe_op op_catA (pe_slice sl_tupA (pv 1) po_none (po_some (pv 4))) (pe_tup (pa_cons (pe_c ih hr (by decide) rfl (pa_cons (pv 0) (pa_cons (pe_ix ix_tup (pv 1) (pv 4) (fun _ _ => rfl)) (pa_cons (pv 2) (pa_cons (pe_op op_sub (pv 3) pe_int) pa_nil))))) pa_nil))) (pe_slice sl_tupA (pv 1) (po_some (pe_op op_add (pv 4) pe_int)) po_none)))))
 pss_nil)
 (pss_cons (ps_if (pt_val (pe_callB call_isi (by rfl) T.isinstance (by decide +kernel) (pa_cons (pv 1) (pa_cons (pe_bltn (v := V.ty "tuple") (u := Value.type "tuple") (by rfl) T.tuple (by decide +kernel) rfl) pa_nil))))
 (pss_cons (ps_set (i := 4) scLawBent.nd rfl (.inl rfl) (pe_c (cLawDraw T) hr (by decide) rfl (pa_cons (pv 0) (pa_cons (pe_callB (call_max2 rfl) (by rfl) T.max (by decide +kernel) (pa_cons pe_int (pa_cons (pe_callB call_len_seq (by rfl) T.len (by decide +kernel) (pa_cons (pv 1) pa_nil)) pa_nil))) pa_nil))))
 (pss_cons (ps_set (i := 5) scLawBent.nd rfl (.inl rfl) (pe_lst (pa_cons (pe_callTy call_list_of (by rfl) T.list (by decide +kernel) (pa_cons (pv 1) pa_nil)) (pa_cons (pe_op op_catA (pe_slice sl_tupA (pv 1) po_none (po_some (pv 4))) (pe_slice sl_tupA (pv 1) (po_some (pe_op op_add (pv 4) pe_int)) po_none)) (pa_cons (pe_op op_catA (pe_op op_catA (pe_slice sl_tupA (pv 1) po_none (po_some (pv 4))) (pe_slice sl_tupA (pv 1) (po_some (pv 4)) (po_some (pe_op op_add (pv 4) pe_int)))) (pe_slice sl_tupA (pv 1) (po_some (pv 4)) po_none)) (pa_cons (pe_revT (K := K) rfl (pv 1)) pa_nil))))))
 (pss_cons (ps_expr (pe_bm PySem.F.plainAttrs_list PySem.F.slot_list_extend PySem.F.type_list_extend mt_extend (pv 5) (pa_cons (pe_lst (pa_cons (pe_op op_catA (pv 1) (pe_tup (pa_cons (pe_c (cLawPick T) hr (by decide) rfl (pa_cons (pv 0) (pa_cons (pv 2) pa_nil))) pa_nil))) (pa_cons (pe_tup (pa_cons (pv 1) pa_nil)) (pa_cons (pe_slice sl_tupA (pv 1) po_none (po_some (pv 4))) (pa_cons (pe_op op_catA (pe_slice sl_tupA (pv 1) (po_some (pv 4)) po_none) (pe_slice sl_tupA (pv 1) po_none (po_some (pv 4)))) pa_nil))))) pa_nil)))
 (pss_cons (ps_expr (pe_bm PySem.F.plainAttrs_list PySem.F.slot_list_append PySem.F.type_list_append mt_append (pv 5) (pa_cons (pe_c (cLawPick T) hr (by decide) rfl (pa_cons (pv 0) (pa_cons (pv 2) pa_nil))) pa_nil)))
 (pss_one (ps_ret (pe_c (cLawPick T) hr (by decide) rfl (pa_cons (pv 0) (pa_cons (pv 5) pa_nil)))))))))
 pss_nil)
 (pss_cons (ps_if (pt_val (pe_callB call_isi (by rfl) T.isinstance (by decide +kernel) (pa_cons (pv 1) (pa_cons (pe_bltn (v := V.ty "int") (u := Value.type "int") (by rfl) T.int (by decide +kernel) rfl) pa_nil))))
 (pss_one (ps_ret (pe_c (cLawPick T) hr (by decide) rfl (pa_cons (pv 0) (pa_cons (pe_lst (pa_cons (pe_cmpR op_eq (pv 1) pe_int (nomark _)) (pa_cons (pe_op op_add (pv 1) pe_int) (pa_cons (pe_op op_sub (pv 1) pe_int) (pa_cons (pe_un un_neg (pv 1)) (pa_cons pe_int (pa_cons pe_int (pa_cons (pe_callTy call_str_int (by rfl) T.str (by decide +kernel) (pa_cons (pv 1) pa_nil)) (pa_cons (pe_tup (pa_cons (pv 1) pa_nil)) (pa_cons pe_non pa_nil)))))))))) pa_nil)))))
 pss_nil)
 (pss_cons (ps_if (PW.pt (pw_and (pt_val (pe_callB call_isi (by rfl) T.isinstance (by decide +kernel) (pa_cons (pv 1) (pa_cons (pe_bltn (v := V.ty "str") (u := Value.type "str") (by rfl) T.str (by decide +kernel) rfl) pa_nil)))) (pw_and1 (pt_cmpR op_eq (pe_c (cLawDraw T) hr (by decide) rfl (pa_cons (pv 0) (pa_cons pe_int pa_nil))) pe_int (nomark _)))))
 (pss_one (ps_ret (pe_c (cLawPick T) hr (by decide) rfl (pa_cons (pv 0) (pa_cons (pe_lst (pa_cons (pe_op op_add_str (pv 1) pe_str) (pa_cons (pe_bm0 PySem.F.plainAttrs_str PySem.F.slot_str_upper PySem.F.type_str_upper mt_upper (pv 1)) (pa_cons (pe_slice sl_str (pv 1) po_none (po_some (pe_un un_neg pe_int))) (pa_cons (pe_op op_add_str (pv 1) pe_str) (pa_cons (pe_op op_add_str (pv 1) pe_str) (pa_cons pe_str (pa_cons pe_str (pa_cons (pe_op op_mulA pe_str pe_int) (pa_cons pe_str pa_nil)))))))))) pa_nil)))))
 pss_nil)
 (pss_one (ps_ret (pe_c (cLawPick T) hr (by decide) rfl (pa_cons (pv 0) (pa_cons (pv 2) pa_nil))))))))), ?_⟩
  have lxs := lf.length
  have npos : 0 < xs.length := by rw [lxs]; exact List.length_pos_iff.mpr ne
  have dts : ∀ Y, Dts K Y xs ds := fun Y => leaf_dt lf
  have lay := leaf_canLay lf okS
  have shp : SeqAt.shaped (.tuple ds) = true := by
    unfold SeqAt.shaped
    rw [PyData.canLay0, lay.1, PyData.depth, lay.2]
    rfl
  refine ⟨.ref a, rfl, .ref a, .ty "tuple", .type "tuple", .type "tuple", true, rfl, .ty _, ty_tup ha, kit_ty (by decide +kernel), true, rfl, iteT ?_⟩
  refine ⟨.ref a, rfl, Nat.zero_le _, fun z nz => ?_⟩
  have D1 := D.new nz (o := .tup [])
  have o1 : Off d l H (upd H z (.tup [])) := off_new nz
  have hz : SqT K (upd H z (.tup [])) z [] := tupOf upd_same
  generalize upd H z (.tup []) = X1 at D1 o1 hz ⊢
  have ha1 := (o1.stay D).tup ha
  refine ⟨.tuple ds, .tuple [], .tup ha1 (dts_dp (dts _)), .tup hz .nil, shp, shaped_tnil, _, rfl, ?_⟩
  have e0 : (!PyData.eqv (.tuple ds) (.tuple [])) = true := by
    show (!PyData.eqvAll ds []) = true
    rw [eqv_nil]
    cases ds with
    | nil => exact absurd rfl ne
    | cons _ _ => rfl
  rw [e0]
  refine iteT ⟨.int 3, rfl, 3, 0, rfl, rfl, _, rfl, iteT ?_⟩
  refine ⟨.ref d, rfl, d, l, 4, rfl, D1, by omega, by omega, fun j X2 j0 j1 o2 D2 => ⟨j, 0, rfl, rfl, _, rfl, ?_⟩⟩
  have ha2 := (o2.stay D1).tup ha1
  have o12 := o1.trans o2
  have leaf : ∀ n, n < xs.length → ∃ y b, xs[n]? = some y ∧ ds[n]? = some b ∧ Leaf y b := fun n hn => by
    obtain ⟨b, hb, r⟩ := getP lf (List.getElem?_eq_getElem hn)
    exact ⟨_, b, List.getElem?_eq_getElem hn, hb, r⟩
  refine ite2 (fun _ => ?_) (fun _ => ?_)
  · -- one of its parts
    refine ⟨.ref d, rfl, .ref a, rfl, a, xs, rfl, .inr ha2, d, l, (xs.length : Int), rfl, D2, by omega, by omega, fun at_ X3 a0 a1 o3 D3 => ?_⟩
    obtain ⟨n, rfl⟩ := Int.eq_ofNat_of_zero_le a0
    have hn : n < xs.length := by omega
    obtain ⟨y, b, hy, hb, lyb⟩ := leaf n hn
    have ha3 := (o3.stay D2).tup ha2
    refine ⟨.ref a, rfl, .int (n : Int), rfl, (n : Int), rfl, sl_r ha3 fun r1 X4 s4 h4 => ?_⟩
    rw [cut_to] at h4
    have D4 : Deck X4 d l := D3.same s4
    have o14 := (o12.trans o3).trans (s4.off (d := d) (l := l))
    have ha4 := (Tl.Same.stay s4).tup ha3
    refine ⟨.ref d, rfl, .ref a, rfl, .int (n : Int), rfl, a, xs, (n : Int), y, rfl, rfl, ha4, atI_nat hy, .ref od, rfl, .int 3, rfl, 3, 1, rfl, rfl, ?_⟩
    refine ⟨d, l, od, y, b, _, rfl, D4, O.off o14, lyb, fun y' a' X5 h5 m5 o5 D5 => ?_⟩
    refine ⟨by show 1 ≤ sizeLine; decide, fun t nt => ?_⟩
    have s6 := same_up (o := .tup [y']) nt
    have ht : SqT K (upd X5 t (.tup [y'])) t [y'] := tupOf upd_same
    have D6 := D5.new nt (o := .tup [y'])
    generalize upd X5 t (.tup [y']) = X6 at s6 ht D6 ⊢
    have st46 := (o5.stay D4).trans (Tl.Same.stay s6)
    refine cat_r (st46.tup h4) ht (by rw [List.length_take]; exact Nat.le_trans (show _ ≤ 100 by simp; omega) (by decide)) fun r2 X7 s7 h7 => ?_
    have st47 := st46.trans (Tl.Same.stay s7)
    refine ⟨.ref a, rfl, .int (n : Int), rfl, (n : Int), 1, rfl, rfl, (n : Int) + 1, rfl, ?_⟩
    dsimp only [tNoPart]
    refine sl_r (st47.tup ha4) fun r3 X8 s8 h8 => ?_
    rw [show ((n : Int) + 1) = ((n + 1 : Nat) : Int) by omega, cut_from] at h8
    refine cat_r ((Tl.Same.stay s8).tup h7) h8 (by simp only [List.length_append, List.length_take, List.length_drop, List.length_cons, List.length_nil]; exact Nat.le_trans (show _ ≤ 100 by omega) (by decide)) fun r4 X9 s9 h9 => ?_
    have sF := ((s6.trans s7).trans s8).trans s9
    have hb' : ds.getD n .none = b := by rw [List.getD_eq_getElem?_getD, hb]; rfl
    refine q (.ref r4) _ X9 ?_ (in1 (n := n) (a := a') (by omega) (by rw [hb']; exact m5)) ((o14.trans o5).trans (sF.off (d := d) (l := l))) (D5.same sF)
    exact .inl (Dt.tup h9 (dts_app (dts_app (dts_take n (dts _)) (.cons (h5.st (Tl.Same.stay sF)) .nil)) (dts_drop (n + 1) (dts _))))
  · -- the whole of it
    refine ⟨.ref a, rfl, .ref a, .ty "tuple", .type "tuple", .type "tuple", true, rfl, .ty _, ty_tup ha2, kit_ty (by decide +kernel), true, rfl, iteT ?_⟩
    refine ⟨.ref d, rfl, .ref a, rfl, a, xs, rfl, .inr ha2, 1, (xs.length : Int), rfl, d, l, (xs.length : Int), ?_, D2, by omega, by omega, fun at_ X3 a0 a1 o3 D3 => ?_⟩
    · by_cases h1 : (xs.length : Int) > 1
      · rw [if_pos h1]
        rfl
      · rw [if_neg h1, show (xs.length : Int) = 1 by omega]
        rfl
    obtain ⟨n, rfl⟩ := Int.eq_ofNat_of_zero_le a0
    have hn : n < ds.length := by omega
    have ha3 := (o3.stay D2).tup ha2
    have big : ∀ m : Nat, m ≤ 100 → m ≤ sizeLine := fun m h => Nat.le_trans h (by decide)
    have e1 : ((n : Int) + 1) = ((n + 1 : Nat) : Int) := by omega
    -- list(thing)
    refine ⟨.ref a, rfl, a, xs, rfl, .inr ha3, fun q1 nq1 => ?_⟩
    have D4 := D3.new nq1 (o := .lst xs)
    have s4 := same_up (o := .lst xs) nq1
    have g4 : (upd X3 q1 (.lst xs)) q1 = some (.lst xs) := upd_same
    have q1d := D3.off nq1
    generalize upd X3 q1 (.lst xs) = X4 at D4 s4 g4 ⊢
    have ha4 := (Tl.Same.stay s4).tup ha3
    -- one left out
    refine ⟨.ref a, rfl, .int (n : Int), rfl, (n : Int), rfl, sl_r ha4 fun r1 X5 s5 h5 => ?_⟩
    rw [cut_to] at h5
    refine ⟨.ref a, rfl, .int (n : Int), rfl, (n : Int), 1, rfl, rfl, (n : Int) + 1, rfl, ?_⟩
    dsimp only [tNoPart]
    refine sl_r ((Tl.Same.stay s5).tup ha4) fun r2 X6 s6 h6 => ?_
    rw [e1, cut_from] at h6
    refine cat_r ((Tl.Same.stay s6).tup h5) h6 (big _ (by simp only [List.length_take, List.length_drop]; omega)) fun c1 X7 s7 hc1 => ?_
    have s47 := (s5.trans s6).trans s7
    -- one doubled
    refine ⟨.ref a, rfl, .int (n : Int), rfl, (n : Int), rfl, sl_r ((Tl.Same.stay s47).tup ha4) fun r3 X8 s8 h8 => ?_⟩
    rw [cut_to] at h8
    refine ⟨.ref a, rfl, .int (n : Int), rfl, (n : Int), rfl, .int (n : Int), rfl, (n : Int), 1, rfl, rfl, (n : Int) + 1, rfl, sl_r ((Tl.Same.stay (s47.trans s8)).tup ha4) fun r4 X9 s9 h9 => ?_⟩
    rw [cut_one] at h9
    refine cat_r ((Tl.Same.stay s9).tup h8) h9 (big _ (by simp only [List.length_take, List.length_drop]; omega)) fun r5 X10 s10 h10 => ?_
    have s410 := ((s47.trans s8).trans s9).trans s10
    refine ⟨.ref a, rfl, .int (n : Int), rfl, (n : Int), rfl, ?_⟩
    dsimp only [tNoPart]
    refine sl_r ((Tl.Same.stay s410).tup ha4) fun r6 X11 s11 h11 => ?_
    rw [cut_from] at h11
    refine cat_r ((Tl.Same.stay s11).tup h10) h11 (big _ (by simp only [List.length_take, List.length_drop, List.length_append]; omega)) fun c2 X12 s12 hc2 => ?_
    have s712 := (((s8.trans s9).trans s10).trans s11).trans s12
    have s412 := s47.trans s712
    -- turned about
    refine ⟨.ref a, rfl, a, xs, rfl, (Tl.Same.stay s412).tup ha4, fun c3 n3 => ?_⟩
    have s13 := same_up (o := .tup xs.reverse) n3
    have hc3 : SqT K (upd X12 c3 (.tup xs.reverse)) c3 xs.reverse := tupOf upd_same
    generalize upd X12 c3 (.tup xs.reverse) = X13 at s13 hc3 ⊢
    refine ⟨by show 4 ≤ sizeLine; decide, fun p np => ?_⟩
    have s414 := (s412.trans s13)
    have D13 := D4.same s414
    have pd := D13.off np
    have s14 := same_up (o := .lst [.ref q1, .ref c1, .ref c2, .ref c3]) np
    have gp : (upd X13 p (.lst [.ref q1, .ref c1, .ref c2, .ref c3])) p = some (.lst [.ref q1, .ref c1, .ref c2, .ref c3]) := upd_same
    have D14 := D13.new np (o := .lst [.ref q1, .ref c1, .ref c2, .ref c3])
    generalize upd X13 p (.lst [.ref q1, .ref c1, .ref c2, .ref c3]) = X14 at s14 gp D14 ⊢
    have sA := s414.trans s14
    have g14 := sA _ _ g4
    have o314 : Off d l X3 X14 := (s4.trans sA).off
    have t1 : Dt K X14 (.ref c1) (.tuple (ds.take n ++ ds.drop (n + 1))) := .tup ((Tl.Same.stay (s712.trans (s13.trans s14))).tup hc1) (dts_app (dts_take n (dts _)) (dts_drop (n + 1) (dts _)))
    have t2 : Dt K X14 (.ref c2) (.tuple (ds.take n ++ (ds.drop n).take 1 ++ ds.drop n)) := .tup ((Tl.Same.stay (s13.trans s14)).tup hc2) (dts_app (dts_app (dts_take n (dts _)) (dts_take 1 (dts_drop n (dts _)))) (dts_drop n (dts _)))
    have t3 : Dt K X14 (.ref c3) (.tuple ds.reverse) := .tup ((Tl.Same.stay s14).tup hc3) (dts_rev (dts _))
    -- the other four
    have stL : ∀ Y, Off d l X14 Y → Y p = some (.lst [.ref q1, .ref c1, .ref c2, .ref c3]) ∧ Y q1 = some (.lst xs) ∧ SqT K Y a xs := fun Y o => ⟨o _ _ pd.1 pd.2 gp, o _ _ q1d.1 q1d.2 g14, (o.stay D14).tup ((Tl.Same.stay sA).tup ha4)⟩
    have O14 := ((O.off o12).off o3).off o314
    refine ⟨.ref p, rfl, .inl ⟨rfl, _, lst_of gp⟩, .ref a, rfl, .ref d, rfl, .ref od, rfl, pick_any (K := K) D14 O14.1 O14.2.1 O14.2.2 (odd_dt X14) (by simp [oddV]) (by decide) fun y1 b1 Y1 hb1 mb1 p1 E1 => ?_⟩
    refine ⟨by show 1 ≤ sizeLine; decide, fun u1 nu1 => ?_⟩
    have s15 := same_up (o := .tup [y1]) nu1
    have hu1 : SqT K (upd Y1 u1 (.tup [y1])) u1 [y1] := tupOf upd_same
    have E2 := E1.new nu1 (o := .tup [y1])
    have hb2 := hb1.st (Tl.Same.stay s15)
    have o15 : Off d l X14 (upd Y1 u1 (.tup [y1])) := p1.trans (s15.off (d := d) (l := l))
    generalize upd Y1 u1 (.tup [y1]) = Y2 at s15 hu1 E2 hb2 o15 ⊢
    obtain ⟨gp2, gq2, ha5⟩ := stL Y2 o15
    refine cat_r ha5 hu1 (big _ (by simp only [List.length_cons, List.length_nil]; omega)) fun k1 Y3 z3 hk1 => ?_
    refine ⟨.ref a, rfl, by show 1 ≤ sizeLine; decide, fun k2 nk2 => ?_⟩
    have z4 := same_up (o := .tup [.ref a]) nk2
    have hk2 : SqT K (upd Y3 k2 (.tup [.ref a])) k2 [.ref a] := tupOf upd_same
    generalize upd Y3 k2 (.tup [.ref a]) = Y4 at z4 hk2 ⊢
    have z34 := z3.trans z4
    refine ⟨.ref a, rfl, .int (n : Int), rfl, (n : Int), rfl, sl_r ((Tl.Same.stay z34).tup ha5) fun k3 Y5 z5 hk3 => ?_⟩
    rw [cut_to] at hk3
    refine ⟨.ref a, rfl, .int (n : Int), rfl, (n : Int), rfl, ?_⟩
    dsimp only [tNoPart]
    refine sl_r ((Tl.Same.stay (z34.trans z5)).tup ha5) fun k4 Y6 z6 hk4 => ?_
    rw [cut_from] at hk4
    refine ⟨.ref a, rfl, .int (n : Int), rfl, (n : Int), rfl, sl_r ((Tl.Same.stay ((z34.trans z5).trans z6)).tup ha5) fun k5 Y7 z7 hk5 => ?_⟩
    rw [cut_to] at hk5
    refine cat_r ((Tl.Same.stay z7).tup hk4) hk5 (big _ (by simp only [List.length_take, List.length_drop]; omega)) fun k6 Y8 z8 hk6 => ?_
    refine ⟨by show 4 ≤ sizeLine; decide, fun p2 np2 => ?_⟩
    have z58 := ((z5.trans z6).trans z7).trans z8
    have z38 := z34.trans z58
    have z9 := same_up (o := .lst [.ref k1, .ref k2, .ref k3, .ref k6]) np2
    have gp9 : (upd Y8 p2 (.lst [.ref k1, .ref k2, .ref k3, .ref k6])) p2 = some (.lst [.ref k1, .ref k2, .ref k3, .ref k6]) := upd_same
    generalize upd Y8 p2 (.lst [.ref k1, .ref k2, .ref k3, .ref k6]) = Y9 at z9 gp9 ⊢
    have z39 := z38.trans z9
    have E9 := E2.same z39
    have g1 := z39 _ _ gp2
    have gq9 := z39 _ _ gq2
    have f1 : Dt K Y9 (.ref k1) (.tuple (ds ++ [b1])) := .tup ((Tl.Same.stay ((z4.trans z58).trans z9)).tup hk1) (dts_app (dts _) (.cons (hb2.st (Tl.Same.stay z39)) .nil))
    have f2 : Dt K Y9 (.ref k2) (.tuple [.tuple ds]) := .tup ((Tl.Same.stay (z58.trans z9)).tup hk2) (.cons (.tup ((Tl.Same.stay z39).tup ha5) (dts _)) .nil)
    have f3 : Dt K Y9 (.ref k3) (.tuple (ds.take n)) := .tup ((Tl.Same.stay (((z6.trans z7).trans z8).trans z9)).tup hk3) (dts_take n (dts _))
    have f4 : Dt K Y9 (.ref k6) (.tuple (ds.drop n ++ ds.take n)) := .tup ((Tl.Same.stay z9).tup hk6) (dts_app (dts_drop n (dts _)) (dts_take n (dts _)))
    have oY9 : Off d l X14 Y9 := o15.trans (z39.off (d := d) (l := l))
    have t1' := t1.st (oY9.stay D14)
    have t2' := t2.st (oY9.stay D14)
    have t3' := t3.st (oY9.stay D14)
    refine ⟨p, p2, _, _, rfl, rfl, g1, gp9, by show 4 + 4 ≤ sizeLine; decide, ?_⟩
    have q1p : q1 ≠ p := fun e => by
      rw [e] at g4
      have := (s414.trans (L2.Same.refl _)) _ _ g4
      rw [this] at np
      cases np
    have st10 : Stay Y9 (upd Y9 p (.lst ([.ref q1, .ref c1, .ref c2, .ref c3] ++ [.ref k1, .ref k2, .ref k3, .ref k6]))) := stay_mut (by rw [g1]; trivial)
    have gp10 : (upd Y9 p (.lst ([.ref q1, .ref c1, .ref c2, .ref c3] ++ [.ref k1, .ref k2, .ref k3, .ref k6]))) p = some (.lst [.ref q1, .ref c1, .ref c2, .ref c3, .ref k1, .ref k2, .ref k3, .ref k6]) := upd_same
    have gq10 : (upd Y9 p (.lst ([.ref q1, .ref c1, .ref c2, .ref c3] ++ [.ref k1, .ref k2, .ref k3, .ref k6]))) q1 = some (.lst xs) := (upd_ne q1p).trans gq9
    have E10 := E9.mut (p := p) (o := .lst ([.ref q1, .ref c1, .ref c2, .ref c3] ++ [.ref k1, .ref k2, .ref k3, .ref k6])) pd.1 pd.2
    have np0 : X3 p = none := (s4.trans s414).free np
    have o10 : Off d l X3 (upd Y9 p (.lst ([.ref q1, .ref c1, .ref c2, .ref c3] ++ [.ref k1, .ref k2, .ref k3, .ref k6]))) := (o314.trans oY9).mut np0
    have f1 := f1.st st10
    have f2 := f2.st st10
    have f3 := f3.st st10
    have f4 := f4.st st10
    have t1' := t1'.st st10
    have t2' := t2'.st st10
    have t3' := t3'.st st10
    generalize upd Y9 p (.lst ([.ref q1, .ref c1, .ref c2, .ref c3] ++ [.ref k1, .ref k2, .ref k3, .ref k6])) = W1 at st10 gp10 gq10 E10 o10 f1 f2 f3 f4 t1' t2' t3' ⊢
    have OW := (O.off (o12.trans o3)).off o10
    refine ⟨.ref p, rfl, .inl ⟨rfl, _, lst_of gp10⟩, .ref d, rfl, .ref od, rfl, pick_any (K := K) E10 OW.1 OW.2.1 OW.2.2 (odd_dt W1) (by simp [oddV]) (by decide) fun y2 b2 W2 hb2 mb2 p2 E11 => ?_⟩
    have gp11 := p2 _ _ pd.1 pd.2 gp10
    have gq11 := p2 _ _ q1d.1 q1d.2 gq10
    refine ⟨p, _, y2, rfl, rfl, gp11, by show 8 < sizeLine; decide, ?_⟩
    have st12 : Stay W2 (upd W2 p (.lst ([.ref q1, .ref c1, .ref c2, .ref c3, .ref k1, .ref k2, .ref k3, .ref k6] ++ [y2]))) := stay_mut (by rw [gp11]; trivial)
    have gp12 : (upd W2 p (.lst ([.ref q1, .ref c1, .ref c2, .ref c3, .ref k1, .ref k2, .ref k3, .ref k6] ++ [y2]))) p = some (.lst [.ref q1, .ref c1, .ref c2, .ref c3, .ref k1, .ref k2, .ref k3, .ref k6, y2]) := upd_same
    have gq12 : (upd W2 p (.lst ([.ref q1, .ref c1, .ref c2, .ref c3, .ref k1, .ref k2, .ref k3, .ref k6] ++ [y2]))) q1 = some (.lst xs) := (upd_ne q1p).trans gq11
    have E12 := E11.mut (p := p) (o := .lst ([.ref q1, .ref c1, .ref c2, .ref c3, .ref k1, .ref k2, .ref k3, .ref k6] ++ [y2])) pd.1 pd.2
    have o12' : Off d l X3 (upd W2 p (.lst ([.ref q1, .ref c1, .ref c2, .ref c3, .ref k1, .ref k2, .ref k3, .ref k6] ++ [y2]))) := (o10.trans p2).mut np0
    have stA := (p2.stay E10).trans st12
    have items : Paired (fun v b => Dt K (upd W2 p (.lst ([.ref q1, .ref c1, .ref c2, .ref c3, .ref k1, .ref k2, .ref k3, .ref k6] ++ [y2]))) v b ∨ (v = .ref q1 ∧ b = .list ds)) [.ref q1, .ref c1, .ref c2, .ref c3, .ref k1, .ref k2, .ref k3, .ref k6, y2]
        [.list ds, .tuple (ds.take n ++ ds.drop (n + 1)), .tuple (ds.take n ++ (ds.drop n).take 1 ++ ds.drop n), .tuple ds.reverse, .tuple (ds ++ [b1]), .tuple [.tuple ds], .tuple (ds.take n), .tuple (ds.drop n ++ ds.take n), b2] :=
      .cons (.inr ⟨rfl, rfl⟩) (.cons (.inl (t1'.st stA)) (.cons (.inl (t2'.st stA)) (.cons (.inl (t3'.st stA)) (.cons (.inl (f1.st stA)) (.cons (.inl (f2.st stA)) (.cons (.inl (f3.st stA)) (.cons (.inl (f4.st stA)) (.cons (.inl (hb2.st st12)) .nil))))))))
    generalize upd W2 p (.lst ([.ref q1, .ref c1, .ref c2, .ref c3, .ref k1, .ref k2, .ref k3, .ref k6] ++ [y2])) = W3 at gp12 gq12 E12 o12' items ⊢
    refine ⟨.ref d, rfl, .ref p, rfl, d, l, p, _, rfl, E12, lst_of gp12, pd.1, pd.2, by simp, by show 9 ≤ 100000; decide, fun x W4 hx o5 E13 => ?_⟩
    obtain ⟨b, hb, r⟩ := memP items hx
    have inT : b ∈ candT ds := by
      simp only [List.mem_cons, List.not_mem_nil, or_false] at hb
      rcases hb with rfl | rfl | rfl | rfl | rfl | rfl | rfl | rfl | rfl
      · exact in2 hn (by simp)
      · exact in2 hn (by simp)
      · exact in2 hn (by simp)
      · exact in2 hn (by simp)
      · exact in3 mb1
      · exact in2 hn (by simp)
      · exact in2 hn (by simp)
      · exact in2 hn (by simp)
      · exact in4 mb2
    refine q x b W4 ?_ inT (((o12.trans o3).trans o12').trans o5) E13
    rcases r with r | ⟨rfl, rfl⟩
    · exact .inl (r.st (o5.stay E12))
    · refine .inr ⟨q1, rfl, ?_, o5 _ _ q1d.1 q1d.2 gq12, rfl⟩
      cases e : H q1 with
      | none => rfl
      | some o =>
        have := (o12.trans o3) _ _ q1d.1 q1d.2 e
        rw [nq1] at this
        cases this
end
end K07
set_option Elab.async false
set_option linter.all false
set_option autoImplicit false
set_option maxRecDepth 100000
set_option maxHeartbeats 8000000
namespace Tl
open PySem PySem.Spec PyProof.Rows L2
/-- a loop over the places and the items of a list -/
theorem for_enumL {K : PySem.W.Frag} {a : Addr} {xs : List V} {g : TG} {tb : TS} {D : Ends} {σ : L2.St} {H : Hp} (Pv : Nat → L2.St → Hp → Prop) (h0 : Pv 0 σ H) (hl : ∀ i σ H, i ≤ xs.length → Pv i σ H → SqL K H a xs)
    (hs : ∀ i x σ H T, xs[i]? = some x → Pv i σ H → H T = none → g (.ref T) σ (upd H T (.tup [.int (i : Nat), x])) fun σ2 H2 => tb { D with nx := Pv (i + 1), ct := Pv (i + 1), bk := D.nx } σ2 H2) (hd : ∀ σ H, Pv xs.length σ H → D.nx σ H) :
    ∃ W : Nat → Nat → L2.St → Hp → Prop, (∃ m, W 0 m σ H) ∧ ∀ i m σ H, W i m σ H →
      ((Ite K a).stop i H ∧ D.nx σ H) ∨ ((Ite K a).go i H ∧ ∃ N : L2.St → Hp → Prop, (∀ σ' H', N σ' H' → ∃ m', m' < m ∧ W (i + 1) m' σ' H') ∧ ∀ x H', (Ite K a).yld i H x H' → g x σ H' fun σ2 H2 => tb { D with nx := N, ct := N, bk := D.nx } σ2 H2) := by
  refine ⟨fun i m σ H => m + i = xs.length ∧ Pv i σ H, ⟨xs.length, rfl, h0⟩, fun i m σ H ⟨e, p⟩ => ?_⟩
  cases m with
  | zero =>
    obtain rfl : i = xs.length := by omega
    exact .inl ⟨⟨xs, hl _ _ _ (Nat.le_refl _) p, Nat.le_refl _⟩, hd σ H p⟩
  | succ m =>
    have li : i < xs.length := by omega
    refine .inr ⟨⟨xs, xs[i], hl _ _ _ (by omega) p, List.getElem?_eq_getElem li⟩, Pv (i + 1), fun σ' H' p' => ⟨m, Nat.lt_succ_self m, by omega, p'⟩, fun v H' y => ?_⟩
    obtain ⟨T, x, rfl, nT, rfl, hx⟩ := y
    exact hs i x σ H T (hx xs (hl _ _ _ (by omega) p)) p nT
end Tl
namespace K07
open PySem PySem.Spec PyProof.Rows L2 Tl
def axd (j x : Int) : PyData := .tuple [.str "axiom", .int j, .int x]
def modD : PyData := .tuple [.str "model"]
def itemsOf : PyData → List PyData
  | .tuple ds => ds
  | _ => []
def candB (D : PyData) (j x : Int) : List PyData :=
  [D, .tuple [.str "model"], axd j x, axd j (x + 1), axd (j + 1) x, .list [.str "model"], .tuple [.str "axiom", .int j], .tuple [], .none, .list (itemsOf D), .tuple (itemsOf D ++ [.int 0]),
    .tuple [.str "axiom", .bool (decide (V.int j = V.int 1)), .int x], .tuple [.str "axiom", .int j, .bool (decide (V.int x = V.int 1))], .tuple [.str "Model"]]
def candA (D : PyData) (j x : Int) : List PyData := candB D j x ++ candT (itemsOf D)
def good (D d : PyData) : Bool := SeqAt.shaped d && (d.showable && (!d.hasDict && (decide (d.depth ≤ 60) && (decide (d.shown.length ≤ 1000) && (mh d D == decide (V.str d.shown = V.str D.shown))))))
theorem all_ax : ((List.range 6).all fun j => (List.range 6).all fun x => (candA (axd j x) j x).all (good (axd j x))) = true := by decide +kernel
theorem all_mod : ((List.range 7).all fun j => (candA modD j 0).all (good modD)) = true := by decide +kernel
/-- what the law knows of due, j and x -/
inductive JX (W : Wd) (bs : List (C × C)) (D : PyData) : Int → Int → Prop
  | model (e : D = modD) (h : ∀ e ∈ bs, outs W e.1 e.2 = []) : JX W bs D (bs.length : Int) 0
  | axiom_ (n : Nat) (z : Int) (a : C × C) (e : D = axd (n : Int) z) (hn : bs[n]? = some a) (ho : outs W a.1 a.2 ≠ []) (hz : 0 ≤ z ∧ z < 6) (h : ∀ m e, m < n → bs[m]? = some e → outs W e.1 e.2 = []) : JX W bs D (n : Int) z
theorem jm_spec {W : Wd} (ok : WOk W) : ∀ (bs : List (C × C)) (i : Nat), (jmFrom W i bs = modD ∧ ∀ e ∈ bs, outs W e.1 e.2 = []) ∨
    ∃ n z a, jmFrom W i bs = axd ((i + n : Nat) : Int) z ∧ bs[n]? = some a ∧ outs W a.1 a.2 ≠ [] ∧ (0 ≤ z ∧ z < 6) ∧ ∀ m e, m < n → bs[m]? = some e → outs W e.1 e.2 = []
  | [], _ => .inl ⟨rfl, fun e h => nomatch h⟩
  | e :: bs, i => by
    rw [jmFrom]
    cases ho : outs W e.1 e.2 with
    | nil =>
      rcases jm_spec ok bs (i + 1) with ⟨h1, h2⟩ | ⟨n, z, a, h1, h2, h3, h4, h5⟩
      · exact .inl ⟨h1, fun f hf => (List.mem_cons.mp hf).elim (fun z => z ▸ ho) (h2 f)⟩
      · refine .inr ⟨n + 1, z, a, by rw [show i + (n + 1) = i + 1 + n by omega]; exact h1, h2, h3, h4, fun m f hm hf => ?_⟩
        cases m with
        | zero =>
          cases hf
          exact ho
        | succ m => exact h5 m f (by omega) hf
    | cons z zs =>
      refine .inr ⟨0, z, e, rfl, rfl, by rw [ho]; exact List.cons_ne_nil _ _, ?_, fun m _ h => absurd h (Nat.not_lt_zero m)⟩
      have : z ∈ outs W e.1 e.2 := by rw [ho]; exact List.mem_cons_self
      have := (den_good ok e.1).2 z (List.mem_filter.mp this).1
      have := ok.many
      omega
theorem jx_good {W : Wd} {bs : List (C × C)} {D : PyData} {j x : Int} (h : JX W bs D j x) (len : bs.length ≤ 6) : ∀ d ∈ candA D j x, good D d = true := by
  cases h with
  | model e _ =>
    subst e
    have := List.all_eq_true.mp all_mod bs.length (List.mem_range.mpr (by omega))
    exact List.all_eq_true.mp this
  | axiom_ n z a e hn _ hz _ =>
    subst e
    obtain ⟨k, rfl⟩ := Int.eq_ofNat_of_zero_le hz.1
    have h1 := List.all_eq_true.mp all_ax n (List.mem_range.mpr (by have := (List.getElem?_eq_some_iff.mp hn).1; omega))
    have h2 := List.all_eq_true.mp h1 k (List.mem_range.mpr (by omega))
    exact List.all_eq_true.mp h2
structure Good (D d : PyData) : Prop where
  shp : SeqAt.shaped d = true
  sh : d.showable = true
  nd : d.hasDict = false
  dp : d.depth ≤ 60
  len : d.shown.length ≤ sizeLine
  eq : mh d D = decide (V.str d.shown = V.str D.shown)
theorem good_of {D d : PyData} (h : good D d = true) : Good D d := by
  unfold good at h
  simp only [Bool.and_eq_true, decide_eq_true_eq, Bool.not_eq_true', beq_iff_eq] at h
  obtain ⟨h1, h2, h3, h4, h5, h6⟩ := h
  exact ⟨h1, h2, h3, h4, Nat.le_trans h5 (by decide), h6⟩
/-- by name -/
def gJM {α : Type} : List α → List α → List α
  | [], [b, w] => [w, b]
  | _, _ => []
theorem kbJudgeModel : KBindH "judge_model" sJudgeModel ["world", "book"] ["book", "world"] gJM := fun kV doc pm an cdv ct us ws h => by
  match us, ws, h with
  | [], [_, _], _ => rfl
  | [], [], h => cases h
  | [], [_], h => cases h
  | [], _ :: _ :: _ :: _, h => cases h
  | _ :: _, _, h => cases h
theorem relJudgeModel {vs : List V} {us : List Value} {zs : List V} {ws : List Value} (a : Vals vs us) (b : Vals zs ws) : Vals (gJM vs zs) (gJM us ws) := by
  cases a with
  | cons _ _ => exact .nil
  | nil =>
    cases b with
    | nil => exact .nil
    | cons h1 t1 =>
      cases t1 with
      | nil => exact .nil
      | cons h2 t2 =>
        cases t2 with
        | nil => exact .cons h2 (.cons h1 .nil)
        | cons _ _ => exact .nil
def gMH {α : Type} : List α → List α → List α
  | [], [t, b, w] => [w, b, t]
  | _, _ => []
theorem kbModelHolds : KBindH "model_holds" sModelHolds ["world", "book", "thing"] ["thing", "book", "world"] gMH := fun kV doc pm an cdv ct us ws h => by
  match us, ws, h with
  | [], [_, _, _], _ => rfl
  | [], [], h => cases h
  | [], [_], h => cases h
  | [], [_, _], h => cases h
  | [], _ :: _ :: _ :: _ :: _, h => cases h
  | _ :: _, _, h => cases h
theorem relModelHolds {vs : List V} {us : List Value} {zs : List V} {ws : List Value} (a : Vals vs us) (b : Vals zs ws) : Vals (gMH vs zs) (gMH us ws) := by
  cases a with
  | cons _ _ => exact .nil
  | nil =>
    cases b with
    | nil => exact .nil
    | cons h1 t1 =>
      cases t1 with
      | nil => exact .nil
      | cons h2 t2 =>
        cases t2 with
        | nil => exact .nil
        | cons h3 t3 =>
          cases t3 with
          | nil => exact .cons h3 (.cons h2 (.cons h1 .nil))
          | cons _ _ => exact .nil
theorem deck_same {X X' : Hp} {d l : Addr} (s : L2.Same X X') (D : Deck X d l) : Deck X' d l := D.same s
theorem dis {α : Type} [DecidableEq α] (a : α) : (!decide (a = a)) = false := by simp
end K07
set_option Elab.async false
set_option linter.all false
set_option autoImplicit false
set_option maxRecDepth 100000
set_option maxHeartbeats 4000000
namespace K07
open PySem PySem.Spec PyProof.Rows L2 Tl
structure Shows (d : PyData) : Prop where
  sh : d.showable = true
  nd : d.hasDict = false
  dp : d.depth ≤ 60
  len : d.shown.length ≤ sizeLine
theorem shows_bl (b : Bool) : Shows (.bool b) := by
  refine ⟨by simp [PyData.showable], by simp [PyData.hasDict], by simp [PyData.depth], ?_⟩
  cases b
  · decide +kernel
  · decide +kernel
structure Parts (K : PySem.W.Frag) (H : Hp) (y : V) (D : PyData) (dt : Addr) (xs : List V) : Prop where
  e : y = .ref dt
  sq : SqT K H dt xs
  lf : Paired Leaf xs (itemsOf D)
  eD : D = .tuple (itemsOf D)
  ok : ∀ s, PyData.str s ∈ itemsOf D → PyData.strOk s = true
  ne : itemsOf D ≠ []
  len : (itemsOf D).length ≤ 3
theorem jx_parts {K : PySem.W.Frag} {H : Hp} {W : Wd} {bs : List (C × C)} {D : PyData} {j x : Int} {y : V} (h : JX W bs D j x) (len : bs.length ≤ 6) (hy : Dt K H y D) : ∃ dt xs, Parts K H y D dt xs := by
  cases h with
  | model e _ =>
    subst e
    cases hy with
    | tup h1 h2 => cases h2 with
      | cons g1 g2 =>
        cases g1; cases g2
        exact ⟨_, _, rfl, h1, .cons (.str _ (by decide)) .nil, rfl, fun s hs => by
          obtain rfl : s = "model" := by simpa [itemsOf, modD] using hs
          decide +kernel, by simp [itemsOf, modD], by decide⟩
  | axiom_ n z e e0 hn ho hz h =>
    subst e0
    have ln : n < bs.length := (List.getElem?_eq_some_iff.mp hn).1
    cases hy with
    | tup h1 h2 => cases h2 with
      | cons g1 g2 => cases g1; cases g2 with
        | cons g3 g4 => cases g3; cases g4 with
          | cons g5 g6 =>
            cases g5; cases g6
            exact ⟨_, _, rfl, h1, .cons (.str _ (by decide)) (.cons (.int _ (by omega)) (.cons (.int _ (by omega)) .nil)), rfl, fun s hs => by
              obtain rfl : s = "axiom" := by simpa [itemsOf, axd] using hs
              decide +kernel, by simp [itemsOf, axd], Nat.le_refl 3⟩
/-- the axioms before j hold, the one there does not -/
theorem jx_at {W : Wd} {bs : List (C × C)} {D : PyData} {j x : Int} (h : JX W bs D j x) {n : Nat} {e : C × C} (hn : bs[n]? = some e) (le : (n : Int) ≤ j) : (outs W e.1 e.2).isEmpty = decide ((n : Int) < j) := by
  cases h with
  | model e1 h =>
    have := h e (List.mem_of_getElem? hn)
    have lt : n < bs.length := (List.getElem?_eq_some_iff.mp hn).1
    rw [this, decide_eq_true (show (n : Int) < (bs.length : Int) by omega)]
    rfl
  | axiom_ k z a e0 hk ho hz h =>
    by_cases lt : n < k
    · rw [h n e lt hn, decide_eq_true (show (n : Int) < (k : Int) by omega)]
      rfl
    · obtain rfl : n = k := by omega
      obtain rfl := Option.some.inj (hn.symm.trans hk)
      rw [decide_eq_false (show ¬ (n : Int) < (n : Int) by omega)]
      cases hz : outs W e.1 e.2 with
      | nil => exact absurd hz ho
      | cons _ _ => rfl
theorem jx_j {W : Wd} {bs : List (C × C)} {D : PyData} {j x : Int} (h : JX W bs D j x) : ∃ n : Nat, j = (n : Int) ∧ n ≤ bs.length := by
  cases h with
  | model e h => exact ⟨_, rfl, Nat.le_refl _⟩
  | axiom_ k z a e0 hk ho hz h => exact ⟨k, rfl, Nat.le_of_lt (List.getElem?_eq_some_iff.mp hk).1⟩
end K07
set_option Elab.async false
set_option linter.all false
set_option autoImplicit false
set_option maxRecDepth 100000
set_option maxHeartbeats 8000000
namespace K07
open PySem PySem.Spec PyProof.Rows L2 Tl
open C8 (Cal pe_c)
section
variable {P : Program} {w : World} {K : PySem.W.Frag} {mg : Str → Option Value} {base : Heap}
def spLaw (K : PySem.W.Frag) : Sp := fun vs H Q _ => ∃ (a : Addr) (ns : List Int), vs = [.ref a] ∧ SqL K H a (ns.map V.int) ∧ ns.length ≤ 63 ∧ ∀ H', Q (.bl true) H'
theorem gLaw (T : Txt K mg) {f : Addr} {fd : FuncData} (F : L2.Fun K "law" "law" sLaw f fd) : FnG P w K mg base CX0 43 f fd ["script"] (spLaw K) := by
  refine Tl.Fun.okG F scLaw (fun vs H Q E h => ?_) (fun cdv A outer s H vs Q E quiet hr h => ?_)
  · obtain ⟨a, ns, rfl, _⟩ := h
    rfl
  obtain ⟨a, ns, rfl, ha, n63, q⟩ := h
  have hu64 := hr.units
  have bare : (A.deeper (envOfC "law" (defScope sLaw) s.heap.objs.size f cdv)).guards = some [] := quiet
  refine ⟨_, (pss_cons (ps_set (i := 1) scLaw.nd rfl (.inl rfl) (pe_c (cLawDeck T) hr (by decide) rfl (pa_cons (pv 0) pa_nil)))
  (pss_cons (ps_set (i := 2) scLaw.nd rfl (.inl rfl) (pe_c (cLawWords T) hr (by decide) rfl (pa_cons (pv 1) (pa_cons pe_int pa_nil))))
  (pss_cons (ps_for PassesOwn.never rfl (pi_range1 rfl T.range (pa_cons pe_int pa_nil)) (pg_name (i := 3) scLaw.nd rfl (.inl rfl))
  (pss_cons (ps_set (i := 4) scLaw.nd rfl (.inl rfl) (pe_c (cLawWorld T) hr (by decide) rfl (pa_cons (pv 1) (pa_cons (pv 2) (pa_cons pe_int pa_nil)))))
  (C8.pss_cut (ps_set (i := 5) scLaw.nd rfl (.inl rfl) (pe_ifExp (pt_cmpR op_lt (pv 3) pe_int (nomark _)) (pe_c (cLawBook T) hr (by decide) rfl (pa_cons (pv 1) (pa_cons (pv 2) (pa_cons pe_int (pa_cons pe_int pa_nil))))) (pe_c (cLawMade T) hr (by decide) rfl (pa_cons (pv 1) (pa_cons (pv 4) (pa_cons (pv 2) pa_nil))))))
  (pss_cons (ps_set (i := 6) scLaw.nd rfl (.inl rfl) (pe_c (cLawModel T) hr (by decide) rfl (pa_cons (pv 4) (pa_cons (pv 5) pa_nil))))
  (C8.pss_cut (ps_set (i := 7) scLaw.nd rfl (.inl rfl) (pe_ifExp (pt_cmpR op_gt (pv 3) pe_int (nomark _)) (pe_c (cJudgeModel T) hr (by decide) rfl (pa_cons (pv 4) (pa_cons (pv 5) pa_nil))) (pe_ck (ps := ["world", "book"]) (ks := ["book", "world"]) (fJudgeModel T) hr (by decide) rfl kbJudgeModel relJudgeModel (pk_cons (pv 5) (pk_cons (pv 4) pk_nil)))))
  (pss_cons (ps_if (PW.pt (pw_or (pt_cmpR op_ne (pe_callB (cr_repD bare hu64) (by rfl) T.repr (by decide +kernel) (pa_cons (pv 7) pa_nil)) (pe_callB (cr_repD bare hu64) (by rfl) T.repr (by decide +kernel) (pa_cons (pv 6) pa_nil)) (nomark _)) (pw_or1 (pt_cmpR (op_neD hu64) (pe_c (cJudgeModel T) hr (by decide) rfl (pa_cons (pv 4) (pa_cons (pe_tup pa_nil) pa_nil))) (pe_tup (pa_cons pe_str pa_nil)) (nomark _)))))
 (pss_one (ps_ret pe_bl))
 pss_nil)
  (C8.pss_cut (ps_asg (pe_ifExp (pt_cmpR op_eq (pe_callB call_len_seq (by rfl) T.len (by decide +kernel) (pa_cons (pv 6) pa_nil)) pe_int (nomark _)) (pe_slice sl_tupA (pv 6) (po_some pe_int) po_none) (pe_tup (pa_cons (pe_callB call_len_seq (by rfl) T.len (by decide +kernel) (pa_cons (pv 5) pa_nil)) (pa_cons pe_int pa_nil)))) (pg_tup rfl (pgs_cons (pg_name (i := 8) scLaw.nd rfl (.inl rfl)) (pgs_cons (pg_name (i := 9) scLaw.nd rfl (.inl rfl)) pgs_nil))))
  (pss_cons (ps_set (i := 10) scLaw.nd rfl (.inl rfl) (pe_lst (pa_cons (pv 6) (pa_cons (pe_tup (pa_cons pe_str pa_nil)) (pa_cons (pe_tup (pa_cons pe_str (pa_cons (pv 8) (pa_cons (pv 9) pa_nil)))) (pa_cons (pe_tup (pa_cons pe_str (pa_cons (pv 8) (pa_cons (pe_op op_add (pv 9) pe_int) pa_nil)))) (pa_cons (pe_tup (pa_cons pe_str (pa_cons (pe_op op_add (pv 8) pe_int) (pa_cons (pv 9) pa_nil)))) (pa_cons (pe_lst (pa_cons pe_str pa_nil)) (pa_cons (pe_tup (pa_cons pe_str (pa_cons (pv 8) pa_nil))) (pa_cons (pe_tup pa_nil) (pa_cons pe_non pa_nil)))))))))))
  (pss_cons (ps_expr (pe_bm PySem.F.plainAttrs_list PySem.F.slot_list_extend PySem.F.type_list_extend mt_extend (pv 10) (pa_cons (pe_lst (pa_cons (pe_callTy call_list_of (by rfl) T.list (by decide +kernel) (pa_cons (pv 6) pa_nil)) (pa_cons (pe_op op_catA (pv 6) (pe_tup (pa_cons pe_int pa_nil))) (pa_cons (pe_tup (pa_cons pe_str (pa_cons (pe_cmpR op_eq (pv 8) pe_int (nomark _)) (pa_cons (pv 9) pa_nil)))) (pa_cons (pe_tup (pa_cons pe_str (pa_cons (pv 8) (pa_cons (pe_cmpR op_eq (pv 9) pe_int (nomark _)) pa_nil)))) (pa_cons (pe_tup (pa_cons pe_str pa_nil)) (pa_cons (pe_c (cLawBent T) hr (by decide) rfl (pa_cons (pv 1) (pa_cons (pv 6) (pa_cons (pe_lst (pa_cons pe_non (pa_cons pe_int (pa_cons pe_str pa_nil)))) (pa_cons pe_int pa_nil))))) pa_nil))))))) pa_nil)))
  (C8.pss_cut (ps_for PassesOwn.never rfl (pi_enum rfl T.enumerate (pa_cons (pv 10) pa_nil)) (pg_tup rfl (pgs_cons (pg_name (i := 11) scLaw.nd rfl (.inl rfl)) (pgs_cons (pg_name (i := 12) scLaw.nd rfl (.inl rfl)) pgs_nil)))
   (pss_cons (ps_set (i := 13) scLaw.nd rfl (.inl rfl) (pe_cmpR op_eq (pe_op op_mod (pe_callTy call_int1 (by rfl) T.int (by decide +kernel) (pa_cons (pv 11) pa_nil)) pe_int) pe_int (nomark _)))
  (C8.pss_cut (ps_set (i := 7) scLaw.nd rfl (.inl rfl) (pe_ifExp (pt_truth (pv 13) (fun _ => rfl)) (pe_ck (ps := ["world", "book", "thing"]) (ks := ["thing", "book", "world"]) (fModelHolds T) hr (by decide) rfl kbModelHolds relModelHolds (pk_cons (pv 12) (pk_cons (pv 5) (pk_cons (pv 4) pk_nil)))) (pe_c (cModelHolds T) hr (by decide) rfl (pa_cons (pv 4) (pa_cons (pv 5) (pa_cons (pv 12) pa_nil))))))
  (pss_one (ps_if (pt_cmpR op_ne (pe_callB (cr_repD bare hu64) (by rfl) T.repr (by decide +kernel) (pa_cons (pv 7) pa_nil)) (pe_callB (cr_repD bare hu64) (by rfl) T.repr (by decide +kernel) (pa_cons (pe_cmpR op_eq (pe_callB (cr_repD bare hu64) (by rfl) T.repr (by decide +kernel) (pa_cons (pv 12) pa_nil)) (pe_callB (cr_repD bare hu64) (by rfl) T.repr (by decide +kernel) (pa_cons (pv 6) pa_nil)) (nomark _)) pa_nil)) (nomark _))
 (pss_one (ps_ret pe_bl))
 pss_nil)))))
  (pss_one (ps_for PassesOwn.never rfl (pi_enumT (K := K) rfl rfl T.enumerate (pa_cons (pe_slice sl_tupA (pv 5) po_none (po_some (pe_op op_add (pv 8) pe_int))) pa_nil)) (pg_tup rfl (pgs_cons (pg_name (i := 11) scLaw.nd rfl (.inl rfl)) (pgs_cons (pg_name (i := 14) scLaw.nd rfl (.inl rfl)) pgs_nil)))
   (pss_one (ps_if (pt_cmpR op_ne (pe_callB (cr_repD bare hu64) (by rfl) T.repr (by decide +kernel) (pa_cons (pe_c (cDoesHold T) hr (by decide) rfl (pa_cons (pv 4) (pa_cons (pe_ix ix_tup (pv 14) pe_int (fun _ _ => rfl)) (pa_cons (pe_ix ix_tup (pv 14) pe_int (fun _ _ => rfl)) pa_nil)))) pa_nil)) (pe_callB (cr_repD bare hu64) (by rfl) T.repr (by decide +kernel) (pa_cons (pe_cmpR op_lt (pv 11) (pv 8) (nomark _)) pa_nil)) (nomark _))
 (pss_one (ps_ret pe_bl))
 pss_nil))))))))))))))
  (pss_one (ps_ret pe_bl))))), ?_⟩
  refine ⟨.ref a, rfl, a, ns, rfl, ha, n63, fun d l G0 nd nl s0 D0 => ?_⟩
  refine ⟨.ref d, rfl, d, l, 3, rfl, D0, by omega, fun b ws G1 nb l3 hws nod bd bl o1 D1 gb => ?_⟩
  have hW1 : Words K G1 d l b ws := ⟨lst_of gb, bd, bl, (by intro e; rw [e] at l3; cases l3), by omega, hws⟩
  refine ⟨4, rfl, by omega, by omega, ?_⟩
  refine for_range (lo := 0) (n := 4) (fun i σ X => (∃ t3 t4 t5 t6 t7 t8 t9 t10 t11 t12 t13 t14 : Option V, σ = [some (.ref a), some (.ref d), some (.ref b), t3, t4, t5, t6, t7, t8, t9, t10, t11, t12, t13, t14]) ∧ Deck X d l ∧ Words K X d l b ws) ⟨⟨_, _, _, _, _, _, _, _, _, _, _, _, rfl⟩, D1, hW1⟩ (fun i σ X hi z => ?_) (fun σ X z => q X)
  obtain ⟨⟨t3, t4, t5, t6, t7, t8, t9, t10, t11, t12, t13, t14, rfl⟩, DX, WX⟩ := z
  refine ⟨.ref d, rfl, .ref b, rfl, d, l, b, ws, 5, rfl, DX, WX, nod, by omega, by omega, by omega, fun v W X1 hv ok o1 D1 => ?_⟩
  have W1 := WX.off o1
  -- the book
  refine ⟨fun σ G => ∃ u bs, σ = [some (.ref a), some (.ref d), some (.ref b), some (.int (0 + (i : Int))), some v, some u, t6, t7, t8, t9, t10, t11, t12, t13, t14] ∧ Bk K G u bs ∧ (∀ e ∈ bs, Sm e) ∧ bs.length ≤ 6 ∧ IsWd K G v W ∧ Deck G d l ∧ Words K G d l b ws, ?_, ?_⟩
  · refine ⟨.int (0 + (i : Int)), rfl, _, 2, rfl, rfl, _, rfl, ite2 (fun _ => ?_) (fun _ => ?_)⟩
    · exact ⟨.ref d, rfl, .ref b, rfl, d, l, b, ws, 5, rfl, D1, W1, by omega, by omega, fun u bs G hb sm lb o D => ⟨u, bs, rfl, hb, sm, by omega, iswd_st (o.stay D1) hv, D, W1.off o⟩⟩
    · exact ⟨.ref d, rfl, v, rfl, .ref b, rfl, d, l, b, ws, v, W, rfl, D1, W1, hv, ok, fun u bs G hb sm lb o D => ⟨u, bs, rfl, hb, sm, lb, iswd_st (o.stay D1) hv, D, W1.off o⟩⟩
  rintro σ' X2 ⟨u, bs, rfl, hb, sm, lb, hv2, D2, W2⟩
  refine ⟨v, rfl, u, rfl, v, u, W, bs, rfl, hv2, ok, hb, fun e he => ⟨Nat.le_trans (sm e he).1 (by decide), Nat.le_trans (sm e he).2 (by decide)⟩, fun y X3 s3 hy => ?_⟩
  generalize hD : jmFrom W 0 bs = Dd at hy
  obtain ⟨j, x, jx⟩ : ∃ j x, JX W bs Dd j x := by
    rcases jm_spec ok bs 0 with ⟨h1, h2⟩ | ⟨n, z, e, h1, h2, h3, h4, h5⟩
    · exact ⟨_, _, .model (hD.symm.trans h1) h2⟩
    · exact ⟨_, _, .axiom_ n z e (by rw [← hD, h1, Nat.zero_add]) h2 h3 h4 h5⟩
  have gd : ∀ e ∈ candA Dd j x, Good Dd e := fun e he => good_of (jx_good jx lb e he)
  have gD : Good Dd Dd := gd Dd (by unfold candA candB; simp)
  have hv3 := iswd_st (Tl.Same.stay s3) hv2
  have hb3 := bk_st (Tl.Same.stay s3) hb
  have D3 := D2.same s3
  have W3 := W2.off (s3.off (d := d) (l := l))
  -- told
  refine ⟨fun σ G => ∃ z, σ = [some (.ref a), some (.ref d), some (.ref b), some (.int (0 + (i : Int))), some v, some u, some y, some z, t8, t9, t10, t11, t12, t13, t14] ∧ L2.Same X3 G ∧ Dt K G z Dd, ?_, ?_⟩
  · refine ⟨.int (0 + (i : Int)), rfl, _, 0, rfl, rfl, _, rfl, ite2 (fun _ => ?_) (fun _ => ?_)⟩
    · refine ⟨v, rfl, u, rfl, v, u, W, bs, rfl, hv3, ok, hb3, fun z G s hz => ⟨z, rfl, s, ?_⟩⟩
      rw [← hD]
      exact hz
    · refine ⟨u, rfl, v, rfl, v, u, W, bs, rfl, hv3, ok, hb3, fun z G s hz => ⟨z, rfl, s, ?_⟩⟩
      rw [← hD]
      exact hz
  rintro σ' X4 ⟨z, rfl, s4, hz⟩
  refine ⟨z, rfl, z, Dd, rfl, hz.p, gD.sh, gD.nd, gD.dp, gD.len, y, rfl, y, Dd, rfl, (hy.st (Tl.Same.stay s4)).p, gD.sh, gD.nd, gD.dp, gD.len, rfl, _, rfl, ?_⟩
  rw [dis]
  refine iteF ⟨v, rfl, Nat.zero_le _, fun e ne => ?_⟩
  have s5 := same_up (o := .tup []) ne
  refine ⟨v, .ref e, W, [], rfl, iswd_st (Tl.Same.stay (s4.trans s5)) hv3, ok, ⟨e, [], rfl, tupOf upd_same, .nil⟩, fun y2 X6 s6 hy2 => ?_⟩
  refine ⟨by show 1 ≤ sizeLine; decide, fun m nm => ?_⟩
  have s7 := same_up (o := .tup [.str "model"]) nm
  refine ⟨modD, modD, (hy2.st (Tl.Same.stay s7)).p, due_dt (tupOf upd_same), due_shaped .model, due_shaped .model, _, rfl, ?_⟩
  rw [show (!PyData.eqv modD modD) = false by decide +kernel]
  have s37 := ((s4.trans s5).trans s6).trans s7
  generalize upd X6 m (.tup [.str "model"]) = X7 at s7 s37 ⊢
  refine iteF ?_
  have hy7 := hy.st (Tl.Same.stay s37)
  have hb7 := bk_st (Tl.Same.stay s37) hb3
  have hv7 := iswd_st (Tl.Same.stay s37) hv3
  have D7 := D3.same s37
  have W7 := W3.off (s37.off (d := d) (l := l))
  clear s4 s5 s6 s7 hz hy2 hb hb3 hv2 hv3 D2 D3 W2 W3
  -- j and x
  refine ⟨fun σ G => σ = [some (.ref a), some (.ref d), some (.ref b), some (.int (0 + (i : Int))), some v, some u, some y, some z, some (.int j), some (.int x), t10, t11, t12, t13, t14] ∧ L2.Same X7 G, ?_, ?_⟩
  · cases jx with
    | model e h =>
      subst e
      obtain ⟨t, xs, rfl, ht, hp⟩ := hb7
      obtain ⟨dt, rfl, sq⟩ : ∃ dt, y = .ref dt ∧ SqT K X7 dt [.str "model"] := by
        cases hy7 with
        | tup h1 h2 => cases h2 with
          | cons g1 g2 => cases g1; cases g2; exact ⟨_, rfl, h1⟩
      refine ⟨.ref dt, rfl, dt, _, rfl, .inr sq, rfl, _, rfl, iteF ?_⟩
      refine ⟨.ref t, rfl, t, xs, rfl, .inr ht, by show 2 ≤ sizeLine; decide, fun p np => ?_⟩
      refine ⟨p, _, rfl, tupOf upd_same, rfl, .int (xs.length : Int), [.int 0], rfl, .int 0, [], rfl, rfl, ?_, same_up np⟩
      rw [hp.length]
      rfl
    | axiom_ n z' e0 e hn ho hz' h =>
      subst e
      obtain ⟨dt, rfl, sq⟩ : ∃ dt, y = .ref dt ∧ SqT K X7 dt [.str "axiom", .int (n : Int), .int x] := by
        cases hy7 with
        | tup h1 h2 => cases h2 with
          | cons g1 g2 => cases g1; cases g2 with
            | cons g3 g4 => cases g3; cases g4 with
              | cons g5 g6 => cases g5; cases g6; exact ⟨_, rfl, h1⟩
      refine ⟨.ref dt, rfl, dt, _, rfl, .inr sq, rfl, _, rfl, iteT ?_⟩
      refine ⟨.ref dt, rfl, 1, rfl, ?_⟩
      dsimp only [tNoPart]
      refine sl_r sq fun r X8 s8 h8 => ?_
      rw [show (1 : Int) = ((1 : Nat) : Int) from rfl, cut_from] at h8
      exact ⟨r, _, rfl, h8, rfl, .int (n : Int), [.int x], rfl, .int x, [], rfl, rfl, rfl, s8⟩
  rintro σ' Y0 ⟨rfl, sY0⟩
  have hy0 := hy7.st (Tl.Same.stay sY0)
  have hb0 := bk_st (Tl.Same.stay sY0) hb7
  have hv0 := iswd_st (Tl.Same.stay sY0) hv7
  have E0 := D7.same sY0
  have V0 := W7.off (sY0.off (d := d) (l := l))
  clear hy7 hb7 hv7 D7 W7 sY0 s37 s3 hy
  obtain ⟨dt, ys, pt⟩ := jx_parts jx lb hy0
  have ey := pt.e
  subst ey
  -- the values
  refine ⟨.ref dt, rfl, by show 1 ≤ sizeLine; decide, fun m2 n2 => ?_⟩
  have z2 := same_up (o := .tup [.str "model"]) n2
  have h2 : SqT K (upd Y0 m2 (.tup [.str "model"])) m2 [.str "model"] := tupOf upd_same
  generalize upd Y0 m2 (.tup [.str "model"]) = Y2 at z2 h2 ⊢
  refine ⟨.int j, rfl, .int x, rfl, by show 3 ≤ sizeLine; decide, fun m3 n3 => ?_⟩
  have z3 := same_up (o := .tup [.str "axiom", .int j, .int x]) n3
  have h3 : SqT K (upd Y2 m3 (.tup [.str "axiom", .int j, .int x])) m3 [.str "axiom", .int j, .int x] := tupOf upd_same
  generalize upd Y2 m3 (.tup [.str "axiom", .int j, .int x]) = Y3 at z3 h3 ⊢
  refine ⟨.int j, rfl, .int x, rfl, x, 1, rfl, rfl, by show 3 ≤ sizeLine; decide, fun m4 n4 => ?_⟩
  have z4 := same_up (o := .tup [.str "axiom", .int j, .int (x + 1)]) n4
  have h4 : SqT K (upd Y3 m4 (.tup [.str "axiom", .int j, .int (x + 1)])) m4 [.str "axiom", .int j, .int (x + 1)] := tupOf upd_same
  generalize upd Y3 m4 (.tup [.str "axiom", .int j, .int (x + 1)]) = Y4 at z4 h4 ⊢
  refine ⟨.int j, rfl, j, 1, rfl, rfl, .int x, rfl, by show 3 ≤ sizeLine; decide, fun m5 n5 => ?_⟩
  have z5 := same_up (o := .tup [.str "axiom", .int (j + 1), .int x]) n5
  have h5 : SqT K (upd Y4 m5 (.tup [.str "axiom", .int (j + 1), .int x])) m5 [.str "axiom", .int (j + 1), .int x] := tupOf upd_same
  generalize upd Y4 m5 (.tup [.str "axiom", .int (j + 1), .int x]) = Y5 at z5 h5 ⊢
  refine ⟨by show 1 ≤ sizeLine; decide, fun q6 n6 => ?_⟩
  have z6 := same_up (o := .lst [.str "model"]) n6
  have h6 : (upd Y5 q6 (.lst [.str "model"])) q6 = some (.lst [.str "model"]) := upd_same
  generalize upd Y5 q6 (.lst [.str "model"]) = Y6 at z6 h6 ⊢
  refine ⟨.int j, rfl, by show 2 ≤ sizeLine; decide, fun m7 n7 => ?_⟩
  have z7 := same_up (o := .tup [.str "axiom", .int j]) n7
  have h7 : SqT K (upd Y6 m7 (.tup [.str "axiom", .int j])) m7 [.str "axiom", .int j] := tupOf upd_same
  generalize upd Y6 m7 (.tup [.str "axiom", .int j]) = Y7 at z7 h7 ⊢
  refine ⟨Nat.zero_le _, fun m8 n8 => ?_⟩
  have z8 := same_up (o := .tup []) n8
  have h8 : SqT K (upd Y7 m8 (.tup [])) m8 [] := tupOf upd_same
  generalize upd Y7 m8 (.tup []) = Y8 at z8 h8 ⊢
  refine ⟨by show 9 ≤ sizeLine; decide, fun p np => ?_⟩
  have z9 := same_up (o := .lst [.ref dt, .ref m2, .ref m3, .ref m4, .ref m5, .ref q6, .ref m7, .ref m8, .non]) np
  have gp : (upd Y8 p (.lst [.ref dt, .ref m2, .ref m3, .ref m4, .ref m5, .ref q6, .ref m7, .ref m8, .non])) p = some (.lst [.ref dt, .ref m2, .ref m3, .ref m4, .ref m5, .ref q6, .ref m7, .ref m8, .non]) := upd_same
  have z08 := (((((z2.trans z3).trans z4).trans z5).trans z6).trans z7).trans z8
  have E8 := E0.same z08
  have pd := E8.off np
  have pq6 : q6 ≠ p := fun e => by
    rw [e] at h6
    have := (z7.trans z8) _ _ h6
    rw [this] at np
    cases np
  have q6d : q6 ≠ d ∧ q6 ≠ l := (E0.same (((z2.trans z3).trans z4).trans z5)).off n6
  have np0 : Y0 p = none := z08.free np
  generalize upd Y8 p (.lst [.ref dt, .ref m2, .ref m3, .ref m4, .ref m5, .ref q6, .ref m7, .ref m8, .non]) = Y9 at z9 gp ⊢
  have z09 := z08.trans z9
  -- and six more
  have pt9 : SqT K Y9 dt ys := (Tl.Same.stay z09).tup pt.sq
  refine ⟨.ref p, rfl, .inl ⟨rfl, _, lst_of gp⟩, .ref dt, rfl, dt, ys, rfl, .inr pt9, fun q10 n10 => ?_⟩
  have z10 := same_up (o := .lst ys) n10
  have h10 : (upd Y9 q10 (.lst ys)) q10 = some (.lst ys) := upd_same
  have q10d : q10 ≠ d ∧ q10 ≠ l := (E0.same z09).off n10
  have pq10 : q10 ≠ p := fun e => by
    rw [e, gp] at n10
    cases n10
  generalize upd Y9 q10 (.lst ys) = Y10 at z10 h10 ⊢
  refine ⟨.ref dt, rfl, by show 1 ≤ sizeLine; decide, fun m11 n11 => ?_⟩
  have z11 := same_up (o := .tup [.int 0]) n11
  have h11 : SqT K (upd Y10 m11 (.tup [.int 0])) m11 [.int 0] := tupOf upd_same
  generalize upd Y10 m11 (.tup [.int 0]) = Y11 at z11 h11 ⊢
  refine cat_r ((Tl.Same.stay (z10.trans z11)).tup pt9) h11 ?_ fun m12 Y12 z12 h12 => ?_
  · have := pt.lf.length
    have := pt.len
    exact Nat.le_trans (show _ ≤ 10 by simp only [List.length_cons, List.length_nil]; omega) (by decide)
  refine ⟨.int j, rfl, rfl, .int x, rfl, by show 3 ≤ sizeLine; decide, fun m13 n13 => ?_⟩
  have z13 := same_up (o := .tup [.str "axiom", .bl (decide (V.int j = V.int 1)), .int x]) n13
  have h13 : SqT K (upd Y12 m13 (.tup [.str "axiom", .bl (decide (V.int j = V.int 1)), .int x])) m13 [.str "axiom", .bl (decide (V.int j = V.int 1)), .int x] := tupOf upd_same
  generalize upd Y12 m13 (.tup [.str "axiom", .bl (decide (V.int j = V.int 1)), .int x]) = Y13 at z13 h13 ⊢
  refine ⟨.int j, rfl, .int x, rfl, rfl, by show 3 ≤ sizeLine; decide, fun m14 n14 => ?_⟩
  have z14 := same_up (o := .tup [.str "axiom", .int j, .bl (decide (V.int x = V.int 1))]) n14
  have h14 : SqT K (upd Y13 m14 (.tup [.str "axiom", .int j, .bl (decide (V.int x = V.int 1))])) m14 [.str "axiom", .int j, .bl (decide (V.int x = V.int 1))] := tupOf upd_same
  generalize upd Y13 m14 (.tup [.str "axiom", .int j, .bl (decide (V.int x = V.int 1))]) = Y14 at z14 h14 ⊢
  refine ⟨by show 1 ≤ sizeLine; decide, fun m15 n15 => ?_⟩
  have z15 := same_up (o := .tup [.str "Model"]) n15
  have h15 : SqT K (upd Y14 m15 (.tup [.str "Model"])) m15 [.str "Model"] := tupOf upd_same
  generalize upd Y14 m15 (.tup [.str "Model"]) = Y15 at z15 h15 ⊢
  refine ⟨.ref d, rfl, .ref dt, rfl, by show 3 ≤ sizeLine; decide, fun od nod' => ?_⟩
  have z16 := same_up (o := .lst oddV) nod'
  have z1015 := ((((z10.trans z11).trans z12).trans z13).trans z14).trans z15
  have E15 := E0.same (z09.trans z1015)
  have odd := E15.off nod'
  have hod : (upd Y15 od (.lst oddV)) od = some (.lst oddV) := upd_same
  have z016 := (z09.trans z1015).trans z16
  have E16 := E15.same z16
  have z916 := z1015.trans z16
  refine ⟨d, l, od, dt, ys, itemsOf Dd, rfl, E16, ⟨lst_of hod, odd⟩, (Tl.Same.stay z916).tup pt9, pt.lf, pt.ok, pt.ne, by have := pt.len; omega, fun y16 b16 Y17 hb16 mb16 o17 E17 => ?_⟩
  refine ⟨by show 6 ≤ sizeLine; decide, fun p2 np2 => ?_⟩
  have z18 := same_up (o := .lst [.ref q10, .ref m12, .ref m13, .ref m14, .ref m15, y16]) np2
  have gp2 : (upd Y17 p2 (.lst [.ref q10, .ref m12, .ref m13, .ref m14, .ref m15, y16])) p2 = some (.lst [.ref q10, .ref m12, .ref m13, .ref m14, .ref m15, y16]) := upd_same
  have gp18 := z18 _ _ (o17 _ _ pd.1 pd.2 (z916 _ _ gp))
  have gq6 := z18 _ _ (o17 _ _ q6d.1 q6d.2 ((((z7.trans z8).trans z9).trans z916) _ _ h6))
  have gq10 := z18 _ _ (o17 _ _ q10d.1 q10d.2 (((((((z11.trans z12).trans z13).trans z14).trans z15).trans z16)) _ _ h10))
  have st18 := (o17.stay E16).trans (Tl.Same.stay z18)
  have E18 := E17.same z18
  have o018 : Off d l Y0 (upd Y17 p2 (.lst [.ref q10, .ref m12, .ref m13, .ref m14, .ref m15, y16])) := (z016.off.trans o17).trans z18.off
  refine ⟨p, p2, _, _, rfl, rfl, gp18, gp2, by show 9 + 6 ≤ sizeLine; decide, ?_⟩
  generalize upd Y17 p2 (.lst [.ref q10, .ref m12, .ref m13, .ref m14, .ref m15, y16]) = Y18 at z18 gp2 gp18 gq6 gq10 st18 E18 o018 ⊢
  have stM : Stay Y18 (upd Y18 p (.lst ([.ref dt, .ref m2, .ref m3, .ref m4, .ref m5, .ref q6, .ref m7, .ref m8, .non] ++ [.ref q10, .ref m12, .ref m13, .ref m14, .ref m15, y16]))) := stay_mut (by rw [gp18]; trivial)
  have gZ : (upd Y18 p (.lst ([.ref dt, .ref m2, .ref m3, .ref m4, .ref m5, .ref q6, .ref m7, .ref m8, .non] ++ [.ref q10, .ref m12, .ref m13, .ref m14, .ref m15, y16]))) p = some (.lst [.ref dt, .ref m2, .ref m3, .ref m4, .ref m5, .ref q6, .ref m7, .ref m8, .non, .ref q10, .ref m12, .ref m13, .ref m14, .ref m15, y16]) := upd_same
  have gZ6 : (upd Y18 p (.lst ([.ref dt, .ref m2, .ref m3, .ref m4, .ref m5, .ref q6, .ref m7, .ref m8, .non] ++ [.ref q10, .ref m12, .ref m13, .ref m14, .ref m15, y16]))) q6 = some (.lst [.str "model"]) := (upd_ne pq6).trans gq6
  have gZ10 : (upd Y18 p (.lst ([.ref dt, .ref m2, .ref m3, .ref m4, .ref m5, .ref q6, .ref m7, .ref m8, .non] ++ [.ref q10, .ref m12, .ref m13, .ref m14, .ref m15, y16]))) q10 = some (.lst ys) := (upd_ne pq10).trans gq10
  have EZ := E18.mut (p := p) (o := .lst ([.ref dt, .ref m2, .ref m3, .ref m4, .ref m5, .ref q6, .ref m7, .ref m8, .non] ++ [.ref q10, .ref m12, .ref m13, .ref m14, .ref m15, y16])) pd.1 pd.2
  have oZ : Off d l Y0 (upd Y18 p (.lst ([.ref dt, .ref m2, .ref m3, .ref m4, .ref m5, .ref q6, .ref m7, .ref m8, .non] ++ [.ref q10, .ref m12, .ref m13, .ref m14, .ref m15, y16]))) := o018.mut np0
  have stF := st18.trans stM
  have leafs : ∀ X, Dts K X ys (itemsOf Dd) := fun X => leaf_dt pt.lf
  have hbZ : Dp K (upd Y18 p (.lst ([.ref dt, .ref m2, .ref m3, .ref m4, .ref m5, .ref q6, .ref m7, .ref m8, .non] ++ [.ref q10, .ref m12, .ref m13, .ref m14, .ref m15, y16]))) y16 b16 := by
    rcases hb16 with h | ⟨q1, rfl, hn, hq, rfl⟩
    · exact (h.st ((Tl.Same.stay z18).trans stM)).p
    · have pq : q1 ≠ p := fun e => by
        rw [e] at hn
        have t := (z916 _ _ gp).symm.trans hn
        exact nomatch t
      exact .lst (lst_of ((upd_ne pq).trans (z18 _ _ hq))) (dts_dp (leafs _))
  generalize upd Y18 p (.lst ([.ref dt, .ref m2, .ref m3, .ref m4, .ref m5, .ref q6, .ref m7, .ref m8, .non] ++ [.ref q10, .ref m12, .ref m13, .ref m14, .ref m15, y16])) = Z at stM gZ gZ6 gZ10 EZ oZ hbZ stF ⊢
  -- their data
  have up : ∀ {Y : Hp}, L2.Same Y Y15 → Stay Y Z := fun {Y} e => (Tl.Same.stay (e.trans z16)).trans stF
  have k15 := z15
  have k14 := z14.trans k15
  have k13 := z13.trans k14
  have k12 := z12.trans k13
  have k11 := z11.trans k12
  have k10 := z10.trans k11
  have k9 := z9.trans k10
  have k8 := z8.trans k9
  have k7 := z7.trans k8
  have k6 := z6.trans k7
  have k5 := z5.trans k6
  have k4 := z4.trans k5
  have k3 := z3.trans k4
  have k2 := z2.trans k3
  have hvZ := iswd_st (up k2) hv0
  have hbZ0 := bk_st (up k2) hb0
  have hyZ : Dt K Z (.ref dt) Dd := hy0.st (up k2)
  have all : DpAll K Z [.ref dt, .ref m2, .ref m3, .ref m4, .ref m5, .ref q6, .ref m7, .ref m8, .non, .ref q10, .ref m12, .ref m13, .ref m14, .ref m15, y16] (candB Dd j x ++ [b16]) := by
    refine .cons hyZ.p (.cons ?_ (.cons ?_ (.cons ?_ (.cons ?_ (.cons ?_ (.cons ?_ (.cons ?_ (.cons .non (.cons ?_ (.cons ?_ (.cons ?_ (.cons ?_ (.cons ?_ (.cons hbZ .nil))))))))))))))
    · exact .tup ((up k3).tup h2) (.cons (.str _) .nil)
    · exact .tup ((up k4).tup h3) (.cons (.str _) (.cons (.int _) (.cons (.int _) .nil)))
    · exact .tup ((up k5).tup h4) (.cons (.str _) (.cons (.int _) (.cons (.int _) .nil)))
    · exact .tup ((up k6).tup h5) (.cons (.str _) (.cons (.int _) (.cons (.int _) .nil)))
    · exact .lst (lst_of gZ6) (.cons (.str _) .nil)
    · exact .tup ((up k8).tup h7) (.cons (.str _) (.cons (.int _) .nil))
    · exact .tup ((up k9).tup h8) .nil
    · exact .lst (lst_of gZ10) (dts_dp (leafs _))
    · exact .tup ((up k13).tup h12) (dts_dp (dts_app (leafs _) (.cons (.int _) .nil)))
    · exact .tup ((up k14).tup h13) (.cons (.str _) (.cons (.bl _) (.cons (.int _) .nil)))
    · exact .tup ((up k15).tup h14) (.cons (.str _) (.cons (.int _) (.cons (.bl _) .nil)))
    · exact .tup (((Tl.Same.stay z16).trans stF).tup h15) (.cons (.str _) .nil)
  have each : ∀ {vs : List V} {ds : List PyData}, DpAll K Z vs ds → ∀ {k : Nat} {y : V}, vs[k]? = some y → ∃ e, e ∈ ds ∧ Dp K Z y e := by
    intro vs
    induction vs with
    | nil => intro ds _ k y h; cases h
    | cons v vs ih =>
      intro ds h k y hk
      cases h with
      | cons g1 g2 =>
        cases k with
        | zero => cases hk; exact ⟨_, List.mem_cons_self, g1⟩
        | succ k =>
          obtain ⟨e, he, r⟩ := ih g2 hk
          exact ⟨e, List.mem_cons_of_mem _ he, r⟩
  have inA : ∀ e ∈ candB Dd j x ++ [b16], e ∈ candA Dd j x := fun e he => by
    unfold candA
    rcases List.mem_append.mp he with h | h
    · exact List.mem_append_left _ h
    · rw [List.mem_singleton.mp h]
      exact List.mem_append_right _ mb16
  have VZ := V0.off oZ
  clear k15 k14 k13 k12 k11 k10 k9 k8 k7 k6 k5 k4 k3 k2 z2 z3 z4 z5 z6 z7 z8 z9 z10 z11 z12 z13 z14 z15 z16 h2 h3 h4 h5 h6 h7 h8 h10 h11 h12 h13 h14 h15
  -- what model_holds says of each
  refine ⟨fun σ X => (∃ t7 t11 t12 t13 t14 : Option V, σ = [some (.ref a), some (.ref d), some (.ref b), some (.int (0 + (i : Int))), some v, some u, some (.ref dt), t7, some (.int j), some (.int x), some (.ref p), t11, t12, t13, t14]) ∧ L2.Same Z X, ?_, ?_⟩
  · refine ⟨.ref p, rfl, p, _, rfl, lst_of gZ, ?_⟩
    refine for_enumL (K := K) (a := p) (xs := [.ref dt, .ref m2, .ref m3, .ref m4, .ref m5, .ref q6, .ref m7, .ref m8, .non, .ref q10, .ref m12, .ref m13, .ref m14, .ref m15, y16]) (fun _ σ X => (∃ t7 t11 t12 t13 t14 : Option V, σ = [some (.ref a), some (.ref d), some (.ref b), some (.int (0 + (i : Int))), some v, some u, some (.ref dt), t7, some (.int j), some (.int x), some (.ref p), t11, t12, t13, t14]) ∧ L2.Same Z X)
      ⟨⟨_, _, _, _, _, rfl⟩, L2.Same.refl Z⟩ (fun k σ X _ z => lst_of (z.2 _ _ gZ)) (fun k y σ X Tn hx z nT => ?_) (fun σ X z => z)
    obtain ⟨⟨t7, t11, t12, t13, t14, rfl⟩, sX⟩ := z
    obtain ⟨e, he, hde⟩ := each all hx
    have ge := gd e (inA e he)
    have sT := same_up (o := .tup [.int (k : Nat), y]) nT
    have hT : SqT K (upd X Tn (.tup [.int (k : Nat), y])) Tn [.int (k : Nat), y] := tupOf upd_same
    have s1 := sX.trans sT
    generalize upd X Tn (.tup [.int (k : Nat), y]) = X1 at sT hT s1 ⊢
    refine ⟨Tn, _, rfl, hT, rfl, .int (k : Nat), [y], rfl, y, [], rfl, rfl, ?_⟩
    refine ⟨.int (k : Nat), rfl, .inl ⟨_, rfl, _, 3, rfl, rfl, (by show (0 : Int) < 3; decide), rfl, ?_⟩⟩
    refine ⟨fun σ' X' => ∃ c : Bool, σ' = [some (.ref a), some (.ref d), some (.ref b), some (.int (0 + (i : Int))), some v, some u, some (.ref dt), some (.bl (mh e Dd)), some (.int j), some (.int x), some (.ref p), some (.int (k : Nat)), some y, some (.bl c), t14] ∧ L2.Same X1 X', ?_, ?_⟩
    · refine ⟨.bl _, rfl, _, rfl, ite2 (fun _ => ?_) (fun _ => ?_)⟩
      · refine ⟨y, rfl, u, rfl, v, rfl, v, u, y, W, bs, e, rfl, iswd_st (Tl.Same.stay s1) hvZ, ok, bk_st (Tl.Same.stay s1) hbZ0, Dp.sames s1 _ _ hde, ge.shp, fun X2 s2 => ?_⟩
        rw [hD]
        exact ⟨_, rfl, s2⟩
      · refine ⟨v, rfl, u, rfl, y, rfl, v, u, y, W, bs, e, rfl, iswd_st (Tl.Same.stay s1) hvZ, ok, bk_st (Tl.Same.stay s1) hbZ0, Dp.sames s1 _ _ hde, ge.shp, fun X2 s2 => ?_⟩
        rw [hD]
        exact ⟨_, rfl, s2⟩
    rintro σ' X2 ⟨c, rfl, s2⟩
    have s12 := s1.trans s2
    rw [ge.eq]
    have sh := shows_bl (decide (V.str e.shown = V.str Dd.shown))
    refine ⟨.bl _, rfl, .bl _, .bool _, rfl, .bl _, sh.sh, sh.nd, sh.dp, sh.len, ?_⟩
    refine ⟨y, rfl, y, e, rfl, Dp.sames s12 _ _ hde, ge.sh, ge.nd, ge.dp, ge.len, .ref dt, rfl, .ref dt, Dd, rfl, Dp.sames s12 _ _ hyZ.p, gD.sh, gD.nd, gD.dp, gD.len, rfl, ?_⟩
    refine ⟨.bl _, .bool _, rfl, .bl _, sh.sh, sh.nd, sh.dp, sh.len, rfl, _, rfl, ?_⟩
    rw [dis]
    exact iteF ⟨⟨_, _, _, _, _, rfl⟩, s12⟩
  rintro σ' X ⟨⟨t7, t11, t12, t13, t14, rfl⟩, sX⟩
  -- the axioms up to that place
  obtain ⟨n, rfl, hn⟩ := jx_j jx
  obtain ⟨t, xs, rfl, ht, hp⟩ := bk_st (Tl.Same.stay sX) hbZ0
  have hvX := iswd_st (Tl.Same.stay sX) hvZ
  refine ⟨.ref t, rfl, .int (n : Int), rfl, (n : Int), 1, rfl, rfl, (n : Int) + 1, rfl, sl_r ht fun r X1 s1 h1 => ?_⟩
  rw [show (n : Int) + 1 = ((n + 1 : Nat) : Int) by omega, cut_to] at h1
  refine ⟨r, xs.take (n + 1), rfl, h1, ?_⟩
  refine for_enumT (K := K) (a := r) (xs := xs.take (n + 1)) (fun _ σ Y => (∃ t7 t11 t12 t13 t14 : Option V, σ = [some (.ref a), some (.ref d), some (.ref b), some (.int (0 + (i : Int))), some v, some (.ref t), some (.ref dt), t7, some (.int (n : Int)), some (.int x), some (.ref p), t11, t12, t13, t14]) ∧ L2.Same X1 Y)
    ⟨⟨_, _, _, _, _, rfl⟩, L2.Same.refl X1⟩ (fun k σ Y _ z => (Tl.Same.stay z.2).tup h1) (fun k y σ Y Tn hx z nT => ?_) (fun σ Y z => ?_)
  · obtain ⟨⟨t7, t11, t12, t13, t14, rfl⟩, sY⟩ := z
    have lk : k < n + 1 := by
      have := (List.getElem?_eq_some_iff.mp hx).1
      rw [List.length_take] at this
      omega
    have hx' : xs[k]? = some y := by
      rw [List.getElem?_take, if_pos lk] at hx
      exact hx
    obtain ⟨e, he, hax⟩ := getP hp hx'
    have sT := same_up (o := .tup [.int (k : Nat), y]) nT
    have hT : SqT K (upd Y Tn (.tup [.int (k : Nat), y])) Tn [.int (k : Nat), y] := tupOf upd_same
    have sA := (s1.trans sY).trans sT
    have sB := sY.trans sT
    generalize upd Y Tn (.tup [.int (k : Nat), y]) = Y1 at sT hT sA sB ⊢
    obtain ⟨pa, u1, u2, rfl, hq, a1, a2⟩ := ax_st (Tl.Same.stay sA) hax
    refine ⟨Tn, _, rfl, hT, rfl, .int (k : Nat), [.ref pa], rfl, .ref pa, [], rfl, rfl, ?_⟩
    refine ⟨v, rfl, .ref pa, rfl, pa, _, 0, _, rfl, rfl, hq, atI_nat (j := 0) rfl, .ref pa, rfl, pa, _, 1, _, rfl, rfl, hq, atI_nat (j := 1) rfl, v, u1, u2, W, e.1, e.2, rfl, iswd_st (Tl.Same.stay sA) hvX, ok, a1, a2, fun Y2 s2 => ?_⟩
    rw [jx_at jx he (by omega)]
    have sh := shows_bl (decide ((k : Int) < (n : Int)))
    refine ⟨.bl _, .bool _, rfl, .bl _, sh.sh, sh.nd, sh.dp, sh.len, .int (k : Nat), rfl, .int (n : Int), rfl, (k : Int), (n : Int), rfl, rfl, ?_⟩
    refine ⟨.bl _, .bool _, rfl, .bl _, sh.sh, sh.nd, sh.dp, sh.len, rfl, _, rfl, ?_⟩
    rw [dis]
    exact iteF ⟨⟨_, _, _, _, _, rfl⟩, sB.trans s2⟩
  · obtain ⟨⟨t7, t11, t12, t13, t14, rfl⟩, sY⟩ := z
    have sF := (sX.trans s1).trans sY
    exact ⟨⟨_, _, _, _, _, _, _, _, _, _, _, _, rfl⟩, deck_same sF EZ, VZ.off (sF.off (d := d) (l := l))⟩
end
end K07
set_option Elab.async false
set_option linter.all false
set_option autoImplicit false
set_option maxRecDepth 100000
set_option maxHeartbeats 4000000
namespace K07
open PySem PySem.Spec PyProof.Rows L2 Tl
theorem dAt {K : PySem.W.Frag} {h : Heap} {mg : Str → Option Value} {x : Str} {st : Stmt} {f : Addr} {od an : Option Addr} {osl : Array (Option Value)} {oc kV doc pm cdv ct : Value} (X : K.In h) (G : h.Ns mainGlobals mg)
    (a : PySem.W.nsIn K mainGlobals x = some (some (.ref f))) (l : K.lookup f = some ⟨oc, od, .func (PySem.W.fnOf x x (defArgs st) (defBody st) (defScope st) .none kV doc pm an cdv ct), osl⟩) (c : PySem.W.codeIn K cdv x = true) (k : PySem.W.keepIn K (.ref f) = true) : DefAt K mg x st :=
  ⟨f, _, fun_mk l c k, PySem.W.mg_of X G a⟩
theorem iAt {K : PySem.W.Frag} {h : Heap} {mg : Str → Option Value} {x : Str} {i : Int} {t : Tok} (X : K.In h) (G : h.Ns mainGlobals mg) (a : PySem.W.nsIn K mainGlobals x = some (some (.int i t))) : ∃ t, mg x = some (.int i t) := ⟨t, PySem.W.mg_of X G a⟩
theorem nwAt {K : PySem.W.Frag} {h : Heap} {mg : Str → Option Value} {a : Addr} {dd : Option Addr} {n : Nat} {sl : Array (Option Value)} {t1 t2 t3 t4 t5 t6 : Tok} (X : K.In h) (G : h.Ns mainGlobals mg)
    (e : PySem.W.nsIn K mainGlobals "NO_WORDS" = some (some (.ref a))) (l : K.lookup a = some ⟨.type "tuple", dd, .seq #[.str "all" t1, .str "none" t2, .str "some" t3, .str "and" t4, .str "each" t5, .str "is" t6] n, sl⟩) :
    ∃ a, mg "NO_WORDS" = some (.ref a) ∧ ∀ H, SqT K H a [.str "all", .str "none", .str "some", .str "and", .str "each", .str "is"] :=
  ⟨a, PySem.W.mg_of X G e, fun H => .inr ⟨_, _, n, l, rfl, rfl, (by show 6 ≤ sizeLine; decide), .cons ⟨_, rfl⟩ (.cons ⟨_, rfl⟩ (.cons ⟨_, rfl⟩ (.cons ⟨_, rfl⟩ (.cons ⟨_, rfl⟩ (.cons ⟨_, rfl⟩ .nil)))))⟩⟩
theorem fin {P : Program} {w : World} {K : PySem.W.Frag} {mg : Str → Option Value} {fa : Addr} (T : Txt K mg) (hfa : mg "law" = some (.ref fa)) :
    ∃ fd : FuncData, (∀ (s : Shared) (u : Value), BindsTo s fd ⟨[u], []⟩ [("script", u)]) ∧ ∀ base : Heap, K.In base → base.Ns mainGlobals mg → FnG P w K mg base CX0 43 fa fd ["script"] (spLaw K) := by
  obtain ⟨f, fd, F, hm⟩ := T.law.ex
  cases hfa.symm.trans hm
  refine ⟨fd, fun s u => ?_, fun base _ _ => gLaw T F⟩
  obtain ⟨oc, od, kV, doc, pm, an, cdv, ct, osl, rfl, lk, hcd⟩ := F.ex
  exact .of_eq rfl
theorem walk {l : PySem.W.OpenLaw} {q : Program} {loose : List Str} {XP : (Str → Option Value) → Heap → Prop} {YP : World → Heap → Prop} {d : DefRec} {K : Params → PySem.W.Frag} (hn : l.most = some 63) (hdf : d.params.defaults = [])
    (hY : ∀ (w : World) (h : Heap), YP w h → (K w.params).In h) (hd : d.name = "law")
    (F : ∀ (w : World) (mg : Str → Option Value) (h : Heap), (K w.params).In h → h.Ns mainGlobals mg → Txt (K w.params) mg) :
    PySem.W.WalkO q loose XP YP l.row.toRowW d [] (fun f vs => PySem.call f vs) :=
  Tl.walkG (n := 63) (k := 43) (x := "script") (sp := fun w => spLaw (K w.params)) hn (by decide) hdf ⟨rfl, by decide, by decide⟩ hY (fun w mg fa h KX G hmg => fin (F w mg h KX G) (by rw [hd] at hmg; exact hmg)) (fun _ _ a ns hl _ _ hS => ⟨a, ns, rfl, hS, hl, fun _ => rfl⟩)
end K07
open PySem PySem.W PyProof.Rows in
set_option maxRecDepth 100000 in
set_option maxHeartbeats 0 in
theorem PySem.Challenge.cw_tellalike_k07_whole_models_and_first_axi_holds : PySem.Challenge.rw_tellalike_k07_whole_models_and_first_axi.Holds := by
  w_on; o_law; k_head; (case hw => w_witness2)
  k_fill
  refine K07.walk (l := PySem.Challenge.rw_tellalike_k07_whole_models_and_first_axi) rfl rfl (fun w h Y => PySem.W.kIn_of Y) rfl ?F
  case F =>
    intro w mg h KX G
    refine' K07.Txt.mk (PySem.W.mg_none_of KX G ?n_all)
      (PySem.W.mg_none_of KX G ?n_bool)
      (PySem.W.mg_none_of KX G ?n_dict)
      (PySem.W.mg_none_of KX G ?n_enumerate)
      (PySem.W.mg_none_of KX G ?n_int)
      (PySem.W.mg_none_of KX G ?n_isinstance)
      (PySem.W.mg_none_of KX G ?n_len)
      (PySem.W.mg_none_of KX G ?n_list)
      (PySem.W.mg_none_of KX G ?n_max)
      (PySem.W.mg_none_of KX G ?n_min)
      (PySem.W.mg_none_of KX G ?n_range)
      (PySem.W.mg_none_of KX G ?n_repr)
      (PySem.W.mg_none_of KX G ?n_set)
      (PySem.W.mg_none_of KX G ?n_sorted)
      (PySem.W.mg_none_of KX G ?n_str)
      (PySem.W.mg_none_of KX G ?n_tuple)
      (K07.dAt (st := K07.sIsInteger) KX G ?a_isInteger ?l_isInteger ?c_isInteger ?k_isInteger)
      (K07.dAt (st := K07.sIsPair) KX G ?a_isPair ?l_isPair ?c_isPair ?k_isPair)
      (K07.dAt (st := K07.sIsAscending) KX G ?a_isAscending ?l_isAscending ?c_isAscending ?k_isAscending)
      (K07.dAt (st := K07.sIsWord) KX G ?a_isWord ?l_isWord ?c_isWord ?k_isWord)
      (K07.dAt (st := K07.sIsConcept) KX G ?a_isConcept ?l_isConcept ?c_isConcept ?k_isConcept)
      (K07.dAt (st := K07.sIsBook) KX G ?a_isBook ?l_isBook ?c_isBook ?k_isBook)
      (K07.dAt (st := K07.sCheckConcept) KX G ?a_checkConcept ?l_checkConcept ?c_checkConcept ?k_checkConcept)
      (K07.dAt (st := K07.sCheckBook) KX G ?a_checkBook ?l_checkBook ?c_checkBook ?k_checkBook)
      (K07.dAt (st := K07.sBottomUp) KX G ?a_bottomUp ?l_bottomUp ?c_bottomUp ?k_bottomUp)
      (K07.dAt (st := K07.sInner) KX G ?a_inner ?l_inner ?c_inner ?k_inner)
      (K07.dAt (st := K07.sIsLetter) KX G ?a_isLetter ?l_isLetter ?c_isLetter ?k_isLetter)
      (K07.dAt (st := K07.sIsWorld) KX G ?a_isWorld ?l_isWorld ?c_isWorld ?k_isWorld)
      (K07.dAt (st := K07.sDoesHoldIn) KX G ?a_doesHoldIn ?l_doesHoldIn ?c_doesHoldIn ?k_doesHoldIn)
      (K07.dAt (st := K07.sJudgeModel) KX G ?a_judgeModel ?l_judgeModel ?c_judgeModel ?k_judgeModel)
      (K07.dAt (st := K07.sModelHolds) KX G ?a_modelHolds ?l_modelHolds ?c_modelHolds ?k_modelHolds)
      (K07.dAt (st := K07.sCheckWorld) KX G ?a_checkWorld ?l_checkWorld ?c_checkWorld ?k_checkWorld)
      (K07.dAt (st := K07.sIsListing) KX G ?a_isListing ?l_isListing ?c_isListing ?k_isListing)
      (K07.dAt (st := K07.sAreItems) KX G ?a_areItems ?l_areItems ?c_areItems ?k_areItems)
      (K07.dAt (st := K07.sIsThing) KX G ?a_isThing ?l_isThing ?c_isThing ?k_isThing)
      (K07.dAt (st := K07.sIsTie) KX G ?a_isTie ?l_isTie ?c_isTie ?k_isTie)
      (K07.dAt (st := K07.sMembers) KX G ?a_members ?l_members ?c_members ?k_members)
      (K07.dAt (st := K07.sInBoth) KX G ?a_inBoth ?l_inBoth ?c_inBoth ?k_inBoth)
      (K07.dAt (st := K07.sTiedInto) KX G ?a_tiedInto ?l_tiedInto ?c_tiedInto ?k_tiedInto)
      (K07.dAt (st := K07.sLeastOutside) KX G ?a_leastOutside ?l_leastOutside ?c_leastOutside ?k_leastOutside)
      (K07.dAt (st := K07.sLawDeck) KX G ?a_lawDeck ?l_lawDeck ?c_lawDeck ?k_lawDeck)
      (K07.dAt (st := K07.sLawDraw) KX G ?a_lawDraw ?l_lawDraw ?c_lawDraw ?k_lawDraw)
      (K07.dAt (st := K07.sLawPick) KX G ?a_lawPick ?l_lawPick ?c_lawPick ?k_lawPick)
      (K07.dAt (st := K07.sLawName) KX G ?a_lawName ?l_lawName ?c_lawName ?k_lawName)
      (K07.dAt (st := K07.sLawWords) KX G ?a_lawWords ?l_lawWords ?c_lawWords ?k_lawWords)
      (K07.dAt (st := K07.sLawIsWord) KX G ?a_lawIsWord ?l_lawIsWord ?c_lawIsWord ?k_lawIsWord)
      (K07.dAt (st := K07.sLawConcept) KX G ?a_lawConcept ?l_lawConcept ?c_lawConcept ?k_lawConcept)
      (K07.dAt (st := K07.sLawBook) KX G ?a_lawBook ?l_lawBook ?c_lawBook ?k_lawBook)
      (K07.dAt (st := K07.sLawWorld) KX G ?a_lawWorld ?l_lawWorld ?c_lawWorld ?k_lawWorld)
      (K07.dAt (st := K07.sLawThings) KX G ?a_lawThings ?l_lawThings ?c_lawThings ?k_lawThings)
      (K07.dAt (st := K07.sLawModel) KX G ?a_lawModel ?l_lawModel ?c_lawModel ?k_lawModel)
      (K07.dAt (st := K07.sLawBent) KX G ?a_lawBent ?l_lawBent ?c_lawBent ?k_lawBent)
      (K07.dAt (st := K07.sLawMade) KX G ?a_lawMade ?l_lawMade ?c_lawMade ?k_lawMade)
      (K07.dAt (st := K07.sLaw) KX G ?a_law ?l_law ?c_law ?k_law)
      (K07.iAt KX G ?i_longest_word)
      (K07.nwAt KX G ?w_no_words ?v_no_words)
      (K07.iAt KX G ?i_most_things)
    (case n_all => k_is)
    (case n_bool => k_is)
    (case n_dict => k_is)
    (case n_enumerate => k_is)
    (case n_int => k_is)
    (case n_isinstance => k_is)
    (case n_len => k_is)
    (case n_list => k_is)
    (case n_max => k_is)
    (case n_min => k_is)
    (case n_range => k_is)
    (case n_repr => k_is)
    (case n_set => k_is)
    (case n_sorted => k_is)
    (case n_str => k_is)
    (case n_tuple => k_is)
    (case a_isInteger => k_is); (case l_isInteger => k_is); (case c_isInteger => k_is); (case k_isInteger => k_is)
    (case a_isPair => k_is); (case l_isPair => k_is); (case c_isPair => k_is); (case k_isPair => k_is)
    (case a_isAscending => k_is); (case l_isAscending => k_is); (case c_isAscending => k_is); (case k_isAscending => k_is)
    (case a_isWord => k_is); (case l_isWord => k_is); (case c_isWord => k_is); (case k_isWord => k_is)
    (case a_isConcept => k_is); (case l_isConcept => k_is); (case c_isConcept => k_is); (case k_isConcept => k_is)
    (case a_isBook => k_is); (case l_isBook => k_is); (case c_isBook => k_is); (case k_isBook => k_is)
    (case a_checkConcept => k_is); (case l_checkConcept => k_is); (case c_checkConcept => k_is); (case k_checkConcept => k_is)
    (case a_checkBook => k_is); (case l_checkBook => k_is); (case c_checkBook => k_is); (case k_checkBook => k_is)
    (case a_bottomUp => k_is); (case l_bottomUp => k_is); (case c_bottomUp => k_is); (case k_bottomUp => k_is)
    (case a_inner => k_is); (case l_inner => k_is); (case c_inner => k_is); (case k_inner => k_is)
    (case a_isLetter => k_is); (case l_isLetter => k_is); (case c_isLetter => k_is); (case k_isLetter => k_is)
    (case a_isWorld => k_is); (case l_isWorld => k_is); (case c_isWorld => k_is); (case k_isWorld => k_is)
    (case a_doesHoldIn => k_is); (case l_doesHoldIn => k_is); (case c_doesHoldIn => k_is); (case k_doesHoldIn => k_is)
    (case a_judgeModel => k_is); (case l_judgeModel => k_is); (case c_judgeModel => k_is); (case k_judgeModel => k_is)
    (case a_modelHolds => k_is); (case l_modelHolds => k_is); (case c_modelHolds => k_is); (case k_modelHolds => k_is)
    (case a_checkWorld => k_is); (case l_checkWorld => k_is); (case c_checkWorld => k_is); (case k_checkWorld => k_is)
    (case a_isListing => k_is); (case l_isListing => k_is); (case c_isListing => k_is); (case k_isListing => k_is)
    (case a_areItems => k_is); (case l_areItems => k_is); (case c_areItems => k_is); (case k_areItems => k_is)
    (case a_isThing => k_is); (case l_isThing => k_is); (case c_isThing => k_is); (case k_isThing => k_is)
    (case a_isTie => k_is); (case l_isTie => k_is); (case c_isTie => k_is); (case k_isTie => k_is)
    (case a_members => k_is); (case l_members => k_is); (case c_members => k_is); (case k_members => k_is)
    (case a_inBoth => k_is); (case l_inBoth => k_is); (case c_inBoth => k_is); (case k_inBoth => k_is)
    (case a_tiedInto => k_is); (case l_tiedInto => k_is); (case c_tiedInto => k_is); (case k_tiedInto => k_is)
    (case a_leastOutside => k_is); (case l_leastOutside => k_is); (case c_leastOutside => k_is); (case k_leastOutside => k_is)
    (case a_lawDeck => k_is); (case l_lawDeck => k_is); (case c_lawDeck => k_is); (case k_lawDeck => k_is)
    (case a_lawDraw => k_is); (case l_lawDraw => k_is); (case c_lawDraw => k_is); (case k_lawDraw => k_is)
    (case a_lawPick => k_is); (case l_lawPick => k_is); (case c_lawPick => k_is); (case k_lawPick => k_is)
    (case a_lawName => k_is); (case l_lawName => k_is); (case c_lawName => k_is); (case k_lawName => k_is)
    (case a_lawWords => k_is); (case l_lawWords => k_is); (case c_lawWords => k_is); (case k_lawWords => k_is)
    (case a_lawIsWord => k_is); (case l_lawIsWord => k_is); (case c_lawIsWord => k_is); (case k_lawIsWord => k_is)
    (case a_lawConcept => k_is); (case l_lawConcept => k_is); (case c_lawConcept => k_is); (case k_lawConcept => k_is)
    (case a_lawBook => k_is); (case l_lawBook => k_is); (case c_lawBook => k_is); (case k_lawBook => k_is)
    (case a_lawWorld => k_is); (case l_lawWorld => k_is); (case c_lawWorld => k_is); (case k_lawWorld => k_is)
    (case a_lawThings => k_is); (case l_lawThings => k_is); (case c_lawThings => k_is); (case k_lawThings => k_is)
    (case a_lawModel => k_is); (case l_lawModel => k_is); (case c_lawModel => k_is); (case k_lawModel => k_is)
    (case a_lawBent => k_is); (case l_lawBent => k_is); (case c_lawBent => k_is); (case k_lawBent => k_is)
    (case a_lawMade => k_is); (case l_lawMade => k_is); (case c_lawMade => k_is); (case k_lawMade => k_is)
    (case a_law => k_is); (case l_law => k_is); (case c_law => k_is); (case k_law => k_is)
    (case i_longest_word => k_is)
    (case w_no_words => k_is); (case v_no_words => k_is)
    (case i_most_things => k_is)
#print axioms PySem.Challenge.cw_tellalike_k07_whole_models_and_first_axi_holds
