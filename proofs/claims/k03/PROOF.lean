import PyProof.Rows.All
import Wide.All
import OpenK.AllK
import Wide.FinOn
import HandS.ForMost
import HandS.Strs
import HandS.SetFor
import PyProof.Rows.SetFrom
import HandS.IsInst
import HandS.RaiseMore
import PyProof.ReprRoads
import KE.KDictPairs
import HandS.TupAny
import HandS.Iter
import HandS.Walk
import KE.GoesEnum
import HandS.ForExc
import HandS.ExcOwn
import HandS.WordsExc
import HandS.ExcIs
import HandS.SlotsOwn
import KE.KTypeName
import HandS.ExcInit
import HandS.Style
import HandS.Flow
import HandS.Codes
import HandS.Conv
import HandS.Defaults
import PySem.Challenge.RW_neverfour_k03_rows_from_states
import HandS.TupMul
import HandS.SortRule
import HandS.TupSets
import HandS.SortInts
import PyProof.ReprBulk
import PyProof.CallFns
import HandS.EndTab
import HandS.NestedK
import HandS.DictComp
import HandS.TryOnly
set_option Elab.async false
set_option linter.all false
set_option maxRecDepth 100000
namespace Nv
open PySem PySem.Spec PyProof.Rows L2
section
variable {P : Program} {w : World} {A : Around} {E : Value → Shared → Prop} {s : Shared}
/-- an empty set as set(..) begins it -/
abbrev noSet (w : World) : Obj := { cls := .type "set", dict := none, data := .set #[] 0 (.fresh 0 0 (!w.params.followText "set-order")) }

/-- set.__init__ of a list of ints -/
theorem fillSet {S l : Addr} {xs : Array Value} {ns : List Int} {Q : Value → Shared → Prop} (quiet : A.handled = none)
    (hS : s.heap.get? S = some (noSet w)) (hl : s.heap.IsList l xs) (hi : IntsAre xs.toList ns) (room : ns.length + 1 < scanBound)
    (k : ∀ (g : Heap) (t c : Nat), SetR w g S (fun j => decide (j ∈ ns)) c → c ≤ ns.length → (∀ b o, b ≠ S → s.heap.get? b = some o → g.get? b = some o) → Q .none { s with heap := g, toks := t }) :
    codeAny (model P w) A (.call (.builtin "set.__init__") ⟨[.ref S, .ref l], []⟩) (wants Q E) s := by
  have sz : xs.size = ns.length := by have q := IntsAre.length hi; rwa [Array.length_toList] at q
  refine codeAny_call_builtin F.called_set.init.plain F.entry_set_init (check_set_init_1 ⟨_, hS, rfl⟩ ?_)
  obtain ⟨⟨lc, ld, ldata, lsl⟩, hol, hcl, nl, hdl⟩ := hl
  simp only at hcl hdl
  subst hcl hdl
  have sub1 := F.sub_list_set
  have sub2 := F.sub_list_frozenset
  have nodict : (Value.type "list" == Value.type "dict") = false := by decide
  have lst : s.heap.IsList l xs := ⟨_, hol, rfl, nl, rfl⟩
  have lS : l ≠ S := fun e => by
    subst e
    exact absurd (congrArg Obj.cls (Option.some.inj (hol.symm.trans hS))) (show ¬ Value.type "list" = Value.type "set" by decide)
  unfold Builtin.«set.__init__» noKeywords Builtin.Frozenset.updateFrom
  generalize hPI : pyIter = PI
  wp_walk
  subst hPI
  refine wpAny_pyIter_list lst ?_
  refine wpAny_bind (wpAny_runValue ?_)
  have lt1 : l < s.heap.objs.size := Heap.lt_size hol
  have lt2 : S < s.heap.objs.size := Heap.lt_size hS
  have q3 : A.in1.in1.handled = none := by simp [quiet]
  have apart : S ∉ [s.heap.objs.size, l] := by
    intro z
    rcases List.mem_cons.mp z with e | z
    · exact absurd e (Nat.ne_of_lt lt2)
    · exact lS (List.mem_singleton.mp z).symm
  have each : ∀ (i : Nat) (v : Value), xs[i]? = some v → ∃ n t, ns[i]? = some n ∧ v = .int n t := fun i v hv => by
    have b : i < ns.length := by rw [← sz]; exact (Array.getElem?_eq_some_iff.mp hv).1
    obtain ⟨t, e⟩ := IntsAre.int_at hi i v (by rw [Array.getElem?_toList]; exact hv)
    refine ⟨ns[i], t, List.getElem?_eq_getElem b, ?_⟩
    rw [e, List.getD_eq_getElem?_getD, List.getElem?_eq_getElem b]
    rfl
  refine set_update_ints ((Walks.list q3 s.heap.objs.size l (Nat.ne_of_lt lt1) xs).toS) S apart ns sz room each (xs.size - 0) 0 _ (by omega) (Nat.zero_le _) ⟨⟨_, Heap.get?_push_size _ rfl, rfl, rfl⟩, lst.push _⟩ ?z ?r
  case z => exact ⟨0, Nat.le_refl 0, setR_new_at (Heap.get?_push_of_some _ hS)⟩
  case r =>
    intro s2 c mv hc R
    obtain ⟨g, g2, d2, t2, o2⟩ := s2
    have e1 : g2 = s.gens := mv.gens
    have e2 : d2 = s.drawn := mv.drawn
    have e3 : o2 = s.os := mv.os
    subst e1 e2 e3
    show wpAny _ _ _ _ _ _
    refine wpAny_pure ?_
    show wpAny _ _ (ret Value.none) _ _ _
    rw [sz] at hc
    refine wpAny_pure (k g t2 c R hc fun b o nb e => ?_)
    have hb : b < s.heap.objs.size := Heap.lt_size e
    refine mv.heap b o (fun z => ?_) (Heap.get?_push_of_some _ e)
    rcases List.mem_cons.mp z with z | z
    · exact nb z
    · exact absurd (List.mem_singleton.mp z) (Nat.ne_of_lt hb)
/-- set(l), l a list of ints -/
theorem setOf {l : Addr} {xs : Array Value} {ns : List Int} {Q : Value → Shared → Prop} (quiet : A.handled = none) (hl : s.heap.IsList l xs) (hi : IntsAre xs.toList ns) (room : ns.length + 1 < scanBound)
    (k : ∀ (g : Heap) (t c : Nat), SetR w g s.heap.objs.size (fun j => decide (j ∈ ns)) c → c ≤ ns.length → (∀ b o, s.heap.get? b = some o → g.get? b = some o) → Q (.ref s.heap.objs.size) { s with heap := g, toks := t }) :
    wpAny (model P w) A (call (.type "set") [.ref l]) Q E s := by
  obtain ⟨c0, tl, mro⟩ := F.called_set.mro
  have made := F.called_set.made
  have sub := F.called_set.sub
  refine wpAny_call (codeAny_of_tree ?_)
  show wpAny _ _ (callAny (.type "set") _) _ _ _
  refine wpAny_pure ⟨Code.quiet_builtin _ (by decide +kernel), codeAny_builtin F.entry_type_call ?_⟩
  rw [Around.under_plain (weight_type_call_type "set" [.ref l] []) rfl]
  have f1 := F.called_set.notType
  have f2 := F.called_set.canCreate
  have f3 := F.typeCall_set_1 (.ref l)
  repeat (any_goals (first | assumption | wp_step))
  refine codeAny_mono (code_set_led1 (w := w) (.ref l) (E := E) (Q₁ := fun v s1 => v = .ref s.heap.objs.size ∧ s1 = { s with heap := s.heap.push (noSet w) }) ⟨rfl, rfl⟩) fun r s1 hr => ?_
  rcases r with e | fl
  · exact hr
  · cases fl with
    | ret v =>
      obtain ⟨rfl, rfl⟩ := hr
      have at0 : (s.heap.push (noSet w)).get? s.heap.objs.size = some (noSet w) := Heap.get?_push_size _ rfl
      have ty : Shared.TypeIs { s with heap := s.heap.push (noSet w) } (.ref s.heap.objs.size) "set" := ⟨_, at0, rfl⟩
      have f4 := F.called_set.init.lookup
      have f5 := F.called_set.init.bind (.ref s.heap.objs.size)
      repeat (any_goals (first | assumption | wp_step))
      refine codeAny_mono (fillSet (E := E) (Q := fun v s2 => v = .none ∧ ∃ g t c, s2 = { s with heap := g, toks := t } ∧ SetR w g s.heap.objs.size (fun j => decide (j ∈ ns)) c ∧ c ≤ ns.length ∧ ∀ b o, s.heap.get? b = some o → g.get? b = some o)
        (by simp [quiet]) at0 (hl.push _) hi room fun g t c R hc kp => ⟨rfl, g, t, c, rfl, R, hc, fun b o e => kp b o (Nat.ne_of_lt (Heap.lt_size e)) (Heap.get?_push_of_some _ e)⟩) fun r2 s2 hr2 => ?_
      rcases r2 with e | fl2
      · exact hr2
      · cases fl2 with
        | ret v2 =>
          obtain ⟨rfl, g, t, c, rfl, R, hc, kp⟩ := hr2
          repeat (any_goals (first | assumption | wp_step))
          exact k g t c R hc kp
        | _ => exact hr2.elim
    | _ => exact hr.elim
end
/-- set(l): the new set -/
def rSetI (K : PySem.W.Frag) (w : World) : List V → Hp → VK → Prop := fun xs H Q => ∃ (l : Addr) (ns : List Int), xs = [.ref l] ∧ SqL K H l (ns.map V.int) ∧ ns.length ≤ 4000 ∧ ∀ (p : Addr) (c : Nat), H p = none → c ≤ ns.length → Q (.ref p) (upd H p (SetO w p (fun j => decide (j ∈ ns)) c))
theorem cr_setI {X : Cx} (hc : X.calm = true) : CallR X (.type "set") (rSetI X.K X.w) := by
  intro pins s σ H xs us Q I r h
  obtain ⟨l, ns, rfl, hq, hz, q⟩ := h
  obtain ⟨u, rfl, rx⟩ := vals1 r
  cases rx
  obtain ⟨its, rv, ⟨o, n, ho, hcl, hd, hdat⟩, _⟩ := I.list hq
  refine setOf (I.ok.hd hc) (show s.heap.IsList l its.toArray from ⟨o, ho, hcl, n, hdat⟩) (ints_of_vals rv) (by unfold scanBound; omega) fun g t c R hcn kp => ?_
  have new : H s.heap.objs.size = none := I.hok.fresh (Nat.le_refl _)
  exact ⟨.ref s.heap.objs.size, upd H s.heap.objs.size (SetO X.w s.heap.objs.size (fun j => decide (j ∈ ns)) c), I.laid (t' := t) kp (Nat.le_refl _) (setO_new R), rfl, q _ c new hcn⟩
end Nv
set_option Elab.async false
set_option linter.all false
set_option maxRecDepth 100000
namespace Nv
open PySem PySem.Spec PyProof.Rows L2
/-! ### tuples whose object is known to have no dict of its own -/
def TupZ (H : Hp) (a : Addr) (xs : List V) : Prop := ∃ o : Obj, H a = some (.frz o (.tup xs)) ∧ o.dict = none
theorem TupZ.sq {K : PySem.W.Frag} {H : Hp} {a : Addr} {xs : List V} (h : TupZ H a xs) : SqT K H a xs := by
  obtain ⟨o, e, _⟩ := h
  exact .inl (.inr ⟨o, e⟩)
def rTupZ (K : PySem.W.Frag) : List V → Hp → VK → Prop := fun xs H Q => ∃ (p : Addr) (ys : List V), xs = [.ref p] ∧ SqL K H p ys ∧ ∀ (l : Addr) (H' : Hp), H l = none → (∃ o : Obj, o.dict = none ∧ H' = upd H l (.frz o (.tup ys))) → Q (.ref l) H'
theorem call_tupZ {X : Cx} : CallR X (.type "tuple") (rTupZ X.K) := by
  intro pins s σ H xs us Q I r h
  obtain ⟨p, ys, rfl, hq, q⟩ := h
  obtain ⟨u, rfl, rx⟩ := vals1 r
  cases rx
  obtain ⟨its, rv, pl, hz⟩ := I.list hq
  have hlen := rv.length
  refine call_tuple_list pl.isList (fun g kp => ?_) (by simp only [List.size_toArray]; omega)
  have I1 : Inv X pins σ H { s with heap := g } := I.kept (t' := s.toks) kp
  have I2 : Inv X pins σ (upd H g.objs.size (.frz { cls := .type "tuple", data := .seq its.toArray } (.tup ys))) { s with heap := g.push { cls := .type "tuple", data := .seq its.toArray } } :=
    I1.laid (t' := s.toks) (fun b o e => Heap.get?_push_of_some _ e) (Nat.le_refl _) (show ObjOk X.prog X.w _ _ _ (.frz _ (.tup ys)) from ⟨Heap.get?_push_size _ rfl, hz, its, rv, IsTup.new _ _⟩)
  exact ⟨.ref g.objs.size, _, I2, rfl, q _ _ (I1.hok.fresh (Nat.le_refl _)) ⟨_, rfl, rfl⟩⟩

theorem pickL {α : Type} {n : Nat} {R : Nat → α → Prop} (h : ∀ j, j < n → ∃ x, R j x) : ∃ l : List α, l.length = n ∧ ∀ j x, l[j]? = some x → R j x := by
  induction n with
  | zero => exact ⟨[], rfl, fun j x e => by simp at e⟩
  | succ n ih =>
    obtain ⟨l, hl, hR⟩ := ih fun j hj => h j (Nat.lt_succ_of_lt hj)
    obtain ⟨x, hx⟩ := h n (Nat.lt_succ_self n)
    refine ⟨l ++ [x], by simp [hl], fun j y e => ?_⟩
    by_cases hj : j < n
    · rw [List.getElem?_append_left (by omega)] at e
      exact hR j y e
    · rw [List.getElem?_append_right (by omega)] at e
      have hj2 : j = n := by
        have := (List.getElem?_eq_some_iff.mp e).1
        simp at this
        omega
      subst hj2
      rw [hl, Nat.sub_self] at e
      cases e
      exact hx
/-! ### dict(t), t such a tuple of pairs -/
def rDictT (K : PySem.W.Frag) : List V → Hp → VK → Prop := fun xs H Q => ∃ (a : Addr) (ps : List Addr) (kvs : List (Key × V)), xs = [.ref a] ∧ TupZ H a (ps.map V.ref) ∧ Paired (fun p kv => SqT K H p [kV kv.1, kv.2]) ps kvs ∧
  ∀ p, H p = none → Q (.ref p) (upd H p (.dK (mergeK [] kvs)))
theorem call_dictT {X : Cx} (hc : X.calm = true) : CallR X (.type "dict") (rDictT X.K) := by
  intro pins s σ H xs us Q I r h
  obtain ⟨a, ps, kvs, rfl, ⟨o, ha, hd⟩, hp, q⟩ := h
  obtain ⟨u, rfl, rx⟩ := vals1 r
  cases rx
  have ok := I.hok a _ ha
  obtain ⟨hget, hz, its, rv, o2, ho2, hcl, n, hdat⟩ := ok
  have eo : o = o2 := Option.some.inj (hget.symm.trans ho2)
  subst eo
  have ei := refs_at rv
  subst ei
  rw [List.length_map] at hz
  obtain ⟨prs, rel, hl, hpr⟩ := pairs_of I hp
  -- the pairs as values
  obtain ⟨ws, wl, hw⟩ := pickL (n := prs.length) (R := fun j (x : Value × Value) => ∃ b kv, ps[j]? = some b ∧ prs[j]? = some kv ∧ kv.2 = x.2 ∧ IsTup s.heap b #[x.1, x.2] ∧ keyIs kv.1 x.1 = true) fun j hj => by
    obtain ⟨b, u, e1, e2, e3⟩ := hpr j prs[j] (List.getElem?_eq_getElem hj)
    exact ⟨(u, prs[j].2), b, prs[j], e1, List.getElem?_eq_getElem hj, rfl, e2, e3⟩
  have P := PairArg.tuple (prog := X.prog) (w := X.w) a (ps.map Value.ref).toArray (fun j => ps.getD j 0) ws
  refine PySem.call_dict_pairs (knd := mixKind X.prog X.w) (kvs := prs) P (I.ok.hd hc) ⟨⟨o, n, hget, hcl, hd, hdat⟩, by simp [wl, hl], fun j k v e => ?_⟩ ⟨by rw [wl], fun i key v e => ?_⟩ (by rw [wl, hl]; exact hz) fun g tk hd' kp => ?_
  · obtain ⟨b, kv, e1, e2, e3, e4, e5⟩ := hw j (k, v) e
    refine ⟨by simp [e1], ?_⟩
    show PairAt s.heap (ps.getD j 0) k v
    rw [List.getD_eq_getElem?_getD, e1]
    obtain ⟨ob, h1, h2, m, h3⟩ := e4
    exact .inl ⟨ob, h1, h2, m, h3⟩
  · obtain ⟨b, kv, e1, e2, e3, e4, e5⟩ := hw i (key, v) e
    obtain ⟨k0, v0⟩ := kv
    cases e3
    exact ⟨k0, e2, e5⟩
  · have kall : ∀ b o, s.heap.get? b = some o → g.get? b = some o := fun b o e => kp b o (by simp) e
    have hm : (s.heap.objs.size == sysModules) = false := beq_eq_false_iff_ne.mpr (Nat.ne_of_gt I.big)
    have hlen : (mergeK [] kvs).length ≤ sizeLine := by
      refine Nat.le_trans (length_mergeK kvs []) ?_
      rw [List.length_nil, Nat.zero_add, rel.length, hl]
      exact hz
    exact ⟨.ref s.heap.objs.size, upd H s.heap.objs.size (.dK (mergeK [] kvs)), I.laid (t' := tk) kall (Nat.le_refl _) (show ObjOk X.prog X.w _ _ _ (.dK (mergeK [] kvs)) from ⟨hlen, hm, merged [] prs, KV.merge rel .nil, hd'⟩), rfl, q _ (I.hok.fresh (Nat.le_refl _))⟩

/-! ### repr -/
theorem isDisp_of {K : PySem.W.Frag} {H : Hp} {a : Addr} {d : PyData} (h : Dp K H (.ref a) d) : (∃ ds, d = .list ds) ∨ ∃ ds, d = .tuple ds := by
  cases h with
  | lst _ _ => exact .inl ⟨_, rfl⟩
  | tup _ _ => exact .inr ⟨_, rfl⟩
/-- repr(x) of data at an address; nothing is being shown around -/
def rRepr (K : PySem.W.Frag) : List V → Hp → VK → Prop := fun xs H Q => ∃ (a : Addr) (d : PyData), xs = [.ref a] ∧ Dp K H (.ref a) d ∧ d.showable = true ∧ d.hasDict = false ∧ d.depth ≤ 60 ∧ d.shown.length ≤ sizeLine ∧ Q (.str d.shown) H
theorem call_reprD {X : Cx} (hu : X.A.units + 64 < cLine) (hg : X.A.guards = some []) : CallR X (.builtin "repr") (rRepr X.K) := by
  intro pins s σ H xs us Q I r h
  obtain ⟨a, d, rfl, hd, h1, h2, h3, h4, q⟩ := h
  obtain ⟨u, rfl, rx⟩ := vals1 r
  obtain ⟨as, rd⟩ := Dp.reads I d _ _ hd rx
  cases rx
  refine repr_of_reads' rd h1 (fun z => by rw [h2] at z; cases z) hg (by omega) (fun b o e => e) (fun g u tk kp => ?_) h4
  exact ⟨.str d.shown, H, I.kept (t' := tk) kp, ⟨u, rfl⟩, q⟩
end Nv
set_option Elab.async false
set_option linter.all false
set_option maxRecDepth 100000
namespace Nv
open PySem PySem.Spec PyProof.Rows L2
/-! ### defs that are called where nothing is being shown (repr looks at that) -/
structure FnG (P : Program) (w : World) (K : PySem.W.Frag) (mg : Str → Option Value) (base : Heap) (CX : CXT) (k : Nat) (f : Addr) (fd : FuncData) (ps : List Str) (sp : Sp) : Prop where
  len : ∀ vs H Q E, sp vs H Q E → vs.length = ps.length
  run : ∀ (A : Around) (outer : List Env) (s : Shared) (H : Hp) (args : Args) (us : List Value) (vs : List V) (Q : VK) (E : XK), A.guards = some [] → Room k A → Env0 P w K mg base A outer s H →
    BindsTo s fd args (ps.zip us) → Vals vs us → sp vs H Q E → codeAny (model P w) A (.call (.ref f) args) (CR CX outer P w H s Q E) s
section
variable {P : Program} {w : World} {K : PySem.W.Frag} {mg : Str → Option Value} {base : Heap} {CX : CXT}
theorem FnG.of {k : Nat} {f : Addr} {fd : FuncData} {ps : List Str} {sp : Sp} (F : FnOk P w K mg base CX k f fd ps sp) : FnG P w K mg base CX k f fd ps sp :=
  ⟨F.len, fun A outer s H args us vs Q E _ r e b v h => F.run A outer s H args us vs Q E r e b v h⟩
/-- a def by its body; in the body nothing is being shown -/
theorem fnG_of {k : Nat} {f : Addr} {name qual : Str} {params : Arguments} {body : List Stmt} {scope : Scope} {dV kV doc pm cdv ct oc : Value} {an od : Option Addr} {osl : Array (Option Value)} {N ps : List Str} {sp : Sp}
    (lk : K.lookup f = some ⟨oc, od, .func (PySem.W.fnOf name qual params body scope dV kV doc pm an cdv ct), osl⟩) (cd : PySem.W.codeIn K cdv qual = true) (S : FnScope N ps scope) (len : ∀ vs H Q E, sp vs H Q E → vs.length = ps.length)
    (walk : ∀ (A : Around) (outer : List Env) (s : Shared) (H : Hp) (vs : List V) (Q : VK) (E : XK), A.guards = some [] → Room k (A.deeper (envOfC qual scope s.heap.objs.size f cdv)) → sp vs H Q E →
      ∃ t, PSs (cxOf CX P w K mg base N qual scope f cdv A outer s H E) body t ∧ t { nx := fun _ H' => Q .non H', rt := Q } (start N vs) H) :
    FnG P w K mg base CX (k + 1) f (PySem.W.fnOf name qual params body scope dV kV doc pm an cdv ct) ps sp := by
  refine ⟨len, fun A outer s H args us vs Q E hg room e0 bind rel want => ?_⟩
  have here : ∀ b o, base.get? b = some o → s.heap.get? b = some o := fun b o e => (e0.bs b o e).1
  have KX : K.In s.heap := e0.mod.kin.keeps here
  have lim : s.heap.NoLimit := e0.mod.nolimit.keeps here
  refine codeAny_call_function room.depth (KX _ _ lk) rfl S.co S.gen rfl (PySem.W.codeRec_of KX cd) (bind _ _ _ _ ?_)
  refine wpAny_newFunctionEnv_cells S.kind (fun ⟨n, v⟩ hy => ?_) fun env he s1 x => ?_
  · rcases S.par n (List.of_mem_zip hy).1 with z | z
    · exact .inl z
    · exact .inr ⟨z, PySem.W.cellsFrom_some _ _ _ (.inl z)⟩
  · subst he
    refine ⟨lim.keeps x.toInCall.keep, codeAny_func ?_⟩
    obtain ⟨t, ht, hq⟩ := walk A outer s H vs Q E hg (room.deeper _) want
    refine wpAny_mono (ht.run [] s1 (start N vs) H _ (inv_start S room.hd e0 (len _ _ _ _ want) rel x) hq) (fun fl s' hs => ?_) fun e s' hs => hs
    cases fl with
    | ret u =>
      obtain ⟨v, σ', H', J, rv, q⟩ := hs
      exact ⟨v, H', J.os, J.bare, J.base, J.hok, rv, q⟩
    | next =>
      obtain ⟨σ', H', J, q⟩ := hs
      exact ⟨V.non, H', J.os, J.bare, J.base, J.hok, rfl, q⟩
    | brk => exact (hs.choose_spec.choose_spec.2 : False).elim
    | cont => exact (hs.choose_spec.choose_spec.2 : False).elim
theorem FunG.ok {x qual : Str} {st : Stmt} {f : Addr} {fd : FuncData} {N ps : List Str} {k : Nat} {sp : Sp} (F : Fun K x qual st f fd) (S : FnScope N ps (defScope st)) (len : ∀ vs H Q E, sp vs H Q E → vs.length = ps.length)
    (walk : ∀ (cdv : Value) (A : Around) (outer : List Env) (s : Shared) (H : Hp) (vs : List V) (Q : VK) (E : XK), A.guards = some [] → Room k (A.deeper (envOfC qual (defScope st) s.heap.objs.size f cdv)) → sp vs H Q E →
      ∃ t, PSs (cxOf CX0 P w K mg base N qual (defScope st) f cdv A outer s H E).nox (defBody st) t ∧ t { nx := fun _ H' => Q .non H', rt := Q } (start N vs) H) : FnG P w K mg base CX0 (k + 1) f fd ps sp := by
  obtain ⟨oc, od, kV, doc, pm, an, cdv, ct, osl, rfl, lk, cd⟩ := F.ex
  refine fnG_of lk cd S len fun A outer s H vs Q E hg hr want => ?_
  obtain ⟨t, h, q⟩ := walk cdv A outer s H vs Q E hg hr want
  exact ⟨t, h.nox, q⟩
end
section
variable {X : Cx} {CX : CXT} {k : Nat} {f : Addr} {fd : FuncData} {ps : List Str} {sp : Sp} {dvs : List V} {ds : List Value} {E : XK} {x : Str} {p pos : Pos} {e : Expr} {es : List Expr} {t : TA}
/-- a call of such a def where nothing is being shown -/
theorem pe_callG (F : FnG X.prog X.w X.K X.mg X.base CX k f fd ps sp) (hG : X.A.guards = some []) (hr : Room k X.A) (hg : Gl X x) (hm : X.mg x = some (.ref f)) (hk : PySem.W.keepIn X.K (.ref f) = true) (hb : Binds X.K fd ps ds) (hd : Vals dvs ds) (hx : Passes CX X E)
    (ha : PA X (e :: es) t) (hdb : (x == ("__debug__" : Str)) = false := by decide) (he : starEach (e :: es) X.env = (false, eval e X.env) :: starEach es X.env := by rfl) (hpl : (backTo pos (starEach es X.env)).any (·.1) = false := by rfl) :
    PE X (.Call (.Name x p) (e :: es) [] pos) (tCall sp dvs E t) := by
  refine ⟨fun pins s σ H Q I h => wpAny_Call_Name_kw (ld_glob I hg hm (PySem.W.callWith_K (h₀ := X.base) I.ok.mod.kin hk (thn (ha.run pos pins s σ H _ I h) fun us s1 ⟨vs, H1, I1, r, q⟩ => ⟨I1.kIn, ?_⟩) he hpl) hdb)⟩
  have r2 : Vals (vs ++ dvs) (us ++ ds) := r.append hd
  have hl : (us ++ ds).length = ps.length := by rw [← r2.length]; exact F.len _ _ _ _ q
  refine wpAny_call (codeAny_mono (F.run X.A X.stack s1 H1 ⟨us, []⟩ (us ++ ds) (vs ++ dvs) Q E hG hr I1.env0 (hb s1 us I1.kIn hl) r2 q) fun rr s' hq => ?_)
  rcases rr with ee | fl
  · exact hx pins σ H1 s1 ee s' I1 hq
  · cases fl with
    | ret u => exact I1.after hq
    | next => exact hq.elim
    | brk => exact hq.elim
    | cont => exact hq.elim
end
/-! ### the end: the law itself, such a def -/
theorem script_gone {P : Program} {w : World} {K : PySem.W.Frag} {h : Heap} {a : Addr} {xs : List Value} {ns : List Int} (KX : K.In h) (ha : h.get? a = some { cls := .type "list", data := .seq xs.toArray }) (hi : IntsAre xs ns) (hl : ns.length ≤ sizeLine) :
    ∃ H : Hp, Only H ∧ SqL K H a (ns.map V.int) ∧ HOk P w H h ∧ (∀ b u, H b = some u → b = a ∧ K.lookup a = none) := by
  have rv := vals_ints hi
  cases hk : K.lookup a with
  | some o =>
    obtain rfl := Option.some.inj ((KX a o hk).symm.trans ha)
    refine ⟨fun _ => none, fun _ => .inl rfl, .inr ⟨_, xs.toArray, _, hk, rfl, rfl, rfl, by rw [List.size_toArray, hi.length]; exact hl, by simpa using rv⟩, fun b u z => (by have z' : (none : Option HO) = some u := z; cases z'), fun b u z => (by have z' : (none : Option HO) = some u := z; cases z')⟩
  | none =>
    have on : ∀ b u, (if b = a then some (HO.frz { cls := .type "list", data := .seq xs.toArray } (.lst (ns.map V.int))) else none) = some u → b = a ∧ u = HO.frz { cls := .type "list", data := .seq xs.toArray } (.lst (ns.map V.int)) := fun b u z => by
      split at z
      · exact ⟨by assumption, (Option.some.inj z).symm⟩
      · cases z
    refine ⟨fun b => if b = a then some (.frz { cls := .type "list", data := .seq xs.toArray } (.lst (ns.map V.int))) else none, fun b => ?_, .inl (.inr ⟨_, if_pos rfl⟩), fun b u z => ?_, fun b u z => ⟨(on b u z).1, rfl⟩⟩
    · by_cases hb : b = a
      · exact .inr ⟨_, _, if_pos hb⟩
      · exact .inl (if_neg hb)
    · obtain ⟨rfl, rfl⟩ := on b u z
      exact ⟨ha, by rw [List.length_map]; exact hl, xs, _, rv, ha⟩
theorem endG {l : PySem.W.OpenLaw} {n k : Nat} {q : Program} {loose : List Str} {XP : (Str → Option Value) → Heap → Prop} {YP : World → Heap → Prop} {d : DefRec} {K : Params → PySem.W.Frag} {sp : PySem.W.Frag → Sp} {x : Str}
    (hn : l.most = some n) (hn2 : n ≤ sizeLine) (hdf : d.params.defaults = []) (hr : Room k callerA) (hY : ∀ (w : World) (h : Heap), YP w h → (K w.params).In h)
    (F : ∀ (w : World) (mg : Str → Option Value) (fa : Addr) (h : Heap), (K w.params).In h → h.Ns mainGlobals mg → mg d.name = some (.ref fa) →
      ∃ fd : FuncData, (∀ (s : Shared) (u : Value), BindsTo s fd ⟨[u], []⟩ [(x, u)]) ∧ ∀ base : Heap, (K w.params).In base → base.Ns mainGlobals mg → FnG l.prog w (K w.params) mg base CX0 k fa fd [x] (sp (K w.params)))
    (hsp : ∀ (K : PySem.W.Frag) (H : Hp) (a : Addr) (ns : List Int), ns.length ≤ n → SqL K H a (ns.map V.int) → sp K [.ref a] H (fun v _ => v = .bl true) fun _ _ _ => False) :
    PySem.W.WalkO q loose XP YP l.row.toRowW d [] (fun f vs => PySem.call f vs) := by
  refine Att.attach_call hn hdf fun w s₀ s1 mg mb fa o pm cd doc a vs ns G Y ho hd hcd hmg hobj hints hlen hg => ?_
  have KX := hY w _ Y
  obtain ⟨fd, hb, hF⟩ := F w mg fa _ KX G.T.g hmg
  have small : ns.length ≤ sizeLine := Nat.le_trans hlen hn2
  obtain ⟨H, only, seen, hok, dom⟩ := script_gone (P := l.prog) (w := w) KX hobj hints small
  -- the heap without the script
  have free : ∀ {b : Addr} {o : Obj}, s1.heap.get? b = some o → (∀ xs k, o.data ≠ .seq xs k) → H b = none := fun {b o} e ne => by
    cases q : H b with
    | none => rfl
    | some u =>
      obtain ⟨rfl, _⟩ := dom b u q
      rw [hobj] at e
      cases e
      exact (ne _ _ rfl).elim
  have ns : ∀ {b : Addr} {m : Str → Option Value}, s1.heap.Ns b m → (hidT s1.heap H).Ns b m := fun {b m} ⟨o, es, ep, e, dd, r⟩ => ⟨o, es, ep, hidT_get e (free e (by rw [dd]; intro _ _ z; cases z)), dd, r⟩
  have inK : (K w.params).In (hidT s1.heap H) := fun b o e => hidT_get (KX b o e) (by
    cases q : H b with
    | none => rfl
    | some u =>
      obtain ⟨rfl, z⟩ := dom b u q
      rw [z] at e
      cases e)
  have M : Mod (K w.params) mg (hidT s1.heap H) := ⟨inK, ns G.T.g, ⟨mb, ns G.T.b, G.T.builtins⟩, let ⟨mc, h1, h2⟩ := G.T.nolimit; ⟨mc, ns h1, h2⟩⟩
  have e0 : Env0 l.prog w (K w.params) mg (hidT s1.heap H) callerA [] s1 H := ⟨rfl, M, fun b o e => of_hidT e, Nat.le_of_eq (hidT_size _ _), trivial, fun b z => absurd (show b ∈ ([] : List Addr) from z) (by simp), hok, AllBare.of_eq hg⟩
  refine codeAny_mono ((hF _ inK (ns G.T.g)).run callerA [] s1 H ⟨[.ref a], []⟩ [.ref a] [.ref a] _ _ rfl hr e0 (hb s1 (.ref a)) (.cons rfl .nil) (hsp _ H a _ hlen seen)) fun r s' h => ?_
  rcases r with e | fl
  · exact (h : False).elim
  · cases fl with
    | next => exact (h : False).elim
    | brk => exact (h : False).elim
    | cont => exact (h : False).elim
    | ret u =>
      obtain ⟨v, H', os, bare, un, hok', rv, qv⟩ := h
      obtain rfl : v = .bl true := qv
      obtain rfl : u = Value.bool true := rv
      refine ⟨rfl, OldK.of_keep fun b o e => ?_, os, bare⟩
      cases z : H b with
      | none => exact un.keep b o e z (fun z => absurd (show b ∈ ([] : List Addr) from z) (by simp)) (by simp)
      | some u =>
        obtain ⟨ob, ys, z2⟩ : ∃ ob ys, H b = some (.frz ob (.lst ys)) := by
          rcases only b with z3 | z3
          · rw [z3] at z; cases z
          · exact z3
        obtain ⟨g1, _⟩ := hok b _ z2
        obtain ⟨g2, _⟩ := hok' b _ (un.frzs b ob _ z2)
        rw [e] at g1
        cases g1
        exact g2
end Nv
set_option Elab.async false
set_option linter.all false
set_option maxRecDepth 100000
namespace Nv
open PySem PySem.Spec PyProof.Rows L2
/-! ### the layer's rules with the written part named (within a comprehension's block) -/
section
variable {X : Cx} (K : PySem.W.Frag)
theorem ix_listK (h : X.K = K := by rfl) : IxR X (rIxL K) := by subst h; exact ix_list
theorem ix_tupK (h : X.K = K := by rfl) : IxR X (rIxT K) := by subst h; exact ix_tup
theorem op_in_seqK (h : X.K = K := by rfl) : OpR X (compareOp .In) (rIn K false) := by subst h; exact op_in_seq
theorem op_notIn_seqK (h : X.K = K := by rfl) : OpR X (compareOp .NotIn) (rIn K true) := by subst h; exact op_notIn_seq
def rLen (K : PySem.W.Frag) : List V → Hp → VK → Prop := fun xs H Q => ∃ p ys, xs = [.ref p] ∧ (SqL K H p ys ∨ SqT K H p ys) ∧ Q (.int ys.length) H
theorem call_len_seqK (h : X.K = K := by rfl) : CallR X (.builtin "len") (rLen K) := by subst h; exact call_len_seq
theorem mt_indexK (h : X.K = K := by rfl) : MtR X "list.index" (rIndex K) := by subst h; exact mt_index
theorem call_tupZK (h : X.K = K := by rfl) : CallR X (.type "tuple") (rTupZ K) := by subst h; exact call_tupZ
def rListOf (K : PySem.W.Frag) : List V → Hp → VK → Prop := fun xs H Q => ∃ p ys, xs = [.ref p] ∧ (SqL K H p ys ∨ SqT K H p ys) ∧ ∀ l, H l = none → Q (.ref l) (upd H l (.lst ys))
theorem call_list_ofK (h : X.K = K := by rfl) : CallR X (.type "list") (rListOf K) := by subst h; exact call_list_of
theorem call_dictTK (h : X.K = K := by rfl) (hc : X.calm = true := by rfl) : CallR X (.type "dict") (rDictT K) := by subst h; exact call_dictT hc
theorem cr_setIK (w : World) (h : X.K = K := by rfl) (h2 : X.w = w := by rfl) (hc : X.calm = true := by rfl) : CallR X (.type "set") (rSetI K w) := by subst h h2; exact cr_setI hc
theorem cr_sortedSetK (w : World) (h2 : X.w = w := by rfl) (hc : X.calm = true := by rfl) : CallR X (.builtin "sorted") (rSortedSet w) := by subst h2; exact cr_sortedSet hc
theorem cr_sortedK (h : X.K = K := by rfl) : CallR X (.builtin "sorted") (rSorted K) := by subst h; exact cr_sorted
theorem cr_anyK (h : X.K = K := by rfl) (hc : X.calm = true := by rfl) : CallR X (.builtin "any") (rAny K) := by subst h; exact cr_any hc
theorem cr_sumK (h : X.K = K := by rfl) (hc : X.calm = true := by rfl) : CallR X (.builtin "sum") (rSum K) := by subst h; exact cr_sum hc
theorem call_isiK' (h : X.K = K := by rfl) : CallR X (.builtin "isinstance") (rIsi K) := by subst h; exact call_isi
theorem op_eqDK (hu : X.A.units + 64 < cLine) (h : X.K = K := by rfl) : OpR X (compareOp .Eq) (rEqD K) := by subst h; exact op_eqD hu
theorem op_neDK (hu : X.A.units + 64 < cLine) (h : X.K = K := by rfl) : OpR X (compareOp .NotEq) (rNeD K) := by subst h; exact op_neD hu
theorem sl_listK (h : X.K = K := by rfl) : SlR X (rSlL K) := by subst h; exact sl_list
theorem call_reprDK (hu : X.A.units + 64 < cLine) (hg : X.A.guards = some []) (h : X.K = K := by rfl) : CallR X (.builtin "repr") (rRepr K) := by subst h; exact call_reprD hu hg
theorem pi_listK {tg l : Expr} {tl : TE} (hl : PE X l tl) (h : X.K = K := by rfl) : PI X tg l (iList K tl) := by subst h; exact pi_list hl
theorem pi_tupK {tg l : Expr} {tl : TE} (hl : PE X l tl) (h : X.K = K := by rfl) : PI X tg l (iTup K tl) := by subst h; exact pi_tup hl
theorem pg_tupK {es : List Expr} {k : Nat} {t : TGs} {n : Nat} {pos : Pos} (hc : X.calm = true) (hh : PGs X es t) (h : X.K = K := by rfl) (hn : (assignEach es X.env).length = n := by rfl) (hst : (assignEach es X.env).findIdx? (·.1) = none := by rfl) :
    PG X (.Tuple es k pos) (gTup K n t) := by subst h; exact pg_tup hc hh hn hst
theorem pe_bmK {T id : String} {name : Str} {o e : Expr} {es : List Expr} {to : TE} {t : TA} {r : V → List V → Hp → VK → Prop} {apos cpos : Pos} (pa : PlainAttrs T) (slot : Slot T name id) (hty : typeOf (.builtin id) = pure (.type "method_descriptor")) (hm : MtR X id r) (ho : PE X o to) (ha : PA X (e :: es) t)
    (h : X.K = K := by rfl) (hbase : attributeBase o name X.env (eval o X.env) = eval o X.env := by rfl)
    (hfew : ((backTo cpos (starEach (e :: es) X.env)).all (fun x => !x.1) && (backToKw cpos (keywordEach [] X.env)).all (fun x => x.1.isSome)
      && decide ((e :: es).length + ([] : List Keyword).length + (if ([] : List Keyword).isEmpty then 0 else 1) < 30)) = true := by rfl)
    (hline : (apos.endLine == cpos.line) = true := by rfl) (hs : starEach (e :: es) X.env = (false, eval e X.env) :: starEach es X.env := by rfl) (hplain : (backTo cpos (starEach es X.env)).any (·.1) = false := by rfl) :
    PE X (.Call (.Attribute o name apos) (e :: es) [] cpos) (tBM K T r to t) := by subst h; exact pe_bm pa slot hty hm ho ha hbase hfew hline hs hplain
end
end Nv
set_option Elab.async false
set_option linter.all false
set_option maxRecDepth 100000
/-! further rules with the frame named, for comprehension blocks -/
namespace Nv
open PySem PySem.Spec PyProof.Rows L2
theorem pt_truthK (K : PySem.W.Frag) {X : Cx} {a : Expr} {ta : TE} (ha : PE X a ta) (he : ∀ whole, isTrue a X.env whole = (do let v ← whole; standAt a.pos; holding [v] (truthy v))) (h : X.K = K := by rfl) :
    PT X a (fun σ H Q => ta σ H fun x H' => ∃ k, TruV K x H' k ∧ Q k H') := by subst h; exact pt_truth ha he
end Nv
set_option Elab.async false
set_option linter.all false
set_option maxRecDepth 100000
namespace Nv
open PySem PySem.Spec PyProof.Rows L2
open AutoSeq1 (wpAny_loadPart')
/-! ### enumerate(t), t a tuple -/
abbrev tupIt (t : Addr) : Obj := { cls := .type "tuple_iterator", data := .fields #[.ref t, .int 0 0] }
abbrev enumOb (i : Addr) : Obj := { cls := .type "enumerate", data := .fields #[.none, .bool false, .ref i, rawInt 0, .none, .none] }
theorem new_enumT (t : Addr) (xs : Array Value) (n : Nat) (dct : Option Addr) (sl : Array (Option Value)) :
    Meets (Builtin.«enumerate.__new__» ⟨[.type "enumerate", .ref t], []⟩) (fun _ R s => s.heap.get? t = some { cls := .type "tuple", dict := dct, data := .seq xs n, slots := sl } ∧
      R (.ok (.ret (.ref (s.heap.push (tupIt t)).objs.size))) { s with heap := (s.heap.push (tupIt t)).push (enumOb s.heap.objs.size) }) :=
  .of_wp fun prog w A R s h => by
    obtain ⟨hp, g, d, tk, os⟩ := s
    obtain ⟨ht, h⟩ := h
    have sub := sub_enumerate
    have hT : Heap.IsTuple (Shared.heap ⟨hp, g, d, tk, os⟩) t xs := ⟨_, ht, rfl, n, rfl⟩
    wp_walk using wpAny_loadPart' ht
    refine wpAny_stack_any fun st => wpAny_pure ?_
    split
    · rename_i c _ _ _ _ _
      cases (c == Value.type "enumerate")
      · wp_walk using wpAny_loadPart' ht, wpAny_pyIter_tuple hT
        exact ⟨_, rfl, h⟩
      · wp_walk using wpAny_loadPart' ht, wpAny_pyIter_tuple hT
        exact ⟨_, rfl, h⟩
    · wp_walk using wpAny_loadPart' ht, wpAny_pyIter_tuple hT
      exact ⟨_, rfl, h⟩
section
variable {prog : Program} {w : World} {A : Around} {E : Value → Shared → Prop} {s : Shared}
theorem call_enumT {t : Addr} {xs : Array Value} {Q : Value → Shared → Prop} (hT : s.heap.IsTuple t xs)
    (k : ∀ g, IsEnum g (s.heap.objs.size + 1) s.heap.objs.size 0 .none → g.IsTupleIter s.heap.objs.size t 0 → (∀ b o, s.heap.get? b = some o → g.get? b = some o) → Q (.ref (s.heap.objs.size + 1)) { s with heap := g }) :
    wpAny (model prog w) A (call (.type "enumerate") [.ref t]) Q E s := by
  obtain ⟨⟨c, dct, dt, sl⟩, ht, hc, n, hd⟩ := hT
  have hc2 : c = .type "tuple" := hc
  have hd2 : dt = .seq xs n := hd
  subst hc2 hd2
  refine callType_new F.called_enumerate (by decide) (F.typeCall_enumerate_1 _) (F.newCall_enumerate_1 _) (fun obj => F.args_object_init_2 obj _) F.entry_enumerate_new (new_enumT t xs n dct sl) ⟨ht, ?_⟩
  have sz : (s.heap.push (tupIt t)).objs.size = s.heap.objs.size + 1 := Heap.size_push ..
  have he := Heap.get?_push_size (s.heap.push (tupIt t)) (o := enumOb s.heap.objs.size) rfl
  rw [sz] at he
  show _ ∧ _
  rw [sz]
  exact ⟨⟨_, he, rfl⟩, k _ he ⟨_, Heap.get?_push_of_some _ (Heap.get?_push_size _ rfl), rfl, rfl⟩ fun b o x => Heap.get?_push_of_some _ (Heap.get?_push_of_some _ x)⟩
end
/-- the tuple at a, each item in a new pair with its number -/
def IteT (K : PySem.W.Frag) (a : Addr) : It :=
  ⟨fun i H => ∃ (xs : List V) (x : V), SqT K H a xs ∧ xs[i]? = some x, fun i H v H' => ∃ T x, v = .ref T ∧ H T = none ∧ H' = upd H T (.tup [.int (i : Nat), x]) ∧ ∀ xs, SqT K H a xs → xs[i]? = some x, fun i H => ∃ xs : List V, SqT K H a xs ∧ xs.length = i⟩
theorem turn_enumT {P : Program} {w : World} {K : PySem.W.Frag} {elts : List Expr} {kk : Nat} {tpos : Pos} (a e it : Addr) :
    Turn P w K (.Tuple elts kk tpos) (IteT K a) [e, it] e (fun i h => (∃ old, IsEnum h e it ((i : Nat) : Int) old) ∧ h.IsTupleIter it a i ∧ e ≠ it) where
  mem := by simp
  obj := fun i h st b hb => by
    obtain ⟨⟨old, he⟩, ⟨o, ho, hc, hd⟩, _⟩ := st
    rcases List.mem_cons.mp hb with z | z
    · rw [z]; exact ⟨_, he, fun v q => nomatch q⟩
    · rw [List.mem_singleton.mp z]; exact ⟨o, ho, fun v q => by rw [hd] at q; cases q⟩
  keep := fun i h h' st k => let ⟨⟨old, he⟩, hi, hne⟩ := st; ⟨⟨old, k e (by simp) _ he⟩, hi.at fun o q => k it (by simp) o q, hne⟩
  item := by
    intro X hP hw hK hc i pins s σ H E I hf st hg
    subst hP hw hK
    obtain ⟨⟨old, he⟩, hit, hne⟩ := st
    obtain ⟨xs, x, hq, hx⟩ := hg
    obtain ⟨its, rv, p, hz⟩ := I.tuple hq
    obtain ⟨u, hu, ru⟩ := rv.get hx
    have hel : e < s.heap.objs.size := Heap.lt_size he
    have hil : it < s.heap.objs.size := by obtain ⟨_, q, _⟩ := hit; exact Heap.lt_size q
    have hIT : s.heap.IsTuple a its.toArray := p
    have hail : a ≠ it := fun z => by
      obtain ⟨o, q1, q2, _⟩ := hit
      obtain ⟨o', q3, q4, _⟩ := hIT
      rw [z, q1] at q3
      cases q3
      rw [q2] at q4
      exact absurd q4 (by decide)
    have hae : e ∉ [it, a] := fun z => by
      rcases List.mem_cons.mp z with z | z
      · exact hne z
      · have z := List.mem_singleton.mp z
        obtain ⟨o', q3, q4, _⟩ := hIT
        have he' : s.heap.get? e = some _ := he
        rw [z, q3] at he'
        cases he'
        exact absurd q4 (show ¬ Value.type "enumerate" = Value.type "tuple" by decide)
    have D := Draws.tuple (prog := X.prog) (w := X.w) (A := X.A.in1) (I.ok.hd hc) it a hail its.toArray
    have hil2 : i < its.toArray.size := by
      have := (List.getElem?_eq_some_iff.mp hu).1
      simpa using this
    refine wpAny_pyNext_enum_itemD D he ⟨hit, hIT⟩ hil2 hne hae fun y g tk hy ho hst hT hsz hk => ?_
    have hyu : y = u := by
      have : its.toArray[i]? = some u := by simpa using hu
      rw [this] at hy
      exact (Option.some.inj hy).symm
    subst hyu
    refine ⟨_, rfl, wpAny_letOwnedTupleGo_enum (s := { s with heap := g, toks := tk + 1 }) ho fun g2 he' sb => ?_⟩
    have hT2 : g2.get? s.heap.objs.size = some { cls := .type "tuple", data := .seq #[.int i tk, y] } := (sb.2 _ (Nat.ne_of_gt hel)).trans hT
    have new : ObjOk X.prog X.w (upd H s.heap.objs.size (.tup [.int (i : Nat), x])) g2 s.heap.objs.size (.tup [.int (i : Nat), x]) :=
      ⟨by show 2 ≤ sizeLine; decide, [.int i tk, y], .cons ⟨_, rfl⟩ (.cons ru .nil), ⟨_, hT2, rfl, _, rfl⟩⟩
    have I1 : Inv X pins σ (upd H s.heap.objs.size (.tup [.int (i : Nat), x])) { s with heap := g2, toks := tk + 1 } :=
      I.turnedNew (ch := [e, it]) (fun b ob hb q => (sb.2 b (fun z => hb (by simp [z]))).trans (hk b ob (fun z => hb (by simp [z])) (fun z => hb (by simp [z])) q)) hf (Nat.le_refl _) new
    refine ⟨.ref s.heap.objs.size, _, I1, rfl, ⟨_, x, rfl, I.hok.fresh (Nat.le_refl _), rfl, fun ys hy => by rw [I.tuple_inj hy hq]; exact hx⟩, ⟨⟨y, ?_⟩, hst.1.at fun o q => (sb.2 it (Ne.symm hne)).trans q, hne⟩, fun b hb => ?_⟩
    · have e1 : ((i + 1 : Nat) : Int) = (i : Int) + 1 := by omega
      rw [e1]
      exact he'
    · have hb' : b < s.heap.objs.size := by
        rcases List.mem_cons.mp hb with z | z
        · rw [z]; exact hel
        · rw [List.mem_singleton.mp z]; exact hil
      rw [upd_ne (Nat.ne_of_lt hb')]
      exact (hf b hb).1
  done := by
    intro X hP hw hK hc i pins s σ H E I hf st hg
    subst hP hw hK
    obtain ⟨⟨old, he⟩, hit, hne⟩ := st
    obtain ⟨xs, hq, hx⟩ := hg
    obtain ⟨its, rv, p, hz⟩ := I.tuple hq
    have hIT : s.heap.IsTuple a its.toArray := p
    have hail : a ≠ it := fun z => by
      obtain ⟨o, q1, q2, _⟩ := hit
      obtain ⟨o', q3, q4, _⟩ := hIT
      rw [z, q1] at q3
      cases q3
      rw [q2] at q4
      exact absurd q4 (by decide)
    obtain ⟨f0, f1, f2, f3, f4, f5⟩ := hf it (by simp)
    have hl := rv.length
    have D := Draws.tuple (prog := X.prog) (w := X.w) (A := X.A.in1) (I.ok.hd hc) it a hail its.toArray
    have ei : i = its.toArray.size := by simp; omega
    rw [ei] at hit
    exact wpAny_pyNext_enum_endD D he ⟨hit, hIT⟩ fun g eb => ⟨rfl, I.turned (t' := s.toks) (fun b o hb q => eb b o hb q) f0 f1 f3 f4 f5⟩
  self := fun A i s Q E st h => let ⟨⟨_, he⟩, _⟩ := st; wpAny_pyIter_enum he h
def iEnumT (K : PySem.W.Frag) (ta : TA) : TI := fun σ H R => ta σ H fun vs H1 => ∃ a xs, vs = [.ref a] ∧ SqT K H1 a xs ∧ R (IteT K a) H1
theorem pi_enumT {X : Cx} {e : Expr} {ta : TA} {p pos tpos : Pos} {elts : List Expr} {kk : Nat} (hg : Gl X "enumerate") (hm : X.mg "enumerate" = none) (ha : PA X [e] ta) (hs : starEach [e] X.env = [(false, eval e X.env)] := by rfl) :
    PI X (.Tuple elts kk tpos) (.Call (.Name "enumerate" p) [e] [] pos) (iEnumT X.K ta) := by
  refine ⟨fun pins s σ H R I h => Call_ (ld_blt I hg hm boot_enumerate (PyProof.Rows.callWith_type1 (thn (ha.run pos pins s σ H _ I h) fun us s1 ⟨vs, H1, I1, r1, q1⟩ => ?_) hs rfl))⟩
  obtain ⟨a, xs, rfl, hq, q⟩ := q1
  obtain ⟨u, rfl, rx⟩ := vals1 r1
  cases rx
  obtain ⟨its, rv, p', hz⟩ := I1.tuple hq
  refine call_enumT (xs := its.toArray) p' fun g he hit hk => wpAny_pyIter_enum he ?_
  have I2 : Inv X pins σ H1 { s1 with heap := g } := I1.kept (t' := s1.toks) hk
  refine ⟨s1.heap.objs.size + 1, [s1.heap.objs.size + 1, s1.heap.objs.size], _, _, H1, rfl, I2, turn_enumT a (s1.heap.objs.size + 1) s1.heap.objs.size, ⟨⟨.none, he⟩, hit, Nat.succ_ne_self _⟩, fun b hb => ?_, q⟩
  have hle : s1.heap.objs.size ≤ b := by
    rcases List.mem_cons.mp hb with z | z
    · rw [z]; exact Nat.le_add_right _ _
    · rw [List.mem_singleton.mp z]; exact Nat.le_refl _
  exact I1.fpOk hle (I1.hok.fresh hle)
theorem walk_enumT {K : PySem.W.Frag} {a : Addr} {xs : List V} : Walk (IteT K a) xs.length (fun H => SqT K H a xs) (YPair (fun i => some (.int (i : Nat))) (fun i => xs[i]?)) where
  goes := fun i H hi h => ⟨xs, xs[i], h, List.getElem?_eq_getElem hi⟩
  stops := fun H h => ⟨xs, h, rfl⟩
  yields := fun i H x H' _ h y => by
    obtain ⟨T, z, e1, e2, e3, e4⟩ := y
    exact ⟨T, .int (i : Nat), z, e1, e2, e3, rfl, e4 xs h⟩
end Nv
set_option Elab.async false
set_option linter.all false
set_option maxRecDepth 100000
/-! several clauses 'except X as n', all of one name n (slot i) -/
namespace Nv
open PySem PySem.Spec PyProof.Rows L2
abbrev Cl := Value × (Addr → Value → Option Addr → TS)
/-- behind the suite the slot is empty -/
abbrev dropS (i : Nat) (D : Ends) : Ends := { nx := fun σ H => D.nx (σ.set i none) H, rt := D.rt, bk := fun σ H => D.bk (σ.set i none) H, ct := fun σ H => D.ct (σ.set i none) H }
def wAll (K : PySem.W.Frag) (Wout : WX) (D : Ends) (i : Nat) : List Cl → WX
  | [] => Wout
  | p :: r => fun cls d σ H => ∃ yes, PySem.W.exmOne K cls p.1 = some yes ∧ (yes = true → ∀ a, H a = none → p.2 a cls d (dropS i D) (σ.set i (some (.ref a))) H) ∧ (yes = false → wAll K Wout D i r cls d σ H)
/-- the clauses, each with its suite's reading -/
inductive Cls (X : Cx) (n : Str) : List ExceptHandler → List Cl → Prop
  | none : Cls X n [] []
  | one {x : Str} {c : Value} {ts : Addr → Value → Option Addr → TS} {st : Stmt} {more : List Stmt} {np hp : Pos} {hs : List ExceptHandler} {l : List Cl} (nm : Names X x c)
      (su : ∀ (a : Addr) (oe : Obj) (cls : Value) (d : Option Addr) (pn : List (Addr × Obj)), Zc cls d oe → (∃ vs, oe.data = .fields vs) → PSs (X.suite a ((a, oe) :: pn)) (st :: more) (ts a cls d)) (rest : Cls X n hs l) :
      Cls X n (.ExceptHandler (some (.Name x np)) (some n) (st :: more) hp :: hs) ((c, ts) :: l)
section
variable {X : Cx} {n : Str} {i : Nat} {Wout : WX} {D : Ends} {pins : List (Addr × Obj)} {σ : L2.St} {H : Hp} {B : Heap} {a : Addr} {cls : Value} {d : Option Addr}
/-- the clauses looked at one after the other; the exception at a flies over this frame in the heap h3 -/
theorem clauses_run (hf : X.env.frame = some X.env.locals) (hN : X.N.Nodup) (hi : X.N[i]? = some n) (hln : X.env.kindOf n = some .local) (tk : Takes X Wout) {s' : Shared} {h3 : Heap} (ok : X.Ok)
    (na : H a = none) (nL : a ≠ X.env.locals) (nF : a ∉ X.fs) (here : Inv X pins σ H { s' with heap := h3 })
    (land : ∀ h4, HandSPX.FlyingZ B (X.env :: X.outer) a (Zc cls d) h4 → h3.UpToSlots h4 → Inv X pins σ H { s' with heap := h4 }) (fly : HandSPX.FlyingZ B (X.env :: X.outer) a (Zc cls d) h3)
    (out : Wout cls d σ H → ∀ h4, HandSPX.HeldZ B (X.env :: X.outer) a (Zc cls d) X.env.locals h4 → h3.UpToSlots h4 → XE X Wout (.ref a) { s' with heap := h4 }) :
    ∀ {hds : List ExceptHandler} {l : List Cl}, Cls X n hds l → wAll X.K Wout D i l cls d σ H → wpAny (model X.prog X.w) X.A (handleBy (.ref a) X.env hds) (SP X pins D) X.xe { s' with heap := h3 } := by
  intro hds l hc
  obtain ⟨oe, vs, he, hz, hd⟩ := fly.there
  induction hc with
  | none =>
    intro w
    obtain ⟨_, _, _, _, vs2, T, _, _, he2, _, hd2, h1, _⟩ := id fly
    refine wpAny_handleBy_nil ?_
    unfold PySem.passOn
    refine wpAny_bind (wpAny_field he2 hd2 h1 ?_)
    rw [if_neg (by simp)]
    have leave : wpAny (model X.prog X.w) X.A (setFlight (.ref a) X.env.frame) (fun _ s4 => wpAny (model X.prog X.w) X.A (throw (.ref a) : Sem Flow) (SP X pins D) X.xe s4) X.xe { s' with heap := h3 } := by
      rw [hf]
      exact HandSPX.setFlight_upZ fly fun h4 held up4 => wpAny_throw (tk _ _ (out w h4 held up4))
    first
      | exact wpAny_bind leave
      | exact wpAny_bind (wpAny_pure (wpAny_bind leave))
  | @one x c ts st more np hp hs l nm su rest ih =>
    rintro ⟨yes, hy, w1, w2⟩
    have S3 := here.suite he hd na nL nF
    have cl : PySem.W.Looks (model X.prog X.w) h3 (typeOf (.ref a)) cls := fun A Q E s k q => wpAny_typeOf_ref (k _ _ he) (by rw [hz.1]; exact q)
    refine wpAny_handleBy_cons (codeAny_handlers_test ?_) (fun q => by cases q)
    have named : ∀ {Q E : Value → Shared → Prop}, Q c { s' with heap := h3 } → wpAny (model X.prog X.w) (X.A.mark (some (.ref a))) (eval (.Name x np) X.env) Q E { s' with heap := h3 } := fun {Q E} q => by
      obtain ⟨hg, hdb, hm | ⟨hm, hv, hn⟩⟩ := nm
      · exact ld_glob (X := X.suite a ((a, oe) :: (X.pn ++ pins))) S3 hg hm q hdb
      · exact ld_blt (X := X.suite a ((a, oe) :: (X.pn ++ pins))) S3 hg hm hv q hn hdb
    refine named ((PySem.W.exm_one (M := model X.prog X.w) here.kIn cl hy).here ?_)
    cases yes with
    | false => exact ih (w2 rfl)
    | true =>
      refine codeAny_handlers_suite_as (HandSPX.lands_againZ fly fun h4 fly4 up4 => ?_)
      have J4 := land h4 fly4 up4
      obtain ⟨oe4, vs4, he4, hz4, hd4⟩ := fly4.there
      refine store_ok (X := X.suite a ((a, oe4) :: (X.pn ++ pins))) (v := .ref a) (J4.suite he4 hd4 na nL nF) hN hi (.inl hln) rfl (fun s5 S5 => ?_) (.inr hln)
      have after : ∀ {s6 : Shared} {σ6 : L2.St} {H6 : Hp} {R : Shared → Prop}, Inv (X.suite a ((a, oe4) :: (X.pn ++ pins))) [] σ6 H6 s6 → (∀ s7, Inv X pins (σ6.set i none) H6 s7 → R s7) →
          wpAny (model X.prog X.w) X.A (do bindName X.env n .none; unbindBehindTheSuite X.env n hp) (fun _ s7 => R s7) X.xe s6 := fun {s6 σ6 H6 R} S6 hq => gone_ok (S6.unsuite ok) hN hi hln hq
      refine wpAny_mono ((su a oe4 cls d (X.pn ++ pins) hz4 ⟨_, hd4⟩).run [] s5 _ H _ S5 (w1 rfl a na)) (fun fl s6 hsp => ?_) (fun _ _ z => False.elim z)
      cases fl with
      | ret u =>
        obtain ⟨v, σ6, H6, S6, r, q⟩ := hsp
        exact after S6 fun s7 J7 => ⟨_, _, _, J7, r, q⟩
      | next =>
        obtain ⟨σ6, H6, S6, q⟩ := hsp
        exact after S6 fun s7 J7 => ⟨_, _, J7, q⟩
      | brk =>
        obtain ⟨σ6, H6, S6, q⟩ := hsp
        exact after S6 fun s7 J7 => ⟨_, _, J7, q⟩
      | cont =>
        obtain ⟨σ6, H6, S6, q⟩ := hsp
        exact after S6 fun s7 J7 => ⟨_, _, J7, q⟩
end
section
variable {X : Cx} {n : Str} {i : Nat} {body : List Stmt} {hd0 : ExceptHandler} {hds : List ExceptHandler} {l : List Cl} {pos : Pos} {tb : WX → TS} {Wout : WX}
theorem ps_try_all (hs : X.stack = X.env :: X.outer) (hf : X.env.frame = some X.env.locals) (hN : X.N.Nodup) (hi : X.N[i]? = some n) (hln : X.env.kindOf n = some .local) (tk : Takes X Wout)
    (hb : ∀ (W : WX) (pn : List (Addr × Obj)) (xe : Value → Shared → Prop), Takes (X.tr pn xe) W → PassesOwn (model X.prog X.w) X.A X.env xe → PSs (X.tr pn xe) body (tb W)) (hc : Cls X n (hd0 :: hds) l) :
    PS X (.Try body (hd0 :: hds) [] [] pos) (fun D σ H => tb (wAll X.K Wout D i l) D σ H) := by
  refine ⟨fun pins s σ H D I h => wpAny_Try_except ?_⟩
  have ok := I.ok
  have hfr : X.A.frames = some (X.env :: X.outer) := by rw [ok.frames, hs]
  have run := (hb (wAll X.K Wout D i l) (X.pn ++ pins) (fun e s₁ => wpAny (model X.prog X.w) X.A (noteFrame e X.env) (fun _ s₂ => wpAny (model X.prog X.w) X.A (setFlight e none) (fun _ s₃ => wpAny (model X.prog X.w) X.A (handleBy e X.env (hd0 :: hds)) (SP X pins D) X.xe s₃) X.xe s₂) X.xe s₁)
    (fun u s' xx => ?_) PassesOwn.looking).run [] s σ H D (I.toTry _) h
  · refine wpAny_mono run (fun fl s1 hsp => ?_) (fun e s1 he => he)
    cases fl with
    | ret u =>
      obtain ⟨v, σ', H', J, r, q⟩ := hsp
      exact ⟨v, σ', H', J.ofTry ok, r, q⟩
    | next =>
      obtain ⟨σ', H', J, q⟩ := hsp
      exact wpAny_execs_nil ⟨σ', H', J.ofTry ok, q⟩
    | brk =>
      obtain ⟨σ', H', J, q⟩ := hsp
      exact ⟨σ', H', J.ofTry ok, q⟩
    | cont =>
      obtain ⟨σ', H', J, q⟩ := hsp
      exact ⟨σ', H', J.ofTry ok, q⟩
  · obtain ⟨a, B, sI, _, σ', H', cls, d, rfl, J', nb, up, sky, na, os, ag, w⟩ := xx
    have J : Inv X pins σ' H' sI := J'.ofTry ok
    have sky' : Sky B (X.env :: X.outer) a (Zc cls d) X.env.locals s'.heap := by rw [← hs]; exact sky
    show wpAny (model X.prog X.w) X.A (noteFrame (.ref a) X.env) _ _ _
    refine Sky.land Zc.steady hfr hf sky' fun h3 fly up3 => ?_
    have land : ∀ h4, HandSPX.FlyingZ B (X.env :: X.outer) a (Zc cls d) h4 → h3.UpToSlots h4 → Inv X pins σ' H' { s' with heap := h4 } := fun h4 f4 u4 => J.landed nb f4.1 ((up.trans up3).trans u4) os ag
    have here : Inv X pins σ' H' { s' with heap := h3 } := J.landed nb fly.1 (up.trans up3) os ag
    obtain ⟨oe, vs, he, hz, hd⟩ := fly.there
    have nfr : a ∉ frs (X.env :: X.outer) := fun hm => by
      obtain ⟨_, o', e', no⟩ := fly.2.2.1.mem hm
      rw [he] at e'
      cases e'
      exact no _ hd
    have nL : a ≠ X.env.locals := fun z => nfr (List.mem_filterMap.mpr ⟨X.env, List.mem_cons_self, by rw [hf, z]⟩)
    have nF : a ∉ X.fs := fun hm => by
      obtain ⟨e, h1, h2⟩ := List.mem_filterMap.mp hm
      exact nfr (List.mem_filterMap.mpr ⟨e, List.mem_cons_of_mem _ h1, h2⟩)
    refine clauses_run hf hN hi hln tk ok na nL nF here land fly (fun wo h4 held u4 => ?_) hc w
    exact ⟨a, B, sI, pins, σ', H', cls, d, rfl, J, nb, (up.trans up3).trans u4, .inr (.inr (by rw [hs]; exact held)), na, os, ag, wo⟩
end
end Nv
set_option Elab.async false
set_option linter.all false
set_option maxRecDepth 100000
/-! own exceptions with two fields: what, and kind, the name of their class -/
namespace Nv
open PySem PySem.Spec PyProof.Rows L2
/-- what an exception tells of its class C and of the class's name -/
structure ExcN (K : PySem.W.Frag) (C : Addr) (nm : Str) : Prop where
  ga : PySem.W.findIn K (.ref C) "__getattribute__" = some (some (.builtin "BaseException.__getattribute__"))
  gg : PySem.W.findIn K (.ref C) "__getattr__" = some none
  exC : PySem.W.subIn K (.ref C) (.type "BaseException") = some true
  isc : PySem.W.isClsIn K C = true
  ca : PySem.W.findIn K (.ref C) "__class__" = some (some (.builtin "object.__class__"))
  cn : PySem.W.specialIn K (.builtin "object.__class__") "__get__" = some (some (.builtin "getset_descriptor.__get__"))
  ct : PySem.W.takesIn K (.builtin "object.__class__") = some true
  cm : PySem.W.mroIn K C (.type "object") = some true
  rd : PySem.W.readsIn K C (.type "type") = true
  fn : PySem.W.findCls K (.ref C) (.type "type") "__name__" = some (.get (.builtin "getset_descriptor.__get__") (.builtin "type.__name__") (.ref C) (.type "type"))
  sl : ∃ c d dt sl tk, K.lookup C = some ⟨c, d, dt, sl⟩ ∧ sl[2]? = some (some (.str nm tk))
  nk : PySem.W.findIn K (.ref C) "kind" = some none
section
open PySem.Calls Builtin.Getset_descriptor
variable {prog : Program} {w : World} {A : Around} {E : Value → Shared → Prop} {s : Shared} {K : PySem.W.Frag} {x D : Addr} {ox : Obj} {od : Option Obj} {nm : Str}
theorem exc_cls {expr : Bool} {Q : Value → Shared → Prop} (N : ExcN K D nm) (hf : PySem.W.findObj K D od "__class__" = some (.bind (.builtin "getset_descriptor.__get__") (.builtin "object.__class__")))
    (X : K.In s.heap) (I : PySem.W.InstAt s.heap x ox D od) (h : Q (.ref D) { s with toks := s.toks + 1 }) : wpAny (model prog w) A (getAttr (.ref x) "__class__" expr) Q E s := by
  obtain ⟨hp, g, d, t, os⟩ := s
  have L0 := I.type (M := model prog w)
  have L1 := PySem.W.looks_findIn (M := model prog w) X N.ga
  have L2 := PySem.W.looks_findIn (M := model prog w) X N.gg
  have L3 := PySem.W.looks_find (M := model prog w) X I hf
  have sub : PySem.W.Looks (model prog w) hp (isInstance (.ref x) (.type "BaseException")) true := L0.andThen (PySem.W.looks_subIn X N.exC)
  have hx0 : (expr && onTheHeap (Value.builtin "BaseException.__getattribute__")) = false := by cases expr <;> rfl
  have hx2 : (Value.builtin "BaseException.__getattribute__" == Value.builtin "object.__getattribute__") = false := by decide +kernel
  have hx1 : (onTheHeap (Value.ref D) && Value.builtin "BaseException.__getattribute__" == Value.builtin "object.__getattribute__") = false := by rw [hx2]; rfl
  unfold getAttr getAttrBy
  refine wpAny_bind (wpAny_mkText (wpAny_holding (wpAny_bind (L0.at (wpAny_bind (L1.at ?_))))))
  show wpAny _ _ (if (onTheHeap (Value.ref D) && Value.builtin "BaseException.__getattribute__" == Value.builtin "object.__getattribute__") = true then _ else _) _ _ _
  rw [hx1, if_neg Bool.false_ne_true]
  unfold getAttrByItsOwn hookBefore
  refine wpAny_bind ?_
  rw [if_pos (show onTheHeap (Value.ref D) = true from rfl)]
  refine L2.at ?_
  refine wpAny_bind (wpAny_attempt (wpAny_holding ?_))
  unfold callGetattribute
  rw [hx0, if_neg Bool.false_ne_true]
  unfold boundAndCalled
  rw [PySem.F.excAttr_ValueError.ga.bind (.ref x)]
  refine wpAny_bind (wpAny_pure ?_)
  show wpAny _ _ (call (.builtin "BaseException.__getattribute__") [.ref x, .str "__class__" t]) _ _ _
  refine wpAny_call (codeAny_call_builtin PySem.F.excAttr_ValueError.ga.plain PySem.F.entry_bexc_ga ?_)
  refine @PySem.W.check_slot (model prog w) _ _ ⟨hp, g, d, t + 1, os⟩ "BaseException.__getattribute__" "BaseException" "__getattribute__" (.ref x) [.str "__class__" t] [] _ (by decide +kernel) (by decide +kernel) sub (PySem.F.args_bexc_ga (.ref x) (.str "__class__" t)) ?_
  unfold Builtin.«object.__getattribute__»
  refine wpAny_bind (wpAny_of_eq (a := ((Value.ref x : Value), [Value.str "__class__" t])) (by first | rfl | (simp only [slotArgs]; rfl)) ?_)
  refine wpAny_bind (wpAny_pure (wpAny_bind (L0.at (wpAny_bind (L3.at ?_)))))
  show wpAny _ _ (holding [Value.builtin "object.__class__"] (call (.builtin "getset_descriptor.__get__") [.builtin "object.__class__", .ref x, .ref D]) >>= ret) _ _ _
  refine wpAny_bind (wpAny_holding (wpAny_call (PySem.W.class_get (s := ⟨hp, g, d, t + 1, os⟩) (ox := ox) (od := od) X I N.cm ?_)))
  refine wpAny_pure ?_
  show wpAny _ _ (handedOut (.ref D)) _ _ _
  rw [PySem.W.handedOut_of (v := .ref D) rfl]
  first
    | exact wpAny_pure (wpAny_pure h)
    | exact wpAny_pure h
    | exact wpAny_pure (wpAny_bind (wpAny_pure (wpAny_pure h)))
theorem cname_get {tp v : Value} {R : Result → Shared → Prop} (X : K.In s.heap) (ht : PySem.W.typeIn K (.ref D) = some (.type "type")) {c : Value} {dd : Option Addr} {dt : Data} {sl : Array (Option Value)} (hC : K.lookup D = some ⟨c, dd, dt, sl⟩) (hs : sl[2]? = some (some v))
    (h : R (.ok (.ret v)) s) : codeAny (model prog w) A (.call (.builtin "getset_descriptor.__get__") ⟨[.builtin "type.__name__", .ref D, tp], []⟩) R s := by
  obtain ⟨hh, g, dr, t, os⟩ := s
  have L0 : PySem.W.Looks (model prog w) hh (typeOf (.ref D)) (.type "type") := PySem.W.looks_typeIn X ht
  have L1 : PySem.W.Looks (model prog w) hh (isSubtype (.type "type") (.type "type")) true := PySem.W.Looks.of_pure (by rw [isSubtype_type]; kernel_rfl)
  have ho := X _ _ hC
  dsimp only at ho
  refine codeAny_call_builtin PySem.W.KF.slot_gs.plain PySem.W.KF.entry_gs (PySem.W.KF.slot_gs.check _ _ _ _ _ _ _ _ PySem.W.ktyn_type (PySem.W.KF.args_gs _ _ _) ?_)
  unfold Builtin.«getset_descriptor.__get__» descrGet
  rw [PySem.W.dga_obj]
  refine wpAny_bind (wpAny_pure ?_)
  unfold descrGetter descrCheckInstance descrNameAndClass isInstance
  simp only [PySem.W.ktyn_owner]
  repeat lk
  refine ⟨Code.quiet_builtin _ (by decide +kernel), codeAny_builtin PySem.W.ktyn_entry ?_⟩
  unfold Builtin.«type.__name__»
  dsimp only
  unfold Builtin.keptObject PySem.slotAt
  dsimp only
  refine wpAny_bind (wpAny_bind (wpAny_loadPart_at ho (wpAny_pure ?_)))
  dsimp only
  rw [hs]
  exact wpAny_pure h
theorem exc_name {expr : Bool} {Q : Value → Shared → Prop} (N : ExcN K D nm) (X : K.In s.heap) (h : ∀ tk, Q (.str nm tk) { s with toks := s.toks + 1 }) : wpAny (model prog w) A (getAttr (.ref D) "__name__" expr) Q E s := by
  obtain ⟨c, dd, dt, sl, tk, hC, hs⟩ := N.sl
  have rd := N.rd
  simp only [PySem.W.readsIn, Bool.and_eq_true, beq_iff_eq] at rd
  refine PySem.W.cls_read X N.rd N.fn ?_
  show wpAny _ _ (do ret (← holding [Value.builtin "type.__name__"] (call (.builtin "getset_descriptor.__get__") [.builtin "type.__name__", .ref D, .type "type"]))) _ _ _
  refine wpAny_bind (wpAny_holding (wpAny_call (cname_get (s := { s with toks := s.toks + 1 }) X rd.1.1.1.2 hC hs ?_)))
  exact wpAny_pure (PySem.W.handed_on rfl (h _))
end
/-- e.__class__.__name__, e an exception that is being made -/
def tKind (K : PySem.W.Frag) (te : TE) : TE := fun σ H Q => te σ H fun x H1 => ∃ (a C dx : Addr) (fs : List (Str × V)) (nm : Str), x = .ref a ∧ H1 a = some (exo a C (some dx)) ∧ H1 dx = some (exd dx fs) ∧ ExcN K C nm ∧ Q (.str nm) H1
theorem pe_kind {X : Cx} {e : Expr} {te : TE} {p pos : Pos} (he : PE X e te) (hb : attributeBase e "__class__" X.env (eval e X.env) = eval e X.env := by rfl)
    (hb2 : attributeBase (.Attribute e "__class__" p) "__name__" X.env (eval (.Attribute e "__class__" p) X.env) = eval (.Attribute e "__class__" p) X.env := by rfl) : PE X (.Attribute (.Attribute e "__class__" p) "__name__" pos) (tKind X.K te) := by
  refine ⟨fun pins s σ H Q I h => attr_of hb2 (attr_of hb (thn (he.run pins s σ H _ I h) ?_))⟩
  rintro u s1 ⟨x, H1, I1, rx, a, C, dx, fs, nm, rfl, ea, ed, N, q⟩
  obtain rfl : u = Value.ref a := rx
  obtain ⟨t1, ho⟩ := exo_at I1.hok ea
  obtain ⟨mA, ⟨od, es, ep, ho2, hr⟩, rel⟩ := exd_at I1.hok ed
  have J : PySem.W.InstAt s1.heap a { cls := .ref C, dict := some dx, data := .fields #[.ref t1, .none, .none, .none, .bool false, .none] } C (some od) := ⟨ho, rfl, rfl, ho2⟩
  refine exc_cls N (PySem.W.findObj_data N.isc N.ca N.cn N.ct) I1.kIn J ?_
  refine exc_name (s := { s1 with toks := s1.toks + 1 }) N I1.kIn fun tk => ?_
  exact ⟨.str nm, H1, (I1.tok _).tok _, ⟨tk, rfl⟩, q⟩
/-- a class of the program's exceptions, with the __init__ at fI -/
structure ExcC (K : PySem.W.Frag) (mg : Str → Option Value) (name : Str) (fI : Addr) where
  C : Addr
  g : mg name = some (.ref C)
  o : OexC K C
  i : PySem.W.findIn K (.ref C) "__init__" = some (some (.ref fI))
  ga : PySem.W.findIn K (.ref C) "__getattribute__" = some (some (.builtin "BaseException.__getattribute__"))
  gg : PySem.W.findIn K (.ref C) "__getattr__" = some none
  no : PySem.W.findIn K (.ref C) "what" = some none
  nn : ExcN K C name
  hd : PySem.W.hasDictIn K C = true
  isc : PySem.W.isClsIn K C = true
/-- does 'except B' take an exception of the class A -/
theorem exm_is {K : PySem.W.Frag} {mg : Str → Option Value} {nA nB : Str} {fA fB : Addr} (A : ExcC K mg nA fA) (B : ExcC K mg nB fB) {b : Bool} (h : PySem.W.subIn K (.ref A.C) (.ref B.C) = some b) : PySem.W.exmOne K (.ref A.C) (.ref B.C) = some b := by
  have h1 : (PySem.W.subIn K (.ref B.C) (.type "BaseException") == some true) = true := by rw [B.o.exC] <;> rfl
  have h2 : ((PySem.W.clsIn K B.C).isSome && PySem.W.typeIn K (.ref B.C) == some (.type "type")) = true := by
    have e : (PySem.W.clsIn K B.C).isSome = true := B.isc
    rw [e, B.o.tyC] <;> rfl
  unfold PySem.W.exmOne
  rw [if_pos h1]
  show (if ((PySem.W.clsIn K B.C).isSome && PySem.W.typeIn K (.ref B.C) == some (.type "type")) = true then PySem.W.subIn K (.ref A.C) (.ref B.C) else none) = some b
  rw [if_pos h2]
  exact h
/-- __init__(self, what) -/
def sp_init (K : PySem.W.Frag) : Sp := fun vs H Q _ => ∃ (a C : Addr) (y : V) (nm : Str), vs = [.ref a, y] ∧ H a = some (exo a C none) ∧ OexC K C ∧ PySem.W.findIn K (.ref C) "what" = some none ∧ ExcN K C nm ∧
  ∀ dx, H dx = none → dx ≠ a → Q .non (upd (upd H dx (exd dx [("kind", .str nm), ("what", y)])) a (exo a C (some dx)))
abbrev xdW (nm : Str) (y : V) : HO := .xd [(("kind" : Str), V.str nm), (("what" : Str), y)]
/-- at dx: the dict of an exception of the program, its what is y -/
def XdAt (H : Hp) (dx : Addr) (y : V) : Prop := ∃ nm, H dx = some (xdW nm y)
/-- X(e) -/
def tMkX (C : Addr) (nm : Str) (te : TE) : L2.St → Hp → XK → Prop := fun σ H Q => te σ H fun y H1 => ∀ d, H1 d = none → Q (.ref C) (some d) (upd H1 d (xdW nm y))
/-- a word between an expression and what follows -/
def tMd (t : TE) : TE := fun σ H Q => ∃ M : VK, t σ H M ∧ ∀ v H', M v H' → Q v H'
theorem pe_md {X : Cx} {e : Expr} {t : TE} (h : PE X e t) : PE X e (tMd t) := ⟨fun pins s σ H Q I ⟨M, h1, h2⟩ => thn (h.run pins s σ H M I h1) fun u s' ⟨v, H', I', r, m⟩ => ⟨v, H', I', r, h2 v H' m⟩⟩
section
variable {X : Cx} {name : Str} {fI : Addr} {k : Nat} {fd : FuncData} {e : Expr} {te : TE} {p pos : Pos}
theorem pmk_X (D : ExcC X.K X.mg name fI) (tI : PySem.W.typeIn X.K (.ref fI) = some (.type "function")) (F : FnOk X.prog X.w X.K X.mg X.base CX0 k fI fd ["self", "what"] (sp_init X.K)) (hr : Room (k + 1) X.A) (hb : Binds X.K fd ["self", "what"] []) (hg : Gl X name)
    (he : PE X e te) (hdb : (name == ("__debug__" : Str)) = false := by decide) (hs : starEach (e :: []) X.env = (false, eval e X.env) :: starEach [] X.env := by rfl) (hpl : (backTo pos (starEach [] X.env)).any (·.1) = false := by rfl) :
    PMk X (.Call (.Name name p) [e] [] pos) (tMkX D.C name te) := by
  intro pins s σ H Q I h
  refine pmk_oex (ta := tCons (tMd te) tNil) D.o D.i tI F hr hb (.nil : Vals [] []) pass0 hg D.g (pa_cons (pe_md he) pa_nil hs) hdb hs hpl pins s σ H Q I ?_
  refine ⟨_, h, fun y H1 hy => ⟨(by show 1 ≤ 1000; decide), fun a na => ⟨a, D.C, y, name, rfl, upd_same, D.o, D.no, D.nn, fun dx nd ne => ?_⟩⟩⟩
  have nd1 : H1 dx = none := by rw [← nd, upd_ne ne]
  refine ⟨rfl, dx, [(("kind" : Str), V.str name), (("what" : Str), y)], upd_same, ?_, nd1, ?_⟩
  · rw [upd_ne ne, upd_same]
  · have e : upd (del (upd (upd (upd H1 a (exo a D.C none)) dx (exd dx [("kind", .str name), ("what", y)])) a (exo a D.C (some dx))) a) dx (xdW name y) = upd H1 dx (xdW name y) := by
      funext b
      by_cases h1 : b = dx
      · rw [h1, upd_same, upd_same]
      · rw [upd_ne h1, upd_ne h1]
        by_cases h2 : b = a
        · rw [h2, del_same, na]
        · rw [del_ne h2, upd_ne h2, upd_ne h1, upd_ne h2]
    rw [e]
    exact hy dx nd1
/-- e.what, e the exception that the suite holds at a -/
def tWhat (C a : Addr) (cls : Value) (d : Option Addr) (te : TE) : TE := fun σ H Q => te σ H fun x H1 => x = .ref a ∧ cls = .ref C ∧ ∃ (dd : Addr) (y : V), d = some dd ∧ XdAt H1 dd y ∧ Q y H1
theorem pe_what {a : Addr} {oe : Obj} {cls : Value} {d : Option Addr} {pn : List (Addr × Obj)} (D : ExcC X.K X.mg name fI) (hz : Zc cls d oe) (hf : ∃ vs, oe.data = .fields vs) (he : PE (X.suite a ((a, oe) :: pn)) e te)
    (hb : attributeBase e "what" X.env (eval e X.env) = eval e X.env := by rfl) : PE (X.suite a ((a, oe) :: pn)) (.Attribute e "what" pos) (tWhat D.C a cls d te) := by
  refine ⟨fun pins s σ H Q I h => attr_of hb (thn (he.run pins s σ H _ I h) ?_)⟩
  rintro u s1 ⟨x, H1, I1, rx, rfl, rfl, dd, y, rfl, ⟨nm, ea⟩, q⟩
  obtain rfl : u = Value.ref a := rx
  obtain ⟨ha, _⟩ := I1.pin (a, oe) (List.mem_append_left _ List.mem_cons_self)
  obtain ⟨vs, hd⟩ := hf
  obtain ⟨mA, hns, hr⟩ : ObjOk X.prog X.w H1 s1.heap dd (xdW nm y) := I1.hok dd _ ea
  obtain ⟨od, ho, hl⟩ := lookIn_ns hns
  have l : List.lookup ("what" : Str) [(("kind" : Str), V.str nm), (("what" : Str), y)] = some y := by
    rw [lookup_put, if_neg (by decide +kernel), lookup_put, if_pos rfl]
  obtain ⟨u, hu, ru⟩ := RelO.some_of (v := y) (o := mA "what") (by rw [← l]; exact hr "what")
  have J : PySem.W.InstAt s1.heap a oe D.C (some od) := ⟨ha, hz.1, by unfold PySem.W.notCls; rw [hd] <;> rfl, by rw [hz.2]; exact ho⟩
  exact HandSPX.exc_get I1.kIn J D.ga D.gg D.o.exC (PySem.W.findObj_own D.hd D.no rfl (by rw [hl, hu])) (handed_of ru) ⟨y, H1, I1.tok _, ru, q⟩
end
end Nv
set_option Elab.async false
set_option linter.all false
set_option maxRecDepth 100000
/-! several clauses, with a name (slot i) or without; isinstance of the caught error -/
namespace Nv
open PySem PySem.Spec PyProof.Rows L2
def wAll2 (K : PySem.W.Frag) (Wout : WX) (D : Ends) (i : Nat) : List (Bool × Cl) → WX
  | [] => Wout
  | (true, p) :: r => fun cls d σ H => ∃ yes, PySem.W.exmOne K cls p.1 = some yes ∧ (yes = true → ∀ a, H a = none → p.2 a cls d (dropS i D) (σ.set i (some (.ref a))) H) ∧ (yes = false → wAll2 K Wout D i r cls d σ H)
  | (false, p) :: r => fun cls d σ H => ∃ yes, PySem.W.exmOne K cls p.1 = some yes ∧ (yes = true → ∀ a, H a = none → p.2 a cls d D σ H) ∧ (yes = false → wAll2 K Wout D i r cls d σ H)
/-- the clauses, each with its suite's reading -/
inductive Cls2 (X : Cx) (n : Str) : List ExceptHandler → List (Bool × Cl) → Prop
  | none : Cls2 X n [] []
  | one {x : Str} {c : Value} {ts : Addr → Value → Option Addr → TS} {st : Stmt} {more : List Stmt} {np hp : Pos} {hs : List ExceptHandler} {l : List (Bool × Cl)} (nm : Names X x c)
      (su : ∀ (a : Addr) (oe : Obj) (cls : Value) (d : Option Addr) (pn : List (Addr × Obj)), Zc cls d oe → (∃ vs, oe.data = .fields vs) → PSs (X.suite a ((a, oe) :: pn)) (st :: more) (ts a cls d)) (rest : Cls2 X n hs l) :
      Cls2 X n (.ExceptHandler (some (.Name x np)) (some n) (st :: more) hp :: hs) ((true, c, ts) :: l)
  | bare {x : Str} {c : Value} {ts : Addr → Value → Option Addr → TS} {st : Stmt} {more : List Stmt} {np hp : Pos} {hs : List ExceptHandler} {l : List (Bool × Cl)} (nm : Names X x c)
      (su : ∀ (a : Addr) (oe : Obj) (cls : Value) (d : Option Addr) (pn : List (Addr × Obj)), Zc cls d oe → (∃ vs, oe.data = .fields vs) → PSs (X.suite a ((a, oe) :: pn)) (st :: more) (ts a cls d)) (rest : Cls2 X n hs l) :
      Cls2 X n (.ExceptHandler (some (.Name x np)) none (st :: more) hp :: hs) ((false, c, ts) :: l)
section
variable {X : Cx} {n : Str} {i : Nat} {Wout : WX} {D : Ends} {pins : List (Addr × Obj)} {σ : L2.St} {H : Hp} {B : Heap} {a : Addr} {cls : Value} {d : Option Addr}
/-- the clauses looked at one after the other; the exception at a flies over this frame in the heap h3 -/
theorem clauses_run2 (hf : X.env.frame = some X.env.locals) (hN : X.N.Nodup) (hi : X.N[i]? = some n) (hln : X.env.kindOf n = some .local) (tk : Takes X Wout) {s' : Shared} {h3 : Heap} (ok : X.Ok)
    (na : H a = none) (nL : a ≠ X.env.locals) (nF : a ∉ X.fs) (here : Inv X pins σ H { s' with heap := h3 })
    (land : ∀ h4, HandSPX.FlyingZ B (X.env :: X.outer) a (Zc cls d) h4 → h3.UpToSlots h4 → Inv X pins σ H { s' with heap := h4 }) (fly : HandSPX.FlyingZ B (X.env :: X.outer) a (Zc cls d) h3)
    (out : Wout cls d σ H → ∀ h4, HandSPX.HeldZ B (X.env :: X.outer) a (Zc cls d) X.env.locals h4 → h3.UpToSlots h4 → XE X Wout (.ref a) { s' with heap := h4 }) :
    ∀ {hds : List ExceptHandler} {l : List (Bool × Cl)}, Cls2 X n hds l → wAll2 X.K Wout D i l cls d σ H → wpAny (model X.prog X.w) X.A (handleBy (.ref a) X.env hds) (SP X pins D) X.xe { s' with heap := h3 } := by
  intro hds l hc
  obtain ⟨oe, vs, he, hz, hd⟩ := fly.there
  induction hc with
  | none =>
    intro w
    obtain ⟨_, _, _, _, vs2, T, _, _, he2, _, hd2, h1, _⟩ := id fly
    refine wpAny_handleBy_nil ?_
    unfold PySem.passOn
    refine wpAny_bind (wpAny_field he2 hd2 h1 ?_)
    rw [if_neg (by simp)]
    have leave : wpAny (model X.prog X.w) X.A (setFlight (.ref a) X.env.frame) (fun _ s4 => wpAny (model X.prog X.w) X.A (throw (.ref a) : Sem Flow) (SP X pins D) X.xe s4) X.xe { s' with heap := h3 } := by
      rw [hf]
      exact HandSPX.setFlight_upZ fly fun h4 held up4 => wpAny_throw (tk _ _ (out w h4 held up4))
    first
      | exact wpAny_bind leave
      | exact wpAny_bind (wpAny_pure (wpAny_bind leave))
  | @one x c ts st more np hp hs l nm su rest ih =>
    rintro ⟨yes, hy, w1, w2⟩
    have S3 := here.suite he hd na nL nF
    have cl : PySem.W.Looks (model X.prog X.w) h3 (typeOf (.ref a)) cls := fun A Q E s k q => wpAny_typeOf_ref (k _ _ he) (by rw [hz.1]; exact q)
    refine wpAny_handleBy_cons (codeAny_handlers_test ?_) (fun q => by cases q)
    have named : ∀ {Q E : Value → Shared → Prop}, Q c { s' with heap := h3 } → wpAny (model X.prog X.w) (X.A.mark (some (.ref a))) (eval (.Name x np) X.env) Q E { s' with heap := h3 } := fun {Q E} q => by
      obtain ⟨hg, hdb, hm | ⟨hm, hv, hn⟩⟩ := nm
      · exact ld_glob (X := X.suite a ((a, oe) :: (X.pn ++ pins))) S3 hg hm q hdb
      · exact ld_blt (X := X.suite a ((a, oe) :: (X.pn ++ pins))) S3 hg hm hv q hn hdb
    refine named ((PySem.W.exm_one (M := model X.prog X.w) here.kIn cl hy).here ?_)
    cases yes with
    | false => exact ih (w2 rfl)
    | true =>
      refine codeAny_handlers_suite_as (HandSPX.lands_againZ fly fun h4 fly4 up4 => ?_)
      have J4 := land h4 fly4 up4
      obtain ⟨oe4, vs4, he4, hz4, hd4⟩ := fly4.there
      refine store_ok (X := X.suite a ((a, oe4) :: (X.pn ++ pins))) (v := .ref a) (J4.suite he4 hd4 na nL nF) hN hi (.inl hln) rfl (fun s5 S5 => ?_) (.inr hln)
      have after : ∀ {s6 : Shared} {σ6 : L2.St} {H6 : Hp} {R : Shared → Prop}, Inv (X.suite a ((a, oe4) :: (X.pn ++ pins))) [] σ6 H6 s6 → (∀ s7, Inv X pins (σ6.set i none) H6 s7 → R s7) →
          wpAny (model X.prog X.w) X.A (do bindName X.env n .none; unbindBehindTheSuite X.env n hp) (fun _ s7 => R s7) X.xe s6 := fun {s6 σ6 H6 R} S6 hq => gone_ok (S6.unsuite ok) hN hi hln hq
      refine wpAny_mono ((su a oe4 cls d (X.pn ++ pins) hz4 ⟨_, hd4⟩).run [] s5 _ H _ S5 (w1 rfl a na)) (fun fl s6 hsp => ?_) (fun _ _ z => False.elim z)
      cases fl with
      | ret u =>
        obtain ⟨v, σ6, H6, S6, r, q⟩ := hsp
        exact after S6 fun s7 J7 => ⟨_, _, _, J7, r, q⟩
      | next =>
        obtain ⟨σ6, H6, S6, q⟩ := hsp
        exact after S6 fun s7 J7 => ⟨_, _, J7, q⟩
      | brk =>
        obtain ⟨σ6, H6, S6, q⟩ := hsp
        exact after S6 fun s7 J7 => ⟨_, _, J7, q⟩
      | cont =>
        obtain ⟨σ6, H6, S6, q⟩ := hsp
        exact after S6 fun s7 J7 => ⟨_, _, J7, q⟩
  | @bare x c ts st more np hp hs l nm su rest ih =>
    rintro ⟨yes, hy, w1, w2⟩
    have S3 := here.suite he hd na nL nF
    have cl : PySem.W.Looks (model X.prog X.w) h3 (typeOf (.ref a)) cls := fun A Q E s k q => wpAny_typeOf_ref (k _ _ he) (by rw [hz.1]; exact q)
    refine wpAny_handleBy_cons (codeAny_handlers_test ?_) (fun q => by cases q)
    have named : ∀ {Q E : Value → Shared → Prop}, Q c { s' with heap := h3 } → wpAny (model X.prog X.w) (X.A.mark (some (.ref a))) (eval (.Name x np) X.env) Q E { s' with heap := h3 } := fun {Q E} q => by
      obtain ⟨hg, hdb, hm | ⟨hm, hv, hn⟩⟩ := nm
      · exact ld_glob (X := X.suite a ((a, oe) :: (X.pn ++ pins))) S3 hg hm q hdb
      · exact ld_blt (X := X.suite a ((a, oe) :: (X.pn ++ pins))) S3 hg hm hv q hn hdb
    refine named ((PySem.W.exm_one (M := model X.prog X.w) here.kIn cl hy).here ?_)
    cases yes with
    | false => exact ih (w2 rfl)
    | true =>
      refine codeAny_handlers_suite ?_
      refine HandSPX.lands_againZ fly fun h4 fly4 up4 => ?_
      have J4 := land h4 fly4 up4
      obtain ⟨oe4, vs4, he4, hz4, hd4⟩ := fly4.there
      have S4 := J4.suite he4 hd4 na nL nF
      refine wpAny_mono ((su a oe4 cls d (X.pn ++ pins) hz4 ⟨_, hd4⟩).run [] _ _ H _ S4 (w1 rfl a na)) (fun fl s6 hsp => ?_) (fun _ _ z => False.elim z)
      cases fl with
      | ret u =>
        obtain ⟨v, σ6, H6, S6, r, q⟩ := hsp
        exact ⟨v, σ6, H6, S6.unsuite ok, r, q⟩
      | next =>
        obtain ⟨σ6, H6, S6, q⟩ := hsp
        exact ⟨σ6, H6, S6.unsuite ok, q⟩
      | brk =>
        obtain ⟨σ6, H6, S6, q⟩ := hsp
        exact ⟨σ6, H6, S6.unsuite ok, q⟩
      | cont =>
        obtain ⟨σ6, H6, S6, q⟩ := hsp
        exact ⟨σ6, H6, S6.unsuite ok, q⟩
end
section
variable {X : Cx} {n : Str} {i : Nat} {body : List Stmt} {hd0 : ExceptHandler} {hds : List ExceptHandler} {l : List (Bool × Cl)} {pos : Pos} {tb : WX → TS} {Wout : WX}
theorem ps_try_all2 (hs : X.stack = X.env :: X.outer) (hf : X.env.frame = some X.env.locals) (hN : X.N.Nodup) (hi : X.N[i]? = some n) (hln : X.env.kindOf n = some .local) (tk : Takes X Wout)
    (hb : ∀ (W : WX) (pn : List (Addr × Obj)) (xe : Value → Shared → Prop), Takes (X.tr pn xe) W → PassesOwn (model X.prog X.w) X.A X.env xe → PSs (X.tr pn xe) body (tb W)) (hc : Cls2 X n (hd0 :: hds) l) :
    PS X (.Try body (hd0 :: hds) [] [] pos) (fun D σ H => tb (wAll2 X.K Wout D i l) D σ H) := by
  refine ⟨fun pins s σ H D I h => wpAny_Try_except ?_⟩
  have ok := I.ok
  have hfr : X.A.frames = some (X.env :: X.outer) := by rw [ok.frames, hs]
  have run := (hb (wAll2 X.K Wout D i l) (X.pn ++ pins) (fun e s₁ => wpAny (model X.prog X.w) X.A (noteFrame e X.env) (fun _ s₂ => wpAny (model X.prog X.w) X.A (setFlight e none) (fun _ s₃ => wpAny (model X.prog X.w) X.A (handleBy e X.env (hd0 :: hds)) (SP X pins D) X.xe s₃) X.xe s₂) X.xe s₁)
    (fun u s' xx => ?_) PassesOwn.looking).run [] s σ H D (I.toTry _) h
  · refine wpAny_mono run (fun fl s1 hsp => ?_) (fun e s1 he => he)
    cases fl with
    | ret u =>
      obtain ⟨v, σ', H', J, r, q⟩ := hsp
      exact ⟨v, σ', H', J.ofTry ok, r, q⟩
    | next =>
      obtain ⟨σ', H', J, q⟩ := hsp
      exact wpAny_execs_nil ⟨σ', H', J.ofTry ok, q⟩
    | brk =>
      obtain ⟨σ', H', J, q⟩ := hsp
      exact ⟨σ', H', J.ofTry ok, q⟩
    | cont =>
      obtain ⟨σ', H', J, q⟩ := hsp
      exact ⟨σ', H', J.ofTry ok, q⟩
  · obtain ⟨a, B, sI, _, σ', H', cls, d, rfl, J', nb, up, sky, na, os, ag, w⟩ := xx
    have J : Inv X pins σ' H' sI := J'.ofTry ok
    have sky' : Sky B (X.env :: X.outer) a (Zc cls d) X.env.locals s'.heap := by rw [← hs]; exact sky
    show wpAny (model X.prog X.w) X.A (noteFrame (.ref a) X.env) _ _ _
    refine Sky.land Zc.steady hfr hf sky' fun h3 fly up3 => ?_
    have land : ∀ h4, HandSPX.FlyingZ B (X.env :: X.outer) a (Zc cls d) h4 → h3.UpToSlots h4 → Inv X pins σ' H' { s' with heap := h4 } := fun h4 f4 u4 => J.landed nb f4.1 ((up.trans up3).trans u4) os ag
    have here : Inv X pins σ' H' { s' with heap := h3 } := J.landed nb fly.1 (up.trans up3) os ag
    obtain ⟨oe, vs, he, hz, hd⟩ := fly.there
    have nfr : a ∉ frs (X.env :: X.outer) := fun hm => by
      obtain ⟨_, o', e', no⟩ := fly.2.2.1.mem hm
      rw [he] at e'
      cases e'
      exact no _ hd
    have nL : a ≠ X.env.locals := fun z => nfr (List.mem_filterMap.mpr ⟨X.env, List.mem_cons_self, by rw [hf, z]⟩)
    have nF : a ∉ X.fs := fun hm => by
      obtain ⟨e, h1, h2⟩ := List.mem_filterMap.mp hm
      exact nfr (List.mem_filterMap.mpr ⟨e, List.mem_cons_of_mem _ h1, h2⟩)
    refine clauses_run2 hf hN hi hln tk ok na nL nF here land fly (fun wo h4 held u4 => ?_) hc w
    exact ⟨a, B, sI, pins, σ', H', cls, d, rfl, J, nb, (up.trans up3).trans u4, .inr (.inr (by rw [hs]; exact held)), na, os, ag, wo⟩
end
/-! ### isinstance(e, C), which holds -/
theorem kit_ansT {K : PySem.W.Frag} {x t c : Value} {H : Heap → Prop} (ty : ∀ (M : Model) (h : Heap), K.In h → H h → PySem.W.Looks M h (typeOf x) t) (e : PySem.W.kitOne K t c = some true) : PySem.Answers (fun s => K.In s.heap ∧ H s.heap) x c true := by
  intro dep tk prog w A R s hs
  obtain ⟨h0, g, d, tt, os⟩ := s
  obtain ⟨⟨X, p⟩, hq⟩ := hs
  have LT := ty (model prog w) h0 X p
  unfold PySem.W.kitOne at e
  unfold Builtin.«isinstance.nested»
  refine wpAny_bind (LT.at ?_)
  by_cases q : (t == c) = true
  · rw [if_pos q] at e
    rw [if_pos q]
    first
      | ((repeat lk); exact hq tt)
      | exact wpAny_bind (wpAny_rule (hq tt))
      | exact wpAny_bind (wpAny_rule (wpAny_pure (hq tt)))
  · rw [if_neg q] at e
    rw [if_neg q]
    obtain ⟨hty, his, hsub⟩ := PySem.W.kit_cls (M := model prog w) X e
    have LI : PySem.W.Looks (model prog w) h0 (isInstance x c) true := LT.andThen hsub
    refine wpAny_bind (hty.at ?_)
    rw [if_pos (by decide)]
    k_delta "plainIsInstance"
    refine wpAny_bind (wpAny_bind (his.at ?_))
    simp only [Bool.not_true, Bool.false_eq_true, if_false]
    refine wpAny_bind (LI.at ?_)
    first
      | exact wpAny_pure (wpAny_pure (hq tt))
      | (simp only [if_true]; first | exact wpAny_pure (wpAny_pure (hq tt)) | exact wpAny_pure (hq tt) | exact wpAny_bind (wpAny_pure (wpAny_pure (hq tt))))
/-- isinstance(e, c), e the exception that the suite holds at a: it is one -/
def rIsET (K : PySem.W.Frag) (cls : Value) (a : Addr) : List V → Hp → VK → Prop := fun xs H Q => ∃ (c : V) (cv : Value), xs = [.ref a, c] ∧ (∀ u, RelV c u → u = cv) ∧ PySem.W.kitOne K cls cv = some true ∧ Q (.bl true) H
theorem call_isET {X : Cx} {a : Addr} {cls : Value} {d : Option Addr} {oe : Obj} {pn : List (Addr × Obj)} (hz : Zc cls d oe) : CallR (X.suite a ((a, oe) :: pn)) (.builtin "isinstance") (rIsET X.K cls a) := by
  intro pins s σ H xs us Q I r h
  obtain ⟨c, cv, rfl, hcv, e, q⟩ := h
  cases r with
  | cons rx rr =>
    cases rr with
    | cons rt rr =>
      cases rr
      cases rx
      have ec := hcv _ rt
      subst ec
      obtain ⟨hget, _⟩ := I.pin (a, oe) (List.mem_append.mpr (.inl List.mem_cons_self))
      refine PySem.call_isinstance (S := fun _ R s => (X.K.In s.heap ∧ s.heap.get? a = some oe) ∧ ∀ tk, R (.ok (.ret (.bool true))) { s with toks := tk })
        (fun prog w A R s hs => PySem.isinstance_outer (kit_ansT (H := fun h => h.get? a = some oe) (fun M h _ g => ?_) e 0 _ prog w A R s hs) (fun z => nomatch z)) ⟨⟨I.kIn, hget⟩, fun tk => ⟨.bl true, H, I.kept (t' := tk) fun _ _ z => z, rfl, q⟩⟩
      exact fun A' Q' E' s' k q => wpAny_typeOf_ref (k _ _ g) (by rw [hz.1]; exact q)
/-- a class of the program's that is looked at (the base of its own exceptions) -/
structure RefC (K : PySem.W.Frag) (mg : Str → Option Value) (name : Str) where
  C : Addr
  g : mg name = some (.ref C)
  isc : PySem.W.isClsIn K C = true
  ty : PySem.W.typeIn K (.ref C) = some (.type "type")
  be : PySem.W.subIn K (.ref C) (.type "BaseException") = some true
theorem RefC.kit {K : PySem.W.Frag} {mg : Str → Option Value} {n : Str} (B : RefC K mg n) {A : Addr} (h : PySem.W.subIn K (.ref A) (.ref B.C) = some true) : PySem.W.kitOne K (.ref A) (.ref B.C) = some true := by
  unfold PySem.W.kitOne
  split
  · rfl
  · show (if ((PySem.W.clsIn K B.C).isSome && PySem.W.typeIn K (.ref B.C) == some (.type "type")) = true then PySem.W.subIn K (.ref A) (.ref B.C) else none) = some true
    rw [if_pos ?_]
    · exact h
    · have e : (PySem.W.clsIn K B.C).isSome = true := B.isc
      rw [e, B.ty] <;> rfl
theorem RefC.exm {K : PySem.W.Frag} {mg : Str → Option Value} {n : Str} (B : RefC K mg n) {A : Addr} {b : Bool} (h : PySem.W.subIn K (.ref A) (.ref B.C) = some b) : PySem.W.exmOne K (.ref A) (.ref B.C) = some b := by
  have h1 : (PySem.W.subIn K (.ref B.C) (.type "BaseException") == some true) = true := by rw [B.be] <;> rfl
  have h2 : ((PySem.W.clsIn K B.C).isSome && PySem.W.typeIn K (.ref B.C) == some (.type "type")) = true := by
    have e : (PySem.W.clsIn K B.C).isSome = true := B.isc
    rw [e, B.ty] <;> rfl
  unfold PySem.W.exmOne
  rw [if_pos h1]
  show (if ((PySem.W.clsIn K B.C).isSome && PySem.W.typeIn K (.ref B.C) == some (.type "type")) = true then PySem.W.subIn K (.ref A) (.ref B.C) else none) = some b
  rw [if_pos h2]
  exact h
theorem kit_ve {K : PySem.W.Frag} {A : Addr} (h : PySem.W.subIn K (.ref A) (.type "ValueError") = some true) : PySem.W.kitOne K (.ref A) (.type "ValueError") = some true := by
  unfold PySem.W.kitOne
  rw [if_neg (by intro q; cases beq_iff_eq.mp q)]
  show (if PySem.W.kitMeta "ValueError" = true then PySem.W.subIn K (.ref A) (.type "ValueError") else none) = some true
  rw [if_pos (by decide +kernel)]
  exact h
end Nv
set_option Elab.async false
set_option linter.all false
set_option maxRecDepth 100000
namespace Nv
open PySem PySem.Spec PyProof.Rows L2
def topS (i : Nat) : Stmt := PySem.Challenge.pw_neverfour_k03_rows_from_states.main.body.getD i (.Pass ⟨0, 0, 0, 0⟩)
abbrev s_whole : Stmt := topS 1
abbrev s_whole_within : Stmt := topS 2
abbrev s_tuple_within : Stmt := topS 3
abbrev s_first_rows : Stmt := topS 4
abbrev s_by_meeting : Stmt := topS 5
abbrev s_made_book : Stmt := topS 18
abbrev s_trimmed : Stmt := topS 19
abbrev s_check_form : Stmt := topS 20
abbrev s_has_state_form : Stmt := topS 21
abbrev s_check_state : Stmt := topS 22
abbrev s_rows_from : Stmt := topS 23
abbrev s_way_to : Stmt := topS 24
abbrev s_ends_of : Stmt := topS 25
abbrev s_law_pool : Stmt := topS 27
abbrev s_law_draw : Stmt := topS 28
abbrev s_law_pick : Stmt := topS 29
abbrev s_law_book_meeting : Stmt := topS 30
abbrev s_law_book_messages : Stmt := topS 31
abbrev s_law_book_drawn : Stmt := topS 32
abbrev s_law_book_next : Stmt := topS 33
abbrev s_law_book_at : Stmt := topS 34
abbrev s_law_book_moves : Stmt := topS 35
abbrev s_law_heard : Stmt := topS 36
abbrev s_law_all_rows : Stmt := topS 37
abbrev s_law_way : Stmt := topS 38
abbrev s_law_bounds_right : Stmt := topS 39
abbrev s_law : Stmt := topS 40
structure DefAt (K : PySem.W.Frag) (mg : Str → Option Value) (name : Str) (st : Stmt) (ps : List Str) where
  f : Addr
  fd : FuncData
  F : Fun K name name st f fd
  g : mg name = some (.ref f)
  bd : ∀ us : List Value, us.length = ps.length → bindArgs fd ⟨us, []⟩ = pure (ps.zip us)
structure FunE (K : PySem.W.Frag) (x qual : Str) (st : Stmt) (dvs : List V) (f : Addr) (fd : FuncData) : Prop where
  d : FunD K x qual (defArgs st) (defBody st) (defScope st) dvs [] f fd
theorem FunE.kp {K : PySem.W.Frag} {x qual : Str} {st : Stmt} {dvs : List V} {f : Addr} {fd : FuncData} (F : FunE K x qual st dvs f fd) : PySem.W.keepIn K (.ref f) = true := F.d.kp
theorem FunE.ok {P : Program} {w : World} {K : PySem.W.Frag} {mg : Str → Option Value} {base : Heap} {x qual : Str} {st : Stmt} {dvs : List V} {f : Addr} {fd : FuncData} {N ps : List Str} {k : Nat} {sp : Sp} (F : FunE K x qual st dvs f fd) (S : FnScope N ps (defScope st)) (len : ∀ vs H Q E, sp vs H Q E → vs.length = ps.length)
    (hbody : ∀ (cdv : Value) (A : Around) (outer : List Env) (s : Shared) (H : Hp) (vs : List V) (Q : VK) (E : XK), Room k (A.deeper (envOfC qual (defScope st) s.heap.objs.size f cdv)) → sp vs H Q E →
      ∃ t, PSs (cxOf CX0 P w K mg base N qual (defScope st) f cdv A outer s H E).nox (defBody st) t ∧ t { nx := fun _ H' => Q .non H', rt := Q } (start N vs) H) : FnOk P w K mg base CX0 (k + 1) f fd ps sp :=
  F.d.ok S len fun cdv A outer s H vs Q E hr hsp => by
    obtain ⟨t, h, q⟩ := hbody cdv A outer s H vs Q E hr hsp
    exact ⟨t, h.nox, q⟩
structure DefAtD (K : PySem.W.Frag) (mg : Str → Option Value) (name : Str) (st : Stmt) (ps : List Str) (dvs : List V) where
  f : Addr
  fd : FuncData
  F : FunE K name name st dvs f fd
  g : mg name = some (.ref f)
  b : Binds K fd ps []
  bD : ∃ ds, Vals dvs ds ∧ Binds K fd ps ds
theorem DefAt.b {K : PySem.W.Frag} {mg : Str → Option Value} {n : Str} {st : Stmt} {ps : List Str} (D : DefAt K mg n st ps) : Binds K D.fd ps [] := .all D.bd
theorem DefAt.bind1 {K : PySem.W.Frag} {mg : Str → Option Value} {n x : Str} {st : Stmt} (D : DefAt K mg n st [x]) (s : Shared) (v : Value) : BindsTo s D.fd ⟨[v], []⟩ [(x, v)] := .of_eq (D.bd [v] rfl)
theorem Room.units0 {k : Nat} {A : Around} (hr : Room k A) : A.units + 1 < cLine := hu_of hr
abbrev s_init : Stmt := match topS 7 with
  | .ClassDef _ _ _ b _ _ _ _ _ _ _ => b.getD 0 (.Pass ⟨0, 0, 0, 0⟩)
  | s => s
structure InitAt (K : PySem.W.Frag) where
  f : Addr
  fd : FuncData
  F : Fun K "__init__" "Refused.__init__" s_init f fd
  ti : PySem.W.typeIn K (.ref f) = some (.type "function")
  bd : ∀ us : List Value, us.length = 2 → bindArgs fd ⟨us, []⟩ = pure ((["self", "what"] : List Str).zip us)
theorem InitAt.b {K : PySem.W.Frag} (D : InitAt K) : Binds K D.fd ["self", "what"] [] := .all D.bd
structure Tx (K : PySem.W.Frag) (mg : Str → Option Value) where
  whole : DefAt K mg "whole" s_whole ["thing"]
  whole_within : DefAt K mg "whole_within" s_whole_within ["thing", "low", "high"]
  tuple_within : DefAt K mg "tuple_within" s_tuple_within ["thing", "low", "high"]
  first_rows : DefAtD K mg "first_rows" s_first_rows ["states", "start"] [.int 0]
  by_meeting : DefAt K mg "by_meeting" s_by_meeting ["states"]
  made_book : DefAt K mg "made_book" s_made_book ["thing"]
  trimmed : DefAt K mg "trimmed" s_trimmed ["thing"]
  check_form : DefAt K mg "check_form" s_check_form ["thing"]
  has_state_form : DefAt K mg "has_state_form" s_has_state_form ["thing", "many"]
  check_state : DefAt K mg "check_state" s_check_state ["book", "state"]
  rows_from : DefAt K mg "rows_from" s_rows_from ["book", "state", "many"]
  way_to : DefAt K mg "way_to" s_way_to ["book", "state"]
  ends_of : DefAt K mg "ends_of" s_ends_of ["book"]
  law_pool : DefAt K mg "_law_pool" s_law_pool ["script"]
  law_draw : DefAt K mg "_law_draw" s_law_draw ["pool", "many"]
  law_pick : DefAt K mg "_law_pick" s_law_pick ["pool", "things"]
  law_book_meeting : DefAt K mg "_law_book_meeting" s_law_book_meeting ["moves"]
  law_book_messages : DefAt K mg "_law_book_messages" s_law_book_messages ["pool", "count"]
  law_book_drawn : DefAt K mg "_law_book_drawn" s_law_book_drawn ["pool", "states", "most"]
  law_book_next : DefAt K mg "_law_book_next" s_law_book_next ["book", "state", "message"]
  law_book_at : DefAt K mg "_law_book_at" s_law_book_at ["book", "state", "row"]
  law_book_moves : DefAt K mg "_law_book_moves" s_law_book_moves ["book"]
  law_heard : DefAt K mg "_law_heard" s_law_heard ["call"]
  law_all_rows : DefAt K mg "_law_all_rows" s_law_all_rows ["book", "state", "length"]
  law_way : DefAt K mg "_law_way" s_law_way ["book", "state"]
  law_bounds_right : DefAt K mg "_law_bounds_right" s_law_bounds_right ["pool"]
  law : DefAt K mg "law" s_law ["script"]
  init : InitAt K
  x_BadBook : ExcC K mg "BadBook" init.f
  x_Stray : ExcC K mg "Stray" init.f
  x_BadState : ExcC K mg "BadState" init.f
  x_BadMany : ExcC K mg "BadMany" init.f
  x_TooMany : ExcC K mg "TooMany" init.f
  s_BadBook_BadState : PySem.W.subIn K (.ref x_BadBook.C) (.ref x_BadState.C) = some false
  s_BadBook_BadMany : PySem.W.subIn K (.ref x_BadBook.C) (.ref x_BadMany.C) = some false
  s_BadBook_TooMany : PySem.W.subIn K (.ref x_BadBook.C) (.ref x_TooMany.C) = some false
  s_Stray_BadState : PySem.W.subIn K (.ref x_Stray.C) (.ref x_BadState.C) = some false
  s_Stray_BadMany : PySem.W.subIn K (.ref x_Stray.C) (.ref x_BadMany.C) = some false
  s_Stray_TooMany : PySem.W.subIn K (.ref x_Stray.C) (.ref x_TooMany.C) = some false
  s_BadState_BadState : PySem.W.subIn K (.ref x_BadState.C) (.ref x_BadState.C) = some true
  s_BadMany_BadState : PySem.W.subIn K (.ref x_BadMany.C) (.ref x_BadState.C) = some false
  s_BadMany_BadMany : PySem.W.subIn K (.ref x_BadMany.C) (.ref x_BadMany.C) = some true
  s_TooMany_BadState : PySem.W.subIn K (.ref x_TooMany.C) (.ref x_BadState.C) = some false
  s_TooMany_BadMany : PySem.W.subIn K (.ref x_TooMany.C) (.ref x_BadMany.C) = some false
  s_TooMany_TooMany : PySem.W.subIn K (.ref x_TooMany.C) (.ref x_TooMany.C) = some true
  r_Refused : RefC K mg "Refused"
  q_BadBook : PySem.W.subIn K (.ref x_BadBook.C) (.ref r_Refused.C) = some true
  v_BadBook : PySem.W.subIn K (.ref x_BadBook.C) (.type "ValueError") = some true
  q_Stray : PySem.W.subIn K (.ref x_Stray.C) (.ref r_Refused.C) = some true
  v_Stray : PySem.W.subIn K (.ref x_Stray.C) (.type "ValueError") = some true
  q_BadState : PySem.W.subIn K (.ref x_BadState.C) (.ref r_Refused.C) = some true
  v_BadState : PySem.W.subIn K (.ref x_BadState.C) (.type "ValueError") = some true
  q_BadMany : PySem.W.subIn K (.ref x_BadMany.C) (.ref r_Refused.C) = some true
  v_BadMany : PySem.W.subIn K (.ref x_BadMany.C) (.type "ValueError") = some true
  q_TooMany : PySem.W.subIn K (.ref x_TooMany.C) (.ref r_Refused.C) = some true
  v_TooMany : PySem.W.subIn K (.ref x_TooMany.C) (.type "ValueError") = some true
  n_isinstance : mg "isinstance" = none
  n_int : mg "int" = none
  n_bool : mg "bool" = none
  n_tuple : mg "tuple" = none
  n_len : mg "len" = none
  n_list : mg "list" = none
  n_enumerate : mg "enumerate" = none
  n_range : mg "range" = none
  n_sorted : mg "sorted" = none
  n_min : mg "min" = none
  n_ValueError : mg "ValueError" = none
  n_set : mg "set" = none
  n_repr : mg "repr" = none
  c_MOST_STATES : ∃ t, mg "MOST_STATES" = some (.int 8 t)
  c_MOST_MESSAGES : ∃ t, mg "MOST_MESSAGES" = some (.int 5 t)
  c_GREATEST_MESSAGE : ∃ t, mg "GREATEST_MESSAGE" = some (.int 99 t)
  c_MOST_ROWS : ∃ t, mg "MOST_ROWS" = some (.int 5000 t)
end Nv
set_option Elab.async false
set_option linter.all false
set_option maxRecDepth 100000
namespace Nv
open PySem PySem.Spec PyProof.Rows L2
/-! ### what stays -/
/-- all that was tracked is as it was, but for the addresses of L -/
def Ext (L : List Addr) (H H' : Hp) : Prop := ∀ b o, b ∉ L → H b = some o → H' b = some o
theorem Ext.refl {L : List Addr} {H : Hp} : Ext L H H := fun _ _ _ e => e
theorem Ext.trans {L : List Addr} {H H1 H2 : Hp} (a : Ext L H H1) (b : Ext L H1 H2) : Ext L H H2 := fun c o n e => b c o n (a c o n e)
theorem Ext.mono {L M : List Addr} {H H' : Hp} (a : Ext L H H') (s : ∀ x ∈ L, x ∈ M) : Ext M H H' := fun c o n e => a c o (fun z => n (s c z)) e
theorem Ext.weak {L : List Addr} {H H' : Hp} (a : Ext [] H H') : Ext L H H' := a.mono fun x z => nomatch z
theorem Ext.same {L : List Addr} {H H' : Hp} (a : Same H H') : Ext L H H' := fun c o _ e => a c o e
theorem Ext.toSame {H H' : Hp} (a : Ext [] H H') : Same H H' := fun c o e => a c o (by simp) e
theorem Ext.new {L : List Addr} {H : Hp} {p : Addr} {o : HO} (h : H p = none) : Ext L H (upd H p o) := fun b u _ e => by
  rw [upd_ne (ne_of_none e h)]
  exact e
theorem Ext.wr {L : List Addr} {H : Hp} {p : Addr} {o : HO} (h : p ∈ L) : Ext L H (upd H p o) := fun b u n e => by
  rw [upd_ne (fun z => n (by rw [z]; exact h))]
  exact e
theorem Ext.at {L : List Addr} {H H' : Hp} {p : Addr} {o : HO} (a : Ext L H H') (h : H p = some o) (n : p ∉ L) : H' p = some o := a p o n h
theorem Ext.free {H H' : Hp} {p : Addr} (a : Ext [] H H') (h : H' p = none) : H p = none := a.toSame.free h
/-- drop an address that was free -/
theorem Ext.drop {L : List Addr} {H H' : Hp} {p : Addr} (a : Ext (p :: L) H H') (h : H p = none) : Ext L H H' := fun b o n e => a b o (fun z => by
  rcases List.mem_cons.mp z with z | z
  · exact ne_of_none e h z
  · exact n z) e
theorem Ext.drop2 {L : List Addr} {H H1 H' : Hp} {p : Addr} (s : Ext [] H H1) (a : Ext (p :: L) H1 H') (h : H p = none) : Ext L H H' := Ext.drop ((s.weak).trans a) h
/-- at these addresses stand no tuples -/
def Lsts (L : List Addr) (H : Hp) : Prop := ∀ l ∈ L, ∃ o, H l = some o ∧ (∀ xs, o ≠ .tup xs) ∧ ∀ ob u, o ≠ .frz ob u
theorem Lsts.nil {H : Hp} : Lsts [] H := fun _ z => nomatch z
theorem Lsts.not {L : List Addr} {H : Hp} (l : Lsts L H) {a : Addr} {xs : List V} (h : H a = some (.tup xs)) : a ∉ L := fun z => by
  obtain ⟨o, e, n, _⟩ := l a z
  rw [h] at e
  exact n xs (Option.some.inj e).symm
theorem Lsts.notF {L : List Addr} {H : Hp} (l : Lsts L H) {a : Addr} {ob : Obj} {u : HO} (h : H a = some (.frz ob u)) : a ∉ L := fun z => by
  obtain ⟨o, e, _, n⟩ := l a z
  rw [h] at e
  exact n ob u (Option.some.inj e).symm
theorem Ext.tup {L : List Addr} {H H' : Hp} {K : PySem.W.Frag} {a : Addr} {xs : List V} (e : Ext L H H') (l : Lsts L H) (h : SqT K H a xs) : SqT K H' a xs := by
  rcases h with (h | ⟨o, h⟩) | h
  · exact .inl (.inl (e _ _ (l.not h) h))
  · exact .inl (.inr ⟨o, e _ _ (l.notF h) h⟩)
  · exact .inr h
theorem Ext.tz {L : List Addr} {H H' : Hp} {a : Addr} {xs : List V} (e : Ext L H H') (l : Lsts L H) (h : TupZ H a xs) : TupZ H' a xs := by
  obtain ⟨o, h, d⟩ := h
  exact ⟨o, e _ _ (l.notF h) h, d⟩
theorem Ext.frz {L : List Addr} {H H' : Hp} {K : PySem.W.Frag} {a : Addr} {xs : List V} (e : Ext L H H') (n : a ∉ L) (h : SqL K H a xs) : SqL K H' a xs := by
  rcases h with (h | ⟨o, h⟩) | h
  · exact .inl (.inl (e _ _ n h))
  · exact .inl (.inr ⟨o, e _ _ n h⟩)
  · exact .inr h
theorem two_lsts {p l : Addr} {H : Hp} {xs ys : List V} (h1 : H p = some (.lst xs)) (h2 : H l = some (.lst ys)) : Lsts [p, l] H := fun a z => by
  rcases List.mem_cons.mp z with z | z
  · exact ⟨.lst xs, by rw [z]; exact h1, fun _ q => (nomatch q), fun _ _ q => (nomatch q)⟩
  · exact ⟨.lst ys, by rw [List.mem_singleton.mp z]; exact h2, fun _ q => (nomatch q), fun _ _ q => (nomatch q)⟩
theorem one_lst {p : Addr} {H : Hp} {xs : List V} (h1 : H p = some (.lst xs)) : Lsts [p] H := fun a z => ⟨.lst xs, by rw [List.mem_singleton.mp z]; exact h1, fun _ q => (nomatch q), fun _ _ q => (nomatch q)⟩
theorem one_dk {p : Addr} {H : Hp} {xs : List (Key × V)} (h1 : H p = some (.dK xs)) : Lsts [p] H := fun a z => ⟨.dK xs, by rw [List.mem_singleton.mp z]; exact h1, fun _ q => (nomatch q), fun _ _ q => (nomatch q)⟩
theorem one_tbl {p : Addr} {H : Hp} {xs : Array Value} (h1 : H p = some (.tbl xs)) : Lsts [p] H := fun a z => ⟨.tbl xs, by rw [List.mem_singleton.mp z]; exact h1, fun _ q => (nomatch q), fun _ _ q => (nomatch q)⟩
/-! ### a word between an expression and what follows -/
def tMid (t : TE) : TE := fun σ H Q => ∃ M : VK, t σ H M ∧ ∀ v H', M v H' → Q v H'
theorem pe_mid {X : Cx} {e : Expr} {t : TE} (h : PE X e t) : PE X e (tMid t) := ⟨fun pins s σ H Q I ⟨M, h1, h2⟩ => thn (h.run pins s σ H M I h1) fun u s' ⟨v, H', I', r, m⟩ => ⟨v, H', I', r, h2 v H' m⟩⟩
def tMidT (t : TT) : TT := fun σ H Q => ∃ M : Bool → Hp → Prop, t σ H M ∧ ∀ v H', M v H' → Q v H'
theorem pt_mid {X : Cx} {e : Expr} {t : TT} (h : PT X e t) : PT X e (tMidT t) := ⟨fun pins s σ H Q I ⟨M, h1, h2⟩ => thn (h.run pins s σ H M I h1) fun u s' ⟨H', I', m⟩ => ⟨H', I', h2 _ H' m⟩⟩
/-! ### data: ints -/
theorem ints_lay : ∀ ns : List Int, PyData.canLayAll0 (ns.map PyData.int) = true
  | [] => rfl
  | n :: r => by simp [PyData.canLayAll0, PyData.canLay0, ints_lay r]
theorem ints_depth : ∀ ns : List Int, PyData.depthAll (ns.map PyData.int) = 0
  | [] => rfl
  | n :: r => by simp [PyData.depthAll, PyData.depth, ints_depth r]
theorem ints_show : ∀ ns : List Int, (∀ n ∈ ns, 0 ≤ n ∧ n < 1000) → PyData.showableAll (ns.map PyData.int) = true
  | [], _ => rfl
  | n :: r, h => by
    have h1 := h n (by simp)
    have h2 : n.natAbs.log2 < 1920 := Nat.lt_of_le_of_lt (Nat.log2_le_self _) (by omega)
    simp [PyData.showableAll, PyData.showable, ints_show r fun m hm => h m (by simp [hm]), h2]
theorem ints_nodict : ∀ ns : List Int, PyData.hasDictAll (ns.map PyData.int) = false
  | [] => rfl
  | n :: r => by simp [PyData.hasDictAll, PyData.hasDict, ints_nodict r]
theorem ints_eqv : ∀ ns ms : List Int, PyData.eqvAll (ns.map PyData.int) (ms.map PyData.int) = decide (ns = ms)
  | [], [] => by simp [PyData.eqvAll]
  | [], m :: q => by simp [PyData.eqvAll]
  | n :: r, [] => by simp [PyData.eqvAll]
  | n :: r, m :: q => by
    simp only [List.map_cons, PyData.eqvAll, PyData.eqv, ints_eqv r q, List.cons.injEq]
    by_cases h : n = m <;> simp [h]
theorem dp_ints {K : PySem.W.Frag} {H : Hp} : ∀ (ns : List Int), DpAll K H (ns.map V.int) (ns.map PyData.int)
  | [] => .nil
  | n :: r => .cons (.int n) (dp_ints r)
theorem shaped_ints (ns : List Int) : SeqAt.shaped (.list (ns.map PyData.int)) = true := by simp [SeqAt.shaped, PyData.canLay0, ints_lay, PyData.depth, ints_depth]
theorem shaped_intsT (ns : List Int) : SeqAt.shaped (.tuple (ns.map PyData.int)) = true := by simp [SeqAt.shaped, PyData.canLay0, ints_lay, PyData.depth, ints_depth]
theorem eqv_nil {ns : List Int} : PyData.eqv (.list (ns.map PyData.int)) (.list []) = decide (ns = []) := by
  have h := ints_eqv ns []
  simpa [PyData.eqv] using h
/-! ### books -/
abbrev State := List (Nat × Nat)
abbrev Book := List State
def MvV (K : PySem.W.Frag) (H : Hp) (p : Addr) (m : Nat × Nat) : Prop := SqT K H p [.int m.1, .int m.2]
def StV (K : PySem.W.Frag) (H : Hp) (v : V) (s : State) : Prop := ∃ (a : Addr) (ps : List Addr), v = .ref a ∧ TupZ H a (ps.map V.ref) ∧ Paired (MvV K H) ps s
def BkV (K : PySem.W.Frag) (H : Hp) (v : V) (b : Book) : Prop := ∃ (a : Addr) (vs : List V), v = .ref a ∧ SqT K H a vs ∧ Paired (StV K H) vs b
theorem Paired.imp {α β : Type} {F G : α → β → Prop} : ∀ {l₁ : List α} {l₂ : List β}, Paired F l₁ l₂ → (∀ a b, F a b → G a b) → Paired G l₁ l₂
  | _, _, .nil, _ => .nil
  | _, _, .cons r t, f => .cons (f _ _ r) (Paired.imp t f)
theorem Paired.get {α β : Type} {F : α → β → Prop} : ∀ {l₁ : List α} {l₂ : List β} {i : Nat} {b : β}, Paired F l₁ l₂ → l₂[i]? = some b → ∃ a, l₁[i]? = some a ∧ F a b
  | _, _, _, _, .nil, e => by simp at e
  | _, _, 0, _, .cons r _, e => by cases e; exact ⟨_, rfl, r⟩
  | _, _, i + 1, _, .cons _ t, e => by
    obtain ⟨a, e1, e2⟩ := Paired.get (i := i) t (by simpa using e)
    exact ⟨a, by simpa using e1, e2⟩
theorem Paired.get' {α β : Type} {F : α → β → Prop} : ∀ {l₁ : List α} {l₂ : List β} {i : Nat} {a : α}, Paired F l₁ l₂ → l₁[i]? = some a → ∃ b, l₂[i]? = some b ∧ F a b
  | _, _, _, _, .nil, e => by simp at e
  | _, _, 0, _, .cons r _, e => by cases e; exact ⟨_, rfl, r⟩
  | _, _, i + 1, _, .cons _ t, e => by
    obtain ⟨a, e1, e2⟩ := Paired.get' (i := i) t (by simpa using e)
    exact ⟨a, by simpa using e1, e2⟩
theorem Paired.len {α β : Type} {F : α → β → Prop} : ∀ {l₁ : List α} {l₂ : List β}, Paired F l₁ l₂ → l₁.length = l₂.length
  | _, _, .nil => rfl
  | _, _, .cons _ t => by rw [List.length_cons, List.length_cons, Paired.len t]
theorem Paired.snoc {α β : Type} {F : α → β → Prop} {a : α} {b : β} (h : F a b) : ∀ {l₁ : List α} {l₂ : List β}, Paired F l₁ l₂ → Paired F (l₁ ++ [a]) (l₂ ++ [b])
  | _, _, .nil => .cons h .nil
  | _, _, .cons r t => .cons r (Paired.snoc h t)
theorem StV.ext {L : List Addr} {H H' : Hp} {K : PySem.W.Frag} {v : V} {s : State} (e : Ext L H H') (l : Lsts L H) (h : StV K H v s) : StV K H' v s := by
  obtain ⟨a, ps, rfl, h1, h2⟩ := h
  exact ⟨a, ps, rfl, e.tz l h1, Paired.imp h2 fun _ _ q => e.tup l q⟩
theorem BkV.ext {L : List Addr} {H H' : Hp} {K : PySem.W.Frag} {v : V} {b : Book} (e : Ext L H H') (l : Lsts L H) (h : BkV K H v b) : BkV K H' v b := by
  obtain ⟨a, vs, rfl, h1, h2⟩ := h
  exact ⟨a, vs, rfl, e.tup l h1, Paired.imp h2 fun _ _ q => q.ext e l⟩
theorem BkV.ext0 {H H' : Hp} {K : PySem.W.Frag} {v : V} {b : Book} (h : BkV K H v b) (e : Ext [] H H') : BkV K H' v b := h.ext e Lsts.nil
theorem StV.ext0 {H H' : Hp} {K : PySem.W.Frag} {v : V} {s : State} (h : StV K H v s) (e : Ext [] H H') : StV K H' v s := h.ext e Lsts.nil
/-- values -/
theorem atN {xs : List V} {i : Nat} {v : V} (h : xs[i]? = some v) : atI xs (i : Int) = some v := atI_nat h
abbrev nV (n : Nat) : V := .int (n : Int)
theorem map_at {α : Type} {f : α → V} {xs : List α} {i : Nat} {y : V} (h : (xs.map f)[i]? = some y) : ∃ x, xs[i]? = some x ∧ y = f x := by
  rw [List.getElem?_map] at h
  cases e : xs[i]? with
  | none => rw [e] at h; cases h
  | some x => rw [e] at h; exact ⟨x, rfl, (Option.some.inj h).symm⟩
theorem at_map {α : Type} {f : α → V} {xs : List α} {i : Nat} {x : α} (h : xs[i]? = some x) : (xs.map f)[i]? = some (f x) := by rw [List.getElem?_map, h]; rfl
theorem dec_int {a b : Int} : decide (V.int a = V.int b) = decide (a = b) := by
  by_cases h : a = b
  · subst h; simp
  · rw [decide_eq_false h, decide_eq_false fun e => h (V.int.inj e)]
theorem ifB {b : Bool} {A B : Prop} (h1 : b = true → A) (h2 : b = false → B) : if b = true then A else B := by
  cases b
  · exact iteF (h2 rfl)
  · exact iteT (h1 rfl)
theorem flat_nV (F : List Nat) : (F.map nV).all flatV = true := by
  rw [List.all_eq_true]
  intro v hv
  obtain ⟨n, _, rfl⟩ := List.mem_map.mp hv
  rfl
theorem eqV_nV (a b : Nat) : eqV (nV a) (nV b) = decide (a = b) := by
  unfold nV eqV
  by_cases h : a = b
  · subst h; simp
  · have h2 : ¬ ((a : Int) = (b : Int)) := fun e => h (by omega)
    simp [h, h2]
theorem inV_nV (t : Nat) (F : List Nat) : inV (nV t) (F.map nV) = decide (t ∈ F) := by
  unfold inV
  rw [List.any_map]
  by_cases h : t ∈ F
  · rw [decide_eq_true h, List.any_eq_true]
    exact ⟨t, h, by simp [eqV_nV]⟩
  · rw [decide_eq_false h, List.any_eq_false]
    intro x hx
    simp only [Function.comp, eqV_nV, decide_eq_true_eq]
    exact fun e => h (e ▸ hx)
/-- lists of moves that are not closed yet -/
def LsV (K : PySem.W.Frag) (H : Hp) (v : V) (s : State) : Prop := ∃ (a : Addr) (ps : List Addr), v = .ref a ∧ H a = some (.lst (ps.map V.ref)) ∧ Paired (MvV K H) ps s
def LbV (K : PySem.W.Frag) (H : Hp) (v : V) (b : Book) : Prop := ∃ (a : Addr) (vs : List V), v = .ref a ∧ H a = some (.lst vs) ∧ Paired (LsV K H) vs b
theorem LsV.ext0 {H H' : Hp} {K : PySem.W.Frag} {v : V} {s : State} (h : LsV K H v s) (e : Ext [] H H') : LsV K H' v s := by
  obtain ⟨a, ps, rfl, h1, h2⟩ := h
  exact ⟨a, ps, rfl, e.at h1 (by simp), Paired.imp h2 fun _ _ q => e.tup Lsts.nil q⟩
theorem LbV.ext0 {H H' : Hp} {K : PySem.W.Frag} {v : V} {b : Book} (h : LbV K H v b) (e : Ext [] H H') : LbV K H' v b := by
  obtain ⟨a, ps, rfl, h1, h2⟩ := h
  exact ⟨a, ps, rfl, e.at h1 (by simp), Paired.imp h2 fun _ _ q => q.ext0 e⟩
theorem MvV.ext0 {H H' : Hp} {K : PySem.W.Frag} {p : Addr} {m : Nat × Nat} (h : MvV K H p m) (e : Ext [] H H') : MvV K H' p m := e.tup Lsts.nil h
/-- a list that was made behind H may be written -/
theorem Ext.put {H H' : Hp} {p : Addr} {o : HO} (e : Ext [] H H') (h : H p = none) : Ext [] H (upd H' p o) := Ext.drop (e.weak.trans (.wr (by simp))) h
theorem Ext.put' {L : List Addr} {H H' : Hp} {p : Addr} {o : HO} (e : Ext L H H') (h : H p = none) : Ext L H (upd H' p o) := Ext.drop ((e.mono fun x z => List.mem_cons_of_mem _ z).trans (.wr (by simp))) h
theorem Ext.put2 {L : List Addr} {H H' : Hp} {p : Addr} {o : HO} (e : Ext L H H') (h : H' p = none) : Ext L H (upd H' p o) := e.trans (.new h)
theorem StV.put {H : Hp} {K : PySem.W.Frag} {v : V} {s : State} {p : Addr} {xs ys : List V} (h : StV K H v s) (hp : H p = some (.lst xs)) : StV K (upd H p (.lst ys)) v s := h.ext (L := [p]) (.wr (by simp)) (one_lst hp)
theorem MvV.put {H : Hp} {K : PySem.W.Frag} {q : Addr} {m : Nat × Nat} {p : Addr} {xs ys : List V} (h : MvV K H q m) (hp : H p = some (.lst xs)) : MvV K (upd H p (.lst ys)) q m := Ext.tup (L := [p]) (.wr (by simp)) (one_lst hp) h
theorem yes {σ : L2.St} {H : Hp} {A B : Hp → Prop} (h : A H) : tYes σ H (fun b H3 => if b = true then A H3 else B H3) := by
  show if true = true then A H else B H
  exact iteT h
theorem Ext.free2 {L : List Addr} {H H' : Hp} {x : Addr} (e : Ext L H H') (h : H' x = none) (n : x ∉ L) : H x = none := by
  cases q : H x with
  | none => rfl
  | some o =>
    rw [e x o n q] at h
    cases h
theorem eraseIdx_nV {α β : Type} (f : α → β) : ∀ (L : List α) (k : Nat), (L.map f).eraseIdx k = (L.eraseIdx k).map f
  | [], _ => rfl
  | _ :: _, 0 => rfl
  | a :: r, k + 1 => by simp [eraseIdx_nV f r k]
theorem off2 {p l x : Addr} (a : x ≠ p) (b : x ≠ l) : x ∉ [p, l] := fun z => by
  rcases List.mem_cons.mp z with z | z
  · exact a z
  · exact b (List.mem_singleton.mp z)
/-- such a list, not at one of these addresses -/
def LsN (K : PySem.W.Frag) (H : Hp) (X : List Addr) (v : V) (s : State) : Prop := ∃ (a : Addr) (ps : List Addr), v = .ref a ∧ a ∉ X ∧ H a = some (.lst (ps.map V.ref)) ∧ Paired (MvV K H) ps s
theorem LsN.ls {K : PySem.W.Frag} {H : Hp} {X : List Addr} {v : V} {s : State} (h : LsN K H X v s) : LsV K H v s := by
  obtain ⟨a, ps, e, _, h1, h2⟩ := h
  exact ⟨a, ps, e, h1, h2⟩
theorem LsN.ext {K : PySem.W.Frag} {H H' : Hp} {X Y : List Addr} {v : V} {s : State} (h : LsN K H X v s) (e : Ext Y H H') (yx : ∀ y ∈ Y, y ∈ X) (l : Lsts Y H) : LsN K H' X v s := by
  obtain ⟨a, ps, ea, n, h1, h2⟩ := h
  exact ⟨a, ps, ea, n, e _ _ (fun z => n (yx a z)) h1, Paired.imp h2 fun _ _ q => e.tup l q⟩
def mvD (q : Nat × Nat) : PyData := .tuple [.int (q.1 : Int), .int (q.2 : Int)]
theorem dp_mvs {K : PySem.W.Frag} {H : Hp} : ∀ {ps : List Addr} {s : State}, Paired (MvV K H) ps s → DpAll K H (ps.map V.ref) (s.map mvD)
  | _, _, .nil => .nil
  | _, _, .cons r t => .cons (.tup r (.cons (.int _) (.cons (.int _) .nil))) (dp_mvs t)
theorem mvs_lay : ∀ s : State, PyData.canLayAll0 (s.map mvD) = true
  | [] => rfl
  | q :: r => by simp [PyData.canLayAll0, PyData.canLay0, mvs_lay r, mvD]
theorem mvs_depth : ∀ s : State, PyData.depthAll (s.map mvD) ≤ 1
  | [] => by simp [PyData.depthAll]
  | q :: r => by
    have := mvs_depth r
    simp [PyData.depthAll, PyData.depth, mvD]
    omega
theorem shaped_mvs (s : State) : SeqAt.shaped (.list (s.map mvD)) = true := by
  have := mvs_depth s
  simp [SeqAt.shaped, PyData.canLay0, mvs_lay, PyData.depth]
  omega
theorem eqv_mvs_nil (s : State) : PyData.eqv (.list (s.map mvD)) (.list []) = decide (s = []) := by
  cases s <;> simp [PyData.eqv, PyData.eqvAll]
theorem ixNat {k n : Nat} (h : k < n) : ixN n (k : Int) = some k := by
  unfold ixN
  rw [if_pos (by omega), if_pos (by omega)]
  simp
theorem Paired.set {α β : Type} {F : α → β → Prop} {a : α} {b : β} (h : F a b) : ∀ {l₁ : List α} {l₂ : List β} (k : Nat), Paired F l₁ l₂ → Paired F (l₁.set k a) (l₂.set k b)
  | _, _, _, .nil => .nil
  | _, _, 0, .cons _ t => .cons h t
  | _, _, k + 1, .cons r t => .cons r (Paired.set h k t)
/-- the keys of a dict -/
abbrev kN (n : Nat) : Key := Sum.inl (n : Int)
theorem valV_key {kvs : List (Key × V)} {F : List Nat} (h : kvs.map (·.1) = F.map kN) (n : Nat) : (valV kvs (kN n)).isSome = decide (n ∈ F) := by
  rw [← valV_any]
  have e : (kvs.any fun kv => decide (kv.1 = kN n)) = ((kvs.map (·.1)).any fun k => decide (k = kN n)) := by rw [List.any_map]; rfl
  rw [e, h, List.any_map]
  by_cases m : n ∈ F
  · rw [decide_eq_true m, List.any_eq_true]
    exact ⟨n, m, by simp⟩
  · rw [decide_eq_false m, List.any_eq_false]
    intro x hx
    simp only [Function.comp, decide_eq_true_eq]
    intro e
    have e2 : (x : Int) = (n : Int) := Sum.inl.inj e
    exact m (by rw [show n = x by omega]; exact hx)
theorem valV_mem {kvs : List (Key × V)} {k : Key} {v : V} (h : valV kvs k = some v) : (k, v) ∈ kvs := by
  unfold valV at h
  cases e : kvs.find? (fun kv => decide (kv.1 = k)) with
  | none => rw [e] at h; cases h
  | some p =>
    rw [e] at h
    cases h
    have h1 := List.mem_of_find?_eq_some e
    have h2 := List.find?_some e
    simp at h2
    rw [← h2]
    exact h1
/-! ### books whose states are any tuples -/
def StW (K : PySem.W.Frag) (H : Hp) (v : V) (s : State) : Prop := ∃ (a : Addr) (ps : List Addr), v = .ref a ∧ SqT K H a (ps.map V.ref) ∧ Paired (MvV K H) ps s
def BkW (K : PySem.W.Frag) (H : Hp) (v : V) (b : Book) : Prop := ∃ (a : Addr) (vs : List V), v = .ref a ∧ SqT K H a vs ∧ Paired (StW K H) vs b
theorem BkV.wk {K : PySem.W.Frag} {H : Hp} {v : V} {b : Book} (h : BkV K H v b) : BkW K H v b := by
  obtain ⟨a, vs, rfl, h1, h2⟩ := h
  exact ⟨a, vs, rfl, h1, Paired.imp h2 fun _ _ z => by obtain ⟨c, ps, rfl, h3, h4⟩ := z; exact ⟨c, ps, rfl, h3.sq, h4⟩⟩
theorem BkW.ext {L : List Addr} {H H' : Hp} {K : PySem.W.Frag} {v : V} {b : Book} (e : Ext L H H') (l : Lsts L H) (h : BkW K H v b) : BkW K H' v b := by
  obtain ⟨a, vs, rfl, h1, h2⟩ := h
  exact ⟨a, vs, rfl, e.tup l h1, Paired.imp h2 fun _ _ z => by obtain ⟨c, ps, rfl, h3, h4⟩ := z; exact ⟨c, ps, rfl, e.tup l h3, Paired.imp h4 fun _ _ q => e.tup l q⟩⟩
theorem BkW.ext0 {H H' : Hp} {K : PySem.W.Frag} {v : V} {b : Book} (h : BkW K H v b) (e : Ext [] H H') : BkW K H' v b := h.ext e Lsts.nil
end Nv
set_option linter.all false
namespace Nv
/-! ### books: the mathematics -/
def mvs (b : Book) (s : Nat) : State := b.getD s []
inductive Rch (b : Book) : Nat → Prop
  | zero : Rch b 0
  | step {s : Nat} {p : Nat × Nat} : Rch b s → p ∈ mvs b s → Rch b p.2
/-- a state's form, of a book with n states -/
structure StOk (n : Nat) (s : State) : Prop where
  few : s.length ≤ 5
  rise : (s.map (·.1)).Pairwise (· < ·)
  msg : ∀ p ∈ s, p.1 ≤ 99
  to : ∀ p ∈ s, p.2 < n
/-- the form of a book -/
structure FormB (b : Book) : Prop where
  one : 1 ≤ b.length
  eight : b.length ≤ 8
  st : ∀ s ∈ b, StOk b.length s
structure OkB (b : Book) : Prop extends FormB b where
  reach : ∀ s, s < b.length → Rch b s
theorem mvs_of {b : Book} {s : Nat} {x : State} (h : b[s]? = some x) : mvs b s = x := by
  unfold mvs
  rw [List.getD_eq_getElem?_getD, h]
  rfl
theorem mvs_lt {b : Book} {s : Nat} (h : s < b.length) : b[s]? = some (mvs b s) := by
  rw [mvs_of (List.getElem?_eq_getElem h)]
  exact List.getElem?_eq_getElem h
theorem mvs_mem {b : Book} {s : Nat} (h : s < b.length) : mvs b s ∈ b := List.mem_of_getElem? (mvs_lt h)
theorem mvs_out {b : Book} {s : Nat} (h : b.length ≤ s) : mvs b s = [] := by
  unfold mvs
  rw [List.getD_eq_getElem?_getD, List.getElem?_eq_none h]
  rfl
theorem FormB.ok {b : Book} (h : FormB b) {s : Nat} (hs : s < b.length) : StOk b.length (mvs b s) := h.st _ (mvs_mem hs)
theorem FormB.to {b : Book} (h : FormB b) {s : Nat} {p : Nat × Nat} (hp : p ∈ mvs b s) : p.2 < b.length := by
  by_cases hs : s < b.length
  · exact (h.ok hs).to p hp
  · rw [mvs_out (by omega)] at hp
    cases hp
/-- what meeting finds: F the states in their order -/
structure Met (b : Book) (F : List Nat) : Prop where
  nd : F.Nodup
  zero : F[0]? = some 0
  lt : ∀ s ∈ F, s < b.length
  cl : ∀ s ∈ F, ∀ p ∈ mvs b s, p.2 ∈ F
  from_ : ∀ j s, F[j]? = some s → j ≠ 0 → ∃ i s', i < j ∧ F[i]? = some s' ∧ ∃ p ∈ mvs b s', p.2 = s
def rename (b : Book) (F : List Nat) : Book := F.map fun s => (mvs b s).map fun p => (p.1, F.idxOf p.2)
theorem rename_len {b : Book} {F : List Nat} : (rename b F).length = F.length := by simp [rename]
theorem rename_at {b : Book} {F : List Nat} {j s : Nat} (h : F[j]? = some s) : mvs (rename b F) j = (mvs b s).map fun p => (p.1, F.idxOf p.2) := by
  refine mvs_of ?_
  unfold rename
  rw [List.getElem?_map, h]
  rfl
theorem idx_of {F : List Nat} (nd : F.Nodup) {j s : Nat} (h : F[j]? = some s) : F.idxOf s = j := by
  obtain ⟨hj, e⟩ := List.getElem?_eq_some_iff.mp h
  rw [← e]
  exact List.Nodup.idxOf_getElem nd j hj
theorem nodup_le {n : Nat} {F : List Nat} (nd : F.Nodup) (lt : ∀ s ∈ F, s < n) : F.length ≤ n := by
  have h := (List.nodup_range (n := n))
  have : F ⊆ List.range n := fun s hs => List.mem_range.mpr (lt s hs)
  have := List.Nodup.length_le_of_subset nd this
  simpa using this
theorem Met.okB {b : Book} {F : List Nat} (m : Met b F) (h8 : b.length ≤ 8) (hs : ∀ s, s < b.length → (mvs b s).length ≤ 5 ∧ ((mvs b s).map (·.1)).Pairwise (· < ·) ∧ ∀ p ∈ mvs b s, p.1 ≤ 99) : OkB (rename b F) := by
  have h0 : 0 < F.length := (List.getElem?_eq_some_iff.mp m.zero).1
  have hle : F.length ≤ b.length := nodup_le m.nd m.lt
  refine { one := by rw [rename_len]; exact h0, eight := by rw [rename_len]; omega, st := fun x hx => ?_, reach := fun j hj => ?_ }
  · obtain ⟨s, hsF, rfl⟩ := List.mem_map.mp hx
    obtain ⟨a1, a2, a3⟩ := hs s (m.lt s hsF)
    refine ⟨by rw [List.length_map]; exact a1, ?_, fun p hp => ?_, fun p hp => ?_⟩
    · rw [List.map_map]
      exact a2
    · obtain ⟨q, hq, rfl⟩ := List.mem_map.mp hp
      exact a3 q hq
    · obtain ⟨q, hq, rfl⟩ := List.mem_map.mp hp
      rw [rename_len]
      exact List.idxOf_lt_length_of_mem (m.cl s hsF q hq)
  · rw [rename_len] at hj
    have key : ∀ n, ∀ j, j ≤ n → j < F.length → Rch (rename b F) j := by
      intro n
      induction n with
      | zero =>
        intro j h1 _
        have e : j = 0 := by omega
        rw [e]
        exact .zero
      | succ n ih =>
        intro j h1 h2
        by_cases e : j = 0
        · subst e; exact .zero
        · obtain ⟨i, s', hi, hs', p, hp, ep⟩ := m.from_ j F[j] (List.getElem?_eq_getElem h2) e
          have r := ih i (by omega) (by omega)
          have : (p.1, F.idxOf p.2) ∈ mvs (rename b F) i := by
            rw [rename_at hs']
            exact List.mem_map.mpr ⟨p, hp, rfl⟩
          have r2 := Rch.step r this
          have e2 : F.idxOf p.2 = j := idx_of m.nd (by rw [ep]; exact List.getElem?_eq_getElem h2)
          rw [e2] at r2
          exact r2
    exact key j j (Nat.le_refl _) hj
/-! ### meeting, step by step -/
structure MetI (b : Book) (F : List Nat) (i : Nat) : Prop where
  nd : F.Nodup
  zero : F[0]? = some 0
  lt : ∀ s ∈ F, s < b.length
  from_ : ∀ j s, F[j]? = some s → j ≠ 0 → ∃ i s', i < j ∧ F[i]? = some s' ∧ ∃ p ∈ mvs b s', p.2 = s
  le : i ≤ F.length
  cl : ∀ j s, j < i → F[j]? = some s → ∀ p ∈ mvs b s, p.2 ∈ F
structure MetW (b : Book) (F : List Nat) (i s k : Nat) : Prop extends MetI b F i where
  here : F[i]? = some s
  part : ∀ p ∈ (mvs b s).take k, p.2 ∈ F
theorem MetI.first {b : Book} (h : 1 ≤ b.length) : MetI b [0] 0 where
  nd := by simp
  zero := rfl
  lt := fun s hs => by simp at hs; omega
  from_ := fun j s h n => by
    have := (List.getElem?_eq_some_iff.mp h).1
    simp at this
    omega
  le := by simp
  cl := fun j s h => by omega
theorem MetI.begin {b : Book} {F : List Nat} {i s : Nat} (m : MetI b F i) (h : F[i]? = some s) : MetW b F i s 0 := { m with here := h, part := fun p hp => by simp at hp }
theorem MetW.skip {b : Book} {F : List Nat} {i s k : Nat} {p : Nat × Nat} (m : MetW b F i s k) (h : (mvs b s)[k]? = some p) (hp : p.2 ∈ F) : MetW b F i s (k + 1) := { m with
  part := fun q hq => by
    rw [List.take_add_one, h] at hq
    rcases List.mem_append.mp hq with hq | hq
    · exact m.part q hq
    · simp at hq
      rw [hq]
      exact hp }
theorem MetW.push {b : Book} {F : List Nat} {i s k : Nat} {p : Nat × Nat} (m : MetW b F i s k) (h : (mvs b s)[k]? = some p) (hp : p.2 ∉ F) (hb : p.2 < b.length) : MetW b (F ++ [p.2]) i s (k + 1) := by
  have old : ∀ {j x : Nat}, F[j]? = some x → (F ++ [p.2])[j]? = some x := fun {j x} e => by
    rw [List.getElem?_append_left (List.getElem?_eq_some_iff.mp e).1]
    exact e
  refine { nd := ?_, zero := old m.zero, lt := fun x hx => ?_, from_ := fun j x e n => ?_, le := ?_, cl := fun j x hj e q hq => ?_, here := old m.here, part := fun q hq => ?_ }
  · rw [List.nodup_append]
    refine ⟨m.nd, by simp, fun a ha c hc => ?_⟩
    simp at hc
    rw [hc]
    exact fun z => hp (z ▸ ha)
  · rcases List.mem_append.mp hx with hx | hx
    · exact m.lt x hx
    · simp at hx
      rw [hx]
      exact hb
  · by_cases hj : j < F.length
    · rw [List.getElem?_append_left hj] at e
      obtain ⟨i', s', h1, h2, h3⟩ := m.from_ j x e n
      exact ⟨i', s', h1, old h2, h3⟩
    · rw [List.getElem?_append_right (by omega)] at e
      have hz : j - F.length = 0 := by
        have := (List.getElem?_eq_some_iff.mp e).1
        simp at this
        omega
      rw [hz] at e
      cases e
      have hi := (List.getElem?_eq_some_iff.mp m.here).1
      exact ⟨i, s, by omega, old m.here, p, List.mem_of_getElem? h, rfl⟩
  · rw [List.length_append]
    have := m.le
    omega
  · have hjF : j < F.length := by
      have := m.le
      omega
    rw [List.getElem?_append_left hjF] at e
    exact List.mem_append_left _ (m.cl j x hj e q hq)
  · rw [List.take_add_one, h] at hq
    rcases List.mem_append.mp hq with hq | hq
    · exact List.mem_append_left _ (m.part q hq)
    · simp at hq
      rw [hq]
      simp
theorem MetW.done {b : Book} {F : List Nat} {i s k : Nat} (m : MetW b F i s k) (hk : (mvs b s).length ≤ k) : MetI b F (i + 1) := { m with
  le := (List.getElem?_eq_some_iff.mp m.here).1
  cl := fun j x hj e q hq => by
    by_cases hji : j < i
    · exact m.cl j x hji e q hq
    · have : j = i := by omega
      subst this
      rw [m.here] at e
      cases e
      exact m.part q (by rw [List.take_of_length_le hk]; exact hq) }
theorem MetI.met {b : Book} {F : List Nat} {i : Nat} (m : MetI b F i) (h : i = F.length ∨ i = b.length) : Met b F := { m with
  cl := fun s hs p hp => by
    obtain ⟨j, hj, e⟩ := List.mem_iff_getElem.mp hs
    have : F.length ≤ i := by
      rcases h with h | h
      · omega
      · rw [h]
        exact nodup_le m.nd m.lt
    exact m.cl j s (by omega) (by rw [List.getElem?_eq_getElem hj, e]) p hp }
end Nv
set_option Elab.async false
set_option linter.all false
set_option maxRecDepth 100000
namespace Nv
open PySem PySem.Spec PyProof.Rows L2
/-! ### the form of a book, of any data -/
def wholeD : PyData → Bool
  | .int _ => true
  | _ => false
def inD (d : PyData) (lo hi : Int) : Bool := match d with
  | .int i => decide (lo ≤ i ∧ i ≤ hi)
  | _ => false
def tupD (d : PyData) (lo hi : Int) : Bool := match d with
  | .tuple ds => decide (lo ≤ (ds.length : Int) ∧ (ds.length : Int) ≤ hi)
  | _ => false
/-- a move's form behind the message last: its message -/
def pairD (last n : Int) (d : PyData) : Option Int := match d with
  | .tuple [.int m, .int t] => if last + 1 ≤ m ∧ m ≤ 99 ∧ 0 ≤ t ∧ t ≤ n - 1 then some m else none
  | _ => none
def pairsD (last n : Int) : List PyData → Bool
  | [] => true
  | d :: r => match pairD last n d with
    | some m => pairsD m n r
    | none => false
def stateD (n : Int) (d : PyData) : Bool := match d with
  | .tuple ds => decide (ds.length ≤ 5) && pairsD (-1) n ds
  | _ => false
def firstBad (n : Int) : List PyData → Nat → Option Int
  | [], _ => none
  | d :: r, i => if stateD n d = true then firstBad n r (i + 1) else some (i : Int)
/-- what BadBook tells of it -/
def formErr (d : PyData) : Option Int := match d with
  | .tuple ds => if 1 ≤ ds.length ∧ ds.length ≤ 8 then firstBad ds.length ds 0 else some (-1)
  | _ => some (-1)
theorem dpAll_len {K : PySem.W.Frag} {H : Hp} : ∀ {vs : List V} {ds : List PyData}, DpAll K H vs ds → vs.length = ds.length
  | _, _, .nil => rfl
  | _, _, .cons _ t => by rw [List.length_cons, List.length_cons, dpAll_len t]
theorem dpAll_get {K : PySem.W.Frag} {H : Hp} : ∀ {vs : List V} {ds : List PyData} {i : Nat} {d : PyData}, DpAll K H vs ds → ds[i]? = some d → ∃ v, vs[i]? = some v ∧ Dp K H v d
  | _, _, _, _, .nil, e => by simp at e
  | _, _, 0, _, .cons r _, e => by cases e; exact ⟨_, rfl, r⟩
  | _, _, i + 1, _, .cons _ t, e => by
    obtain ⟨v, h1, h2⟩ := dpAll_get (i := i) t (by simpa using e)
    exact ⟨v, by simpa using h1, h2⟩
theorem dpAll_get' {K : PySem.W.Frag} {H : Hp} : ∀ {vs : List V} {ds : List PyData} {i : Nat} {v : V}, DpAll K H vs ds → vs[i]? = some v → ∃ d, ds[i]? = some d ∧ Dp K H v d
  | _, _, _, _, .nil, e => by simp at e
  | _, _, 0, _, .cons r _, e => by cases e; exact ⟨_, rfl, r⟩
  | _, _, i + 1, _, .cons _ t, e => by
    obtain ⟨v, h1, h2⟩ := dpAll_get' (i := i) t (by simpa using e)
    exact ⟨v, by simpa using h1, h2⟩
/-- the type of data -/
def tyD : PyData → String
  | .none => "NoneType"
  | .bool _ => "bool"
  | .int _ => "int"
  | .str _ => "str"
  | .list _ => "list"
  | .tuple _ => "tuple"
  | .dict _ => "dict"
theorem SqT.tyT {K : PySem.W.Frag} {H : Hp} {a : Addr} {xs : List V} (h : SqT K H a xs) : TyX K H (.ref a) (.type "tuple") := by
  rcases h with (h | ⟨o, h⟩) | ⟨o, its, n, e, c, _⟩
  · exact .base (.tup h)
  · exact .fTuple h
  · exact .kTuple e c
theorem SqL.tyL {K : PySem.W.Frag} {H : Hp} {a : Addr} {xs : List V} (h : SqL K H a xs) : TyX K H (.ref a) (.type "list") := by
  rcases h with (h | ⟨o, h⟩) | ⟨o, its, n, e, c, _⟩
  · exact .base (.lst h)
  · exact .base (.frz h)
  · exact .kList e c
theorem Dp.ty {K : PySem.W.Frag} {H : Hp} {v : V} {d : PyData} (h : Dp K H v d) : TyX K H v (.type (tyD d)) := by
  cases h with
  | non => exact .base .non
  | bl b => exact .base (.bl b)
  | int i => exact .base (.int i)
  | str x => exact .base (.str x)
  | lst h _ => exact SqL.tyL h
  | tup h _ => exact SqT.tyT h
theorem pairs_cons {last n : Int} {d : PyData} {r : List PyData} : pairsD last n (d :: r) = match pairD last n d with | some m => pairsD m n r | none => false := rfl
end Nv
set_option Elab.async false
set_option linter.all false
set_option maxRecDepth 100000
namespace Nv
open PySem PySem.Spec PyProof.Rows L2
/-! ### written data -/
mutual
theorem Dp.ext0 {K : PySem.W.Frag} {H H' : Hp} (e : Ext [] H H') : ∀ {v : V} {d : PyData}, Dp K H v d → Dp K H' v d
  | _, _, .non => .non
  | _, _, .bl b => .bl b
  | _, _, .int i => .int i
  | _, _, .str x => .str x
  | _, _, .lst h t => .lst (e.frz (by simp) h) (DpAll.ext0 e t)
  | _, _, .tup h t => .tup (e.tup Lsts.nil h) (DpAll.ext0 e t)
theorem DpAll.ext0 {K : PySem.W.Frag} {H H' : Hp} (e : Ext [] H H') : ∀ {vs : List V} {ds : List PyData}, DpAll K H vs ds → DpAll K H' vs ds
  | _, _, .nil => .nil
  | _, _, .cons h t => .cons (Dp.ext0 e h) (DpAll.ext0 e t)
end
theorem peW {X : Cx} {e : Expr} {t t' : TE} (h : PE X e t) (w : ∀ σ H Q, t' σ H Q → t σ H Q) : PE X e t' := ⟨fun pins s σ H Q I q => h.run pins s σ H Q I (w σ H Q q)⟩
theorem paW {X : Cx} {es : List Expr} {t t' : TA} (h : PA X es t) (w : ∀ σ H R, t' σ H R → t σ H R) : PA X es t' := ⟨fun pos pins s σ H R I q => h.run pos pins s σ H R I (w σ H R q)⟩
/-- data told by the slots -/
def tDat (K : PySem.W.Frag) (f : L2.St → Option PyData) : TE := fun σ H Q => ∃ d, f σ = some d ∧ ∀ v H', Ext [] H H' → Dp K H' v d → Q v H'
def tDats (K : PySem.W.Frag) (f : L2.St → Option (List PyData)) : TA := fun σ H R => ∃ ds, f σ = some ds ∧ ds.length ≤ 1000 ∧ ∀ vs H', Ext [] H H' → DpAll K H' vs ds → R vs H'
/-- a new list of data -/
def tDatL (K : PySem.W.Frag) (f : L2.St → Option (List PyData)) : TE := fun σ H Q => ∃ ds, f σ = some ds ∧ ds.length ≤ 1000 ∧ ∀ p vs H', H p = none → H' p = some (.lst vs) → Ext [] H H' → DpAll K H' vs ds → Q (.ref p) H'
def consO (f : L2.St → Option PyData) (g : L2.St → Option (List PyData)) : L2.St → Option (List PyData) := fun σ => match f σ, g σ with
  | some d, some ds => some (d :: ds)
  | _, _ => none
def slotI (i : Nat) (σ : L2.St) : Option PyData := match σ[i]? with
  | some (some (.int n)) => some (.int n)
  | _ => none
theorem slotI_some {i : Nat} {σ : L2.St} {d : PyData} (h : slotI i σ = some d) : ∃ n, σ[i]? = some (some (.int n)) ∧ d = .int n := by
  unfold slotI at h
  split at h
  · rename_i n e
    exact ⟨n, e, (Option.some.inj h).symm⟩
  · cases h
def tupO (g : L2.St → Option (List PyData)) (σ : L2.St) : Option PyData := match g σ with
  | some l => if l.length ≤ 1000 then some (.tuple l) else none
  | none => none
theorem tupO_some {g : L2.St → Option (List PyData)} {σ : L2.St} {d : PyData} (h : tupO g σ = some d) : ∃ l, g σ = some l ∧ l.length ≤ 1000 ∧ d = .tuple l := by
  unfold tupO at h
  split at h
  · rename_i l e
    split at h
    · rename_i hl
      exact ⟨l, e, hl, (Option.some.inj h).symm⟩
    · cases h
  · cases h
theorem consO_some {f : L2.St → Option PyData} {g : L2.St → Option (List PyData)} {σ : L2.St} {l : List PyData} (h : consO f g σ = some l) : ∃ d ds, f σ = some d ∧ g σ = some ds ∧ l = d :: ds := by
  unfold consO at h
  split at h
  · rename_i d ds e1 e2
    exact ⟨d, ds, e1, e2, (Option.some.inj h).symm⟩
  · cases h
section
variable {X : Cx} {K : PySem.W.Frag}
theorem pd_int {i : Int} {j : Nat} {pos : Pos} : PE X (.Constant (.int i) j pos) (tDat K fun _ => some (.int i)) := peW pe_int fun σ H Q ⟨_, e, q⟩ => by cases e; exact q _ H .refl (.int i)
theorem pd_neg {i : Int} {j : Nat} {pos pos' : Pos} : PE X (.UnaryOp .USub (.Constant (.int i) j pos) pos') (tDat K fun _ => some (.int (-i))) := peW (pe_un un_neg pe_int) fun σ H Q ⟨_, e, q⟩ => by cases e; exact ⟨i, rfl, q _ H .refl (.int _)⟩
theorem pd_bool {b : Bool} {j : Nat} {pos : Pos} : PE X (.Constant (.bool b) j pos) (tDat K fun _ => some (.bool b)) := peW pe_bl fun σ H Q ⟨_, e, q⟩ => by cases e; exact q _ H .refl (.bl b)
theorem pd_none {j : Nat} {pos : Pos} : PE X (.Constant .none j pos) (tDat K fun _ => some .none) := peW pe_non fun σ H Q ⟨_, e, q⟩ => by cases e; exact q _ H .refl .non
theorem pd_str {x : Str} {j : Nat} {pos : Pos} : PE X (.Constant (.str x) j pos) (tDat K fun _ => some (.str x)) := peW pe_str fun σ H Q ⟨_, e, q⟩ => by cases e; exact q _ H .refl (.str x)
/-- a slot that holds a number -/
theorem pd_var {e : Expr} {i : Nat} (h : PE X e (tVar i)) : PE X e (tDat K (slotI i)) := peW h fun σ H Q ⟨d, e, q⟩ => by
  obtain ⟨n, hs, rfl⟩ := slotI_some e
  exact ⟨_, hs, q _ H .refl (.int n)⟩
theorem pds_nil : PA X [] (tDats K fun _ => some []) := paW pa_nil fun σ H R ⟨_, e, _, q⟩ => by cases e; exact q [] H .refl .nil
theorem pds_cons {e : Expr} {es : List Expr} {f : L2.St → Option PyData} {g : L2.St → Option (List PyData)} (h : PE X e (tDat K f)) (r : PA X es (tDats K g)) (hs : starEach (e :: es) X.env = (false, eval e X.env) :: starEach es X.env := by rfl) :
    PA X (e :: es) (tDats K (consO f g)) := paW (pa_cons h r hs) fun σ H R ⟨ds, e, hl, q⟩ => by
  obtain ⟨d, l, hf, hg, rfl⟩ := consO_some e
  rw [List.length_cons] at hl
  exact ⟨d, hf, fun v H1 e1 h1 => ⟨l, hg, by omega, fun vs H2 e2 h2 => q (v :: vs) H2 (e1.trans e2) (.cons (Dp.ext0 e2 h1) h2)⟩⟩
theorem pd_tup {es : List Expr} {g : L2.St → Option (List PyData)} {c : Nat} {pos : Pos} (h : PA X es (tDats K g)) : PE X (.Tuple es c pos) (tDat K (tupO g)) :=
  peW (pe_tup h) fun σ H Q ⟨d, e, q⟩ => by
    obtain ⟨l, hg, hl, rfl⟩ := tupO_some e
    refine ⟨l, hg, hl, fun vs H' e1 h1 => ⟨by rw [dpAll_len h1]; exact Nat.le_of_lt (small1000 hl), fun p hp => ?_⟩⟩
    have e2 : Ext [] H' (upd H' p (.tup vs)) := .new hp
    exact q _ _ (e1.trans e2) (.tup (.of upd_same) (DpAll.ext0 e2 h1))
theorem pd_lst {es : List Expr} {g : L2.St → Option (List PyData)} {pos : Pos} (h : PA X es (tDats K g)) : PE X (.List es pos) (tDatL K g) :=
  peW (pe_lst h) fun σ H Q ⟨l, e, hl, q⟩ => ⟨l, e, hl, fun vs H' e1 h1 => ⟨by rw [dpAll_len h1]; exact Nat.le_of_lt (small1000 hl), fun p hp => by
    have e2 : Ext [] H' (upd H' p (.lst vs)) := .new hp
    exact q p vs _ (e1.free hp) upd_same (e1.trans e2) (DpAll.ext0 e2 h1)⟩⟩
end
end Nv
namespace Nv
open PySem PySem.Spec PyProof.Rows L2
theorem DpAll.append {K : PySem.W.Frag} {H : Hp} : ∀ {vs ws : List V} {ds es : List PyData}, DpAll K H vs ds → DpAll K H ws es → DpAll K H (vs ++ ws) (ds ++ es)
  | _, _, _, _, .nil, h => h
  | _, _, _, _, .cons r t, h => .cons r (DpAll.append t h)
theorem DpAll.rep {K : PySem.W.Frag} {H : Hp} {vs : List V} {ds : List PyData} (h : DpAll K H vs ds) : ∀ k : Nat, DpAll K H (List.replicate k vs).flatten (List.replicate k ds).flatten
  | 0 => .nil
  | k + 1 => by
    rw [List.replicate_succ, List.replicate_succ, List.flatten_cons, List.flatten_cons]
    exact DpAll.append h (DpAll.rep h k)
def repO (g : L2.St → Option (List PyData)) (k : Int) (σ : L2.St) : Option PyData := match g σ with
  | some l => if l ≠ [] ∧ l.length ≤ 1000 ∧ 2 ≤ k ∧ k ≤ 1000 then some (.tuple (List.replicate k.toNat l).flatten) else none
  | none => none
theorem pd_rep {X : Cx} {es : List Expr} {g : L2.St → Option (List PyData)} {c j : Nat} {k : Int} {pos p2 p3 : Pos} (h : PA X es (tDats X.K g)) : PE X (.BinOp (.Tuple es c pos) .Mult (.Constant (.int k) j p2) p3) (tDat X.K (repO g k)) :=
  peW (pe_op op_repT (pe_tup h) pe_int) fun σ H Q ⟨d, e, q⟩ => by
    unfold repO at e
    split at e
    · rename_i l hg
      split at e
      · rename_i hc
        obtain ⟨h1, h2, h3, h4⟩ := hc
        cases e
        refine ⟨l, hg, h2, fun vs H' e1 hd => ⟨by rw [dpAll_len hd]; exact Nat.le_of_lt (small1000 h2), fun p hp => ?_⟩⟩
        have e2 : Ext [] H' (upd H' p (.tup vs)) := .new hp
        refine ⟨p, k, vs, rfl, rfl, .of upd_same, fun z => h1 ?_, h3, h4, by rw [dpAll_len hd]; exact h2, fun t ht => ?_⟩
        · have := dpAll_len hd
          rw [z] at this
          exact List.eq_nil_of_length_eq_zero this.symm
        · have e3 := e2.put2 (o := .tup (List.replicate k.toNat vs).flatten) ht
          exact q _ _ (e1.trans e3) (.tup (.of upd_same) (DpAll.rep (DpAll.ext0 e3 hd) k.toNat))
      · cases e
    · cases e
end Nv
namespace Nv
open PySem PySem.Spec PyProof.Rows L2
mutual
def noL : PyData → Bool
  | .list _ => false
  | .tuple ds => noLs ds
  | _ => true
def noLs : List PyData → Bool
  | [] => true
  | d :: r => noL d && noLs r
end
mutual
theorem Dp.extL {K : PySem.W.Frag} {L : List Addr} {H H' : Hp} (e : Ext L H H') (l : Lsts L H) : ∀ {v : V} {d : PyData}, Dp K H v d → noL d = true → Dp K H' v d
  | _, _, .non, _ => .non
  | _, _, .bl b, _ => .bl b
  | _, _, .int i, _ => .int i
  | _, _, .str x, _ => .str x
  | _, _, .lst _ _, h => by simp [noL] at h
  | _, _, .tup h t, n => .tup (e.tup l h) (DpAll.extL e l t (by simpa [noL] using n))
theorem DpAll.extL {K : PySem.W.Frag} {L : List Addr} {H H' : Hp} (e : Ext L H H') (l : Lsts L H) : ∀ {vs : List V} {ds : List PyData}, DpAll K H vs ds → noLs ds = true → DpAll K H' vs ds
  | _, _, .nil, _ => .nil
  | _, _, .cons h t, n => by
    simp only [noLs, Bool.and_eq_true] at n
    exact .cons (Dp.extL e l h n.1) (DpAll.extL e l t n.2)
end
end Nv
set_option Elab.async false
set_option linter.all false
set_option maxRecDepth 100000
namespace Nv
open PySem PySem.Spec PyProof.Rows L2
section
variable {P : Program} {w : World} {K : PySem.W.Frag} {mg : Str → Option Value} {base : Heap}
/-! ### numbers and tuples: the program's checks -/
theorem sc_whole : FnScope ["thing"] ["thing"] (defScope s_whole) := ⟨rfl, rfl, rfl, by decide +kernel, rfl, by decide +kernel, by decide +kernel⟩
def sp_whole : Sp := fun vs H Q _ => ∃ i : Int, vs = [.int i] ∧ Q (.bl true) H
theorem ok_whole (T : Tx K mg) : FnOk P w K mg base CX0 1 T.whole.f T.whole.fd ["thing"] sp_whole := by
  refine T.whole.F.ok sc_whole (fun vs H Q E h => ?_) (fun cdv A outer s H vs Q E hr h => ?_)
  · obtain ⟨i, rfl, _⟩ := h; rfl
  · obtain ⟨i, rfl, q⟩ := h
    refine ⟨_, (pss_one (ps_ret (pe_and (pe_callB call_isi (by rfl) T.n_isinstance (by decide +kernel) (pa_cons (pv 0) (pa_cons (pe_bltn (v := .ty "int") (by rfl) T.n_int (by decide +kernel) rfl) pa_nil))) (pe_one (pe_not (pe_callB call_isi (by rfl) T.n_isinstance (by decide +kernel) (pa_cons (pv 0) (pa_cons (pe_bltn (v := .ty "bool") (by rfl) T.n_bool (by decide +kernel) rfl) pa_nil)))))))), ?_⟩
    refine ⟨_, rfl, _, _, _, _, _, rfl, .ty _, .base (.int i), kit_ty (b := "int") (r := true) (by decide +kernel), true, rfl, iteT ⟨_, rfl, _, _, _, _, _, rfl, .ty _, .base (.int i), kit_ty (b := "bool") (r := false) (by decide +kernel), false, rfl, q⟩⟩
theorem sc_whole_within : FnScope ["thing", "low", "high"] ["thing", "low", "high"] (defScope s_whole_within) := ⟨rfl, rfl, rfl, by decide +kernel, rfl, by decide +kernel, by decide +kernel⟩
def sp_whole_within : Sp := fun vs H Q _ => ∃ i a b : Int, vs = [.int i, .int a, .int b] ∧ Q (.bl (decide (a ≤ i ∧ i ≤ b))) H
theorem ok_whole_within (T : Tx K mg) : FnOk P w K mg base CX0 2 T.whole_within.f T.whole_within.fd ["thing", "low", "high"] sp_whole_within := by
  refine T.whole_within.F.ok sc_whole_within (fun vs H Q E h => ?_) (fun cdv A outer s H vs Q E hr h => ?_)
  · obtain ⟨i, a, b, rfl, _⟩ := h; rfl
  · obtain ⟨i, a, b, rfl, q⟩ := h
    refine ⟨_, (pss_one (ps_ret (pe_and (pe_call (ok_whole T) (hr.mono (by decide)) (by rfl) T.whole.g T.whole.F.kp T.whole.b .nil pass0 (pa_cons (pv 0) pa_nil)) (pe_one (pe_chain op_le op_le (pv 1) (pv 0) (pv 2)))))), ?_⟩
    refine ⟨_, rfl, i, rfl, true, rfl, iteT ⟨_, rfl, _, rfl, _, _, rfl, rfl, _, rfl, ?_⟩⟩
    by_cases h1 : a ≤ i
    · rw [decide_eq_true h1]
      refine iteT ⟨_, rfl, _, _, rfl, rfl, ?_⟩
      have e : decide (a ≤ i ∧ i ≤ b) = decide (i ≤ b) := by simp [h1]
      rw [e] at q
      exact q
    · rw [decide_eq_false h1]
      have e : decide (a ≤ i ∧ i ≤ b) = false := by simp [h1]
      rw [e] at q
      exact iteF q
theorem sc_tuple_within : FnScope ["thing", "low", "high"] ["thing", "low", "high"] (defScope s_tuple_within) := ⟨rfl, rfl, rfl, by decide +kernel, rfl, by decide +kernel, by decide +kernel⟩
def sp_tuple_within (K : PySem.W.Frag) : Sp := fun vs H Q _ => ∃ (t : Addr) (xs : List V) (a b : Int), vs = [.ref t, .int a, .int b] ∧ SqT K H t xs ∧ TyX K H (.ref t) (.type "tuple") ∧ Q (.bl (decide (a ≤ (xs.length : Int) ∧ (xs.length : Int) ≤ b))) H
theorem ok_tuple_within (T : Tx K mg) : FnOk P w K mg base CX0 1 T.tuple_within.f T.tuple_within.fd ["thing", "low", "high"] (sp_tuple_within K) := by
  refine T.tuple_within.F.ok sc_tuple_within (fun vs H Q E h => ?_) (fun cdv A outer s H vs Q E hr h => ?_)
  · obtain ⟨t, xs, a, b, rfl, _⟩ := h; rfl
  · obtain ⟨t, xs, a, b, rfl, ht, ty, q⟩ := h
    refine ⟨_, (pss_one (ps_ret (pe_and (pe_callB call_isi (by rfl) T.n_isinstance (by decide +kernel) (pa_cons (pv 0) (pa_cons (pe_bltn (v := .ty "tuple") (by rfl) T.n_tuple (by decide +kernel) rfl) pa_nil))) (pe_one (pe_chain op_le op_le (pv 1) (pe_callB call_len_seq (by rfl) T.n_len PySem.boot_len (pa_cons (pv 0) pa_nil)) (pv 2)))))), ?_⟩
    refine ⟨_, rfl, _, _, _, _, _, rfl, .ty _, ty, kit_ty (b := "tuple") (r := true) (by decide +kernel), true, rfl, iteT ⟨_, rfl, _, rfl, t, xs, rfl, .inr ht, _, _, rfl, rfl, _, rfl, ?_⟩⟩
    by_cases h1 : a ≤ (xs.length : Int)
    · rw [decide_eq_true h1]
      refine iteT ⟨_, rfl, _, _, rfl, rfl, ?_⟩
      have e : decide (a ≤ (xs.length : Int) ∧ (xs.length : Int) ≤ b) = decide ((xs.length : Int) ≤ b) := by simp [h1]
      rw [e] at q
      exact q
    · rw [decide_eq_false h1]
      have e : decide (a ≤ (xs.length : Int) ∧ (xs.length : Int) ≤ b) = false := by simp [h1]
      rw [e] at q
      exact iteF q
theorem SqT.ty {K : PySem.W.Frag} {H : Hp} {a : Addr} {xs : List V} (h : SqT K H a xs) : TyX K H (.ref a) (.type "tuple") := by
  rcases h with (h | ⟨o, h⟩) | ⟨o, its, n, e, c, _⟩
  · exact .base (.tup h)
  · exact .fTuple h
  · exact .kTuple e c
/-! ### the law's draws -/
/-- the pool at p, its list at l -/
def PoolAt (H : Hp) (p l : Addr) : Prop := p ≠ l ∧ ∃ (x y : Int) (ns : List Int), H p = some (.lst [.int x, .int y, .ref l]) ∧ H l = some (.lst (ns.map V.int)) ∧ 0 ≤ x ∧ 0 ≤ y ∧ y < 4294967296 ∧ ns.length ≤ 63
theorem PoolAt.lsts {H : Hp} {p l : Addr} (h : PoolAt H p l) : Lsts [p, l] H := by
  obtain ⟨_, x, y, ns, h1, h2, _⟩ := h
  exact two_lsts h1 h2
theorem PoolAt.ext {H H' : Hp} {p l : Addr} {L : List Addr} (h : PoolAt H p l) (e : Ext L H H') (h1 : p ∉ L) (h2 : l ∉ L) : PoolAt H' p l := by
  obtain ⟨n, x, y, ns, a, b, r⟩ := h
  exact ⟨n, x, y, ns, e _ _ h1 a, e _ _ h2 b, r⟩
theorem PoolAt.ext0 {H H' : Hp} {p l : Addr} (h : PoolAt H p l) (e : Ext [] H H') : PoolAt H' p l := h.ext e (by simp) (by simp)
theorem sc_law_pool : FnScope ["script", "first", "size"] ["script"] (defScope s_law_pool) := ⟨rfl, rfl, rfl, by decide +kernel, rfl, by decide +kernel, by decide +kernel⟩
def sp_law_pool (K : PySem.W.Frag) : Sp := fun vs H Q _ => ∃ (a : Addr) (ns : List Int), vs = [.ref a] ∧ SqL K H a (ns.map V.int) ∧ ns.length ≤ 63 ∧ ∀ (p l : Addr) (H' : Hp), H p = none → H l = none → PoolAt H' p l → Ext [] H H' → Q (.ref p) H'
theorem ok_law_pool (T : Tx K mg) : FnOk P w K mg base CX0 1 T.law_pool.f T.law_pool.fd ["script"] (sp_law_pool K) := by
  refine T.law_pool.F.ok sc_law_pool (fun vs H Q E h => ?_) (fun cdv A outer s H vs Q E hr h => ?_)
  · obtain ⟨a, ns, rfl, _⟩ := h; rfl
  · obtain ⟨a, ns, rfl, hS, hl, q⟩ := h
    refine ⟨_, (C8.pss_cut (ps_set (i := 1) sc_law_pool.nd rfl (.inl rfl) (pe_mid (pe_ifExp (pt_cmpR op_gt (pe_callB call_len_seq (by rfl) T.n_len PySem.boot_len (pa_cons (pv 0) pa_nil)) pe_int (nomark _)) (pe_callTy call_int1 (by rfl) T.n_int (by decide +kernel) (pa_cons (pe_ix ix_list (pv 0) pe_int (fun _ _ => rfl)) pa_nil)) pe_int)))
      (C8.pss_cut (ps_set (i := 2) sc_law_pool.nd rfl (.inl rfl) (pe_mid (pe_ifExp (pt_cmpR op_ge (pv 1) pe_int (nomark _)) (pe_op op_mul pe_int (pv 1)) (pe_op op_sub (pe_un un_neg pe_int) (pe_op op_mul pe_int (pv 1))))))
      (pss_one (ps_ret (pe_lst (pa_cons (pe_mid (pe_ifExp (pt_cmpR op_ge (pv 2) (pe_op op_pow pe_int pe_int) (nomark _)) (pv 2) pe_int)) (pa_cons (pe_op op_add (pe_op op_mod (pe_callTy call_int1 (by rfl) T.n_int (by decide +kernel) (pa_cons (pe_op op_add (pe_op op_mul (pv 2) pe_int) pe_int) pa_nil)) pe_int) pe_int) (pa_cons (pe_callTy call_list_of (by rfl) T.n_list (by decide +kernel) (pa_cons (pe_slice sl_list (pv 0) (po_some pe_int) po_none) pa_nil)) pa_nil)))))))), ?_⟩
    refine ⟨fun σ' H' => H' = H ∧ ∃ i : Int, σ' = [some (.ref a), some (.int i), none], ?_, ?_⟩
    · refine ⟨fun v H' => H' = H ∧ ∃ i : Int, v = .int i, ?_, ?_⟩
      · refine ⟨_, rfl, a, _, rfl, .inl hS, _, _, rfl, rfl, _, rfl, ite2 (fun e => ?_) (fun e => ?_)⟩
        · cases ns with
          | nil => simp at e
          | cons n r => exact ⟨_, rfl, _, _, _, _, rfl, rfl, hS, atI_nat (j := 0) rfl, .inl ⟨_, rfl, rfl, _, rfl⟩⟩
        · exact ⟨rfl, _, rfl⟩
      · rintro v H' ⟨rfl, i, rfl⟩
        exact ⟨rfl, i, rfl⟩
    · rintro σ' H' ⟨rfl, i, rfl⟩
      refine ⟨fun σ' H1 => H1 = H' ∧ ∃ z : Int, 0 ≤ z ∧ σ' = [some (.ref a), some (.int i), some (.int z)], ?_, ?_⟩
      · refine ⟨fun v H1 => H1 = H' ∧ ∃ z : Int, 0 ≤ z ∧ v = .int z, ?_, ?_⟩
        · refine ⟨_, rfl, _, _, rfl, rfl, _, rfl, ite2 (fun e => ?_) (fun e => ?_)⟩
          · have e := of_decide_eq_true e
            exact ⟨_, rfl, _, _, rfl, rfl, .inl ⟨by decide, by decide⟩, rfl, _, by omega, rfl⟩
          · have e : ¬ (0 ≤ i) := fun z => e (decide_eq_true z)
            exact ⟨_, rfl, _, rfl, _, _, rfl, rfl, .inl ⟨by decide, by decide⟩, _, _, rfl, rfl, rfl, _, by omega, rfl⟩
        · rintro v H1 ⟨rfl, z, hz, rfl⟩
          exact ⟨rfl, z, hz, rfl⟩
      · rintro σ' H1 ⟨rfl, z, hz, rfl⟩
        have ym : 0 ≤ (z * 48271 + 1009) % 2147483629 + 3 ∧ (z * 48271 + 1009) % 2147483629 + 3 < 4294967296 := by omega
        refine ⟨fun v H' => H' = H1 ∧ ∃ x : Int, 0 ≤ x ∧ v = .int x, ?_, ?_⟩
        · refine ⟨_, rfl, _, _, rfl, rfl, ⟨by decide, by decide, by decide⟩, _, _, rfl, rfl, _, rfl, ite2 (fun e => ?_) (fun e => ?_)⟩
          · exact ⟨_, rfl, rfl, z, hz, rfl⟩
          · exact ⟨rfl, 0, by omega, rfl⟩
        · rintro v H' ⟨rfl, x, hx, rfl⟩
          refine ⟨_, rfl, _, _, rfl, rfl, .inr ⟨by decide, by decide⟩, _, _, rfl, rfl, .inl ⟨_, rfl, _, _, rfl, rfl, (by show (0:Int) < 2147483629; decide), _, _, rfl, rfl, ?_⟩⟩
          refine ⟨.ref a, rfl, 1, rfl, a, _, rfl, hS, fun c hc => ⟨c, _, rfl, .inl (.of upd_same), fun l hl0 => ⟨(by show 3 ≤ sizeLine; decide), fun p hp => ?_⟩⟩⟩
          have s1 : Ext [] H' (upd H' c (.lst (cutV (ns.map V.int) (some 1) none))) := .new hc
          have s2 := s1.trans (Ext.new (L := []) (o := .lst (cutV (ns.map V.int) (some 1) none)) hl0)
          have pl : p ≠ l := fun e => by rw [e, upd_same] at hp; cases hp
          have cut : ∃ ms : List Int, cutV (ns.map V.int) (some 1) none = ms.map V.int ∧ ms.length ≤ 63 := by
            unfold cutV
            exact ⟨(ns.drop _).take _, by rw [List.map_take, List.map_drop], by rw [List.length_take, List.length_drop]; omega⟩
          obtain ⟨ms, em, hm⟩ := cut
          refine q p l _ (s2.free hp) (s1.free hl0) ⟨pl, x, _, ms, upd_same, ?_, hx, ym.1, ym.2, hm⟩ (s2.trans (.new hp))
          rw [upd_ne pl.symm, upd_same, em]
theorem sc_law_draw : FnScope ["pool", "many", "cell", "size", "found"] ["pool", "many"] (defScope s_law_draw) := ⟨rfl, rfl, rfl, by decide +kernel, rfl, by decide +kernel, by decide +kernel⟩
def sp_law_draw : Sp := fun vs H Q _ => ∃ (p l : Addr) (m : Int), vs = [.ref p, .int m] ∧ PoolAt H p l ∧ 0 < m ∧ m < 1073741824 ∧ ∀ (r : Int) (H' : Hp), 0 ≤ r → r < m → PoolAt H' p l → Ext [p, l] H H' → Q (.int r) H'
theorem ok_law_draw (T : Tx K mg) : FnOk P w K mg base CX0 1 T.law_draw.f T.law_draw.fd ["pool", "many"] sp_law_draw := by
  refine T.law_draw.F.ok sc_law_draw (fun vs H Q E h => ?_) (fun cdv A outer s H vs Q E hr h => ?_)
  · obtain ⟨p, l, m, rfl, _⟩ := h; rfl
  · obtain ⟨p, l, m, rfl, hP, hm, hm2, q⟩ := h
    refine ⟨_, (C8.pss_cut (ps_if (PW.pt (pw_and (pt_cmpR op_eq (pe_ix ix_list (pv 0) pe_int (fun _ _ => rfl)) pe_int (nomark _)) (pw_and1 (pt_cmpR (op_neD (hr.units)) (pe_ix ix_list (pv 0) pe_int (fun _ _ => rfl)) (pe_lst pa_nil) (nomark _)))))
        (pss_cons (ps_set (i := 2) sc_law_draw.nd rfl (.inl rfl) (pe_callTy call_int1 (by rfl) T.n_int (by decide +kernel) (pa_cons (pe_bm PySem.F.plainAttrs_list PySem.F.slot_list_pop PySem.F.type_list_pop mt_popAt (pe_ix ix_list (pv 0) pe_int (fun _ _ => rfl)) (pa_cons pe_int pa_nil)) pa_nil)))
        (pss_cons (ps_set (i := 3) sc_law_draw.nd rfl (.inl rfl) (pe_mid (pe_ifExp (pt_cmpR op_ge (pv 2) pe_int (nomark _)) (pe_op op_mul pe_int (pv 2)) (pe_op op_sub (pe_un un_neg pe_int) (pe_op op_mul pe_int (pv 2))))))
        (pss_cons (ps_asg (pe_mid (pe_ifExp (pt_cmpR op_ge (pv 3) (pe_op op_pow pe_int pe_int) (nomark _)) (pv 3) pe_int)) (pg_sub (pv 0) pe_int set_list))
        (pss_one (ps_asg (pe_op op_add (pe_op op_mod (pe_callTy call_int1 (by rfl) T.n_int (by decide +kernel) (pa_cons (pe_op op_add (pe_ix ix_list (pv 0) pe_int (fun _ _ => rfl)) (pe_op op_mul (pv 3) pe_int)) pa_nil)) pe_int) pe_int) (pg_sub (pv 0) pe_int set_list))))))
        pss_nil)
      (pss_cons (ps_if (pt_cmpR op_gt (pe_ix ix_list (pv 0) pe_int (fun _ _ => rfl)) pe_int (nomark _))
        (pss_cons (ps_set (i := 4) sc_law_draw.nd rfl (.inl rfl) (pe_op op_mod (pe_callTy call_int1 (by rfl) T.n_int (by decide +kernel) (pa_cons (pe_ix ix_list (pv 0) pe_int (fun _ _ => rfl)) pa_nil)) (pv 1)))
        (pss_cons (ps_asg (pe_op op_fdiv (pe_ix ix_list (pv 0) pe_int (fun _ _ => rfl)) (pv 1)) (pg_sub (pv 0) pe_int set_list))
        (pss_one (ps_ret (pv 4)))))
        pss_nil)
      (pss_cons (ps_asg (pe_op op_mod (pe_callTy call_int1 (by rfl) T.n_int (by decide +kernel) (pa_cons (pe_op op_add (pe_op op_mul (pe_ix ix_list (pv 0) pe_int (fun _ _ => rfl)) pe_int) pe_int) pa_nil)) pe_int) (pg_sub (pv 0) pe_int set_list))
      (pss_one (ps_ret (pe_op op_mod (pe_op op_fdiv (pe_op op_mod (pe_callTy call_int1 (by rfl) T.n_int (by decide +kernel) (pa_cons (pe_op op_mul (pe_ix ix_list (pv 0) pe_int (fun _ _ => rfl)) (pe_ix ix_list (pv 0) pe_int (fun _ _ => rfl))) pa_nil)) pe_int) pe_int) (pv 1))))))), ?_⟩
    obtain ⟨npl, x, y, ns, hp, hl, hx, hy, hy2, hn⟩ := id hP
    refine ⟨fun σ' H' => PoolAt H' p l ∧ Ext [p, l] H H' ∧ ∃ a b c, σ' = [some (.ref p), some (.int m), a, b, c], ?_, ?_⟩
    · refine ⟨_, rfl, _, _, _, _, rfl, rfl, .of hp, atI_nat (j := 0) rfl, rfl, _, rfl, ite2 (fun e => ?_) (fun e => ?_)⟩
      · refine ⟨_, rfl, _, _, _, _, rfl, rfl, .of hp, atI_nat (j := 2) rfl, by decide, fun c hc => ?_⟩
        have s1 : Ext [] H (upd H c (.lst [])) := .new hc
        refine ⟨_, _, .lst (.of (s1.at hl (by simp))) (dp_ints ns), .lst (.of upd_same) .nil, shaped_ints ns, by decide, _, rfl, ?_⟩
        rw [eqv_nil]
        cases ns with
        | nil =>
          rw [decide_eq_true rfl]
          exact iteF ⟨hP.ext0 s1, s1.weak, _, _, _, rfl⟩
        | cons n r =>
          rw [decide_eq_false (by simp)]
          refine iteT ?_
          have hp1 := s1.at hp (by simp)
          have hl1 := s1.at hl (by simp)
          -- cell
          refine ⟨_, rfl, _, _, _, _, rfl, rfl, .of hp1, atI_nat (j := 2) rfl, .inl ⟨rfl, _, .of hl1⟩, l, _, 0, 0, .int n, rfl, rfl, hl1, by decide, by decide, (by simp [seqIndex?]), rfl, .inl ⟨_, rfl, ?_⟩⟩
          have hp2 : upd (upd H c (.lst [])) l (.lst (((n :: r).map V.int).eraseIdx 0)) p = some (.lst [.int x, .int y, .ref l]) := by rw [upd_ne npl]; exact hp1
          have hl2 : upd (upd H c (.lst [])) l (.lst (((n :: r).map V.int).eraseIdx 0)) l = some (.lst (r.map V.int)) := upd_same
          have s2 : Ext [p, l] H (upd (upd H c (.lst [])) l (.lst (((n :: r).map V.int).eraseIdx 0))) := s1.weak.trans (.wr (by simp))
          generalize upd (upd H c (.lst [])) l (.lst (((n :: r).map V.int).eraseIdx 0)) = H2 at hp2 hl2 s2
          -- size
          refine ⟨fun v H1 => H1 = H2 ∧ ∃ z : Int, 0 ≤ z ∧ v = .int z, ?_, ?_⟩
          · refine ⟨_, rfl, _, _, rfl, rfl, _, rfl, ite2 (fun e => ?_) (fun e => ?_)⟩
            · have e := of_decide_eq_true e
              exact ⟨_, rfl, _, _, rfl, rfl, .inl ⟨by decide, by decide⟩, rfl, _, by omega, rfl⟩
            · have e : ¬ (0 ≤ n) := fun z => e (decide_eq_true z)
              exact ⟨_, rfl, _, rfl, _, _, rfl, rfl, .inl ⟨by decide, by decide⟩, _, _, rfl, rfl, rfl, _, by omega, rfl⟩
          · rintro v H1 ⟨rfl, z, hz, rfl⟩
            -- pool[0]
            refine ⟨fun v H' => H' = H1 ∧ ∃ x : Int, 0 ≤ x ∧ v = .int x, ?_, ?_⟩
            · refine ⟨_, rfl, _, _, rfl, rfl, ⟨by decide, by decide, by decide⟩, _, _, rfl, rfl, _, rfl, ite2 (fun e => ?_) (fun e => ?_)⟩
              · exact ⟨_, rfl, rfl, z, hz, rfl⟩
              · exact ⟨rfl, 0, by omega, rfl⟩
            · rintro v H' ⟨rfl, x2, hx2, rfl⟩
              refine ⟨_, rfl, p, _, 0, 0, rfl, rfl, hp2, rfl, ?_⟩
              -- pool[1]
              refine ⟨_, rfl, _, _, _, _, rfl, rfl, .of upd_same, atI_nat (j := 1) rfl, _, rfl, _, _, rfl, rfl, .inr ⟨by decide, by decide⟩, _, _, rfl, rfl, .inl ⟨_, rfl, _, _, rfl, rfl, (by show (0:Int) < 2147483629; decide), _, _, rfl, rfl, ?_⟩⟩
              refine ⟨_, rfl, p, _, 1, 1, rfl, rfl, upd_same, rfl, ?_⟩
              rw [upd_upd]
              refine ⟨⟨npl, x2, _, r, upd_same, by rw [upd_ne npl.symm]; exact hl2, hx2, ?_, ?_, ?_⟩, s2.trans (.wr (by simp)), _, _, _, rfl⟩
              · omega
              · omega
              · simp at hn; omega
      · exact iteF ⟨hP, .refl, _, _, _, rfl⟩
    · rintro σ' H1 ⟨⟨npl, x, y, ns, hp, hl, hx, hy, hy2, hn⟩, e1, a, b, c, rfl⟩
      refine ⟨_, rfl, _, _, _, _, rfl, rfl, .of hp, atI_nat (j := 0) rfl, _, _, rfl, rfl, _, rfl, ite2 (fun e => ?_) (fun e => ?_)⟩
      · refine ⟨_, rfl, _, _, _, _, rfl, rfl, .of hp, atI_nat (j := 0) rfl, .inl ⟨_, rfl, _, rfl, _, _, rfl, rfl, hm, ?_⟩⟩
        refine ⟨_, rfl, _, _, _, _, rfl, rfl, .of hp, atI_nat (j := 0) rfl, _, rfl, _, _, rfl, rfl, ⟨hm, hm2⟩, _, rfl, p, _, 0, 0, rfl, rfl, hp, rfl, ?_⟩
        refine ⟨_, rfl, q _ _ (Int.emod_nonneg _ (by omega)) (Int.emod_lt_of_pos _ hm) ⟨npl, x / m, y, ns, upd_same, by rw [upd_ne npl.symm]; exact hl, Int.ediv_nonneg hx (by omega), hy, hy2, hn⟩ (e1.trans (.wr (by simp)))⟩
      · refine ⟨_, rfl, _, _, _, _, rfl, rfl, .of hp, atI_nat (j := 1) rfl, _, _, rfl, rfl, .inr ⟨by decide, by decide⟩, _, _, rfl, rfl, .inl ⟨_, rfl, _, _, rfl, rfl, (by show (0:Int) < 2147483647; decide), ?_⟩⟩
        refine ⟨_, rfl, p, _, 1, 1, rfl, rfl, hp, rfl, ?_⟩
        have yb : 0 ≤ (y * 48271 + 11) % 2147483647 ∧ (y * 48271 + 11) % 2147483647 < 2147483647 := by omega
        refine ⟨_, rfl, _, _, _, _, rfl, rfl, .of upd_same, atI_nat (j := 1) rfl, _, rfl, _, _, _, _, rfl, rfl, .of upd_same, atI_nat (j := 1) rfl, _, _, rfl, rfl, .inl ⟨by omega, by omega⟩, .inl ⟨_, rfl, _, _, rfl, rfl, (by show (0:Int) < 2147483629; decide), _, _, rfl, rfl, ⟨by decide, by decide⟩, _, rfl, _, _, rfl, rfl, hm, ?_⟩⟩
        exact q _ _ (Int.emod_nonneg _ (by omega)) (Int.emod_lt_of_pos _ hm) ⟨npl, x, _, ns, upd_same, by rw [upd_ne npl.symm]; exact hl, hx, yb.1, by omega, hn⟩ (e1.trans (.wr (by simp)))
theorem sc_law_pick : FnScope ["pool", "things"] ["pool", "things"] (defScope s_law_pick) := ⟨rfl, rfl, rfl, by decide +kernel, rfl, by decide +kernel, by decide +kernel⟩
def sp_law_pick (K : PySem.W.Frag) : Sp := fun vs H Q _ => ∃ (p l t : Addr) (xs : List V), vs = [.ref p, .ref t] ∧ PoolAt H p l ∧ SqL K H t xs ∧ t ≠ p ∧ t ≠ l ∧ 0 < xs.length ∧ xs.length < 1000 ∧ ∀ (i : Nat) (v : V) (H' : Hp), xs[i]? = some v → PoolAt H' p l → Ext [p, l] H H' → Q v H'
theorem ok_law_pick (T : Tx K mg) : FnOk P w K mg base CX0 2 T.law_pick.f T.law_pick.fd ["pool", "things"] (sp_law_pick K) := by
  refine T.law_pick.F.ok sc_law_pick (fun vs H Q E h => ?_) (fun cdv A outer s H vs Q E hr h => ?_)
  · obtain ⟨p, l, t, xs, rfl, _⟩ := h; rfl
  · obtain ⟨p, l, t, xs, rfl, hP, hS, n1, n2, h0, h1, q⟩ := h
    refine ⟨_, (pss_one (ps_ret (pe_ix ix_list (pv 1) (pe_call (ok_law_draw T) (hr.mono (by decide)) (by rfl) T.law_draw.g T.law_draw.F.kp T.law_draw.b .nil pass0 (pa_cons (pv 0) (pa_cons (pe_callB call_len_seq (by rfl) T.n_len PySem.boot_len (pa_cons (pv 1) pa_nil)) pa_nil))) (fun _ _ => rfl)))), ?_⟩
    refine ⟨_, rfl, _, rfl, _, rfl, t, xs, rfl, .inl hS, p, l, _, rfl, hP, by omega, by omega, fun r H' r0 r1 hP' e => ?_⟩
    obtain ⟨i, rfl⟩ : ∃ i : Nat, r = (i : Int) := ⟨r.toNat, by omega⟩
    have hi : i < xs.length := by omega
    exact ⟨t, xs, _, xs[i], rfl, rfl, e.frz (by simp [n1, n2]) hS, atI_nat (List.getElem?_eq_getElem hi), q i _ _ (List.getElem?_eq_getElem hi) hP' e⟩
end
end Nv
set_option Elab.async false
set_option linter.all false
set_option maxRecDepth 100000
namespace Nv
open PySem PySem.Spec PyProof.Rows L2
section
variable {P : Program} {w : World} {K : PySem.W.Frag} {mg : Str → Option Value} {base : Heap}
/-! ### the law's books: meeting -/
theorem sc_law_book_meeting : FnScope ["moves", "found", "at", "message", "to", "state"] ["moves"] (defScope s_law_book_meeting) := ⟨rfl, rfl, rfl, by decide +kernel, rfl, by decide +kernel, by decide +kernel⟩
def sp_law_book_meeting (K : PySem.W.Frag) : Sp := fun vs H Q _ => ∃ (m : V) (b : Book), vs = [m] ∧ LbV K H m b ∧ 1 ≤ b.length ∧ b.length ≤ 1000 ∧ (∀ s, (mvs b s).length ≤ 1000 ∧ ∀ p ∈ mvs b s, p.2 < b.length) ∧ ∀ (F : List Nat) (v : V) (H' : Hp), Met b F → BkV K H' v (rename b F) → Ext [] H H' → Q v H'
theorem ok_law_book_meeting (T : Tx K mg) : FnOk P w K mg base CX0 1 T.law_book_meeting.f T.law_book_meeting.fd ["moves"] (sp_law_book_meeting K) := by
  refine T.law_book_meeting.F.ok sc_law_book_meeting (fun vs H Q E h => ?_) (fun cdv A outer s H vs Q E hr h => ?_)
  · obtain ⟨m, b, rfl, _⟩ := h; rfl
  · obtain ⟨_, b, rfl, ⟨m, ls, rfl, hm, hls⟩, h1, h2, hto, q⟩ := h
    have llen : ls.length = b.length := Paired.len hls
    refine ⟨_, (pss_cons (ps_set (i := 1) sc_law_book_meeting.nd rfl (.inr rfl) (pe_lst (pa_cons pe_int pa_nil)))
      (C8.pss_cut (ps_for PassesOwn.never rfl (pi_range1 (by rfl) T.n_range (pa_cons (pe_callB call_len_seq (by rfl) T.n_len PySem.boot_len (pa_cons (pv 0) pa_nil)) pa_nil)) (pg_name (i := 2) sc_law_book_meeting.nd rfl (.inl rfl))
        (pss_cons (ps_if (pt_cmpR op_eq (pv 2) (pe_callB call_len_seq (by rfl) T.n_len PySem.boot_len (pa_cons (pv 1) pa_nil)) (nomark _))
          (pss_one ps_break)
          pss_nil)
        (pss_one (ps_for PassesOwn.never rfl (pi_list (pe_ix ix_list (pv 0) (pe_ix ix_list (pv 1) (pv 2) (fun _ _ => rfl)) (fun _ _ => rfl))) (pg_tup rfl (pgs_cons (pg_name (i := 3) sc_law_book_meeting.nd rfl (.inl rfl)) (pgs_cons (pg_name (i := 4) sc_law_book_meeting.nd rfl (.inl rfl)) pgs_nil)))
          (pss_one (ps_if (pt_cmpR op_notIn_seq (pv 4) (pv 1) (by rfl))
            (pss_one (ps_expr (pe_bm PySem.F.plainAttrs_list PySem.F.slot_list_append PySem.F.type_list_append mt_append (pv 1) (pa_cons (pv 4) pa_nil))))
            pss_nil))))))
      (pss_one (ps_ret (pe_callTy call_tupZ (by rfl) T.n_tuple (by decide +kernel) (pa_cons (pe_lc (own := [("state", 5)]) rfl sc_law_book_meeting.nd (pi_list (pv 1)) (blkOk_by (own := [("state", 5)]) (N := ["moves", "found", "at", "message", "to", "state"]) (sc := defScope s_law_book_meeting) (by decide +kernel)) (fun _ _ _ _ _ => (pg_name (i := 5) sc_law_book_meeting.nd rfl (.inl rfl))) (fun _ _ _ _ _ => pts_nil) (fun _ _ _ _ _ => (pe_callTy (call_tupZK K) (by rfl) T.n_tuple (by decide +kernel) (pa_cons (pe_lc (own := [("message", 3), ("to", 4)]) rfl sc_law_book_meeting.nd (pi_listK K (pe_ix (ix_listK K) (pv 0) (pv 5) (fun _ _ => rfl))) (blkOk_by (own := [("message", 3), ("to", 4)]) (by kernel_rfl)) (fun _ _ _ _ _ => (pg_tupK (n := 2) K rfl (pgs_cons (pg_name (i := 3) sc_law_book_meeting.nd rfl (.inl rfl)) (pgs_cons (pg_name (i := 4) sc_law_book_meeting.nd rfl (.inl rfl)) pgs_nil)))) (fun _ _ _ _ _ => pts_nil) (fun _ _ _ _ _ => (pe_tup (pa_cons (pv 3) (pa_cons (pe_bmK K PySem.F.plainAttrs_list PySem.F.slot_list_index PySem.F.type_list_index (mt_indexK K) (pv 1) (pa_cons (pv 4) pa_nil)) pa_nil))))) pa_nil)))) pa_nil)))))), ?_⟩
    -- found = [0]
    refine ⟨(by show 1 ≤ sizeLine; decide), fun f hf => ?_⟩
    have e0 : Ext [] H (upd H f (.lst [.int 0])) := .new hf
    have mf : m ≠ f := ne_of_none hm hf
    refine ⟨fun σ H' => ∃ (F : List Nat) (y2 y3 y4 : Option V), σ = [some (.ref m), some (.ref f), y2, y3, y4, none] ∧ Met b F ∧ Ext [] H H' ∧ H' f = some (.lst (F.map nV)), ?_, ?_⟩
    · refine ⟨_, rfl, m, ls, rfl, .inl (.of (e0.at hm (by simp))), _, rfl, by omega, by omega, for_range (lo := 0) (n := _) (fun i σ H' => ∃ (F : List Nat) (y2 y3 y4 : Option V), σ = [some (.ref m), some (.ref f), y2, y3, y4, none] ∧ MetI b F i ∧ Ext [] H H' ∧ H' f = some (.lst (F.map nV))) ⟨[0], _, _, _, rfl, .first h1, e0, upd_same⟩ ?_ ?_⟩
      · rintro i σ H' hi ⟨F, y2, y3, y4, rfl, mi, e, hF⟩
        simp only [Int.zero_add]
        have hin : i < b.length := by
          have : ((ls.length : Int)).toNat = ls.length := Int.toNat_natCast _
          omega
        -- if at == len(found)
        refine ⟨_, rfl, _, rfl, f, _, rfl, .inl (.of hF), rfl, _, rfl, ?_⟩
        rw [dec_int]
        refine ite2 (fun z => ?_) (fun z => ?_)
        · have z := of_decide_eq_true z
          rw [List.length_map] at z
          exact ⟨F, _, _, _, rfl, mi.met (.inl (by omega)), e, hF⟩
        · have z : ¬ ((i : Int) = ((F.map nV).length : Int)) := fun y => z (decide_eq_true y)
          rw [List.length_map] at z
          have hiF : i < F.length := by have := mi.le; omega
          have hs : F[i]? = some F[i] := List.getElem?_eq_getElem hiF
          generalize F[i] = x at hs
          have hx : x < b.length := mi.lt x (List.mem_of_getElem? hs)
          -- for message, to in moves[found[at]]
          obtain ⟨u, hu, hst⟩ := Paired.get hls (mvs_lt hx)
          obtain ⟨a, ps, rfl, ha, hps⟩ := hst
          refine ⟨_, rfl, _, rfl, _, rfl, f, _, _, _, rfl, rfl, .of hF, atI_nat (at_map hs), m, _, _, _, rfl, rfl, .of (e.at hm (by simp)), atI_nat hu, a, rfl, ⟨_, .of (e.at ha (by simp))⟩, ?_⟩
          have plen : ps.length = (mvs b x).length := Paired.len hps
          refine for_list (K := K) (a := a) (xs := ps.map V.ref) (fun k σ H' => ∃ (F : List Nat) (y3 y4 : Option V), σ = [some (.ref m), some (.ref f), some (.int i), y3, y4, none] ∧ MetW b F i x k ∧ Ext [] H H' ∧ H' f = some (.lst (F.map nV))) ⟨F, _, _, rfl, mi.begin hs, e, hF⟩ (fun k σ H' _ ⟨_, _, _, _, _, e, _⟩ => .of (e.at ha (by simp))) ?_ ?_
          · rintro k v σ H' hv ⟨F, y3, y4, rfl, mw, e, hF⟩
            obtain ⟨c, hc, rfl⟩ := map_at hv
            obtain ⟨p, hp, hcp⟩ := Paired.get' hps hc
            have hcp := hcp.ext0 e
            refine ⟨c, _, rfl, hcp, rfl, _, _, rfl, _, _, rfl, rfl, ?_⟩
            refine ⟨_, rfl, _, rfl, f, _, rfl, .inl (.of hF), rfl, flat_nV F, _, rfl, ?_⟩
            have pb : p.2 < b.length := (hto x).2 p (List.mem_of_getElem? hp)
            rw [show inV (V.int (p.2 : Int)) (F.map nV) = decide (p.2 ∈ F) from inV_nV p.2 F]
            by_cases hin : p.2 ∈ F
            · rw [decide_eq_true hin]
              exact iteF ⟨F, _, _, rfl, mw.skip hp hin, e, hF⟩
            · rw [decide_eq_false hin]
              have hl1000 : F.length ≤ 1000 := Nat.le_trans (nodup_le mw.nd mw.lt) h2
              refine iteT ⟨_, rfl, .inl ⟨rfl, _, .of hF⟩, _, rfl, f, _, _, rfl, rfl, hF, by rw [List.length_map]; exact small1000 hl1000, F ++ [p.2], _, _, rfl, mw.push hp hin pb, e.put hf, ?_⟩
              rw [upd_same, List.map_append]
              rfl
          · rintro σ H' ⟨F, y3, y4, rfl, mw, e, hF⟩
            exact ⟨F, _, _, _, rfl, mw.done (by rw [List.length_map, plen]; exact Nat.le_refl _), e, hF⟩
      · rintro σ H' ⟨F, y2, y3, y4, rfl, mi, e, hF⟩
        exact ⟨F, _, _, _, rfl, mi.met (.inr (by rw [Int.toNat_natCast, llen])), e, hF⟩
    · rintro σ H1 ⟨F, y2, y3, y4, rfl, mt, e1, hF⟩
      have hl1000 : F.length ≤ 1000 := Nat.le_trans (nodup_le mt.nd mt.lt) h2
      -- the new book
      refine ⟨_, rfl, f, rfl, ⟨_, .of hF⟩, fun D hD => ?_⟩
      have fD : f ≠ D := ne_of_none hF hD
      have hDH : H D = none := e1.free hD
      refine lc_list (K := K) (a := f) (xs := F.map nV) (fun i H' => ∃ vs : List V, H' D = some (.lst vs) ∧ Paired (StV K H') vs ((rename b F).take i) ∧ Ext [] H H' ∧ H' f = some (.lst (F.map nV))) ⟨[], upd_same, .nil, e1.put2 hD, by rw [upd_ne fD]; exact hF⟩ (fun i H' _ ⟨_, _, _, _, h⟩ => .of h) ?_ ?_
      · rintro i v H' hv ⟨vs, hDv, hpd, e, hF'⟩
        obtain ⟨x, hx, rfl⟩ := map_at hv
        have hxb : x < b.length := mt.lt x (List.mem_of_getElem? hx)
        obtain ⟨u, hu, a, ps, rfl, ha, hps⟩ := Paired.get hls (mvs_lt hxb)
        have plen : ps.length = (mvs b x).length := Paired.len hps
        refine ⟨rfl, yes ?_⟩
        refine ⟨_, rfl, _, rfl, m, _, _, _, rfl, rfl, .of (e.at hm (by simp)), atI_nat hu, a, rfl, ⟨_, .of (e.at ha (by simp))⟩, fun D2 hD2 => ?_⟩
        have hD2H : H D2 = none := e.free hD2
        have n1 : D ≠ D2 := ne_of_none hDv hD2
        have n2 : f ≠ D2 := ne_of_none hF' hD2
        refine lc_list (K := K) (a := a) (xs := ps.map V.ref) (fun k H2 => ∃ qs : List Addr, H2 D2 = some (.lst (qs.map V.ref)) ∧ Paired (MvV K H2) qs (((mvs b x).take k).map fun p => (p.1, F.idxOf p.2)) ∧ Ext [] H' H2) ⟨[], upd_same, .nil, .new hD2⟩ (fun k H2 _ ⟨_, _, _, e2⟩ => .of ((e.trans e2).at ha (by simp))) ?_ ?_
        · rintro k v H2 hv ⟨qs, hq, hqp, e2⟩
          obtain ⟨c, hc, rfl⟩ := map_at hv
          obtain ⟨p, hp, hcp⟩ := Paired.get' hps hc
          have hcp := hcp.ext0 (e.trans e2)
          have hF2 := e2.at hF' (by simp)
          have pin : p.2 ∈ F := mt.cl x (List.mem_of_getElem? hx) p (List.mem_of_getElem? hp)
          have hidx : F.idxOf p.2 < F.length := List.idxOf_lt_length_of_mem pin
          refine ⟨c, _, rfl, hcp, rfl, _, _, rfl, _, _, rfl, rfl, rfl, yes ?_⟩
          refine ⟨_, rfl, _, rfl, .inl ⟨rfl, _, .of hF2⟩, _, rfl, f, _, _, F.idxOf p.2, nV p.2, rfl, rfl, .of hF2, rfl, flat_nV F, ?_, by rw [show V.int (p.2 : Int) = nV p.2 from rfl, eqV_nV]; simp, ?_, ?_⟩
          · exact at_map (by rw [List.getElem?_eq_getElem hidx, List.getElem_idxOf])
          · intro j z hj hz
            obtain ⟨y, hy, rfl⟩ := map_at hz
            rw [show V.int (p.2 : Int) = nV p.2 from rfl, eqV_nV]
            refine decide_eq_false fun ey => ?_
            subst ey
            have := idx_of mt.nd hy
            omega
          · refine ⟨(by show 2 ≤ sizeLine; decide), fun t ht => ?_⟩
            have tD2 : D2 ≠ t := ne_of_none hq ht
            have e3 : Ext [] H2 (upd H2 t (.tup [.int p.1, .int (F.idxOf p.2 : Nat)])) := .new ht
            refine ⟨_, e3.at hq (by simp), ?_, qs ++ [t], by rw [upd_same, List.map_append]; rfl, ?_, (e2.trans e3).put hD2⟩
            · rw [List.length_map, Paired.len hqp, List.length_map, List.length_take]
              exact small1000 (Nat.le_trans (Nat.min_le_right _ _) (hto x).1)
            · rw [List.take_add_one, hp, List.map_append]
              refine Paired.snoc ?_ (Paired.imp hqp fun _ _ z => (z.ext0 e3).put (e3.at hq (by simp)))
              exact MvV.put (m := (p.1, F.idxOf p.2)) (.of upd_same) (e3.at hq (by simp))
        · rintro H2 ⟨qs, hq, hqp, e2⟩
          have ek : (mvs b x).take (ps.map V.ref).length = mvs b x := List.take_of_length_le (by rw [List.length_map, plen]; exact Nat.le_refl _)
          rw [ek] at hqp
          refine ⟨D2, _, rfl, .of hq, fun t H3 ht hH3 => ?_⟩
          obtain ⟨o, od, rfl⟩ := hH3
          have e3 : Ext [] H2 (upd H2 t (.frz o (.tup (qs.map V.ref)))) := .new ht
          have e4 := e2.trans e3
          refine ⟨vs, e4.at hDv (by simp), ?_, vs ++ [.ref t], upd_same, ?_, (e.trans e4).put hDH, by rw [upd_ne fD]; exact e4.at hF' (by simp)⟩
          · rw [Paired.len hpd, List.length_take]
            exact small1000 (Nat.le_trans (Nat.min_le_right _ _) (by rw [rename_len]; exact hl1000))
          · have hr' : (rename b F)[i]? = some ((mvs b x).map fun p => (p.1, F.idxOf p.2)) := by
              unfold rename
              rw [List.getElem?_map, hx]
              rfl
            rw [List.take_add_one, hr']
            have hDe := e4.at hDv (by simp)
            refine Paired.snoc ?_ (Paired.imp hpd fun _ _ z => (z.ext0 e4).put hDe)
            exact StV.put ⟨t, qs, rfl, ⟨o, upd_same, od⟩, Paired.imp hqp fun _ _ z => z.ext0 e3⟩ hDe
      · rintro H' ⟨vs, hDv, hpd, e, hF'⟩
        refine ⟨D, vs, rfl, .of hDv, fun t H3 ht hH3 => ?_⟩
        obtain ⟨o, od, rfl⟩ := hH3
        have e3 : Ext [] H' (upd H' t (.frz o (.tup vs))) := .new ht
        have ek : (rename b F).take (F.map nV).length = rename b F := List.take_of_length_le (by rw [List.length_map, rename_len]; exact Nat.le_refl _)
        rw [ek] at hpd
        exact q F _ _ mt ⟨t, vs, rfl, .inl (.inr ⟨o, upd_same⟩), Paired.imp hpd fun _ _ z => z.ext0 e3⟩ (e.trans e3)
end
end Nv
set_option Elab.async false
set_option linter.all false
set_option maxRecDepth 100000
namespace Nv
open PySem PySem.Spec PyProof.Rows L2
section
variable {P : Program} {w : World} {K : PySem.W.Frag} {mg : Str → Option Value} {base : Heap}
/-! ### the law's books: messages -/
theorem seqAt {k n : Nat} (h : k < n) : seqIndex? (k : Int) n = some k := by
  unfold seqIndex?
  have h1 : ¬ ((k : Int) < 0) := by omega
  have h2 : (0 : Int) ≤ k := by omega
  have h3 : (k : Int) < n := by omega
  simp [h1, h2, h3]
theorem sorted_nats {F : List Nat} {ns : List Int} (nd : F.Nodup) (p : ns.Perm (F.map fun n : Nat => (n : Int))) (r : ns.Pairwise (· ≤ ·)) : ∃ ms : List Nat, ns.map V.int = ms.map nV ∧ ms.Perm F ∧ ms.Pairwise (· < ·) := by
  have nn : ∀ z ∈ ns, ∃ n : Nat, z = (n : Int) := fun z hz => by
    obtain ⟨n, _, rfl⟩ := List.mem_map.mp (p.mem_iff.mp hz)
    exact ⟨n, rfl⟩
  have nd2 : ns.Nodup := by
    rw [p.nodup_iff]
    refine List.Pairwise.map _ (fun a b h e => h ?_) nd
    exact Int.ofNat.inj e
  have r2 := lt_of_le_nodup ns r nd2
  refine ⟨ns.map Int.toNat, ?_, ?_, ?_⟩
  · rw [List.map_map]
    refine List.map_congr_left fun z hz => ?_
    obtain ⟨n, rfl⟩ := nn z hz
    rfl
  · have q := p.map Int.toNat
    rw [List.map_map] at q
    have e : F.map (Int.toNat ∘ fun n : Nat => (n : Int)) = F := by
      conv => rhs; rw [← List.map_id F]
      exact List.map_congr_left fun z _ => rfl
    rw [e] at q
    exact q
  · rw [List.pairwise_map]
    refine List.Pairwise.imp_of_mem (fun {a b} ha hb h => ?_) r2
    obtain ⟨n, rfl⟩ := nn a ha
    obtain ⟨m, rfl⟩ := nn b hb
    simp
    omega
theorem map_nV_int (F : List Nat) : F.map nV = (F.map fun n : Nat => (n : Int)).map V.int := by rw [List.map_map]; rfl
theorem rgV_nV (n : Nat) : rgV 0 (n : Int) = (List.range n).map nV := by
  unfold rgV
  simp
theorem sc_law_book_messages : FnScope ["pool", "count", "way", "top", "left", "found", "turn"] ["pool", "count"] (defScope s_law_book_messages) := ⟨rfl, rfl, rfl, by decide +kernel, rfl, by decide +kernel, by decide +kernel⟩
def sp_law_book_messages : Sp := fun vs H Q _ => ∃ (p l : Addr) (c : Nat), vs = [.ref p, .int c] ∧ PoolAt H p l ∧ c ≤ 6 ∧ ∀ (ms : List Nat) (t : Addr) (H' : Hp), ms.Pairwise (· < ·) → ms.length = c → (∀ m ∈ ms, m ≤ 99) → H' t = some (.lst (ms.map nV)) → H t = none → PoolAt H' p l → Ext [p, l] H H' → Q (.ref t) H'
theorem ok_law_book_messages (T : Tx K mg) : FnOk P w K mg base CX0 2 T.law_book_messages.f T.law_book_messages.fd ["pool", "count"] sp_law_book_messages := by
  refine T.law_book_messages.F.ok sc_law_book_messages (fun vs H Q E h => ?_) (fun cdv A outer s H vs Q E hr h => ?_)
  · obtain ⟨p, l, c, rfl, _⟩ := h; rfl
  · obtain ⟨p, l, c, rfl, hP, hc, q⟩ := h
    refine ⟨_, (pss_cons (ps_set (i := 2) sc_law_book_messages.nd rfl (.inl rfl) (pe_call (ok_law_draw T) (hr.mono (by decide)) (by rfl) T.law_draw.g T.law_draw.F.kp T.law_draw.b .nil pass0 (pa_cons (pv 0) (pa_cons pe_int pa_nil))))
      (C8.pss_cut (ps_set (i := 3) sc_law_book_messages.nd rfl (.inl rfl) (pe_ix ix_list (pe_lst (pa_cons (pv 1) (pa_cons (pv 1) (pa_cons (pe_callB (call_min2 rfl) (by rfl) T.n_min (by decide +kernel) (pa_cons (pe_op op_add (pv 1) pe_int) (pa_cons pe_int pa_nil))) (pa_cons pe_int pa_nil))))) (pv 2) (fun _ _ => rfl)))
      (pss_cons (ps_par (i := 4) (j := 5) (by rfl) sc_law_book_messages.nd rfl rfl (by decide) rfl rfl (pa_cons (pe_listRg rfl (by rfl) T.n_list (prg_1 (by rfl) T.n_range (pv 3))) (pa_cons (pe_lst pa_nil) pa_nil)) (by rfl))
      (pss_cons (ps_for PassesOwn.never rfl (pi_range1 (by rfl) T.n_range (pa_cons (pv 1) pa_nil)) (pg_name (i := 6) sc_law_book_messages.nd rfl (.inl rfl))
        (pss_one (ps_expr (pe_bm PySem.F.plainAttrs_list PySem.F.slot_list_append PySem.F.type_list_append mt_append (pv 5) (pa_cons (pe_bm PySem.F.plainAttrs_list PySem.F.slot_list_pop PySem.F.type_list_pop mt_popAt (pv 4) (pa_cons (pe_mid (pe_ifExp (pt_cmpR op_lt (pv 2) pe_int (nomark _)) (pe_call (ok_law_draw T) (hr.mono (by decide)) (by rfl) T.law_draw.g T.law_draw.F.kp T.law_draw.b .nil pass0 (pa_cons (pv 0) (pa_cons (pe_callB call_len_seq (by rfl) T.n_len PySem.boot_len (pa_cons (pv 4) pa_nil)) pa_nil))) (pe_op op_sub (pe_op op_sub (pe_callB call_len_seq (by rfl) T.n_len PySem.boot_len (pa_cons (pv 4) pa_nil)) pe_int) (pe_call (ok_law_draw T) (hr.mono (by decide)) (by rfl) T.law_draw.g T.law_draw.F.kp T.law_draw.b .nil pass0 (pa_cons (pv 0) (pa_cons pe_int pa_nil)))))) pa_nil)) pa_nil)))))
      (pss_one (ps_ret (pe_callB cr_sorted (by rfl) T.n_sorted (by decide +kernel) (pa_cons (pv 5) pa_nil)))))))), ?_⟩
    -- way
    refine ⟨_, rfl, p, l, 4, rfl, hP, by decide, by decide, fun r H1 r0 r1 P1 e1 => ?_⟩
    -- top
    refine ⟨fun σ H' => ∃ top : Nat, σ = [some (.ref p), some (.int c), some (.int r), some (.int top), none, none, none] ∧ c ≤ top ∧ top ≤ 100 ∧ (r < 3 ∨ top = 100) ∧ PoolAt H' p l ∧ Ext [p, l] H H', ?_, ?_⟩
    · refine ⟨_, rfl, _, rfl, _, rfl, _, _, rfl, rfl, _, _, rfl, (by show 4 ≤ sizeLine; decide), fun d hd => ?_⟩
      have e2 : Ext [] H1 (upd H1 d (.lst [.int c, .int c, .int (if (6 : Int) < (c : Int) + 2 then 6 else (c : Int) + 2), .int 100])) := .new hd
      have m : ∃ t : Nat, (if (6 : Int) < (c : Int) + 2 then 6 else (c : Int) + 2) = t ∧ c ≤ t ∧ t ≤ 100 := by
        by_cases h : (6 : Int) < (c : Int) + 2
        · rw [if_pos h]; exact ⟨6, rfl, hc, by decide⟩
        · rw [if_neg h]; exact ⟨c + 2, by simp, by omega, by omega⟩
      obtain ⟨t, ht, t1, t2⟩ := m
      have four : r = 0 ∨ r = 1 ∨ r = 2 ∨ r = 3 := by omega
      have pe := P1.ext0 e2
      have ee := e1.trans e2.weak
      rcases four with rfl | rfl | rfl | rfl
      · exact ⟨_, rfl, d, _, _, _, rfl, rfl, .of upd_same, atI_nat (j := 0) rfl, c, rfl, Nat.le_refl _, by omega, .inl (by decide), pe, ee⟩
      · exact ⟨_, rfl, d, _, _, _, rfl, rfl, .of upd_same, atI_nat (j := 1) rfl, c, rfl, Nat.le_refl _, by omega, .inl (by decide), pe, ee⟩
      · exact ⟨_, rfl, d, _, _, _, rfl, rfl, .of upd_same, atI_nat (j := 2) rfl, t, by rw [ht]; rfl, t1, t2, .inl (by decide), pe, ee⟩
      · exact ⟨_, rfl, d, _, _, _, rfl, rfl, .of upd_same, atI_nat (j := 3) rfl, 100, rfl, by omega, Nat.le_refl _, .inr rfl, pe, ee⟩
    · rintro σ H2 ⟨top, rfl, c1, c2, c3, P2, e2⟩
      -- left, found
      refine ⟨_, rfl, _, rfl, RgOk.of_le (by omega) (by omega) (by omega) (by omega), fun lf hlf => ⟨Nat.zero_le _, fun fd hfd => ⟨_, _, rfl, ?_⟩⟩⟩
      rw [rgV_nV] at hfd ⊢
      have e3 : Ext [] H2 (upd H2 lf (.lst ((List.range top).map nV))) := .new hlf
      have e4 := e3.trans (Ext.new (L := []) (o := .lst []) hfd)
      have nlf : fd ≠ lf := fun z => by rw [z, upd_same] at hfd; cases hfd
      have h2p : H2 p ≠ none := by obtain ⟨_, _, _, _, a, _⟩ := P2; rw [a]; simp
      have h2l : H2 l ≠ none := by obtain ⟨_, _, _, _, _, a, _⟩ := P2; rw [a]; simp
      have n1 : lf ≠ p := fun z => h2p (z ▸ hlf)
      have n2 : lf ≠ l := fun z => h2l (z ▸ hlf)
      have hfd2 := e3.free hfd
      have n3 : fd ≠ p := fun z => h2p (z ▸ hfd2)
      have n4 : fd ≠ l := fun z => h2l (z ▸ hfd2)
      have f1 : H lf = none := e2.free2 hlf (off2 n1 n2)
      have f2 : H fd = none := e2.free2 hfd2 (off2 n3 n4)
      -- the loop
      refine ⟨_, rfl, _, rfl, by omega, by omega, for_range (lo := 0) (n := _) (fun i σ H' => ∃ (L F : List Nat) (y : Option V), σ = [some (.ref p), some (.int c), some (.int r), some (.int top), some (.ref lf), some (.ref fd), y] ∧ H' lf = some (.lst (L.map nV)) ∧ H' fd = some (.lst (F.map nV)) ∧ (F ++ L).Perm (List.range top) ∧ F.length = i ∧ PoolAt H' p l ∧ Ext [p, l] H H')
        ⟨List.range top, [], _, rfl, by rw [upd_ne nlf.symm, upd_same], upd_same, .refl _, rfl, P2.ext0 e4, e2.trans e4.weak⟩ ?_ ?_⟩
      · rintro i σ H' hi ⟨L, F, y, rfl, hL, hF, hperm, hFl, P', e'⟩
        have hi : i < c := by have : ((c : Int)).toNat = c := Int.toNat_natCast _; omega
        have tot : F.length + L.length = top := by have := hperm.length_eq; simpa using this
        have Lpos : 0 < L.length := by omega
        refine ⟨_, rfl, .inl ⟨rfl, _, .of hF⟩, _, rfl, .inl ⟨rfl, _, .of hL⟩, ?_⟩
        -- the index
        refine ⟨fun v H3 => ∃ k : Nat, v = .int k ∧ k < L.length ∧ H3 lf = some (.lst (L.map nV)) ∧ H3 fd = some (.lst (F.map nV)) ∧ PoolAt H3 p l ∧ Ext [p, l] H H3, ?_, ?_⟩
        · refine ⟨_, rfl, _, _, rfl, rfl, _, rfl, ite2 (fun z => ?_) (fun z => ?_)⟩
          · refine ⟨_, rfl, _, rfl, lf, _, rfl, .inl (.of hL), p, l, _, rfl, P', by rw [List.length_map]; omega, by rw [List.length_map]; omega, fun k H3 k0 k1 P3 e3' => ?_⟩
            rw [List.length_map] at k1
            exact ⟨k.toNat, by rw [Int.toNat_of_nonneg k0], by omega, e3' _ _ (off2 n1 n2) hL, e3' _ _ (off2 n3 n4) hF, P3, e'.trans e3'⟩
          · have z : ¬ r < 3 := fun w => z (decide_eq_true w)
            have t100 : top = 100 := by rcases c3 with c3 | c3; exact absurd c3 z; exact c3
            refine ⟨_, rfl, lf, _, rfl, .inl (.of hL), _, _, rfl, rfl, _, rfl, p, l, 3, rfl, P', by decide, by decide, fun k H3 k0 k1 P3 e3' => ?_⟩
            refine ⟨_, _, rfl, rfl, (L.length - 1 - k.toNat), ?_, by omega, e3' _ _ (off2 n1 n2) hL, e3' _ _ (off2 n3 n4) hF, P3, e'.trans e3'⟩
            have e5 : ((L.map nV).length : Int) - 1 - k = ((L.length - 1 - k.toNat : Nat) : Int) := by
              rw [List.length_map]
              omega
            exact congrArg V.int e5
        · rintro v H3 ⟨k, rfl, hk, hL3, hF3, P3, e3'⟩
          have hy : L[k]? = some L[k] := List.getElem?_eq_getElem hk
          generalize L[k] = y at hy
          refine ⟨lf, _, _, k, nV y, rfl, rfl, hL3, by omega, by omega, by rw [List.length_map]; exact seqAt hk, at_map hy, ?_⟩
          have el : (L.map nV).eraseIdx k = (L.eraseIdx k).map nV := eraseIdx_nV nV L k
          rw [el]
          have hF4 : upd H3 lf (.lst ((L.eraseIdx k).map nV)) fd = some (.lst (F.map nV)) := by rw [upd_ne nlf]; exact hF3
          refine ⟨fd, _, _, rfl, rfl, hF4, by rw [List.length_map]; exact small1000 (by omega), L.eraseIdx k, F ++ [y], _, rfl, by rw [upd_ne nlf.symm, upd_same], ?_, ?_, ?_, ?_, ?_⟩
          · rw [upd_same, List.map_append]; rfl
          · rw [List.append_assoc]
            exact (List.Perm.append_left F (erase_perm L k y hy)).trans hperm
          · rw [List.length_append, hFl]; rfl
          · refine P3.ext (L := [lf, fd]) ((Ext.wr (by simp)).trans (.wr (by simp))) ?_ ?_
            · simp [n1.symm, n3.symm]
            · simp [n2.symm, n4.symm]
          · exact (e3'.put' f1).put' f2
      · rintro σ H' ⟨L, F, y, rfl, hL, hF, hperm, hFl, P', e'⟩
        rw [Int.toNat_natCast] at hFl
        have nd : F.Nodup := (List.nodup_append.mp (hperm.nodup_iff.mpr List.nodup_range)).1
        refine ⟨_, rfl, fd, F.map (fun n : Nat => (n : Int)), rfl, .of (by rw [← map_nV_int]; exact hF), by rw [List.length_map]; omega, fun ns t perm rise ht => ?_⟩
        obtain ⟨ms, e1', e2', e3'⟩ := sorted_nats nd perm rise
        rw [e1']
        have ft : H t = none := e'.free2 ht (off2 (fun z => ?_) (fun z => ?_))
        · refine q ms t _ e3' (by rw [e2'.length_eq]; exact hFl) (fun m hm => ?_) upd_same ft (P'.ext (L := [t]) (.wr (by simp)) ?_ ?_) (e'.put' ft)
          · have h1 := hperm.mem_iff.mp (List.mem_append_left L (e2'.mem_iff.mp hm))
            have := List.mem_range.mp h1
            omega
          · obtain ⟨_, _, _, _, a, _⟩ := P'
            simp
            exact fun z => by rw [z, ht] at a; cases a
          · obtain ⟨_, _, _, _, _, a, _⟩ := P'
            simp
            exact fun z => by rw [z, ht] at a; cases a
        · obtain ⟨_, _, _, _, a, _⟩ := P'
          rw [← z, ht] at a; cases a
        · obtain ⟨_, _, _, _, _, a, _⟩ := P'
          rw [← z, ht] at a; cases a
end
end Nv
set_option Elab.async false
set_option linter.all false
set_option maxRecDepth 100000
namespace Nv
open PySem PySem.Spec PyProof.Rows L2
section
variable {P : Program} {w : World} {K : PySem.W.Frag} {mg : Str → Option Value} {base : Heap}
/-! ### the law's books: drawn -/
theorem PoolAt.off {H : Hp} {p l x : Addr} (h : PoolAt H p l) (hx : H x = none) : x ≠ p ∧ x ≠ l := by
  obtain ⟨_, _, _, _, a, b, _⟩ := h
  refine ⟨fun z => ?_, fun z => ?_⟩
  · rw [z, a] at hx
    cases hx
  · rw [z, b] at hx
    cases hx
theorem PoolAt.put {H : Hp} {p l x : Addr} {o : HO} (h : PoolAt H p l) (h1 : x ≠ p) (h2 : x ≠ l) : PoolAt (upd H x o) p l := h.ext (L := [x]) (.wr (by simp)) (by simp; exact h1.symm) (by simp; exact h2.symm)
structure StD (n m : Nat) (s : State) : Prop where
  few : s.length ≤ m
  rise : (s.map (·.1)).Pairwise (· < ·)
  msg : ∀ q ∈ s, q.1 ≤ 99
  to : ∀ q ∈ s, q.2 < n
theorem StD.set {n m : Nat} {s : State} (h : StD n m s) {k : Nat} {q : Nat × Nat} (hq : s[k]? = some q) {t : Nat} (ht : t < n) : StD n m (s.set k (q.1, t)) := by
  have hm := List.mem_of_getElem? hq
  have e : (s.set k (q.1, t)).map (·.1) = s.map (·.1) := by
    rw [List.map_set]
    refine List.ext_getElem? fun i => ?_
    by_cases hi : k = i
    · subst hi
      have hk : k < (s.map (·.1)).length := by
        rw [List.length_map]
        exact (List.getElem?_eq_some_iff.mp hq).1
      rw [List.getElem?_set_self hk, List.getElem?_map, hq]
      rfl
    · rw [List.getElem?_set_ne hi]
  refine ⟨by rw [List.length_set]; exact h.few, by rw [e]; exact h.rise, fun z hz => ?_, fun z hz => ?_⟩
  · rcases List.mem_or_eq_of_mem_set hz with hz | rfl
    · exact h.msg z hz
    · exact h.msg q hm
  · rcases List.mem_or_eq_of_mem_set hz with hz | rfl
    · exact h.to z hz
    · exact ht
theorem sc_law_book_drawn : FnScope ["pool", "states", "most", "size", "way", "moves", "state", "count", "told", "message", "to", "at"] ["pool", "states", "most"] (defScope s_law_book_drawn) := ⟨rfl, rfl, rfl, by decide +kernel, rfl, by decide +kernel, by decide +kernel⟩
def sp_law_book_drawn (K : PySem.W.Frag) : Sp := fun vs H Q _ => ∃ (p l : Addr) (S M : Nat), vs = [.ref p, .int S, .int M] ∧ PoolAt H p l ∧ 1 ≤ S ∧ S ≤ 8 ∧ M ≤ 5 ∧ ∀ (b : Book) (v : V) (H' : Hp), OkB b → b.length ≤ S → (∀ s ∈ b, s.length ≤ M) → BkV K H' v b → PoolAt H' p l → Ext [p, l] H H' → Q v H'
theorem ok_law_book_drawn (T : Tx K mg) : FnOk P w K mg base CX0 3 T.law_book_drawn.f T.law_book_drawn.fd ["pool", "states", "most"] (sp_law_book_drawn K) := by
  refine T.law_book_drawn.F.ok sc_law_book_drawn (fun vs H Q E h => ?_) (fun cdv A outer s H vs Q E hr h => ?_)
  · obtain ⟨p, l, S, M, rfl, _⟩ := h; rfl
  · obtain ⟨p, l, S, M, rfl, hP, hS1, hS8, hM, q⟩ := h
    refine ⟨_, (pss_cons (ps_par3 (i := 3) (j := 4) (l := 5) rfl sc_law_book_drawn.nd rfl rfl rfl (by decide) (by decide) (by decide) rfl rfl rfl (pa_cons (pe_op op_add pe_int (pe_call (ok_law_draw T) (hr.mono (by decide)) (by rfl) T.law_draw.g T.law_draw.F.kp T.law_draw.b .nil pass0 (pa_cons (pv 0) (pa_cons (pv 1) pa_nil)))) (pa_cons (pe_call (ok_law_draw T) (hr.mono (by decide)) (by rfl) T.law_draw.g T.law_draw.F.kp T.law_draw.b .nil pass0 (pa_cons (pv 0) (pa_cons pe_int pa_nil))) (pa_cons (pe_lst pa_nil) pa_nil))) (by rfl))
      (pss_cons (ps_for PassesOwn.never rfl (pi_range1 (by rfl) T.n_range (pa_cons (pv 3) pa_nil)) (pg_name (i := 6) sc_law_book_drawn.nd rfl (.inl rfl))
        (pss_cons (ps_set (i := 7) sc_law_book_drawn.nd rfl (.inl rfl) (pe_call (ok_law_pick T) (hr.mono (by decide)) (by rfl) T.law_pick.g T.law_pick.F.kp T.law_pick.b .nil pass0 (pa_cons (pv 0) (pa_cons (pe_lst (pa_cons pe_int (pa_cons pe_int (pa_cons pe_int (pa_cons pe_int (pa_cons (pe_callB (call_min2 rfl) (by rfl) T.n_min (by decide +kernel) (pa_cons pe_int (pa_cons (pv 2) pa_nil))) (pa_cons (pe_call (ok_law_draw T) (hr.mono (by decide)) (by rfl) T.law_draw.g T.law_draw.F.kp T.law_draw.b .nil pass0 (pa_cons (pv 0) (pa_cons (pe_op op_add (pv 2) pe_int) pa_nil))) pa_nil))))))) pa_nil))))
        (C8.pss_cut (ps_if (PW.pt (pw_and (pt_cmpR op_gt (pv 4) pe_int (nomark _)) (pw_and1 (pt_cmpR op_eq (pv 6) (pe_op op_sub (pv 3) pe_int) (nomark _)))))
          (pss_one (ps_set (i := 7) sc_law_book_drawn.nd rfl (.inl rfl) pe_int))
          pss_nil)
        (pss_cons (ps_set (i := 8) sc_law_book_drawn.nd rfl (.inl rfl) (pe_lst pa_nil))
        (pss_cons (ps_for PassesOwn.never rfl (pi_list (pe_call (ok_law_book_messages T) (hr.mono (by decide)) (by rfl) T.law_book_messages.g T.law_book_messages.F.kp T.law_book_messages.b .nil pass0 (pa_cons (pv 0) (pa_cons (pe_callB (call_min2 rfl) (by rfl) T.n_min (by decide +kernel) (pa_cons (pv 7) (pa_cons (pv 2) pa_nil))) pa_nil)))) (pg_name (i := 9) sc_law_book_drawn.nd rfl (.inl rfl))
          (pss_cons (ps_set (i := 10) sc_law_book_drawn.nd rfl (.inl rfl) (pe_call (ok_law_draw T) (hr.mono (by decide)) (by rfl) T.law_draw.g T.law_draw.F.kp T.law_draw.b .nil pass0 (pa_cons (pv 0) (pa_cons (pv 3) pa_nil))))
          (C8.pss_cut (ps_if (PW.pt (pw_and (pt_cmpR op_gt (pv 4) pe_int (nomark _)) (pw_and1 (pt_cmpR op_lt (pv 6) (pe_op op_sub (pv 3) pe_int) (nomark _)))))
            (pss_one (ps_set (i := 10) sc_law_book_drawn.nd rfl (.inl rfl) (pe_op op_add (pe_op op_add (pv 6) pe_int) (pe_call (ok_law_draw T) (hr.mono (by decide)) (by rfl) T.law_draw.g T.law_draw.F.kp T.law_draw.b .nil pass0 (pa_cons (pv 0) (pa_cons (pe_op op_sub (pe_op op_sub (pv 3) pe_int) (pv 6)) pa_nil))))))
            pss_nil)
          (pss_one (ps_expr (pe_bm PySem.F.plainAttrs_list PySem.F.slot_list_append PySem.F.type_list_append mt_append (pv 8) (pa_cons (pe_tup (pa_cons (pv 9) (pa_cons (pv 10) pa_nil))) pa_nil)))))))
        (C8.pss_cut (ps_if (PW.pt (pw_and (pt_cmpR op_gt (pv 4) pe_int (nomark _)) (pw_and1 (pt_cmpR (op_neD (hr.units)) (pv 8) (pe_lst pa_nil) (nomark _)))))
          (pss_cons (ps_set (i := 11) sc_law_book_drawn.nd rfl (.inl rfl) (pe_call (ok_law_draw T) (hr.mono (by decide)) (by rfl) T.law_draw.g T.law_draw.F.kp T.law_draw.b .nil pass0 (pa_cons (pv 0) (pa_cons (pe_callB call_len_seq (by rfl) T.n_len PySem.boot_len (pa_cons (pv 8) pa_nil)) pa_nil))))
          (pss_one (ps_asg (pe_tup (pa_cons (pe_ix ix_tup (pe_ix ix_list (pv 8) (pv 11) (fun _ _ => rfl)) pe_int (fun _ _ => rfl)) (pa_cons (pe_mid (pe_ifExp (pt_cmpR op_lt (pv 4) pe_int (nomark _)) (pe_op op_mod (pe_callTy call_int1 (by rfl) T.n_int (by decide +kernel) (pa_cons (pe_op op_add (pv 6) pe_int) pa_nil)) (pv 3)) (pe_callB (call_min2 rfl) (by rfl) T.n_min (by decide +kernel) (pa_cons (pe_op op_add (pv 6) pe_int) (pa_cons (pe_op op_sub (pv 3) pe_int) pa_nil))))) pa_nil))) (pg_sub (pv 8) (pv 11) set_list))))
          pss_nil)
        (pss_one (ps_expr (pe_bm PySem.F.plainAttrs_list PySem.F.slot_list_append PySem.F.type_list_append mt_append (pv 5) (pa_cons (pv 8) pa_nil))))))))))
      (pss_one (ps_ret (pe_call (ok_law_book_meeting T) (hr.mono (by decide)) (by rfl) T.law_book_meeting.g T.law_book_meeting.F.kp T.law_book_meeting.b .nil pass0 (pa_cons (pv 5) pa_nil)))))), ?_⟩
    -- size, way, moves
    refine ⟨_, rfl, _, rfl, p, l, _, rfl, hP, by omega, by omega, fun r H1 r0 r1 P1 e1 => ⟨_, _, rfl, rfl, ?_⟩⟩
    refine ⟨_, rfl, p, l, 6, rfl, P1, by decide, by decide, fun way H2 w0 w1 P2 e2 => ⟨Nat.zero_le _, fun mv hmv => ⟨_, _, _, rfl, ?_⟩⟩⟩
    obtain ⟨n, hn⟩ : ∃ n : Nat, 1 + r = (n : Int) := ⟨(1 + r).toNat, by omega⟩
    have hn1 : 1 ≤ n := by omega
    have hnS : n ≤ S := by omega
    show _
    simp only [hn]
    obtain ⟨mp, ml⟩ := P2.off hmv
    have fmv : H mv = none := (e1.trans e2).free2 hmv (off2 mp ml)
    -- the loop
    refine ⟨_, rfl, _, rfl, by omega, by omega, for_range (lo := 0) (n := _) (fun i σ H' => ∃ (vs : List V) (b : Book) (y6 y7 y8 y9 y10 y11 : Option V), σ = [some (.ref p), some (.int S), some (.int M), some (.int n), some (.int way), some (.ref mv), y6, y7, y8, y9, y10, y11] ∧ b.length = i ∧
      H' mv = some (.lst vs) ∧ Paired (LsN K H' [p, l, mv]) vs b ∧ (∀ s ∈ b, StD n M s) ∧ PoolAt H' p l ∧ Ext [p, l] H H')
      ⟨[], [], _, _, _, _, _, _, rfl, rfl, upd_same, .nil, (fun s z => nomatch z), P2.put mp ml, (e1.trans e2).put' fmv⟩ ?_ ?_⟩
    · rintro i σ H' hi ⟨vs, b, y6, y7, y8, y9, y10, y11, rfl, hbl, hv, hpd, hst, P', e'⟩
      have hi : i < n := by have : ((n : Int)).toNat = n := Int.toNat_natCast _; omega
      simp only [Int.zero_add]
      -- count
      refine ⟨_, rfl, _, rfl, _, _, rfl, _, rfl, _, rfl, _, _, rfl, rfl, p, l, _, rfl, P', by omega, by omega, fun c0 H3 c00 c01 P3 e3 => ?_⟩
      refine ⟨(by show 6 ≤ sizeLine; decide), fun t ht => ?_⟩
      obtain ⟨tp, tl⟩ := P3.off ht
      refine ⟨p, l, t, _, rfl, P3.put tp tl, .of upd_same, tp, tl, (by show 0 < 6; decide), (by show 6 < 1000; decide), fun k v H4 hk P4 e4 => ?_⟩
      have hc : ∃ c : Nat, v = .int c ∧ c ≤ 5 := by
        have six : k < 6 := (List.getElem?_eq_some_iff.mp hk).1
        have : k = 0 ∨ k = 1 ∨ k = 2 ∨ k = 3 ∨ k = 4 ∨ k = 5 := by omega
        rcases this with rfl | rfl | rfl | rfl | rfl | rfl
        · exact ⟨1, (Option.some.inj hk).symm, by decide⟩
        · exact ⟨1, (Option.some.inj hk).symm, by decide⟩
        · exact ⟨2, (Option.some.inj hk).symm, by decide⟩
        · exact ⟨2, (Option.some.inj hk).symm, by decide⟩
        · have z := (Option.some.inj hk).symm
          by_cases hm : (M : Int) < 2
          · rw [if_pos hm] at z; exact ⟨M, z, by omega⟩
          · rw [if_neg hm] at z; exact ⟨2, z, by decide⟩
        · exact ⟨c0.toNat, by rw [(Option.some.inj hk).symm, Int.toNat_of_nonneg c00], by omega⟩
      obtain ⟨c, rfl, hc5⟩ := hc
      have e5 : Ext [p, l] H' H4 := (e3.trans (Ext.weak (.new ht))).trans e4
      have hpd4 : Paired (LsN K H4 [p, l, mv]) vs b := Paired.imp hpd fun _ _ z => z.ext e5 (by simp) P'.lsts
      have hv4 := e5 _ _ (off2 mp ml) hv
      have e6 := e'.trans e5
      generalize hH : H4 = H5 at *
      clear hH e5 e4 e3 hk ht P' hv hpd P3
      -- if way > 3 and state == size - 1
      refine ⟨fun σ H' => ∃ c : Nat, c ≤ 5 ∧ H' = H5 ∧ σ = [some (.ref p), some (.int S), some (.int M), some (.int n), some (.int way), some (.ref mv), some (.int i), some (.int c), y8, y9, y10, y11], ?_, ?_⟩
      · refine ⟨_, rfl, _, _, rfl, rfl, _, rfl, ite2 (fun z => ?_) (fun z => iteF ⟨c, hc5, rfl, rfl⟩)⟩
        refine ⟨_, rfl, _, rfl, _, _, rfl, rfl, rfl, _, rfl, ite2 (fun z => ?_) (fun z => ?_)⟩
        · exact ⟨0, by decide, rfl, rfl⟩
        · exact ⟨c, hc5, rfl, rfl⟩
      · rintro σ Hb ⟨c, hc5, rfl, rfl⟩
        -- told = []
        refine ⟨Nat.zero_le _, fun td htd => ?_⟩
        obtain ⟨tdp, tdl⟩ := P4.off htd
        have tdmv : td ≠ mv := fun z => by rw [z, hv4] at htd; cases htd
        have b0 : Ext [p, l] Hb (upd Hb td (.lst [])) := Ext.weak (.new htd)
        -- for message in ..
        have hmin : ∃ d : Nat, (if (M : Int) < (c : Int) then (M : Int) else (c : Int)) = d ∧ d ≤ M ∧ d ≤ 5 := by
          by_cases hm : (M : Int) < (c : Int)
          · rw [if_pos hm]; exact ⟨M, rfl, Nat.le_refl _, hM⟩
          · rw [if_neg hm]; exact ⟨c, rfl, by omega, hc5⟩
        obtain ⟨d, hd, hdM, hd5⟩ := hmin
        refine ⟨_, rfl, _, rfl, _, rfl, _, _, rfl, p, l, d, by rw [hd]; rfl, P4.put tdp tdl, by omega, fun ms t H6 m1 m2 m3 ht tfree P6 e6' => ?_⟩
        have b1 := b0.trans e6'
        have ttd : t ≠ td := fun z => by rw [z, upd_same] at tfree; cases tfree
        obtain ⟨ttp, ttl⟩ := (P4.put (o := .lst []) tdp tdl).off tfree
        have htd6 : H6 td = some (.lst []) := e6' _ _ (off2 tdp tdl) upd_same
        refine ⟨t, rfl, ⟨_, .of ht⟩, for_list (K := K) (a := t) (xs := ms.map nV) (fun k σ H' => ∃ (ps : List Addr) (tl : State) (y9 y10 : Option V), σ = [some (.ref p), some (.int S), some (.int M), some (.int n), some (.int way), some (.ref mv), some (.int i), some (.int c), some (.ref td), y9, y10, y11] ∧
          H' td = some (.lst (ps.map V.ref)) ∧ Paired (MvV K H') ps tl ∧ tl.map (·.1) = ms.take k ∧ (∀ z ∈ tl, z.2 < n) ∧ H' t = some (.lst (ms.map nV)) ∧ PoolAt H' p l ∧ Ext [p, l] Hb H')
          ⟨[], [], _, _, rfl, htd6, .nil, by simp, (fun z hz => nomatch hz), ht, P6, b1⟩ (fun k σ H' _ ⟨_, _, _, _, _, _, _, _, _, h, _⟩ => .of h) ?_ ?_⟩
        · rintro k v σ H' hv ⟨ps, tl, y9, y10, rfl, htd', hps, hmap, hto, ht', P', e8⟩
          obtain ⟨m, hm, rfl⟩ := map_at hv
          have ntd : td ∉ [p, l] := off2 tdp tdl
          have nt : t ∉ [p, l] := off2 ttp ttl
          refine ⟨_, rfl, _, rfl, p, l, _, rfl, P', by omega, by omega, fun t0 H7 t00 t01 P7 e7 => ?_⟩
          refine ⟨fun σ H8 => ∃ u : Nat, u < n ∧ σ = [some (.ref p), some (.int S), some (.int M), some (.int n), some (.int way), some (.ref mv), some (.int i), some (.int c), some (.ref td), some (nV m), some (.int u), y11] ∧ PoolAt H8 p l ∧ Ext [p, l] H7 H8, ?_, ?_⟩
          · have stay : ∃ u : Nat, u < n ∧ ([some (.ref p), some (.int S), some (.int M), some (.int n), some (.int way), some (.ref mv), some (.int i), some (.int c), some (.ref td), some (nV m), some (.int t0), y11] : L2.St) = [some (.ref p), some (.int S), some (.int M), some (.int n), some (.int way), some (.ref mv), some (.int i), some (.int c), some (.ref td), some (nV m), some (.int u), y11] ∧ PoolAt H7 p l ∧ Ext [p, l] H7 H7 :=
              ⟨t0.toNat, by omega, by rw [Int.toNat_of_nonneg t00], P7, .refl⟩
            refine ⟨_, rfl, _, _, rfl, rfl, _, rfl, ite2 (fun z => ?_) (fun z => iteF stay)⟩
            refine ⟨_, rfl, _, rfl, _, _, rfl, rfl, _, _, rfl, rfl, _, rfl, ite2 (fun z2 => ?_) (fun z2 => stay)⟩
            have z2 := of_decide_eq_true z2
            refine ⟨_, rfl, _, _, rfl, rfl, _, rfl, _, rfl, _, _, rfl, rfl, _, rfl, _, _, rfl, rfl, p, l, _, rfl, P7, by omega, by omega, fun r8 H8 r80 r81 P8 e8 => ⟨_, _, rfl, rfl, ?_⟩⟩
            have eu : (i : Int) + 1 + r8 = ((i + 1 + r8.toNat : Nat) : Int) := by omega
            exact ⟨i + 1 + r8.toNat, by omega, congrArg (fun z : Int => ([some (.ref p), some (.int S), some (.int M), some (.int n), some (.int way), some (.ref mv), some (.int i), some (.int c), some (.ref td), some (nV m), some (.int z), y11] : L2.St)) eu, P8, e8⟩
          · rintro σ H8 ⟨u, hu, rfl, P8, e9⟩
            have e10 := e7.trans e9
            have htd8 := e10 _ _ ntd htd'
            have ht8 := e10 _ _ nt ht'
            have hps8 : Paired (MvV K H8) ps tl := Paired.imp hps fun _ _ z => e10.tup P'.lsts z
            refine ⟨_, rfl, .inl ⟨rfl, _, .of htd8⟩, _, rfl, _, rfl, (by show 2 ≤ sizeLine; decide), fun nt' hnt => ?_⟩
            have e11 : Ext [] H8 (upd H8 nt' (.tup [nV m, .int u])) := .new hnt
            have htd9 := e11.at htd8 (by simp)
            obtain ⟨ntp, ntl⟩ := P8.off hnt
            have tll : tl.length ≤ 6 := by
              have := congrArg List.length hmap
              rw [List.length_map, List.length_take] at this
              omega
            refine ⟨td, _, _, rfl, rfl, htd9, by rw [List.length_map, Paired.len hps]; exact small1000 (by omega), ps ++ [nt'], tl ++ [(m, u)], _, _, rfl, by rw [upd_same, List.map_append]; rfl, ?_, ?_, fun z hz => ?_, ?_, ?_, ?_⟩
            · refine Paired.snoc ?_ (Paired.imp hps8 fun _ _ z => (z.ext0 e11).put htd9)
              exact MvV.put (m := (m, u)) (.of upd_same) htd9
            · rw [List.take_add_one, hm, List.map_append, hmap]
              rfl
            · rcases List.mem_append.mp hz with hz | hz
              · exact hto z hz
              · obtain rfl := List.mem_singleton.mp hz
                exact hu
            · rw [upd_ne ttd]
              exact e11.at ht8 (by simp)
            · exact (P8.put ntp ntl).put tdp tdl
            · exact ((e8.trans e10).trans e11.weak).put' htd
        · rintro σ H7 ⟨ps, tl, y9, y10, rfl, htd7, hps, hmap, hto, ht7, P7, e7⟩
          rw [List.length_map, List.take_length] at hmap
          have tll : tl.length = d := by
            have := congrArg List.length hmap
            rw [List.length_map] at this
            omega
          have sd : StD n M tl := ⟨by omega, by rw [hmap]; exact m1, fun z hz => m3 _ (by rw [← hmap]; exact List.mem_map.mpr ⟨z, hz, rfl⟩), hto⟩
          refine ⟨fun σ H8 => ∃ (ps : List Addr) (tl : State) (y9 y10 y11 : Option V), σ = [some (.ref p), some (.int S), some (.int M), some (.int n), some (.int way), some (.ref mv), some (.int i), some (.int c), some (.ref td), y9, y10, y11] ∧
            H8 td = some (.lst (ps.map V.ref)) ∧ Paired (MvV K H8) ps tl ∧ StD n M tl ∧ PoolAt H8 p l ∧ Ext [p, l] Hb H8, ?_, ?_⟩
          · refine ⟨_, rfl, _, _, rfl, rfl, _, rfl, ite2 (fun z => ?_) (fun z => iteF ⟨ps, tl, _, _, _, rfl, htd7, hps, sd, P7, e7⟩)⟩
            refine ⟨_, rfl, Nat.zero_le _, fun x hx => ?_⟩
            have e8 : Ext [] H7 (upd H7 x (.lst [])) := .new hx
            have htd8 := e8.at htd7 (by simp)
            have hps8 : Paired (MvV K (upd H7 x (.lst []))) ps tl := Paired.imp hps fun _ _ z => z.ext0 e8
            have P8 := P7.ext0 e8
            refine ⟨_, _, .lst (.of htd8) (dp_mvs hps8), .lst (.of upd_same) .nil, shaped_mvs _, by decide, _, rfl, ?_⟩
            rw [eqv_mvs_nil]
            by_cases ee : tl = []
            · rw [decide_eq_true ee]
              exact iteF ⟨ps, tl, _, _, _, rfl, htd8, hps8, sd, P8, e7.trans e8.weak⟩
            · rw [decide_eq_false ee]
              have plen := Paired.len hps
              have tpos : 0 < tl.length := List.length_pos_iff.mpr ee
              refine iteT ⟨_, rfl, _, rfl, td, _, rfl, .inl (.of htd8), p, l, _, rfl, P8, by rw [List.length_map]; omega, by rw [List.length_map]; omega, fun k H9 k0 k1 P9 e9 => ?_⟩
              rw [List.length_map] at k1
              obtain ⟨k, rfl⟩ : ∃ j : Nat, k = (j : Int) := ⟨k.toNat, by omega⟩
              have hk : k < tl.length := by omega
              have hq : tl[k]? = some tl[k] := List.getElem?_eq_getElem hk
              generalize tl[k] = qq at hq
              have htd9 := e9 _ _ (off2 tdp tdl) htd8
              have hps9 : Paired (MvV K H9) ps tl := Paired.imp hps8 fun _ _ z => e9.tup P8.lsts z
              obtain ⟨a, ha, haq⟩ := Paired.get hps9 hq
              refine ⟨_, rfl, _, rfl, td, _, _, _, rfl, rfl, .of htd9, atI_nat (at_map ha), a, _, _, _, rfl, rfl, haq, atI_nat (j := 0) rfl, ?_⟩
              refine ⟨fun v H' => H' = H9 ∧ ∃ u : Nat, u < n ∧ v = .int u, ?_, ?_⟩
              · refine ⟨_, rfl, _, _, rfl, rfl, _, rfl, ite2 (fun z => ?_) (fun z => ?_)⟩
                · refine ⟨_, rfl, _, _, rfl, rfl, .inl ⟨_, rfl, _, rfl, _, _, rfl, rfl, (by show (0 : Int) < n; omega), rfl, (((i : Int) + 1) % n).toNat, ?_, ?_⟩⟩
                  · have := Int.emod_lt_of_pos ((i : Int) + 1) (show (0 : Int) < n by omega)
                    have := Int.emod_nonneg ((i : Int) + 1) (show (n : Int) ≠ 0 by omega)
                    omega
                  · show V.int (((i : Int) + 1) % n) = _
                    rw [Int.toNat_of_nonneg (Int.emod_nonneg _ (by omega))]
                · refine ⟨_, rfl, _, _, rfl, rfl, _, rfl, _, _, rfl, rfl, _, _, rfl, rfl, ?_⟩
                  by_cases hm : (n : Int) - 1 < (i : Int) + 1
                  · rw [if_pos hm]
                    exact ⟨n - 1, by omega, congrArg V.int (by omega)⟩
                  · rw [if_neg hm]
                    exact ⟨i + 1, by omega, rfl⟩
              · rintro v H' ⟨rfl, u, hu, rfl⟩
                refine ⟨(by show 2 ≤ sizeLine; decide), fun nt hnt => ?_⟩
                have e10 : Ext [] H' (upd H' nt (.tup [.int qq.1, .int u])) := .new hnt
                have htd10 := e10.at htd9 (by simp)
                obtain ⟨ntp, ntl⟩ := P9.off hnt
                refine ⟨_, rfl, _, rfl, td, _, _, k, rfl, rfl, htd10, ixNat (by rw [List.length_map]; omega), ps.set k nt, tl.set k (qq.1, u), _, _, _, rfl, ?_, ?_, sd.set hq hu, (P9.put ntp ntl).put tdp tdl, ((((e7.trans e8.weak).trans e9).trans e10.weak)).put' htd⟩
                · rw [upd_same, List.map_set]
                · refine Paired.set ?_ k (Paired.imp hps9 fun _ _ z => (z.ext0 e10).put htd10)
                  exact MvV.put (m := (qq.1, u)) (.of upd_same) htd10
          · rintro σ H8 ⟨ps, tl, y9, y10, y11, rfl, htd8, hps8, sd8, P8, e8⟩
            have hmv8 := e8 _ _ (off2 mp ml) hv4
            have hpd8 : Paired (LsN K H8 [p, l, mv]) vs b := Paired.imp hpd4 fun _ _ z => z.ext e8 (by simp) P4.lsts
            have l3 : Lsts [mv] H8 := one_lst hmv8
            refine ⟨_, rfl, .inl ⟨rfl, _, .of hmv8⟩, _, rfl, mv, _, _, rfl, rfl, hmv8, by rw [Paired.len hpd8]; exact small1000 (by omega), vs ++ [.ref td], b ++ [tl], _, _, _, _, _, _, rfl, by rw [List.length_append, hbl]; rfl, upd_same, ?_, fun s hs => ?_, P8.put mp ml, (e6.trans e8).put' fmv⟩
            · refine Paired.snoc ⟨td, ps, rfl, ?_, by rw [upd_ne tdmv]; exact htd8, Paired.imp hps8 fun _ _ z => z.put hmv8⟩ (Paired.imp hpd8 fun _ _ z => z.ext (Y := [mv]) (.wr (by simp)) (by simp) l3)
              simp [tdp, tdl, tdmv]
            · rcases List.mem_append.mp hs with hs | hs
              · exact hst s hs
              · obtain rfl := List.mem_singleton.mp hs
                exact sd8
    · rintro σ H' ⟨vs, b, y6, y7, y8, y9, y10, y11, rfl, hbl, hv, hpd, hst, P', e'⟩
      rw [Int.toNat_natCast] at hbl
      have hlb : LbV K H' (.ref mv) b := ⟨mv, vs, rfl, hv, Paired.imp hpd fun _ _ z => z.ls⟩
      have sd : ∀ s, StD n M (mvs b s) := fun s => by
        by_cases hs : s < b.length
        · exact hst _ (mvs_mem hs)
        · rw [mvs_out (by omega)]
          exact ⟨Nat.zero_le _, .nil, (fun z hz => nomatch hz), fun z hz => nomatch hz⟩
      refine ⟨_, rfl, .ref mv, b, rfl, hlb, by omega, by omega, fun s => ⟨Nat.le_trans (sd s).few (by omega), fun z hz => by rw [hbl]; exact (sd s).to z hz⟩, fun F v H3 mt hbk e3 => ?_⟩
      have ok := mt.okB (by omega) fun s hs => ⟨Nat.le_trans (sd s).few hM, (sd s).rise, (sd s).msg⟩
      refine q _ v _ ok (by rw [rename_len]; have := nodup_le mt.nd mt.lt; omega) (fun s hs => ?_) hbk (P'.ext0 e3) (e'.trans e3.weak)
      obtain ⟨x, _, rfl⟩ := List.mem_map.mp hs
      rw [List.length_map]
      exact (sd x).few
end
end Nv
set_option Elab.async false
set_option linter.all false
set_option maxRecDepth 100000
namespace Nv
open PySem PySem.Spec PyProof.Rows L2
section
variable {P : Program} {w : World} {K : PySem.W.Frag} {mg : Str → Option Value} {base : Heap}
/-! ### the program: books held -/
theorem notF {c : Bool} {A B : Prop} (h : c = true) (hb : B) : if (!c) = true then A else B := by
  rw [h]
  exact iteF hb
theorem sc_has_state_form : FnScope ["thing", "many", "last", "pair", "message", "to"] ["thing", "many"] (defScope s_has_state_form) := ⟨rfl, rfl, rfl, by decide +kernel, rfl, by decide +kernel, by decide +kernel⟩
def sp_has_state_form (K : PySem.W.Frag) : Sp := fun vs H Q _ => ∃ (v : V) (s : State) (n : Nat), vs = [v, .int n] ∧ StV K H v s ∧ StOk n s ∧ Q (.bl true) H
theorem ok_has_state_form (T : Tx K mg) : FnOk P w K mg base CX0 3 T.has_state_form.f T.has_state_form.fd ["thing", "many"] (sp_has_state_form K) := by
  refine T.has_state_form.F.ok sc_has_state_form (fun vs H Q E h => ?_) (fun cdv A outer s H vs Q E hr h => ?_)
  · obtain ⟨v, s, n, rfl, _⟩ := h; rfl
  · obtain ⟨v, st, n, rfl, ⟨a, ps, rfl, ha, hps⟩, ok, q⟩ := h
    have plen := Paired.len hps
    refine ⟨_, (pss_cons (ps_if (pt_not (pt_val (pe_call (ok_tuple_within T) (hr.mono (by decide)) (by rfl) T.tuple_within.g T.tuple_within.F.kp T.tuple_within.b .nil pass0 (pa_cons (pv 0) (pa_cons pe_int (pa_cons (pe_glob (v := .int 5) (by rfl) T.c_MOST_MESSAGES.choose_spec ⟨_, rfl⟩) pa_nil))))))
        (pss_one (ps_ret pe_bl))
        pss_nil)
      (pss_cons (ps_set (i := 2) sc_has_state_form.nd rfl (.inl rfl) (pe_un un_neg pe_int))
      (pss_cons (ps_for PassesOwn.never rfl (pi_tup (pv 0)) (pg_name (i := 3) sc_has_state_form.nd rfl (.inl rfl))
        (pss_cons (ps_if (pt_not (pt_val (pe_call (ok_tuple_within T) (hr.mono (by decide)) (by rfl) T.tuple_within.g T.tuple_within.F.kp T.tuple_within.b .nil pass0 (pa_cons (pv 3) (pa_cons pe_int (pa_cons pe_int pa_nil))))))
          (pss_one (ps_ret pe_bl))
          pss_nil)
        (pss_cons (ps_asg (pv 3) (pg_tup rfl (pgs_cons (pg_name (i := 4) sc_has_state_form.nd rfl (.inl rfl)) (pgs_cons (pg_name (i := 5) sc_has_state_form.nd rfl (.inl rfl)) pgs_nil))))
        (pss_cons (ps_if (PW.pt (pw_or (pt_not (pt_val (pe_call (ok_whole_within T) (hr.mono (by decide)) (by rfl) T.whole_within.g T.whole_within.F.kp T.whole_within.b .nil pass0 (pa_cons (pv 4) (pa_cons (pe_op op_add (pv 2) pe_int) (pa_cons (pe_glob (v := .int 99) (by rfl) T.c_GREATEST_MESSAGE.choose_spec ⟨_, rfl⟩) pa_nil)))))) (pw_or1 (pt_not (pt_val (pe_call (ok_whole_within T) (hr.mono (by decide)) (by rfl) T.whole_within.g T.whole_within.F.kp T.whole_within.b .nil pass0 (pa_cons (pv 5) (pa_cons pe_int (pa_cons (pe_op op_sub (pv 1) pe_int) pa_nil)))))))))
          (pss_one (ps_ret pe_bl))
          pss_nil)
        (pss_one (ps_set (i := 2) sc_has_state_form.nd rfl (.inl rfl) (pv 4)))))))
      (pss_one (ps_ret pe_bl))))), ?_⟩
    refine ⟨_, rfl, a, _, 0, 5, rfl, ha.sq, SqT.ty ha.sq, _, rfl, notF (decide_eq_true ⟨by omega, ?_⟩) ?_⟩
    · rw [List.length_map, plen]
      have := ok.few
      omega
    refine ⟨1, rfl, _, rfl, a, rfl, ⟨_, ha.sq⟩, for_tup (K := K) (a := a) (xs := ps.map V.ref) (fun k σ H' => H' = H ∧ ∃ (z : Int) (y3 y4 y5 : Option V), σ = [some (.ref a), some (.int n), some (.int z), y3, y4, y5] ∧ ∀ j q, k ≤ j → st[j]? = some q → z < (q.1 : Int))
      ⟨rfl, -1, _, _, _, rfl, fun j q _ _ => by omega⟩ (fun k σ H' _ ⟨e, _⟩ => by rw [e]; exact ha.sq) ?_ ?_⟩
    · rintro k v σ H' hv ⟨rfl, z, y3, y4, y5, rfl, hz⟩
      obtain ⟨c, hc, rfl⟩ := map_at hv
      obtain ⟨p, hp, hcp⟩ := Paired.get' hps hc
      have hm := List.mem_of_getElem? hp
      refine ⟨_, rfl, c, _, 2, 2, rfl, hcp, SqT.ty hcp, _, rfl, notF (by show decide ((2 : Int) ≤ 2 ∧ (2 : Int) ≤ 2) = true; decide) ?_⟩
      refine ⟨_, rfl, c, _, rfl, hcp, rfl, _, _, rfl, _, _, rfl, rfl, ?_⟩
      have b1 := hz k p (Nat.le_refl _) hp
      have b2 := ok.msg p hm
      have b3 := ok.to p hm
      refine ⟨_, rfl, _, rfl, _, _, rfl, rfl, _, _, _, rfl, _, rfl, notF (decide_eq_true ⟨by omega, by omega⟩) ?_⟩
      refine ⟨_, rfl, _, rfl, _, _, rfl, rfl, _, _, _, rfl, _, rfl, notF (decide_eq_true ⟨by omega, by omega⟩) ?_⟩
      refine ⟨_, rfl, rfl, _, _, _, _, rfl, fun j q hj hq => ?_⟩
      obtain ⟨hk, ek⟩ := List.getElem?_eq_some_iff.mp hp
      obtain ⟨hj2, ej⟩ := List.getElem?_eq_some_iff.mp hq
      have := List.pairwise_iff_getElem.mp ok.rise k j (by rw [List.length_map]; exact hk) (by rw [List.length_map]; exact hj2) (by omega)
      rw [List.getElem_map, List.getElem_map, ek, ej] at this
      omega
    · rintro σ H' ⟨rfl, z, y3, y4, y5, rfl, hz⟩
      exact q
theorem sc_check_form : FnScope ["thing", "state"] ["thing"] (defScope s_check_form) := ⟨rfl, rfl, rfl, by decide +kernel, rfl, by decide +kernel, by decide +kernel⟩
def sp_check_form (K : PySem.W.Frag) : Sp := fun vs H Q _ => ∃ (v : V) (b : Book), vs = [v] ∧ BkV K H v b ∧ FormB b ∧ Q .non H
theorem ok_check_form (T : Tx K mg) : FnOk P w K mg base CX0 4 T.check_form.f T.check_form.fd ["thing"] (sp_check_form K) := by
  refine T.check_form.F.ok sc_check_form (fun vs H Q E h => ?_) (fun cdv A outer s H vs Q E hr h => ?_)
  · obtain ⟨v, b, rfl, _⟩ := h; rfl
  · obtain ⟨v, b, rfl, ⟨a, ls, rfl, ha, hls⟩, ok, q⟩ := h
    have llen := Paired.len hls
    refine ⟨_, (pss_cons (ps_if (pt_not (pt_val (pe_call (ok_tuple_within T) (hr.mono (by decide)) (by rfl) T.tuple_within.g T.tuple_within.F.kp T.tuple_within.b .nil pass0 (pa_cons (pv 0) (pa_cons pe_int (pa_cons (pe_glob (v := .int 8) (by rfl) T.c_MOST_STATES.choose_spec ⟨_, rfl⟩) pa_nil))))))
        (pss_one ps_never)
        pss_nil)
      (pss_one (ps_for PassesOwn.never rfl (pi_range1 (by rfl) T.n_range (pa_cons (pe_callB call_len_seq (by rfl) T.n_len PySem.boot_len (pa_cons (pv 0) pa_nil)) pa_nil)) (pg_name (i := 1) sc_check_form.nd rfl (.inl rfl))
        (pss_one (ps_if (pt_not (pt_val (pe_call (ok_has_state_form T) (hr.mono (by decide)) (by rfl) T.has_state_form.g T.has_state_form.F.kp T.has_state_form.b .nil pass0 (pa_cons (pe_ix ix_tup (pv 0) (pv 1) (fun _ _ => rfl)) (pa_cons (pe_callB call_len_seq (by rfl) T.n_len PySem.boot_len (pa_cons (pv 0) pa_nil)) pa_nil)))))
          (pss_one ps_never)
          pss_nil))))), ?_⟩
    refine ⟨_, rfl, a, _, 1, 8, rfl, ha, SqT.ty ha, _, rfl, notF (decide_eq_true ?_) ?_⟩
    · have h1 := ok.one
      have h2 := ok.eight
      rw [llen]
      exact ⟨by omega, by omega⟩
    have h2 := ok.eight
    refine ⟨_, rfl, a, _, rfl, .inr ha, _, rfl, by omega, by omega, for_range (lo := 0) (n := _) (fun k σ H' => H' = H ∧ ∃ y : Option V, σ = [some (.ref a), y]) ⟨rfl, _, rfl⟩ ?_ ?_⟩
    · rintro k σ H' hk ⟨rfl, y, rfl⟩
      simp only [Int.zero_add]
      rw [Int.toNat_natCast] at hk
      obtain ⟨u, hu, hst⟩ := Paired.get hls (mvs_lt (b := b) (s := k) (by omega))
      refine ⟨_, rfl, _, rfl, a, _, _, _, rfl, rfl, ha, atI_nat hu, _, rfl, a, _, rfl, .inr ha, u, _, b.length, by rw [llen]; rfl, hst, ok.ok (by omega), _, rfl, notF rfl ⟨rfl, _, rfl⟩⟩
    · rintro σ H' ⟨rfl, y, rfl⟩
      exact q
theorem sc_first_rows : FnScope ["states", "start", "rows", "order", "done", "state", "message", "to"] ["states", "start"] (defScope s_first_rows) := ⟨rfl, rfl, rfl, by decide +kernel, rfl, by decide +kernel, by decide +kernel⟩
def sp_first_rows (K : PySem.W.Frag) : Sp := fun vs H Q _ => ∃ (v : V) (b : Book), vs = [v, .int 0] ∧ BkW K H v b ∧ FormB b ∧ ∀ (F : List Nat) (kvs : List (Key × V)) (d : Addr) (H' : Hp), Met b F → kvs.map (·.1) = F.map kN → H' d = some (.dK kvs) → Ext [] H H' → Q (.ref d) H'
theorem ok_first_rows (T : Tx K mg) : FnOk P w K mg base CX0 1 T.first_rows.f T.first_rows.fd ["states", "start"] (sp_first_rows K) := by
  refine T.first_rows.F.ok sc_first_rows (fun vs H Q E h => ?_) (fun cdv A outer s H vs Q E hr h => ?_)
  · obtain ⟨v, b, rfl, _⟩ := h; rfl
  · obtain ⟨v, b, rfl, ⟨a, ls, rfl, ha, hls⟩, ok, q⟩ := h
    have llen := Paired.len hls
    have h8 := ok.eight
    refine ⟨_, (pss_cons (ps_set (i := 2) sc_first_rows.nd rfl (.inl rfl) (pe_disp (pps_cons (pv 1) (pe_tup pa_nil) pps_nil) (by rfl) (by rfl) (fun z => by cases z) (by decide)))
      (pss_cons (ps_set (i := 3) sc_first_rows.nd rfl (.inl rfl) (pe_lst (pa_cons (pv 1) pa_nil)))
      (pss_cons (ps_set (i := 4) sc_first_rows.nd rfl (.inl rfl) pe_int)
      (pss_cons (ps_while PassesOwn.never (pt_cmpR op_lt (pv 4) (pe_callB call_len_seq (by rfl) T.n_len PySem.boot_len (pa_cons (pv 3) pa_nil)) (nomark _))
        (pss_cons (ps_set (i := 5) sc_first_rows.nd rfl (.inl rfl) (pe_ix ix_list (pv 3) (pv 4) (fun _ _ => rfl)))
        (pss_cons (ps_aug (i := 4) sc_first_rows.nd rfl (.inl rfl) pe_int ip_add)
        (pss_one (ps_for PassesOwn.never rfl (pi_tup (pe_ix ix_tup (pv 0) (pv 5) (fun _ _ => rfl))) (pg_tup rfl (pgs_cons (pg_name (i := 6) sc_first_rows.nd rfl (.inl rfl)) (pgs_cons (pg_name (i := 7) sc_first_rows.nd rfl (.inl rfl)) pgs_nil)))
          (pss_one (ps_if (pt_cmp (pc_dnotin (hu_of hr) (pv 7) (pv 2)))
            (pss_cons (ps_dput (hu_of hr) (pv 2) (pv 7) (pe_op op_catA (pe_dget (hu_of hr) (pv 2) (pv 5) (fun _ _ => rfl)) (pe_tup (pa_cons (pv 6) pa_nil))) rfl)
            (pss_one (ps_expr (pe_bm PySem.F.plainAttrs_list PySem.F.slot_list_append PySem.F.type_list_append mt_append (pv 3) (pa_cons (pv 7) pa_nil)))))
            pss_nil)))))))
      (pss_one (ps_ret (pv 2))))))), ?_⟩
    -- rows = {0: ()}
    refine fun d hd => ⟨_, rfl, Nat.zero_le _, fun t ht => ?_⟩
    have e1 : Ext [] H (upd H d (.dK [])) := .new hd
    have e2 := e1.trans (Ext.new (L := []) (o := .tup []) ht)
    have dt : d ≠ t := fun z => by rw [← z, upd_same] at ht; cases ht
    refine ⟨by rw [upd_ne dt, upd_same], [(kN 0, .ref t)], rfl, (by show 1 ≤ 15; decide), ?_⟩
    have e3 := e2.put (o := .dK (mergeK [] [(kN 0, .ref t)])) hd
    have hd3 : upd (upd (upd H d (.dK [])) t (.tup [])) d (.dK (mergeK [] [(kN 0, .ref t)])) d = some (.dK [(kN 0, .ref t)]) := upd_same
    have ht3 : upd (upd (upd H d (.dK [])) t (.tup [])) d (.dK (mergeK [] [(kN 0, .ref t)])) t = some (.tup []) := by rw [upd_ne dt.symm, upd_same]
    generalize upd (upd (upd H d (.dK [])) t (.tup [])) d (.dK (mergeK [] [(kN 0, .ref t)])) = H3 at *
    -- order = [0]
    refine ⟨_, rfl, (by show 1 ≤ sizeLine; decide), fun o ho => ?_⟩
    have ho0 : H o = none := e3.free ho
    have od : d ≠ o := ne_of_none hd3 ho
    have e4 := e3.put2 (o := .lst [.int 0]) ho
    -- the loop
    let Row : Hp → Nat → V → Prop := fun H' m v => ∃ (x : Addr) (xs : List V), v = .ref x ∧ SqT K H' x xs ∧ xs.length ≤ m
    refine ⟨fun m σ H' => ∃ (F : List Nat) (kvs : List (Key × V)) (i : Nat) (y4 y5 y6 : Option V), σ = [some (.ref a), some (.int 0), some (.ref d), some (.ref o), some (.int i), y4, y5, y6] ∧ MetI b F i ∧ m = b.length - i ∧ H' o = some (.lst (F.map nV)) ∧ H' d = some (.dK kvs) ∧ kvs.map (·.1) = F.map kN ∧ (∀ e ∈ kvs, Row H' F.length e.2) ∧ Ext [] H H',
      ⟨_, [0], [(kN 0, .ref t)], 0, _, _, _, rfl, .first ok.one, rfl, upd_same, by rw [upd_ne od]; exact hd3, rfl, fun e he => ?_, e4⟩, ?_⟩
    · obtain rfl := List.mem_singleton.mp he
      have ot : t ≠ o := ne_of_none ht3 ho
      exact ⟨t, [], rfl, .of (by rw [upd_ne ot]; exact ht3), Nat.zero_le _⟩
    rintro m σ H' ⟨F, kvs, i, y4, y5, y6, rfl, mi, rfl, hF, hD, hk, hrow, e⟩
    have Fle : F.length ≤ b.length := nodup_le mi.nd mi.lt
    refine ⟨_, rfl, _, rfl, o, _, rfl, .inl (.of hF), _, _, rfl, rfl, _, rfl, ite2 (fun z => ?_) (fun z => ?_)⟩
    · have z := of_decide_eq_true z
      rw [List.length_map] at z
      have hiF : i < F.length := by omega
      have hs : F[i]? = some F[i] := List.getElem?_eq_getElem hiF
      generalize F[i] = x at hs
      have hx : x < b.length := mi.lt x (List.mem_of_getElem? hs)
      obtain ⟨u, hu, c, ps, rfl, hc, hps⟩ := Paired.get hls (mvs_lt hx)
      have plen := Paired.len hps
      refine ⟨fun σ H' => ∃ (F : List Nat) (kvs : List (Key × V)) (y4 y5 y6 : Option V), σ = [some (.ref a), some (.int 0), some (.ref d), some (.ref o), some (.int (i + 1 : Nat)), y4, y5, y6] ∧ MetI b F (i + 1) ∧ H' o = some (.lst (F.map nV)) ∧ H' d = some (.dK kvs) ∧ kvs.map (·.1) = F.map kN ∧ (∀ e ∈ kvs, Row H' F.length e.2) ∧ Ext [] H H', ?_, ?_⟩
      · rintro σ' H' ⟨F, kvs, y4, y5, y6, rfl, mi, r⟩
        exact ⟨b.length - (i + 1), by omega, F, kvs, i + 1, _, _, _, rfl, mi, rfl, r⟩
      refine ⟨_, rfl, _, rfl, o, _, _, _, rfl, rfl, .of hF, atI_nat (at_map hs), ?_⟩
      refine ⟨_, rfl, _, _, rfl, rfl, ?_⟩
      refine ⟨_, rfl, _, rfl, a, _, _, _, rfl, rfl, e.tup Lsts.nil ha, atI_nat hu, c, rfl, ⟨_, (e.tup Lsts.nil hc)⟩, ?_⟩
      refine for_tup (K := K) (a := c) (xs := ps.map V.ref) (fun k σ H' => ∃ (F : List Nat) (kvs : List (Key × V)) (y5 y6 : Option V), σ = [some (.ref a), some (.int 0), some (.ref d), some (.ref o), some (.int ((i : Int) + 1)), some (nV x), y5, y6] ∧ MetW b F i x k ∧ H' o = some (.lst (F.map nV)) ∧ H' d = some (.dK kvs) ∧ kvs.map (·.1) = F.map kN ∧ (∀ e ∈ kvs, Row H' F.length e.2) ∧ Ext [] H H')
        ⟨F, kvs, _, _, rfl, mi.begin hs, hF, hD, hk, hrow, e⟩ (fun k σ H' _ ⟨_, _, _, _, _, _, _, _, _, _, e⟩ => (e.tup Lsts.nil hc)) ?_ ?_
      · rintro k v σ H' hv ⟨F, kvs, y5, y6, rfl, mw, hF, hD, hk, hrow, e⟩
        obtain ⟨g, hg, rfl⟩ := map_at hv
        obtain ⟨p, hp, hcp⟩ := Paired.get' hps hg
        have hcp := hcp.ext0 e
        have Fle : F.length ≤ b.length := nodup_le mw.nd mw.lt
        have pb : p.2 < b.length := ok.to (List.mem_of_getElem? hp)
        refine ⟨g, _, rfl, hcp, rfl, _, _, rfl, _, _, rfl, rfl, ?_⟩
        refine ⟨_, rfl, _, rfl, d, _, rfl, DGet.k (k := kN p.2) hD, _, rfl, ?_⟩
        rw [valV_key hk]
        by_cases hin : p.2 ∈ F
        · rw [decide_eq_true hin]
          exact iteF ⟨F, kvs, _, _, rfl, mw.skip hp hin, hF, hD, hk, hrow, e⟩
        · rw [decide_eq_false hin]
          refine iteT ?_
          -- rows[state] + (message,)
          have xin : x ∈ F := List.mem_of_getElem? mw.here
          have hsome : (valV kvs (kN x)).isSome = true := by rw [valV_key hk]; exact decide_eq_true xin
          obtain ⟨rv, hrv⟩ := Option.isSome_iff_exists.mp hsome
          obtain ⟨r, rs, er, hr1, hr2⟩ := hrow _ (valV_mem hrv)
          have er : rv = .ref r := er
          subst er
          have newk : valV kvs (kN p.2) = none := by
            have := valV_key hk p.2
            rw [decide_eq_false hin] at this
            cases h : valV kvs (kN p.2) with
            | none => rfl
            | some z => rw [h] at this; cases this
          have klen : kvs.length = F.length := by have := congrArg List.length hk; simpa using this
          -- behind the new row: the dict, the list
          have fin : ∀ (nr : Addr) (ys : List V) (H4 : Hp), Ext [] H' H4 → SqT K H4 nr ys → ys.length ≤ F.length + 1 → ∃ H5, DPut H4 d (.int p.2) (.ref nr) H5 ∧
              ∃ q5 : H5 = upd H4 d (.dK (kvs ++ [(kN p.2, .ref nr)])), H5 o = some (.lst (F.map nV)) ∧ H5 d = some (.dK (kvs ++ [(kN p.2, .ref nr)])) ∧ (∀ e ∈ kvs ++ [(kN p.2, .ref nr)], Row H5 (F.length + 1) e.2) ∧ Ext [] H H5 := by
            intro nr ys H4 e4 hn hl
            have hD4 := e4.at hD (by simp)
            have hF4 := e4.at hF (by simp)
            refine ⟨_, DPut.k (k := kN p.2) hD4 (small1000 (by omega)), by rw [putK_new _ newk], ?_⟩
            rw [putK_new _ newk]
            have ee : Ext [d] H4 (upd H4 d (.dK (kvs ++ [(kN p.2, .ref nr)]))) := .wr (by simp)
            refine ⟨by rw [upd_ne od.symm]; exact hF4, upd_same, fun z hz => ?_, (e.trans e4).put hd⟩
            rcases List.mem_append.mp hz with hz | hz
            · obtain ⟨x, xs, h1, h2, h3⟩ := hrow z hz
              exact ⟨x, xs, h1, ee.tup (one_dk hD4) (e4.tup Lsts.nil h2), by omega⟩
            · obtain rfl := List.mem_singleton.mp hz
              exact ⟨nr, ys, rfl, ee.tup (one_dk hD4) hn, hl⟩
          have last : ∀ (nr : Addr) (H5 : Hp), H5 o = some (.lst (F.map nV)) → H5 d = some (.dK (kvs ++ [(kN p.2, .ref nr)])) → (∀ e ∈ kvs ++ [(kN p.2, .ref nr)], Row H5 (F.length + 1) e.2) → Ext [] H H5 →
              ∃ (F' : List Nat) (kvs' : List (Key × V)) (y5 y6 : Option V), [some (.ref a), some (.int 0), some (.ref d), some (.ref o), some (.int ((i : Int) + 1)), some (nV x), some (.int p.1), some (.int p.2)] = [some (.ref a), some (.int 0), some (.ref d), some (.ref o), some (.int ((i : Int) + 1)), some (nV x), y5, y6] ∧
                MetW b F' i x (k + 1) ∧ upd H5 o (.lst (F.map nV ++ [.int p.2])) o = some (.lst (F'.map nV)) ∧ upd H5 o (.lst (F.map nV ++ [.int p.2])) d = some (.dK kvs') ∧ kvs'.map (·.1) = F'.map kN ∧ (∀ e ∈ kvs', Row (upd H5 o (.lst (F.map nV ++ [.int p.2]))) F'.length e.2) ∧ Ext [] H (upd H5 o (.lst (F.map nV ++ [.int p.2]))) := by
            intro nr H5 h1 h2 h3 h4
            refine ⟨F ++ [p.2], kvs ++ [(kN p.2, .ref nr)], _, _, rfl, mw.push hp hin pb, by rw [upd_same, List.map_append]; rfl, by rw [upd_ne od]; exact h2, by rw [List.map_append, List.map_append, hk]; rfl, fun z hz => ?_, h4.put ho0⟩
            obtain ⟨x, xs, g1, g2, g3⟩ := h3 z hz
            exact ⟨x, xs, g1, Ext.tup (L := [o]) (.wr (by simp)) (one_lst h1) g2, by rw [List.length_append]; exact g3⟩
          refine ⟨_, rfl, _, rfl, d, _, rfl, by rw [← hrv]; exact DGet.k (k := kN x) hD, _, rfl, (by show 1 ≤ sizeLine; decide), fun g2 hg2 => ?_⟩
          have e5 : Ext [] H' (upd H' g2 (.tup [.int p.1])) := .new hg2
          refine ⟨r, g2, rs, _, rfl, rfl, e5.tup Lsts.nil hr1, .of upd_same, ?_, fun h0 => ?_, fun _ h0 => (by cases h0), fun _ _ g3 hg3 => ?_⟩
          · show rs.length + 1 ≤ sizeLine
            exact Nat.le_of_lt (small1000 (by omega))
          · obtain ⟨H5, dp, _, f1, f2, f3, f4⟩ := fin g2 [.int p.1] _ e5 (.of upd_same) (by simp)
            refine ⟨_, rfl, _, rfl, d, H5, rfl, dp, ?_⟩
            exact ⟨_, rfl, .inl ⟨rfl, _, .of f1⟩, _, rfl, o, _, _, rfl, rfl, f1, by rw [List.length_map]; exact small1000 (by omega), last g2 H5 f1 f2 f3 f4⟩
          · obtain ⟨H5, dp, _, f1, f2, f3, f4⟩ := fin g3 (rs ++ [.int p.1]) _ (e5.put2 hg3) (.of upd_same) (by rw [List.length_append]; show rs.length + 1 ≤ _; omega)
            refine ⟨_, rfl, _, rfl, d, H5, rfl, dp, ?_⟩
            exact ⟨_, rfl, .inl ⟨rfl, _, .of f1⟩, _, rfl, o, _, _, rfl, rfl, f1, by rw [List.length_map]; exact small1000 (by omega), last g3 H5 f1 f2 f3 f4⟩
      · rintro σ H' ⟨F, kvs, y5, y6, rfl, mw, hF, hD, hk, hrow, e⟩
        exact ⟨F, kvs, _, _, _, by rw [Int.natCast_add]; rfl, mw.done (by rw [List.length_map, plen]; exact Nat.le_refl _), hF, hD, hk, hrow, e⟩
    · have z : ¬ ((i : Int) < ((F.map nV).length : Int)) := fun y => z (decide_eq_true y)
      rw [List.length_map] at z
      have := mi.le
      exact ⟨_, rfl, q F kvs d H' (mi.met (.inl (by omega))) hk hD e⟩
theorem Met.all {b : Book} {F : List Nat} (m : Met b F) {s : Nat} (h : Rch b s) : s ∈ F := by
  induction h with
  | zero => exact List.mem_of_getElem? m.zero
  | step _ hp ih => exact m.cl _ ih _ hp
theorem sc_made_book : FnScope ["thing", "reached", "state"] ["thing"] (defScope s_made_book) := ⟨rfl, rfl, rfl, by decide +kernel, rfl, by decide +kernel, by decide +kernel⟩
def sp_made_book (K : PySem.W.Frag) : Sp := fun vs H Q _ => ∃ (v : V) (b : Book), vs = [v] ∧ BkV K H v b ∧ OkB b ∧ ∀ H', Ext [] H H' → Q v H'
theorem ok_made_book (T : Tx K mg) : FnOk P w K mg base CX0 5 T.made_book.f T.made_book.fd ["thing"] (sp_made_book K) := by
  refine T.made_book.F.ok sc_made_book (fun vs H Q E h => ?_) (fun cdv A outer s H vs Q E hr h => ?_)
  · obtain ⟨v, b, rfl, _⟩ := h; rfl
  · obtain ⟨v, b, rfl, hb, ok, q⟩ := h
    refine ⟨_, (pss_cons (ps_expr (pe_call (ok_check_form T) (hr.mono (by decide)) (by rfl) T.check_form.g T.check_form.F.kp T.check_form.b .nil pass0 (pa_cons (pv 0) pa_nil)))
      (pss_cons (ps_set (i := 1) sc_made_book.nd rfl (.inl rfl) (pe_call (ok_first_rows T) (hr.mono (by decide)) (by rfl) T.first_rows.g T.first_rows.F.kp T.first_rows.bD.choose_spec.2 T.first_rows.bD.choose_spec.1 pass0 (pa_cons (pv 0) pa_nil)))
      (pss_cons (ps_for PassesOwn.never rfl (pi_range1 (by rfl) T.n_range (pa_cons (pe_callB call_len_seq (by rfl) T.n_len PySem.boot_len (pa_cons (pv 0) pa_nil)) pa_nil)) (pg_name (i := 2) sc_made_book.nd rfl (.inl rfl))
        (pss_one (ps_if (pt_cmp (pc_dnotin (hu_of hr) (pv 2) (pv 1)))
          (pss_one ps_never)
          pss_nil)))
      (pss_one (ps_ret (pv 0)))))), ?_⟩
    refine ⟨_, rfl, v, b, rfl, hb, ok.toFormB, ?_⟩
    refine ⟨_, rfl, v, b, rfl, hb.wk, ok.toFormB, fun F kvs d H' mt hk hd e => ?_⟩
    obtain ⟨a, ls, rfl, ha, hls⟩ := hb
    have llen := Paired.len hls
    have h8 := ok.eight
    refine ⟨_, rfl, a, _, rfl, .inr (e.tup Lsts.nil ha), _, rfl, by omega, by omega, for_range (lo := 0) (n := _) (fun k σ H2 => H2 = H' ∧ ∃ y : Option V, σ = [some (.ref a), some (.ref d), y]) ⟨rfl, _, rfl⟩ ?_ ?_⟩
    · rintro k σ H2 hk' ⟨rfl, y, rfl⟩
      simp only [Int.zero_add]
      rw [Int.toNat_natCast] at hk'
      refine ⟨_, rfl, _, rfl, d, _, rfl, DGet.k (k := kN k) hd, _, rfl, ?_⟩
      rw [valV_key hk, decide_eq_true (mt.all (ok.reach k (by omega)))]
      exact iteF ⟨rfl, _, rfl⟩
    · rintro σ H2 ⟨rfl, y, rfl⟩
      exact ⟨_, rfl, q _ e⟩
end
end Nv
set_option Elab.async false
set_option linter.all false
set_option maxRecDepth 100000
namespace Nv
open PySem PySem.Spec PyProof.Rows L2
/-! ### comprehensions of some forms -/
abbrev LcEnd (g : TG) (tt : TT) (te : TE) (vs : List Nat) (σ : L2.St) (D : Addr) (J : It) (H1 : Hp) (Qd : Hp → Prop) : Prop := ∃ W : Nat → Nat → Hp → Prop, (∃ m, W 0 m (upd H1 D (.lst []))) ∧ ∀ i m H, W i m H →
  (J.stop i H ∧ Qd H) ∨ (J.go i H ∧ ∃ Nx : Hp → Prop, (∀ H', Nx H' → ∃ m', m' < m ∧ W (i + 1) m' H') ∧ ∀ x H', J.yld i H x H' → g x (wipe σ vs) H' fun σ2 H2 => wipe σ2 vs = wipe σ vs ∧ tt σ2 H2 fun b H3 =>
    if b = true then te σ2 H3 fun y H4 => ∃ acc, H4 D = some (.lst acc) ∧ acc.length < sizeLine ∧ Nx (upd H4 D (.lst (acc ++ [y]))) else Nx H3)
theorem filter_take {α : Type} (f : α → Bool) {l : List α} {i : Nat} {x : α} (h : l[i]? = some x) : (l.take (i + 1)).filter f = (l.take i).filter f ++ (if f x = true then [x] else []) := by
  rw [List.take_add_one, h, List.filter_append]
  cases e : f x <;> simp [e]
/-- [x for x in l if test]: l holds numbers -/
theorem filt_list {K : PySem.W.Frag} {a : Addr} {l : List Nat} {j : Nat} {vs : List Nat} {σ : L2.St} {H1 : Hp} {D : Addr} {Qd : Hp → Prop} {tt : TT} (f : Nat → Bool) (hD : H1 D = none) (hl : SqL K H1 a (l.map nV)) (hn : l.length < 1000)
    (hj : ∀ v : V, ((wipe σ vs).set j (some v))[j]? = some (some v)) (hw : ∀ v : V, wipe ((wipe σ vs).set j (some v)) vs = wipe σ vs)
    (ht : ∀ k H', k ∈ l → Ext [] H1 H' → tt ((wipe σ vs).set j (some (nV k))) H' (fun b H3 => b = f k ∧ Ext [] H' H3))
    (hd : ∀ H', H' D = some (.lst ((l.filter f).map nV)) → Ext [] H1 H' → Qd H') : LcEnd (gName j) (tMidT tt) (tVar j) vs σ D (Itl K a) H1 Qd := by
  refine lc_list (K := K) (a := a) (xs := l.map nV) (fun i H' => H' D = some (.lst (((l.take i).filter f).map nV)) ∧ Ext [] H1 H') ⟨upd_same, .new hD⟩ (fun i H' _ ⟨_, e⟩ => e.frz (by simp) hl) ?_ ?_
  · rintro i v H' hv ⟨h1, e⟩
    obtain ⟨k, hk, rfl⟩ := map_at hv
    refine ⟨hw _, _, ht k H' (List.mem_of_getElem? hk) e, ?_⟩
    rintro b H3 ⟨rfl, e3⟩
    have h3 := e3.at h1 (by simp)
    rw [filter_take f hk]
    refine ifB (fun hf => ?_) (fun hf => ?_)
    · refine ⟨_, hj _, _, h3, ?_, ?_, (e.trans e3).put hD⟩
      · rw [List.length_map]
        refine small1000 (Nat.le_trans (List.length_filter_le _ _) ?_)
        rw [List.length_take]
        omega
      · rw [upd_same, hf]
        simp
    · rw [hf]
      simp only [Bool.false_eq_true, if_false, List.append_nil]
      exact ⟨h3, e.trans e3⟩
  · rintro H' ⟨h1, e⟩
    rw [List.length_map, List.take_length] at h1
    exact hd H' h1 e
/-- the same over a tuple -/
theorem filt_tup {K : PySem.W.Frag} {a : Addr} {l : List Nat} {j : Nat} {vs : List Nat} {σ : L2.St} {H1 : Hp} {D : Addr} {Qd : Hp → Prop} {tt : TT} (f : Nat → Bool) (hD : H1 D = none) (hl : SqT K H1 a (l.map nV)) (hn : l.length < 1000)
    (hj : ∀ v : V, ((wipe σ vs).set j (some v))[j]? = some (some v)) (hw : ∀ v : V, wipe ((wipe σ vs).set j (some v)) vs = wipe σ vs)
    (ht : ∀ k H', k ∈ l → Ext [] H1 H' → tt ((wipe σ vs).set j (some (nV k))) H' (fun b H3 => b = f k ∧ Ext [] H' H3))
    (hd : ∀ H', H' D = some (.lst ((l.filter f).map nV)) → Ext [] H1 H' → Qd H') : LcEnd (gName j) (tMidT tt) (tVar j) vs σ D (Itt K a) H1 Qd := by
  refine lc_tup (K := K) (a := a) (xs := l.map nV) (fun i H' => H' D = some (.lst (((l.take i).filter f).map nV)) ∧ Ext [] H1 H') ⟨upd_same, .new hD⟩ (fun i H' _ ⟨_, e⟩ => e.tup Lsts.nil hl) ?_ ?_
  · rintro i v H' hv ⟨h1, e⟩
    obtain ⟨k, hk, rfl⟩ := map_at hv
    refine ⟨hw _, _, ht k H' (List.mem_of_getElem? hk) e, ?_⟩
    rintro b H3 ⟨rfl, e3⟩
    have h3 := e3.at h1 (by simp)
    rw [filter_take f hk]
    refine ifB (fun hf => ?_) (fun hf => ?_)
    · refine ⟨_, hj _, _, h3, ?_, ?_, (e.trans e3).put hD⟩
      · rw [List.length_map]
        refine small1000 (Nat.le_trans (List.length_filter_le _ _) ?_)
        rw [List.length_take]
        omega
      · rw [upd_same, hf]
        simp
    · rw [hf]
      simp only [Bool.false_eq_true, if_false, List.append_nil]
      exact ⟨h3, e.trans e3⟩
  · rintro H' ⟨h1, e⟩
    rw [List.length_map, List.take_length] at h1
    exact hd H' h1 e
/-- [x for x in range(n) if test] -/
theorem filt_range {n : Nat} {j : Nat} {vs : List Nat} {σ : L2.St} {H1 : Hp} {D : Addr} {Qd : Hp → Prop} {tt : TT} (f : Nat → Bool) (hD : H1 D = none) (hn : n < 1000)
    (hj : ∀ v : V, ((wipe σ vs).set j (some v))[j]? = some (some v)) (hw : ∀ v : V, wipe ((wipe σ vs).set j (some v)) vs = wipe σ vs)
    (ht : ∀ k H', k < n → Ext [] H1 H' → tt ((wipe σ vs).set j (some (nV k))) H' (fun b H3 => b = f k ∧ Ext [] H' H3))
    (hd : ∀ H', H' D = some (.lst (((List.range n).filter f).map nV)) → Ext [] H1 H' → Qd H') : LcEnd (gName j) (tMidT tt) (tVar j) vs σ D (Itr 0 n) H1 Qd := by
  refine lc_range (lo := 0) (n := n) (fun i H' => H' D = some (.lst ((((List.range n).take i).filter f).map nV)) ∧ Ext [] H1 H') ⟨upd_same, .new hD⟩ ?_ ?_
  · rintro i H' hi ⟨h1, e⟩
    have hk : (List.range n)[i]? = some i := by rw [List.getElem?_range hi]
    simp only [Int.zero_add]
    refine ⟨hw _, _, ht i H' hi e, ?_⟩
    rintro b H3 ⟨rfl, e3⟩
    have h3 := e3.at h1 (by simp)
    rw [filter_take f hk]
    refine ifB (fun hf => ?_) (fun hf => ?_)
    · refine ⟨_, hj _, _, h3, ?_, ?_, (e.trans e3).put hD⟩
      · rw [List.length_map]
        refine small1000 (Nat.le_trans (List.length_filter_le _ _) ?_)
        rw [List.length_take, List.length_range]
        omega
      · rw [upd_same, hf]
        simp
    · rw [hf]
      simp only [Bool.false_eq_true, if_false, List.append_nil]
      exact ⟨h3, e.trans e3⟩
  · rintro H' ⟨h1, e⟩
    rw [List.take_of_length_le (by simp)] at h1
    exact hd H' h1 e
/-- two clauses: the first over a list -/
theorem lc2_list {K : PySem.W.Frag} {a : Addr} {xs : List V} {g g1 : TG} {tt tt1 : TT} {wi1 : TI} {te : TE} {vs vs1 : List Nat} {σ : L2.St} {H1 : Hp} {D : Addr} {Qd : Hp → Prop} (Pv : Nat → Hp → Prop) (h0 : Pv 0 (upd H1 D (.lst []))) (hl : ∀ i H, i ≤ xs.length → Pv i H → SqL K H a xs)
    (hs : ∀ i x H, xs[i]? = some x → Pv i H → g x (wipe σ vs) H fun σ2 H2 => wipe σ2 vs = wipe σ vs ∧ tt σ2 H2 fun b H3 => if b = true then wi1 σ2 H3 fun J1 H4 => ∃ W1 : Nat → Nat → Hp → Prop, (∃ m, W1 0 m H4) ∧ ∀ j k H, W1 j k H →
      (J1.stop j H ∧ Pv (i + 1) H) ∨ (J1.go j H ∧ ∃ Nx1 : Hp → Prop, (∀ H', Nx1 H' → ∃ k', k' < k ∧ W1 (j + 1) k' H') ∧ ∀ x H', J1.yld j H x H' → g1 x (wipe σ2 vs1) H' fun σ3 H5 => wipe σ3 vs1 = wipe σ2 vs1 ∧ tt1 σ3 H5 fun b H6 =>
        if b = true then te σ3 H6 fun y H7 => ∃ acc, H7 D = some (.lst acc) ∧ acc.length < sizeLine ∧ Nx1 (upd H7 D (.lst (acc ++ [y]))) else Nx1 H6) else Pv (i + 1) H3)
    (hd : ∀ H, Pv xs.length H → Qd H) :
    ∃ W : Nat → Nat → Hp → Prop, (∃ m, W 0 m (upd H1 D (.lst []))) ∧ ∀ i m H, W i m H →
      ((Itl K a).stop i H ∧ Qd H) ∨ ((Itl K a).go i H ∧ ∃ Nx : Hp → Prop, (∀ H', Nx H' → ∃ m', m' < m ∧ W (i + 1) m' H') ∧ ∀ x H', (Itl K a).yld i H x H' → g x (wipe σ vs) H' fun σ2 H2 => wipe σ2 vs = wipe σ vs ∧ tt σ2 H2 fun b H3 =>
        if b = true then wi1 σ2 H3 fun J1 H4 => ∃ W1 : Nat → Nat → Hp → Prop, (∃ m, W1 0 m H4) ∧ ∀ j k H, W1 j k H →
          (J1.stop j H ∧ Nx H) ∨ (J1.go j H ∧ ∃ Nx1 : Hp → Prop, (∀ H', Nx1 H' → ∃ k', k' < k ∧ W1 (j + 1) k' H') ∧ ∀ x H', J1.yld j H x H' → g1 x (wipe σ2 vs1) H' fun σ3 H5 => wipe σ3 vs1 = wipe σ2 vs1 ∧ tt1 σ3 H5 fun b H6 =>
            if b = true then te σ3 H6 fun y H7 => ∃ acc, H7 D = some (.lst acc) ∧ acc.length < sizeLine ∧ Nx1 (upd H7 D (.lst (acc ++ [y]))) else Nx1 H6)
        else Nx H3) := by
  refine ⟨fun i m H => m = xs.length - i ∧ i ≤ xs.length ∧ Pv i H, ⟨xs.length, by simp, Nat.zero_le _, h0⟩, ?_⟩
  rintro i m H ⟨rfl, hi, p⟩
  have q := hl i H hi p
  by_cases lt : i < xs.length
  · refine .inr ⟨⟨xs, xs[i], q, List.getElem?_eq_getElem lt⟩, Pv (i + 1), fun H' p' => ⟨xs.length - (i + 1), by omega, rfl, lt, p'⟩, fun x H' y => ?_⟩
    obtain ⟨rfl, y2⟩ := y
    exact hs i x H' (y2 xs q) p
  · have e : i = xs.length := by omega
    subst e
    exact .inl ⟨⟨xs, q, Nat.le_refl _⟩, hd H p⟩
/-- the second over a tuple -/
theorem lc2_tup {K : PySem.W.Frag} {c : Addr} {ys : List V} {g1 : TG} {tt1 : TT} {te : TE} {vs1 : List Nat} {σ2 : L2.St} {H4 : Hp} {D : Addr} {Nx : Hp → Prop} (Pv : Nat → Hp → Prop) (h0 : Pv 0 H4) (hl : ∀ j H, j ≤ ys.length → Pv j H → SqT K H c ys)
    (hs : ∀ j y H, ys[j]? = some y → Pv j H → g1 y (wipe σ2 vs1) H fun σ3 H5 => wipe σ3 vs1 = wipe σ2 vs1 ∧ tt1 σ3 H5 fun b H6 =>
      if b = true then te σ3 H6 fun y H7 => ∃ acc, H7 D = some (.lst acc) ∧ acc.length < sizeLine ∧ Pv (j + 1) (upd H7 D (.lst (acc ++ [y]))) else Pv (j + 1) H6) (hd : ∀ H, Pv ys.length H → Nx H) :
    ∃ W1 : Nat → Nat → Hp → Prop, (∃ m, W1 0 m H4) ∧ ∀ j k H, W1 j k H →
      ((Itt K c).stop j H ∧ Nx H) ∨ ((Itt K c).go j H ∧ ∃ Nx1 : Hp → Prop, (∀ H', Nx1 H' → ∃ k', k' < k ∧ W1 (j + 1) k' H') ∧ ∀ x H', (Itt K c).yld j H x H' → g1 x (wipe σ2 vs1) H' fun σ3 H5 => wipe σ3 vs1 = wipe σ2 vs1 ∧ tt1 σ3 H5 fun b H6 =>
        if b = true then te σ3 H6 fun y H7 => ∃ acc, H7 D = some (.lst acc) ∧ acc.length < sizeLine ∧ Nx1 (upd H7 D (.lst (acc ++ [y]))) else Nx1 H6) := by
  refine ⟨fun i m H => m = ys.length - i ∧ i ≤ ys.length ∧ Pv i H, ⟨ys.length, by simp, Nat.zero_le _, h0⟩, ?_⟩
  rintro i m H ⟨rfl, hi, p⟩
  have q := hl i H hi p
  by_cases lt : i < ys.length
  · refine .inr ⟨⟨ys, ys[i], q, List.getElem?_eq_getElem lt⟩, Pv (i + 1), fun H' p' => ⟨ys.length - (i + 1), by omega, rfl, lt, p'⟩, fun x H' y => ?_⟩
    obtain ⟨rfl, y2⟩ := y
    exact hs i x H' (y2 ys q) p
  · have e : i = ys.length := by omega
    subst e
    exact .inl ⟨⟨ys, q, Nat.le_refl _⟩, hd H p⟩
end Nv
set_option linter.all false
namespace Nv
/-! ### forks, reach, ways back -/
theorem srt_eq : ∀ {l m : List Nat}, l.Pairwise (· < ·) → m.Pairwise (· < ·) → (∀ k, k ∈ l ↔ k ∈ m) → l = m
  | [], [], _, _, _ => rfl
  | [], b :: m, _, _, h => by have := (h b).mpr (by simp); cases this
  | a :: l, [], _, _, h => by have := (h a).mp (by simp); cases this
  | a :: l, b :: m, h1, h2, h => by
    obtain ⟨a1, a2⟩ := List.pairwise_cons.mp h1
    obtain ⟨b1, b2⟩ := List.pairwise_cons.mp h2
    have e : a = b := by
      have p := (h a).mp (by simp)
      have q := (h b).mpr (by simp)
      rcases List.mem_cons.mp p with p | p
      · exact p
      · rcases List.mem_cons.mp q with q | q
        · exact q.symm
        · have := b1 a p
          have := a1 b q
          omega
    subst e
    rw [srt_eq a2 b2 fun k => ?_]
    constructor
    · intro hk
      rcases List.mem_cons.mp ((h k).mp (List.mem_cons_of_mem _ hk)) with e | e
      · have := a1 k hk; omega
      · exact e
    · intro hk
      rcases List.mem_cons.mp ((h k).mpr (List.mem_cons_of_mem _ hk)) with e | e
      · have := b1 k hk; omega
      · exact e
theorem filt_srt (n : Nat) (f : Nat → Bool) : ((List.range n).filter f).Pairwise (· < ·) := List.Pairwise.sublist List.filter_sublist List.pairwise_lt_range
theorem mem_filt {n : Nat} {f : Nat → Bool} {k : Nat} : k ∈ (List.range n).filter f ↔ k < n ∧ f k = true := by rw [List.mem_filter, List.mem_range]
def forksM (b : Book) : List Nat := (List.range b.length).filter fun s => decide (1 < (mvs b s).length)
/-- one message further -/
def nextB (b : Book) (L : List Nat) (k : Nat) : Bool := decide (k ∈ L) || L.any fun j => (mvs b j).any fun p => p.2 == k
def stepL (b : Book) (L : List Nat) : List Nat := (List.range b.length).filter (nextB b L)
def wiL (b : Book) (s : Nat) : Nat → List Nat
  | 0 => [s]
  | n + 1 => stepL b (wiL b s n)
def reachL (b : Book) (s many : Nat) : List Nat := wiL b s (min many b.length)
def ledL (b : Book) (t many : Nat) : List Nat := if many = 0 then [] else reachL b t (many - 1)
theorem wiL_lt {b : Book} {s : Nat} (hs : s < b.length) : ∀ n, ∀ k ∈ wiL b s n, k < b.length
  | 0, k, hk => by rw [List.mem_singleton.mp hk]; exact hs
  | n + 1, k, hk => (mem_filt.mp hk).1
theorem wiL_srt (b : Book) (s : Nat) : ∀ n, (wiL b s n).Pairwise (· < ·)
  | 0 => by simp [wiL]
  | n + 1 => filt_srt _ _
theorem srt_nodup {l : List Nat} (h : l.Pairwise (· < ·)) : l.Nodup := List.Pairwise.imp (fun h e => by omega) h
theorem wiL_len {b : Book} {s : Nat} (hs : s < b.length) (n : Nat) : (wiL b s n).length ≤ b.length := nodup_le (srt_nodup (wiL_srt b s n)) (wiL_lt hs n)
def waysM (b : Book) (s : Nat) : Nat := ((mvs b s).filter fun p => decide (s ∈ reachL b p.2 b.length)).length
def knotsM (b : Book) : List Nat := (List.range b.length).filter fun s => decide (1 < waysM b s)
/-- a step's list, by what it has -/
theorem step_eq {b : Book} (fb : FormB b) {L ahead ms : List Nat} (hL : ∀ k ∈ L, k < b.length) (ha : ∀ k, k ∈ ahead ↔ ∃ j ∈ L, ∃ p ∈ mvs b j, p.2 = k) (h1 : ms.Pairwise (· < ·)) (h2 : ∀ k, k ∈ ms ↔ k ∈ L ∨ k ∈ ahead) : ms = stepL b L := by
  refine srt_eq h1 (filt_srt _ _) fun k => ?_
  rw [h2, ha]
  unfold stepL
  rw [mem_filt]
  unfold nextB
  rw [Bool.or_eq_true, decide_eq_true_eq, List.any_eq_true]
  constructor
  · rintro (h | ⟨j, hj, p, hp, e⟩)
    · exact ⟨hL k h, .inl h⟩
    · exact ⟨by rw [← e]; exact fb.to hp, .inr ⟨j, hj, by rw [List.any_eq_true]; exact ⟨p, hp, by simp [e]⟩⟩⟩
  · rintro ⟨_, h | ⟨j, hj, h⟩⟩
    · exact .inl h
    · rw [List.any_eq_true] at h
      obtain ⟨p, hp, e⟩ := h
      exact .inr ⟨j, hj, p, hp, by simpa using e⟩
def leadM (b : Book) (W s : Nat) (goals : List Nat) : List Nat := ((mvs b s).filter fun p => (ledL b p.2 (W - 1)).any fun k => decide (k ∈ goals)).map (·.1)
theorem reachL_lt {b : Book} {s m : Nat} (hs : s < b.length) : ∀ k ∈ reachL b s m, k < b.length := wiL_lt hs _
theorem ledL_lt {b : Book} {s m : Nat} (hs : s < b.length) : ∀ k ∈ ledL b s m, k < b.length := by
  unfold ledL
  split
  · intro k hk; cases hk
  · exact reachL_lt hs
/-! ### a dict of unlike keys -/
open L2 in
theorem valV_none_of {kvs : List (Key × V)} {k : Key} (h : k ∉ kvs.map (·.1)) : valV kvs k = none := by
  cases e : valV kvs k with
  | none => rfl
  | some v => exact absurd (List.mem_map.mpr ⟨_, valV_mem e, rfl⟩) h
open L2 in
theorem mergeK_nd : ∀ (more acc : List (Key × V)), ((acc ++ more).map (·.1)).Nodup → mergeK acc more = acc ++ more
  | [], acc, _ => by show acc = acc ++ []; rw [List.append_nil]
  | p :: r, acc, h => by
    have hp : valV acc p.1 = none := valV_none_of fun z => by
      rw [List.map_append, List.map_cons, List.nodup_append] at h
      exact h.2.2 _ z _ (by simp) rfl
    show mergeK (putK acc p.1 p.2) r = _
    rw [putK_new _ hp, mergeK_nd r (acc ++ [(p.1, p.2)]) (by rw [List.append_assoc]; exact h), List.append_assoc]
    rfl
open L2 in
theorem valV_nd : ∀ {kvs : List (Key × V)} {k : Key} {v : V}, (kvs.map (·.1)).Nodup → (k, v) ∈ kvs → valV kvs k = some v
  | [], _, _, _, h => nomatch h
  | p :: r, k, v, nd, h => by
    rw [List.map_cons, List.nodup_cons] at nd
    rcases List.mem_cons.mp h with h | h
    · subst h
      exact valV_pos rfl
    · have ne : ¬ p.1 = k := fun e => nd.1 (by rw [e]; exact List.mem_map.mpr ⟨_, h, rfl⟩)
      rw [valV_neg ne]
      exact valV_nd nd.2 h
/-! ### ranks, round by round -/
def setAll (r : List (Option Int)) (L : List Nat) (x : Int) : List (Option Int) := L.foldl (fun r f => r.set f (some x)) r
theorem setAll_snoc (r : List (Option Int)) (L : List Nat) (f : Nat) (x : Int) : setAll r (L ++ [f]) x = (setAll r L x).set f (some x) := by
  unfold setAll
  rw [List.foldl_append]
  rfl
theorem setAll_len : ∀ (L : List Nat) (r : List (Option Int)) (x : Int), (setAll r L x).length = r.length
  | [], _, _ => rfl
  | f :: L, r, x => by
    show (setAll (r.set f (some x)) L x).length = _
    rw [setAll_len L, List.length_set]
def fallM (b : Book) (W : Nat) (st : List Nat) : List Nat := st.filter fun f => decide ((leadM b W f st).length < 2)
def restM (b : Book) (W : Nat) (st : List Nat) : List Nat := st.filter fun f => !decide (f ∈ fallM b W st)
inductive Rk (b : Book) (W : Nat) : Nat → List Nat → List (Option Int) → List (Option Int) → List Nat → Prop
  | stop {t : Nat} {st : List Nat} {r : List (Option Int)} : fallM b W st = [] → Rk b W t st r (setAll r st (-1)) st
  | go {t : Nat} {st fin : List Nat} {r res : List (Option Int)} : fallM b W st ≠ [] → Rk b W (t + 1) (restM b W st) (setAll r (fallM b W st) t) res fin → Rk b W t st r res fin
theorem rest_len {b : Book} {W : Nat} {st : List Nat} (h : fallM b W st ≠ []) : (restM b W st).length < st.length := by
  obtain ⟨f, hf⟩ := List.exists_mem_of_ne_nil _ h
  have hs : f ∈ st := (List.mem_filter.mp hf).1
  unfold restM
  refine Nat.lt_of_le_of_ne (List.length_filter_le _ _) fun e => ?_
  have := List.length_filter_eq_length_iff.mp e f hs
  simp [hf] at this
def LastM (b : Book) (W : Nat) (res : List (Option Int)) (fin : List Nat) : Prop := Rk b W 0 (forksM b) (List.replicate b.length none) res fin
def lastL (b : Book) (res : List (Option Int)) : List Nat := (List.range b.length).filter fun s => decide (res[s]? = some (some (-1)))
/-- the least number where the window is a number -/
def leastM (b : Book) (res : List (Option Int)) : Nat := if mvs b 0 = [] then 0 else if forksM b = [] then 1 else if lastL b res = [] then 2 else 3
theorem rk_len {b : Book} {W t : Nat} {st fin : List Nat} {r res : List (Option Int)} (h : Rk b W t st r res fin) : res.length = r.length := by
  induction h with
  | stop _ => exact setAll_len _ _ _
  | go _ _ ih => rw [ih, setAll_len]
theorem rk_ex (b : Book) (W : Nat) : ∀ (n t : Nat) (st : List Nat) (r : List (Option Int)), st.length ≤ n → ∃ res fin, Rk b W t st r res fin := by
  intro n
  induction n with
  | zero =>
    intro t st r h
    have : st = [] := List.eq_nil_of_length_eq_zero (by omega)
    subst this
    exact ⟨_, _, .stop rfl⟩
  | succ n ih =>
    intro t st r h
    by_cases e : fallM b W st = []
    · exact ⟨_, _, .stop e⟩
    · obtain ⟨res, fin, k⟩ := ih (t + 1) (restM b W st) (setAll r (fallM b W st) t) (by have := rest_len e; omega)
      exact ⟨res, fin, .go e k⟩
theorem rk_fun {b : Book} {W t : Nat} {st fin fin' : List Nat} {r res res' : List (Option Int)} (h : Rk b W t st r res fin) (h' : Rk b W t st r res' fin') : res = res' ∧ fin = fin' := by
  induction h with
  | stop e =>
    cases h' with
    | stop _ => exact ⟨rfl, rfl⟩
    | go e' _ => exact absurd e e'
  | go e _ ih =>
    cases h' with
    | stop e' => exact absurd e' e
    | go _ k => exact ih k
open PySem PySem.Spec PyProof.Rows L2
/-- the first window for three wires -/
def FromW (b : Book) (o : Option Nat) : Prop := match o with
  | some W => 1 ≤ W ∧ W ≤ 9 ∧ (∃ res fin, LastM b W res fin ∧ leastM b res = 3) ∧ ∀ V, 1 ≤ V → V < W → ∀ res fin, LastM b V res fin → leastM b res ≠ 3
  | none => ∀ V, 1 ≤ V → V ≤ 9 → ∀ res fin, LastM b V res fin → leastM b res ≠ 3
def oN : Option Nat → V
  | none => .non
  | some n => nV n
end Nv
set_option Elab.async false
set_option linter.all false
set_option maxRecDepth 100000
namespace Nv
open PySem PySem.Spec PyProof.Rows L2
section
variable {P : Program} {w : World} {K : PySem.W.Frag} {mg : Str → Option Value} {base : Heap}
/-! ### forks, reach -/
theorem forTo {n m : Nat} (h : n = m) : ((n : Int)).toNat = m := by rw [Int.toNat_natCast, h]
end
end Nv
set_option Elab.async false
set_option linter.all false
set_option maxRecDepth 100000
namespace Nv
open PySem PySem.Spec PyProof.Rows L2
section
variable {P : Program} {w : World} {K : PySem.W.Frag} {mg : Str → Option Value} {base : Heap}
/-! ### ways that lead, ways back -/
theorem iteNS' {c A B : Prop} [Decidable c] (hc : ¬ c) (h : A) : if (!decide c) = true then A else B := by
  rw [decide_eq_false hc]
  exact iteT h
theorem rise_nd {s : State} (h : (s.map (·.1)).Pairwise (· < ·)) : (s.map fun q => ((kN q.1, V.int q.2) : Key × V)).map (·.1) |>.Nodup := by
  rw [List.map_map]
  have e : ((fun x : Key × V => x.1) ∘ fun q : Nat × Nat => ((kN q.1, V.int q.2) : Key × V)) = kN ∘ (·.1) := rfl
  rw [e, ← List.map_map]
  refine List.Pairwise.map kN (fun a b h2 h3 => ?_) h
  have : (a : Int) = (b : Int) := Sum.inl.inj h3
  omega
end
end Nv
set_option Elab.async false
set_option linter.all false
set_option maxRecDepth 100000
namespace Nv
open PySem PySem.Spec PyProof.Rows L2
section
variable {P : Program} {w : World} {K : PySem.W.Frag} {mg : Str → Option Value} {base : Heap}
/-! ### ranks, lasting forks, the least number -/
def oV : Option Int → V
  | none => .non
  | some i => .int i
end
end Nv
set_option linter.all false
namespace Nv
/-! ### states on rings -/
def ringsM (b : Book) : List Nat := (List.range b.length).filter fun s => decide (0 < waysM b s)
def ringForksM (b : Book) : List Nat := (forksM b).filter fun s => decide (s ∈ ringsM b)
end Nv
set_option linter.all false
namespace Nv
/-! ### ends, level by level -/
def nextL (b : Book) (L : List Nat) : List Nat := (List.range b.length).filter fun k => L.any fun j => (mvs b j).any fun p => p.2 == k
def exL (b : Book) (s : Nat) : Nat → List Nat
  | 0 => [s]
  | n + 1 => nextL b (exL b s n)
def endsL (b : Book) (s m : Nat) : List Nat := if m = 0 then [] else wiL b s (m - 1)
theorem any_mv {b : Book} {L : List Nat} {k : Nat} : (L.any fun j => (mvs b j).any fun p => p.2 == k) = true ↔ ∃ j ∈ L, ∃ p ∈ mvs b j, p.2 = k := by
  rw [List.any_eq_true]
  constructor
  · rintro ⟨j, hj, h⟩
    obtain ⟨p, hp, e⟩ := List.any_eq_true.mp h
    exact ⟨j, hj, p, hp, by simpa using e⟩
  · rintro ⟨j, hj, p, hp, e⟩
    exact ⟨j, hj, List.any_eq_true.mpr ⟨p, hp, by simpa using e⟩⟩
theorem mem_next {b : Book} (fb : FormB b) {L : List Nat} {k : Nat} : k ∈ nextL b L ↔ ∃ j ∈ L, ∃ p ∈ mvs b j, p.2 = k := by
  unfold nextL
  rw [mem_filt, any_mv]
  constructor
  · exact fun h => h.2
  · rintro ⟨j, hj, p, hp, e⟩
    exact ⟨by rw [← e]; exact fb.to hp, j, hj, p, hp, e⟩
theorem mem_step {b : Book} (fb : FormB b) {L : List Nat} (hL : ∀ k ∈ L, k < b.length) {k : Nat} : k ∈ stepL b L ↔ k ∈ L ∨ ∃ j ∈ L, ∃ p ∈ mvs b j, p.2 = k := by
  unfold stepL nextB
  rw [mem_filt, Bool.or_eq_true, decide_eq_true_eq, any_mv]
  constructor
  · exact fun h => h.2
  · rintro (h | ⟨j, hj, p, hp, e⟩)
    · exact ⟨hL k h, .inl h⟩
    · exact ⟨by rw [← e]; exact fb.to hp, .inr ⟨j, hj, p, hp, e⟩⟩
theorem exL_srt (b : Book) (s : Nat) : ∀ n, (exL b s n).Pairwise (· < ·)
  | 0 => by simp [exL]
  | n + 1 => filt_srt _ _
theorem exL_lt {b : Book} {s : Nat} (hs : s < b.length) : ∀ n, ∀ k ∈ exL b s n, k < b.length
  | 0, k, hk => by rw [List.mem_singleton.mp hk]; exact hs
  | n + 1, k, hk => (mem_filt.mp hk).1
theorem exL_len {b : Book} {s : Nat} (hs : s < b.length) (n : Nat) : (exL b s n).length ≤ b.length := nodup_le (srt_nodup (exL_srt b s n)) (exL_lt hs n)
theorem wi_ex {b : Book} (fb : FormB b) {s : Nat} (hs : s < b.length) : ∀ (n k : Nat), k ∈ wiL b s n ↔ ∃ j, j ≤ n ∧ k ∈ exL b s j := by
  intro n
  induction n with
  | zero =>
    intro k
    constructor
    · exact fun h => ⟨0, Nat.le_refl _, h⟩
    · rintro ⟨j, hj, h⟩
      have : j = 0 := by omega
      subst this
      exact h
  | succ n ih =>
    intro k
    show k ∈ stepL b (wiL b s n) ↔ _
    rw [mem_step fb (wiL_lt hs n)]
    constructor
    · rintro (h | ⟨x, hx, p, hp, e⟩)
      · obtain ⟨j, hj, h⟩ := (ih k).mp h
        exact ⟨j, by omega, h⟩
      · obtain ⟨j, hj, h⟩ := (ih x).mp hx
        exact ⟨j + 1, by omega, (mem_next fb).mpr ⟨x, h, p, hp, e⟩⟩
    · rintro ⟨j, hj, h⟩
      by_cases hjn : j ≤ n
      · exact .inl ((ih k).mpr ⟨j, hjn, h⟩)
      · have : j = n + 1 := by omega
        subst this
        obtain ⟨x, hx, p, hp, e⟩ := (mem_next fb).mp h
        exact .inr ⟨x, (ih x).mpr ⟨n, Nat.le_refl _, hx⟩, p, hp, e⟩
theorem mem_ends {b : Book} (fb : FormB b) {s : Nat} (hs : s < b.length) {m k : Nat} : k ∈ endsL b s m ↔ ∃ j, j < m ∧ k ∈ exL b s j := by
  unfold endsL
  split
  · rename_i h
    constructor
    · intro z; cases z
    · rintro ⟨j, hj, _⟩; omega
  · rw [wi_ex fb hs]
    constructor
    · rintro ⟨j, hj, h⟩
      exact ⟨j, by omega, h⟩
    · rintro ⟨j, hj, h⟩
      exact ⟨j, by omega, h⟩
theorem endsL_srt (b : Book) (s m : Nat) : (endsL b s m).Pairwise (· < ·) := by
  unfold endsL
  split
  · exact .nil
  · exact wiL_srt _ _ _
theorem endsL_lt {b : Book} {s m : Nat} (hs : s < b.length) : ∀ k ∈ endsL b s m, k < b.length := by
  unfold endsL
  split
  · intro k hk; cases hk
  · exact wiL_lt hs _
theorem endsL_len {b : Book} {s m : Nat} (hs : s < b.length) : (endsL b s m).length ≤ b.length := nodup_le (srt_nodup (endsL_srt b s m)) (endsL_lt hs)
/-! ### steps of any number -/
inductive Rt (b : Book) : Nat → Nat → Prop
  | refl (s : Nat) : Rt b s s
  | step {s k : Nat} {p : Nat × Nat} : Rt b s k → p ∈ mvs b k → Rt b s p.2
theorem Rt.trans {b : Book} {x y z : Nat} (h : Rt b x y) (k : Rt b y z) : Rt b x z := by
  induction k with
  | refl => exact h
  | step _ hp ih => exact ih.step hp
theorem Rt.one {b : Book} {x : Nat} {p : Nat × Nat} (hp : p ∈ mvs b x) : Rt b x p.2 := (Rt.refl x).step hp
theorem wi_mono {b : Book} (fb : FormB b) {s : Nat} (hs : s < b.length) {n m : Nat} (h : n ≤ m) {k : Nat} (hk : k ∈ wiL b s n) : k ∈ wiL b s m := by
  obtain ⟨j, hj, e⟩ := (wi_ex fb hs n k).mp hk
  exact (wi_ex fb hs m k).mpr ⟨j, by omega, e⟩
theorem wi_rt {b : Book} (fb : FormB b) {s : Nat} (hs : s < b.length) : ∀ (n k : Nat), k ∈ wiL b s n → Rt b s k := by
  intro n
  induction n with
  | zero => intro k hk; rw [List.mem_singleton.mp hk]; exact .refl s
  | succ n ih =>
    intro k hk
    rcases (mem_step fb (wiL_lt hs n)).mp hk with h | ⟨x, hx, p, hp, e⟩
    · exact ih k h
    · rw [← e]
      exact (ih x hx).step hp
/-- it stays as it is, or grows -/
theorem wi_grow {b : Book} (fb : FormB b) {s : Nat} (hs : s < b.length) : ∀ n, n + 1 ≤ (wiL b s n).length ∨ ∀ m, n ≤ m → wiL b s m = wiL b s n := by
  intro n
  induction n with
  | zero => exact .inl (by simp [wiL])
  | succ n ih =>
    rcases ih with h | h
    · by_cases e : wiL b s (n + 1) = wiL b s n
      · refine .inr fun m hm => ?_
        have key : ∀ d, wiL b s (n + 1 + d) = wiL b s (n + 1) := by
          intro d
          induction d with
          | zero => rfl
          | succ d ih2 =>
            show stepL b (wiL b s (n + 1 + d)) = _
            rw [ih2, e]
            exact e
        have : m = n + 1 + (m - (n + 1)) := by omega
        rw [this]
        exact key _
      · refine .inl ?_
        have sub : ∀ k ∈ wiL b s n, k ∈ wiL b s (n + 1) := fun k hk => wi_mono fb hs (by omega) hk
        have le := List.Nodup.length_le_of_subset (srt_nodup (wiL_srt b s n)) sub
        by_cases eq : (wiL b s n).length = (wiL b s (n + 1)).length
        · exfalso
          refine e (srt_eq (wiL_srt _ _ _) (wiL_srt _ _ _) fun k => ⟨fun hk => ?_, sub k⟩)
          by_cases hin : k ∈ wiL b s n
          · exact hin
          · exfalso
            have nd : (k :: wiL b s n).Nodup := List.nodup_cons.mpr ⟨hin, srt_nodup (wiL_srt b s n)⟩
            have := List.Nodup.length_le_of_subset nd (l₂ := wiL b s (n + 1)) (fun z hz => by
              rcases List.mem_cons.mp hz with hz | hz
              · rw [hz]; exact hk
              · exact sub z hz)
            rw [List.length_cons] at this
            omega
        · omega
    · refine .inr fun m hm => ?_
      rw [h m (by omega), h (n + 1) (by omega)]
/-- within one step less than there are states all is met -/
theorem wi_full {b : Book} (fb : FormB b) {s : Nat} (hs : s < b.length) : ∀ m, b.length - 1 ≤ m → wiL b s m = wiL b s (b.length - 1) := by
  have h1 := fb.one
  rcases wi_grow fb hs (b.length - 1) with h | h
  · intro m hm
    have full : ∀ m, b.length - 1 ≤ m → ∀ k, k ∈ wiL b s m ↔ k < b.length := by
      intro m hm k
      refine ⟨fun hk => wiL_lt hs m k hk, fun hk => ?_⟩
      by_cases hin : k ∈ wiL b s m
      · exact hin
      · exfalso
        have hk2 : k ∉ wiL b s (b.length - 1) := fun z => hin (wi_mono fb hs hm z)
        have nd : (k :: wiL b s (b.length - 1)).Nodup := List.nodup_cons.mpr ⟨hk2, srt_nodup (wiL_srt b s _)⟩
        have := nodup_le (n := b.length) nd (fun z hz => by
          rcases List.mem_cons.mp hz with hz | hz
          · rw [hz]; exact hk
          · exact wiL_lt hs _ z hz)
        rw [List.length_cons] at this
        omega
    refine srt_eq (wiL_srt _ _ _) (wiL_srt _ _ _) fun k => ?_
    rw [full m hm, full _ (Nat.le_refl _)]
  · exact h
theorem rt_wi {b : Book} (fb : FormB b) {s k : Nat} (hs : s < b.length) (h : Rt b s k) : k ∈ wiL b s (b.length - 1) := by
  induction h with
  | refl => exact wi_mono fb hs (Nat.zero_le _) (by simp [wiL])
  | step h hp ih =>
    rw [← wi_full fb hs (b.length - 1 + 1) (by omega)]
    exact (mem_step fb (wiL_lt hs _)).mpr (.inr ⟨_, ih, _, hp, rfl⟩)
theorem mem_wi {b : Book} (fb : FormB b) {s k m : Nat} (hs : s < b.length) (hm : b.length - 1 ≤ m) : k ∈ wiL b s m ↔ Rt b s k := by
  rw [wi_full fb hs m hm]
  exact ⟨fun h => wi_rt fb hs _ k h, rt_wi fb hs⟩
/-- the law's knots -/
def backM (b : Book) (s : Nat) : Nat := ((mvs b s).filter fun p => decide (s ∈ endsL b p.2 8)).length
theorem back_ways {b : Book} (fb : FormB b) (s : Nat) : backM b s = waysM b s := by
  unfold backM waysM
  congr 1
  refine List.filter_congr fun p hp => decide_eq_decide.mpr ?_
  have hp2 := fb.to hp
  have h8 := fb.eight
  show s ∈ wiL b p.2 7 ↔ s ∈ wiL b p.2 (min b.length b.length)
  rw [mem_wi fb hp2 (by omega), mem_wi fb hp2 (by omega)]
theorem knots_law {b : Book} (fb : FormB b) : (List.range b.length).filter (fun s => decide (1 < backM b s)) = knotsM b := by
  unfold knotsM
  refine List.filter_congr fun s _ => ?_
  rw [back_ways fb]
end Nv
set_option Elab.async false
set_option linter.all false
set_option maxRecDepth 100000
namespace Nv
open PySem PySem.Spec PyProof.Rows L2
section
variable {P : Program} {w : World} {K : PySem.W.Frag} {mg : Str → Option Value} {base : Heap}
/-! ### the law's own ends -/
/-! ### the law's own ways back -/
/-! ### the least numbers of ways back -/
def firstM (b : Book) (s t : Nat) : List Nat := ((List.range' 1 b.length).filter fun m => decide (s ∈ endsL b t m)).take 1
def backsM (b : Book) (s : Nat) (st : State) : List Nat := st.flatMap fun p => firstM b s p.2
theorem backs_len (b : Book) (s : Nat) : ∀ st : State, (backsM b s st).length ≤ st.length
  | [] => Nat.le_refl _
  | p :: r => by
    have := backs_len b s r
    have f1 : (firstM b s p.2).length ≤ 1 := by unfold firstM; rw [List.length_take]; omega
    show ((firstM b s p.2) ++ backsM b s r).length ≤ r.length + 1
    rw [List.length_append]
    omega
theorem cut1 (xs : List V) : cutV xs none (some 1) = xs.take 1 := by
  unfold cutV
  cases xs with
  | nil => simp
  | cons x r => simp [HT.sIx]
theorem sorted_natsD {F : List Nat} {ns : List Int} (p : ns.Perm (F.map fun n : Nat => (n : Int))) (r : ns.Pairwise (· ≤ ·)) : ∃ ms : List Nat, ns.map V.int = ms.map nV ∧ ms.Perm F ∧ ms.Pairwise (· ≤ ·) := by
  have nn : ∀ z ∈ ns, ∃ n : Nat, z = (n : Int) := fun z hz => by
    obtain ⟨n, _, rfl⟩ := List.mem_map.mp (p.mem_iff.mp hz)
    exact ⟨n, rfl⟩
  refine ⟨ns.map Int.toNat, ?_, ?_, ?_⟩
  · rw [List.map_map]
    refine List.map_congr_left fun z hz => ?_
    obtain ⟨n, rfl⟩ := nn z hz
    rfl
  · have q := p.map Int.toNat
    rw [List.map_map] at q
    have e : F.map (Int.toNat ∘ fun n : Nat => (n : Int)) = F := by
      conv => rhs; rw [← List.map_id F]
      exact List.map_congr_left fun z _ => rfl
    rw [e] at q
    exact q
  · rw [List.pairwise_map]
    refine List.Pairwise.imp_of_mem (fun {a b} ha hb h => ?_) r
    obtain ⟨n, rfl⟩ := nn a ha
    obtain ⟨m, rfl⟩ := nn b hb
    simp
    omega
end
end Nv
set_option linter.all false
namespace Nv
/-! ### what lasts -/
theorem setAll_get : ∀ (L : List Nat) (r : List (Option Int)) (x : Int) (k : Nat), (setAll r L x)[k]? = if k ∈ L ∧ k < r.length then some (some x) else r[k]?
  | [], r, x, k => by simp [setAll]
  | f :: L, r, x, k => by
    show (setAll (r.set f (some x)) L x)[k]? = _
    rw [setAll_get L, List.length_set]
    by_cases h1 : k < r.length
    · by_cases h2 : k ∈ L
      · simp [h1, h2]
      · by_cases h3 : k = f
        · subst h3
          simp [h1, h2]
        · have : ¬ f = k := fun z => h3 z.symm
          simp [h1, h2, h3, this]
    · have : r[k]? = none := List.getElem?_eq_none (by omega)
      simp [h1, this]
theorem rk_sub {b : Book} {W t : Nat} {st fin : List Nat} {r res : List (Option Int)} (h : Rk b W t st r res fin) : ∀ k ∈ fin, k ∈ st := by
  induction h with
  | stop _ => exact fun k hk => hk
  | go _ _ ih => exact fun k hk => (List.mem_filter.mp (ih k hk)).1
theorem rk_stable {b : Book} {W t : Nat} {st fin : List Nat} {r res : List (Option Int)} (h : Rk b W t st r res fin) : ∀ s ∈ fin, 2 ≤ (leadM b W s fin).length := by
  induction h with
  | @stop t st r e =>
    intro s hs
    by_cases h : 2 ≤ (leadM b W s st).length
    · exact h
    · exfalso
      have : s ∈ fallM b W st := List.mem_filter.mpr ⟨hs, decide_eq_true (Nat.lt_of_not_le h)⟩
      rw [e] at this
      cases this
  | go _ _ ih => exact ih
theorem rk_stay {b : Book} {W t : Nat} {st fin : List Nat} {r res : List (Option Int)} (h : Rk b W t st r res fin) {s : Nat} (hs : s ∈ st) (two : ∀ goals : List Nat, s ∈ goals → 2 ≤ (leadM b W s goals).length) : s ∈ fin := by
  induction h with
  | stop _ => exact hs
  | @go t st fin r res _ _ ih =>
    refine ih (List.mem_filter.mpr ⟨hs, ?_⟩)
    have : s ∉ fallM b W st := fun z => by
      have := of_decide_eq_true (List.mem_filter.mp z).2
      have := two st hs
      omega
    rw [decide_eq_false this]
    rfl
theorem rk_fin {b : Book} {W t : Nat} {st fin : List Nat} {r res : List (Option Int)} (h : Rk b W t st r res fin) : (∀ k ∈ st, k < r.length) → (∀ k, k ∉ st → r[k]? ≠ some (some (-1))) → ∀ k, res[k]? = some (some (-1)) ↔ k ∈ fin := by
  induction h with
  | @stop t st r _ =>
    intro h1 h2 k
    rw [setAll_get]
    by_cases hk : k ∈ st
    · rw [if_pos ⟨hk, h1 k hk⟩]
      exact ⟨fun _ => hk, fun _ => rfl⟩
    · rw [if_neg (fun z => hk z.1)]
      exact ⟨fun z => absurd z (h2 k hk), fun z => absurd z hk⟩
  | @go t st fin r res _ _ ih =>
    intro h1 h2
    refine ih (fun k hk => by rw [setAll_len]; exact h1 k (List.mem_filter.mp hk).1) fun k hk => ?_
    rw [setAll_get]
    by_cases hf : k ∈ fallM b W st
    · have := h1 k (List.mem_filter.mp hf).1
      rw [if_pos ⟨hf, this⟩]
      intro z
      have := Option.some.inj (Option.some.inj z)
      omega
    · rw [if_neg (fun z => hf z.1)]
      refine h2 k fun z => hk (List.mem_filter.mpr ⟨z, ?_⟩)
      rw [decide_eq_false hf]
      rfl
theorem forks_lt {b : Book} {k : Nat} (h : k ∈ forksM b) : k < b.length := (mem_filt.mp h).1
theorem last_iff {b : Book} {W : Nat} {res : List (Option Int)} {fin : List Nat} (h : LastM b W res fin) (k : Nat) : k ∈ lastL b res ↔ k ∈ fin := by
  have key := rk_fin h (fun k hk => by rw [List.length_replicate]; exact forks_lt hk) (fun k _ z => by
    by_cases hk : k < b.length
    · rw [List.getElem?_replicate, if_pos hk] at z
      cases z
    · rw [List.getElem?_replicate, if_neg hk] at z
      cases z) k
  unfold lastL
  rw [mem_filt, decide_eq_true_eq, key]
  exact ⟨fun z => z.2, fun z => ⟨forks_lt (rk_sub h k z), z⟩⟩
theorem last_nil {b : Book} {W : Nat} {res : List (Option Int)} {fin : List Nat} (h : LastM b W res fin) : lastL b res = [] ↔ fin = [] := by
  constructor
  · intro e
    rw [List.eq_nil_iff_forall_not_mem]
    exact fun k hk => by have := (last_iff h k).mpr hk; rw [e] at this; cases this
  · intro e
    rw [List.eq_nil_iff_forall_not_mem]
    exact fun k hk => by have := (last_iff h k).mp hk; rw [e] at this; cases this
theorem least_two {b : Book} {res : List (Option Int)} (h : lastL b res = []) : leastM b res ≤ 2 := by
  unfold leastM
  split
  · omega
  · split
    · omega
    · simp [h]
theorem least_three {b : Book} {res : List (Option Int)} (h : leastM b res = 3) : lastL b res ≠ [] := fun e => by
  have := least_two e
  omega
/-! ### a stable set has a knot -/
theorem filt_le {α : Type} {l : List α} {f g : α → Bool} (h : ∀ x ∈ l, f x = true → g x = true) : (l.filter f).length ≤ (l.filter g).length := by
  rw [← List.countP_eq_length_filter, ← List.countP_eq_length_filter]
  exact List.countP_mono_left h
theorem led_rt {b : Book} (fb : FormB b) {t m k : Nat} (ht : t < b.length) (h : k ∈ ledL b t m) : Rt b t k := by
  unfold ledL at h
  split at h
  · cases h
  · exact wi_rt fb ht _ _ h
theorem clo_le {b : Book} (fb : FormB b) {s x : Nat} (hs : s < b.length) (hx : x < b.length) (h1 : Rt b s x) (h2 : ¬ Rt b x s) : (wiL b x (b.length - 1)).length < (wiL b s (b.length - 1)).length := by
  have nd : (s :: wiL b x (b.length - 1)).Nodup := List.nodup_cons.mpr ⟨fun z => h2 (wi_rt fb hx _ _ z), srt_nodup (wiL_srt _ _ _)⟩
  have := List.Nodup.length_le_of_subset nd (l₂ := wiL b s (b.length - 1)) fun z hz => by
    rcases List.mem_cons.mp hz with hz | hz
    · rw [hz]; exact rt_wi fb hs (.refl s)
    · exact rt_wi fb hs (h1.trans (wi_rt fb hx _ _ hz))
  rw [List.length_cons] at this
  omega
theorem bottom {b : Book} (fb : FormB b) {S : List Nat} (hS : ∀ k ∈ S, k < b.length) : ∀ (m s : Nat), s ∈ S → (wiL b s (b.length - 1)).length ≤ m → ∃ s' ∈ S, ∀ x ∈ S, Rt b s' x → Rt b x s' := by
  intro m
  induction m with
  | zero =>
    intro s hs h
    have := rt_wi fb (hS s hs) (.refl s)
    have := List.length_pos_of_mem this
    omega
  | succ m ih =>
    intro s hs h
    by_cases all : ∀ x ∈ S, Rt b s x → Rt b x s
    · exact ⟨s, hs, all⟩
    · obtain ⟨x, hx⟩ := Classical.not_forall.mp all
      obtain ⟨hxS, hx⟩ := Classical.not_imp.mp hx
      obtain ⟨h1, h2⟩ := Classical.not_imp.mp hx
      have := clo_le fb (hS s hs) (hS x hxS) h1 h2
      exact ih x hxS (by omega)
theorem mem_reach {b : Book} (fb : FormB b) {t k : Nat} (ht : t < b.length) : k ∈ reachL b t b.length ↔ Rt b t k := by
  unfold reachL
  exact mem_wi fb ht (by omega)
theorem stable_knot {b : Book} (fb : FormB b) {W : Nat} {S : List Nat} (hS : ∀ k ∈ S, k < b.length) (ne : S ≠ []) (st : ∀ s ∈ S, 2 ≤ (leadM b W s S).length) : knotsM b ≠ [] := by
  obtain ⟨s0, h0⟩ := List.exists_mem_of_ne_nil _ ne
  obtain ⟨s, hs, hb⟩ := bottom fb hS _ s0 h0 (Nat.le_refl _)
  have two := st s hs
  have : s ∈ knotsM b := by
    refine mem_filt.mpr ⟨hS s hs, decide_eq_true ?_⟩
    refine Nat.lt_of_lt_of_le two ?_
    unfold leadM waysM
    rw [List.length_map]
    refine filt_le fun p hp h => ?_
    obtain ⟨k, hk, hkS⟩ := List.any_eq_true.mp h
    have hkS := of_decide_eq_true hkS
    have hp2 := fb.to hp
    have r := led_rt fb hp2 hk
    exact decide_eq_true ((mem_reach fb hp2).mpr (r.trans (hb k hkS ((Rt.one hp).trans r))))
  exact List.ne_nil_of_mem this
theorem no_knots {b : Book} (fb : FormB b) (h : knotsM b = []) {W : Nat} {res : List (Option Int)} {fin : List Nat} (hL : LastM b W res fin) : lastL b res = [] := by
  rw [last_nil hL]
  by_cases e : fin = []
  · exact e
  · exact absurd h (stable_knot fb (fun k hk => forks_lt (rk_sub hL k hk)) e (rk_stable hL))
theorem win_one {b : Book} {res : List (Option Int)} {fin : List Nat} (hL : LastM b 1 res fin) : lastL b res = [] := by
  rw [last_nil hL, List.eq_nil_iff_forall_not_mem]
  intro k hk
  have := rk_stable hL k hk
  have e : leadM b 1 k fin = [] := by
    unfold leadM
    have : (mvs b k).filter (fun p => (ledL b p.2 (1 - 1)).any fun k => decide (k ∈ fin)) = [] := List.filter_eq_nil_iff.mpr fun p _ => by simp [ledL]
    rw [this]
    rfl
  rw [e] at this
  simp at this
/-! ### a knot lasts for the window behind its second shortest way back -/
theorem ends_mono {b : Book} (fb : FormB b) {t : Nat} (ht : t < b.length) {m n k : Nat} (h : m ≤ n) (hk : k ∈ endsL b t m) : k ∈ endsL b t n := by
  obtain ⟨j, hj, e⟩ := (mem_ends fb ht).mp hk
  exact (mem_ends fb ht).mpr ⟨j, by omega, e⟩
theorem first_mem {b : Book} {s t k : Nat} (h : k ∈ firstM b s t) : 1 ≤ k ∧ k ≤ b.length ∧ s ∈ endsL b t k := by
  unfold firstM at h
  have h := List.mem_filter.mp (List.mem_of_mem_take h)
  have h1 := List.mem_range'_1.mp h.1
  exact ⟨h1.1, by omega, of_decide_eq_true h.2⟩
theorem first_some {b : Book} (fb : FormB b) {s t : Nat} (ht : t < b.length) (h : Rt b t s) : (firstM b s t).length = 1 := by
  have h1 := fb.one
  have hm : b.length ∈ (List.range' 1 b.length).filter fun m => decide (s ∈ endsL b t m) := by
    refine List.mem_filter.mpr ⟨List.mem_range'_1.mpr ⟨h1, by omega⟩, decide_eq_true ?_⟩
    unfold endsL
    rw [if_neg (by omega)]
    exact rt_wi fb ht h
  have := List.length_pos_of_mem hm
  unfold firstM
  rw [List.length_take]
  omega
theorem backs_ge {b : Book} (fb : FormB b) (s : Nat) : ∀ st : State, (∀ p ∈ st, p.2 < b.length) → (st.filter fun p => decide (s ∈ reachL b p.2 b.length)).length ≤ (backsM b s st).length
  | [], _ => Nat.le_refl _
  | p :: r, h => by
    have ih := backs_ge fb s r fun q hq => h q (List.mem_cons_of_mem _ hq)
    have hp := h p (by simp)
    show _ ≤ ((firstM b s p.2) ++ backsM b s r).length
    rw [List.length_append, List.filter_cons]
    by_cases e : s ∈ reachL b p.2 b.length
    · have := first_some fb hp ((mem_reach fb hp).mp e)
      rw [if_pos (decide_eq_true e), List.length_cons]
      omega
    · rw [if_neg (by simpa using e)]
      omega
theorem backs_le {b : Book} (fb : FormB b) (s m : Nat) : ∀ st : State, (∀ p ∈ st, p.2 < b.length) → (backsM b s st).countP (fun k => decide (k ≤ m)) ≤ (st.filter fun p => decide (s ∈ endsL b p.2 m)).length
  | [], _ => Nat.le_refl _
  | p :: r, h => by
    have ih := backs_le fb s m r fun q hq => h q (List.mem_cons_of_mem _ hq)
    have hp := h p (by simp)
    show ((firstM b s p.2) ++ backsM b s r).countP _ ≤ _
    rw [List.countP_append, List.filter_cons]
    by_cases e : s ∈ endsL b p.2 m
    · rw [if_pos (decide_eq_true e), List.length_cons]
      have : (firstM b s p.2).countP (fun k => decide (k ≤ m)) ≤ 1 := Nat.le_trans List.countP_le_length (by unfold firstM; rw [List.length_take]; omega)
      omega
    · rw [if_neg (by simpa using e)]
      have : (firstM b s p.2).countP (fun k => decide (k ≤ m)) = 0 := by
        rw [List.countP_eq_zero]
        intro k hk z
        have z := of_decide_eq_true z
        exact e (ends_mono fb hp z (first_mem hk).2.2)
      omega
theorem backs_mem {b : Book} {s k : Nat} {st : State} (h : k ∈ backsM b s st) : 1 ≤ k ∧ k ≤ b.length := by
  obtain ⟨p, _, hp⟩ := List.mem_flatMap.mp h
  have := first_mem hp
  exact ⟨this.1, this.2.1⟩
theorem knot_win {b : Book} (fb : FormB b) {s : Nat} (hs : s ∈ knotsM b) {ms : List Nat} (hp : ms.Perm (backsM b s (mvs b s))) (hr : ms.Pairwise (· ≤ ·)) :
    ∃ m, ms[1]? = some m ∧ 1 ≤ m ∧ m ≤ b.length ∧ ∀ goals : List Nat, s ∈ goals → 2 ≤ (leadM b (m + 1) s goals).length := by
  have to : ∀ p ∈ mvs b s, p.2 < b.length := fun p hp => fb.to hp
  have hk := of_decide_eq_true (mem_filt.mp hs).2
  have hl : 2 ≤ ms.length := by
    rw [hp.length_eq]
    exact Nat.le_trans hk (backs_ge fb s _ to)
  match ms, hl, hp, hr with
  | x :: y :: r, _, hp, hr =>
    have hxy : x ≤ y := (List.pairwise_cons.mp hr).1 y (by simp)
    have hy := backs_mem (hp.mem_iff.mp (show y ∈ x :: y :: r by simp))
    refine ⟨y, rfl, hy.1, hy.2, fun goals hg => ?_⟩
    have c2 : 2 ≤ (x :: y :: r).countP (fun k => decide (k ≤ y)) := by
      rw [List.countP_cons, List.countP_cons]
      simp [hxy]
    rw [hp.countP_eq] at c2
    have := backs_le fb s y _ to
    refine Nat.le_trans (Nat.le_trans c2 this) ?_
    unfold leadM
    rw [List.length_map]
    refine filt_le fun p hp h => ?_
    have h := of_decide_eq_true h
    refine List.any_eq_true.mpr ⟨s, ?_, decide_eq_true hg⟩
    unfold endsL at h
    rw [if_neg (by omega)] at h
    unfold ledL reachL
    rw [if_neg (by omega)]
    have : min (y + 1 - 1 - 1) b.length = y - 1 := by omega
    rw [this]
    exact h
theorem knot_fork {b : Book} {s : Nat} (hs : s ∈ knotsM b) : s ∈ forksM b ∧ s < b.length := by
  have h := mem_filt.mp hs
  refine ⟨mem_filt.mpr ⟨h.1, decide_eq_true ?_⟩, h.1⟩
  have := of_decide_eq_true h.2
  unfold waysM at this
  exact Nat.lt_of_lt_of_le this (List.length_filter_le _ _)
theorem rch_zero {b : Book} (e : mvs b 0 = []) {s : Nat} (h : Rch b s) : s = 0 := by
  induction h with
  | zero => rfl
  | step _ hp ih =>
    rw [ih, e] at hp
    cases hp
theorem knot_three {b : Book} (ok : OkB b) {s m : Nat} (hs : s ∈ knotsM b) (two : ∀ goals : List Nat, s ∈ goals → 2 ≤ (leadM b (m + 1) s goals).length) {res : List (Option Int)} {fin : List Nat} (hL : LastM b (m + 1) res fin) :
    s ∈ lastL b res ∧ leastM b res = 3 := by
  obtain ⟨hf, hlt⟩ := knot_fork hs
  have h1 : s ∈ lastL b res := (last_iff hL s).mpr (rk_stay hL hf two)
  refine ⟨h1, ?_⟩
  unfold leastM
  rw [if_neg, if_neg (List.ne_nil_of_mem hf), if_neg (List.ne_nil_of_mem h1)]
  intro e
  have := rch_zero e (ok.reach s hlt)
  subst this
  have := of_decide_eq_true (mem_filt.mp hf).2
  rw [e] at this
  simp at this
/-- the first window, where there are knots -/
theorem from_knot {b : Book} (ok : OkB b) {o : Option Nat} (h : FromW b o) {s : Nat} (hs : s ∈ knotsM b) : ∃ W, o = some W ∧ 2 ≤ W ∧ W ≤ 9 := by
  have fb := ok.toFormB
  obtain ⟨ms, hp, hr⟩ : ∃ ms : List Nat, ms.Perm (backsM b s (mvs b s)) ∧ ms.Pairwise (· ≤ ·) :=
    ⟨(backsM b s (mvs b s)).mergeSort, List.mergeSort_perm _ _, by
      have := List.pairwise_mergeSort (le := fun a b : Nat => decide (a ≤ b)) (by simp; omega) (by simp; omega) (backsM b s (mvs b s))
      exact List.Pairwise.imp (fun h => of_decide_eq_true h) this⟩
  obtain ⟨m, _, m1, m2, two⟩ := knot_win fb hs hp hr
  have h8 := fb.eight
  cases o with
  | none =>
    exfalso
    obtain ⟨res, fin, hL⟩ := rk_ex b (m + 1) _ 0 (forksM b) (List.replicate b.length none) (Nat.le_refl _)
    exact h (m + 1) (by omega) (by omega) res fin hL (knot_three ok hs two hL).2
  | some W =>
    obtain ⟨w1, w9, ⟨res, fin, hL, e⟩, _⟩ := h
    refine ⟨W, rfl, ?_, w9⟩
    by_cases hW : W = 1
    · subst hW
      exact absurd (win_one hL) (least_three e)
    · omega
theorem from_le {b : Book} {W V : Nat} (h : FromW b (some W)) (hV : 1 ≤ V) {res : List (Option Int)} {fin : List Nat} (hL : LastM b V res fin) (e : leastM b res = 3) : W ≤ V := by
  by_cases hlt : W ≤ V
  · exact hlt
  · exact absurd e (h.2.2.2 V hV (by omega) res fin hL)
theorem from_none {b : Book} (fb : FormB b) (h : knotsM b = []) {o : Option Nat} (hw : FromW b o) : o = none := by
  cases o with
  | none => rfl
  | some W =>
    obtain ⟨_, _, ⟨res, fin, hL, e⟩, _⟩ := hw
    exact absurd (no_knots fb h hL) (least_three e)
end Nv
set_option linter.all false
namespace Nv
/-! ### windows that grow -/
theorem lead_goals {b : Book} {W s : Nat} {S st : List Nat} (h : ∀ k ∈ S, k ∈ st) : (leadM b W s S).length ≤ (leadM b W s st).length := by
  unfold leadM
  rw [List.length_map, List.length_map]
  refine filt_le fun p _ e => ?_
  obtain ⟨k, hk, e⟩ := List.any_eq_true.mp e
  exact List.any_eq_true.mpr ⟨k, hk, decide_eq_true (h k (of_decide_eq_true e))⟩
theorem rk_greatest {b : Book} {W t : Nat} {st fin S : List Nat} {r res : List (Option Int)} (h : Rk b W t st r res fin) (two : ∀ s ∈ S, 2 ≤ (leadM b W s S).length) : (∀ k ∈ S, k ∈ st) → ∀ k ∈ S, k ∈ fin := by
  induction h with
  | stop _ => exact fun h => h
  | @go t st fin r res _ _ ih =>
    intro h
    refine ih fun k hk => List.mem_filter.mpr ⟨h k hk, ?_⟩
    have : k ∉ fallM b W st := fun z => by
      have := of_decide_eq_true (List.mem_filter.mp z).2
      have := two k hk
      have := lead_goals (b := b) (W := W) (s := k) h
      omega
    rw [decide_eq_false this]
    rfl
theorem led_mono {b : Book} (fb : FormB b) {t m n k : Nat} (ht : t < b.length) (h : m ≤ n) (hk : k ∈ ledL b t m) : k ∈ ledL b t n := by
  unfold ledL at hk ⊢
  split at hk
  · cases hk
  · rw [if_neg (by omega)]
    exact wi_mono fb ht (by omega) hk
theorem lead_mono {b : Book} (fb : FormB b) {W V s : Nat} {S : List Nat} (h : W ≤ V) : (leadM b W s S).length ≤ (leadM b V s S).length := by
  unfold leadM
  rw [List.length_map, List.length_map]
  refine filt_le fun p hp e => ?_
  obtain ⟨k, hk, e⟩ := List.any_eq_true.mp e
  exact List.any_eq_true.mpr ⟨k, led_mono fb (fb.to hp) (by omega) hk, e⟩
theorem last_mono {b : Book} (fb : FormB b) {W V : Nat} (h : W ≤ V) {res res' : List (Option Int)} {fin fin' : List Nat} (hW : LastM b W res fin) (hV : LastM b V res' fin') : ∀ k ∈ lastL b res, k ∈ lastL b res' := by
  intro k hk
  rw [last_iff hV]
  rw [last_iff hW] at hk
  exact rk_greatest hV (fun s hs => Nat.le_trans (rk_stable hW s hs) (lead_mono fb h)) (rk_sub hW) k hk
theorem led_full {b : Book} (fb : FormB b) {t m : Nat} (ht : t < b.length) (h : b.length ≤ m) : ledL b t m = ledL b t b.length := by
  have h1 := fb.one
  unfold ledL reachL
  rw [if_neg (by omega), if_neg (by omega), wi_full fb ht _ (by omega), wi_full fb ht (min (b.length - 1) b.length) (by omega)]
theorem lead_full {b : Book} (fb : FormB b) {W : Nat} (h : b.length + 1 ≤ W) (s : Nat) (S : List Nat) : leadM b W s S = leadM b (b.length + 1) s S := by
  unfold leadM
  congr 1
  refine List.filter_congr fun p hp => ?_
  rw [led_full fb (fb.to hp) (by omega), led_full fb (m := b.length + 1 - 1) (fb.to hp) (by omega)]
theorem fall_cong {b : Book} {W V : Nat} (e : ∀ s S, leadM b W s S = leadM b V s S) (st : List Nat) : fallM b W st = fallM b V st := by
  unfold fallM
  exact List.filter_congr fun f _ => by rw [e]
theorem rest_cong {b : Book} {W V : Nat} (e : ∀ s S, leadM b W s S = leadM b V s S) (st : List Nat) : restM b W st = restM b V st := by
  unfold restM
  rw [fall_cong e]
theorem rk_cong {b : Book} {W V : Nat} (e : ∀ s S, leadM b W s S = leadM b V s S) {t : Nat} {st fin : List Nat} {r res : List (Option Int)} (h : Rk b W t st r res fin) : Rk b V t st r res fin := by
  induction h with
  | stop h => exact .stop (by rw [← fall_cong e]; exact h)
  | @go t st fin r res h _ ih =>
    refine .go (by rw [← fall_cong e]; exact h) ?_
    rw [← fall_cong e, ← rest_cong e]
    exact ih
theorem last_full {b : Book} (fb : FormB b) {W : Nat} (h : b.length + 1 ≤ W) {res : List (Option Int)} {fin : List Nat} (hL : LastM b W res fin) : LastM b (b.length + 1) res fin := rk_cong (lead_full fb h) hL
theorem last_fun {b : Book} {W : Nat} {res res' : List (Option Int)} {fin fin' : List Nat} (h : LastM b W res fin) (h' : LastM b W res' fin') : res = res' := (rk_fun h h').1
/-! ### which ranks come -/
theorem rk_none {b : Book} {W n : Nat} {F : List Nat} {t : Nat} {st fin : List Nat} {r res : List (Option Int)} (h : Rk b W t st r res fin) : r.length = n → (∀ k ∈ st, k ∈ F) → (∀ k, r[k]? = some none ↔ k < n ∧ (k ∈ st ∨ k ∉ F)) → ∀ k, res[k]? = some none ↔ k < n ∧ k ∉ F := by
  induction h with
  | @stop t st r _ =>
    intro hn hF hr k
    rw [setAll_get]
    by_cases hk : k ∈ st ∧ k < r.length
    · rw [if_pos hk]
      exact ⟨fun z => (nomatch z), fun z => absurd (hF k hk.1) z.2⟩
    · rw [if_neg hk, hr k]
      constructor
      · rintro ⟨h1, h2 | h2⟩
        · exact absurd ⟨h2, by omega⟩ hk
        · exact ⟨h1, h2⟩
      · exact fun z => ⟨z.1, .inr z.2⟩
  | @go t st fin r res _ _ ih =>
    intro hn hF hr
    refine ih (by rw [setAll_len]; exact hn) (fun k hk => hF k (List.mem_filter.mp hk).1) fun k => ?_
    rw [setAll_get]
    by_cases hk : k ∈ fallM b W st ∧ k < r.length
    · rw [if_pos hk]
      refine ⟨fun z => (nomatch z), ?_⟩
      rintro ⟨_, h2 | h2⟩
      · have := (List.mem_filter.mp h2).2
        rw [decide_eq_true hk.1] at this
        cases this
      · exact absurd (hF k (List.mem_filter.mp hk.1).1) h2
    · rw [if_neg hk, hr k]
      constructor
      · rintro ⟨h1, h2 | h2⟩
        · refine ⟨h1, .inl (List.mem_filter.mpr ⟨h2, ?_⟩)⟩
          rw [decide_eq_false (fun z => hk ⟨z, by omega⟩)]
          rfl
        · exact ⟨h1, .inr h2⟩
      · rintro ⟨h1, h2 | h2⟩
        · exact ⟨h1, .inl (List.mem_filter.mp h2).1⟩
        · exact ⟨h1, .inr h2⟩
theorem rk_vals {b : Book} {W : Nat} {t : Nat} {st fin : List Nat} {r res : List (Option Int)} (h : Rk b W t st r res fin) : (∀ k ∈ st, r[k]? = some none) → (∀ v : Nat, (∃ k : Nat, r[k]? = some (some (v : Int))) ↔ v < t) → ∃ m, ∀ v : Nat, (∃ k : Nat, res[k]? = some (some (v : Int))) ↔ v < m := by
  induction h with
  | @stop t st r _ =>
    intro hs hv
    refine ⟨t, fun v => ?_⟩
    rw [← hv v]
    constructor
    · rintro ⟨k, hk⟩
      rw [setAll_get] at hk
      split at hk
      · have := Option.some.inj (Option.some.inj hk)
        omega
      · exact ⟨k, hk⟩
    · rintro ⟨k, hk⟩
      refine ⟨k, ?_⟩
      rw [setAll_get, if_neg]
      · exact hk
      · rintro ⟨h1, _⟩
        rw [hs k h1] at hk
        cases hk
  | @go t st fin r res hne _ ih =>
    intro hs hv
    refine ih (fun k hk => ?_) fun v => ?_
    · obtain ⟨h1, h2⟩ := List.mem_filter.mp hk
      rw [setAll_get, if_neg]
      · exact hs k h1
      · rintro ⟨h3, _⟩
        rw [decide_eq_true h3] at h2
        cases h2
    · constructor
      · rintro ⟨k, hk⟩
        rw [setAll_get] at hk
        split at hk
        · have := Option.some.inj (Option.some.inj hk)
          omega
        · have := (hv v).mp ⟨k, hk⟩
          omega
      · intro h
        by_cases hvt : v = t
        · obtain ⟨k, hk⟩ := List.exists_mem_of_ne_nil _ hne
          have hk1 := hs k (List.mem_filter.mp hk).1
          refine ⟨k, ?_⟩
          rw [setAll_get, if_pos ⟨hk, (List.getElem?_eq_some_iff.mp hk1).1⟩, hvt]
        · obtain ⟨k, hk⟩ := (hv v).mpr (by omega)
          refine ⟨k, ?_⟩
          rw [setAll_get, if_neg]
          · exact hk
          · rintro ⟨h1, _⟩
            rw [hs k (List.mem_filter.mp h1).1] at hk
            cases hk
theorem rep_none {n k : Nat} : (List.replicate n (none : Option Int))[k]? = some none ↔ k < n := by
  rw [List.getElem?_replicate]
  split <;> simp [*]
theorem last_none {b : Book} {W : Nat} {res : List (Option Int)} {fin : List Nat} (h : LastM b W res fin) (k : Nat) : res[k]? = some none ↔ k < b.length ∧ k ∉ forksM b :=
  rk_none h List.length_replicate (fun k hk => hk) (fun k => by
    rw [rep_none]
    exact ⟨fun z => ⟨z, by by_cases h : k ∈ forksM b; exact .inl h; exact .inr h⟩, fun z => z.1⟩) k
theorem last_vals {b : Book} {W : Nat} {res : List (Option Int)} {fin : List Nat} (h : LastM b W res fin) : ∃ m, ∀ v : Nat, (∃ k : Nat, res[k]? = some (some (v : Int))) ↔ v < m :=
  by
    refine rk_vals h (fun k hk => rep_none.mpr (forks_lt hk)) fun v => ?_
    constructor
    · rintro ⟨k, hk⟩
      rw [List.getElem?_replicate] at hk
      split at hk <;> cases hk
    · exact fun z => absurd z (Nat.not_lt_zero v)
/-! ### three wires from the first window on -/
theorem three_iff {b : Book} {W : Nat} {res : List (Option Int)} {fin : List Nat} (h : LastM b W res fin) : leastM b res = 3 ↔ mvs b 0 ≠ [] ∧ lastL b res ≠ [] := by
  unfold leastM
  constructor
  · intro e
    split at e
    · omega
    · rename_i h1
      split at e
      · omega
      · split at e
        · omega
        · rename_i h2
          exact ⟨h1, h2⟩
  · rintro ⟨h1, h2⟩
    obtain ⟨k, hk⟩ := List.exists_mem_of_ne_nil _ h2
    have : forksM b ≠ [] := List.ne_nil_of_mem (rk_sub h k ((last_iff h k).mp hk))
    rw [if_neg h1, if_neg this, if_neg h2]
theorem three_mono {b : Book} (fb : FormB b) {W V : Nat} (h : W ≤ V) {res res' : List (Option Int)} {fin fin' : List Nat} (hW : LastM b W res fin) (hV : LastM b V res' fin') (e : leastM b res = 3) : leastM b res' = 3 := by
  obtain ⟨h1, h2⟩ := (three_iff hW).mp e
  obtain ⟨k, hk⟩ := List.exists_mem_of_ne_nil _ h2
  exact (three_iff hV).mpr ⟨h1, List.ne_nil_of_mem (last_mono fb h hW hV k hk)⟩
theorem last_ex (b : Book) (W : Nat) : ∃ res fin, LastM b W res fin := rk_ex b W _ 0 (forksM b) (List.replicate b.length none) (Nat.le_refl _)
theorem from_iff {b : Book} (fb : FormB b) {o : Option Nat} (ho : FromW b o) {W : Nat} (h1 : 1 ≤ W) {res : List (Option Int)} {fin : List Nat} (hW : LastM b W res fin) : leastM b res = 3 ↔ ∃ V, o = some V ∧ V ≤ W := by
  have h8 := fb.eight
  cases o with
  | none =>
    constructor
    · intro e
      exfalso
      by_cases h9 : W ≤ 9
      · exact ho W h1 h9 res fin hW e
      · exact ho (b.length + 1) (by omega) (by omega) res fin (last_full fb (by omega) hW) e
    · rintro ⟨V, e, _⟩
      cases e
  | some V =>
    constructor
    · exact fun e => ⟨V, rfl, from_le ho h1 hW e⟩
    · rintro ⟨V', e, hV⟩
      have e := Option.some.inj e
      subst e
      obtain ⟨_, _, ⟨res0, fin0, hL0, e0⟩, _⟩ := ho
      exact three_mono fb hV hL0 hW e0
theorem from_small {b : Book} (fb : FormB b) {V : Nat} (ho : FromW b (some V)) : V ≤ b.length + 1 := by
  by_cases h : V ≤ b.length + 1
  · exact h
  · obtain ⟨res, fin, hL⟩ := last_ex b V
    have e := (from_iff fb ho ho.1 hL).mpr ⟨V, rfl, Nat.le_refl _⟩
    exact from_le ho (by omega) (last_full fb (by omega) hL) e
/-! ### the law's own rounds -/
theorem led_ends {b : Book} (fb : FormB b) {t m k : Nat} (ht : t < b.length) : k ∈ ledL b t m ↔ k ∈ endsL b t (min m 8) := by
  have h8 := fb.eight
  unfold ledL endsL
  by_cases h : m = 0
  · subst h
    simp
  · rw [if_neg h, if_neg (by omega)]
    unfold reachL
    by_cases h9 : m ≤ b.length
    · have e1 : min (m - 1) b.length = m - 1 := by omega
      have e2 : min m 8 - 1 = m - 1 := by omega
      rw [e1, e2]
    · rw [mem_wi fb ht (by omega), mem_wi fb ht (by omega)]
def lotsM (b : Book) (W s : Nat) : List (List Nat) := (mvs b s).map fun p => endsL b p.2 (min (W - 1) 8)
theorem good_len {b : Book} (fb : FormB b) (W s : Nat) (st : List Nat) : ((lotsM b W s).filter fun l => !decide ((l.filter fun k => decide (k ∈ st)) = [])).length = (leadM b W s st).length := by
  unfold lotsM leadM
  rw [List.filter_map, List.length_map, List.length_map]
  congr 1
  refine List.filter_congr fun p hp => ?_
  have hp2 := fb.to hp
  show (!decide (((endsL b p.2 (min (W - 1) 8)).filter fun k => decide (k ∈ st)) = [])) = (ledL b p.2 (W - 1)).any fun k => decide (k ∈ st)
  by_cases h : ((endsL b p.2 (min (W - 1) 8)).filter fun k => decide (k ∈ st)) = []
  · rw [decide_eq_true h]
    symm
    rw [Bool.not_true, List.any_eq_false]
    intro k hk z
    have := List.filter_eq_nil_iff.mp h k ((led_ends fb hp2).mp hk)
    exact this z
  · rw [decide_eq_false h]
    symm
    obtain ⟨k, hk⟩ := List.exists_mem_of_ne_nil _ h
    obtain ⟨h1, h2⟩ := List.mem_filter.mp hk
    exact List.any_eq_true.mpr ⟨k, (led_ends fb hp2).mpr h1, h2⟩
end Nv
set_option linter.all false
namespace Nv
open PySem PySem.Spec PyProof.Rows L2
/-! ### rows, by their length -/
def lvM (b : Book) (s : Nat) : Nat → List (List Nat × Nat)
  | 0 => [([], s)]
  | n + 1 => ((lvM b s n).map fun q => (mvs b q.2).map fun p => (q.1 ++ [p.1], p.2)).flatten
def rowsM (b : Book) (s : Nat) : Nat → List (List Nat)
  | 0 => [[]]
  | n + 1 => rowsM b s n ++ (lvM b s (n + 1)).map (·.1)
def nextM (b : Book) (s m : Nat) : Option Nat := ((mvs b s).find? fun p => decide (p.1 = m)).map (·.2)
def atM (b : Book) : Nat → List Nat → Option Nat
  | s, [] => some s
  | s, m :: r => match nextM b s m with
    | some t => atM b t r
    | none => none
theorem msg_inj {b : Book} (fb : FormB b) {s : Nat} {p q : Nat × Nat} (hp : p ∈ mvs b s) (hq : q ∈ mvs b s) (e : p.1 = q.1) : p = q := by
  have hs : s < b.length := by
    by_cases hs : s < b.length
    · exact hs
    · rw [mvs_out (by omega)] at hp
      cases hp
  have h := (fb.ok hs).rise
  generalize mvs b s = l at *
  induction l with
  | nil => cases hp
  | cons x r ih =>
    rw [List.map_cons, List.pairwise_cons] at h
    rcases List.mem_cons.mp hp with rfl | hp' <;> rcases List.mem_cons.mp hq with rfl | hq'
    · rfl
    · have := h.1 q.1 (List.mem_map.mpr ⟨q, hq', rfl⟩)
      omega
    · have := h.1 p.1 (List.mem_map.mpr ⟨p, hp', rfl⟩)
      omega
    · exact ih hp' hq' h.2
theorem next_mem {b : Book} (fb : FormB b) {s : Nat} {p : Nat × Nat} (hp : p ∈ mvs b s) : nextM b s p.1 = some p.2 := by
  unfold nextM
  cases e : (mvs b s).find? fun q => decide (q.1 = p.1) with
  | none =>
    have := List.find?_eq_none.mp e p hp
    simp at this
  | some q =>
    have h1 := List.mem_of_find?_eq_some e
    have h2 := List.find?_some e
    have := msg_inj fb hp h1 (of_decide_eq_true h2).symm
    rw [this]
    rfl
theorem at_snoc {b : Book} : ∀ (r : List Nat) (s h m : Nat), atM b s r = some h → atM b s (r ++ [m]) = nextM b h m
  | [], s, h, m, e => by
    cases e
    show (match nextM b s m with | some t => atM b t [] | none => none) = _
    cases nextM b s m <;> rfl
  | x :: r, s, h, m, e => by
    show (match nextM b s x with | some t => atM b t (r ++ [m]) | none => none) = _
    have e : (match nextM b s x with | some t => atM b t r | none => none) = some h := e
    cases hn : nextM b s x with
    | none => rw [hn] at e; cases e
    | some t =>
      rw [hn] at e
      exact at_snoc r t h m e
theorem mem_lv {b : Book} {s n : Nat} {x : List Nat × Nat} : x ∈ lvM b s (n + 1) ↔ ∃ q ∈ lvM b s n, ∃ p ∈ mvs b q.2, x = (q.1 ++ [p.1], p.2) := by
  show x ∈ (((lvM b s n).map fun q => (mvs b q.2).map fun p => (q.1 ++ [p.1], p.2)).flatten) ↔ _
  rw [List.mem_flatten]
  constructor
  · rintro ⟨l, hl, hx⟩
    obtain ⟨q, hq, rfl⟩ := List.mem_map.mp hl
    obtain ⟨p, hp, rfl⟩ := List.mem_map.mp hx
    exact ⟨q, hq, p, hp, rfl⟩
  · rintro ⟨q, hq, p, hp, rfl⟩
    exact ⟨_, List.mem_map.mpr ⟨q, hq, rfl⟩, List.mem_map.mpr ⟨p, hp, rfl⟩⟩
theorem lv_lt {b : Book} (fb : FormB b) {s : Nat} (hs : s < b.length) : ∀ n, ∀ q ∈ lvM b s n, q.2 < b.length
  | 0, q, hq => by rw [List.mem_singleton.mp hq]; exact hs
  | n + 1, q, hq => by
    obtain ⟨x, _, p, hp, rfl⟩ := mem_lv.mp hq
    exact fb.to hp
theorem lv_at {b : Book} (fb : FormB b) {s : Nat} : ∀ n, ∀ q ∈ lvM b s n, atM b s q.1 = some q.2
  | 0, q, hq => by rw [List.mem_singleton.mp hq]; rfl
  | n + 1, q, hq => by
    obtain ⟨x, hx, p, hp, rfl⟩ := mem_lv.mp hq
    rw [at_snoc _ _ _ _ (lv_at fb n x hx)]
    exact next_mem fb hp
theorem lv_row {b : Book} (fb : FormB b) {s : Nat} : ∀ n, ∀ q ∈ lvM b s n, (∀ m ∈ q.1, m ≤ 99) ∧ q.1.length = n
  | 0, q, hq => by rw [List.mem_singleton.mp hq]; exact ⟨fun m hm => (nomatch hm), rfl⟩
  | n + 1, q, hq => by
    obtain ⟨x, hx, p, hp, rfl⟩ := mem_lv.mp hq
    obtain ⟨h1, h2⟩ := lv_row fb n x hx
    have hs : x.2 < b.length := by
      by_cases hs : x.2 < b.length
      · exact hs
      · rw [mvs_out (by omega)] at hp
        cases hp
    refine ⟨fun m hm => ?_, by simp [h2]⟩
    rcases List.mem_append.mp hm with hm | hm
    · exact h1 m hm
    · rw [List.mem_singleton.mp hm]
      exact (fb.ok hs).msg p hp
theorem lv_ex {b : Book} (fb : FormB b) {s : Nat} : ∀ n k, k ∈ exL b s n ↔ ∃ q ∈ lvM b s n, q.2 = k
  | 0, k => by
    show k ∈ [s] ↔ ∃ q ∈ [(([] : List Nat), s)], q.2 = k
    simp [eq_comm]
  | n + 1, k => by
    show k ∈ nextL b (exL b s n) ↔ _
    rw [mem_next fb]
    constructor
    · rintro ⟨j, hj, p, hp, e⟩
      obtain ⟨q, hq, rfl⟩ := (lv_ex fb n j).mp hj
      exact ⟨_, mem_lv.mpr ⟨q, hq, p, hp, rfl⟩, e⟩
    · rintro ⟨x, hx, e⟩
      obtain ⟨q, hq, p, hp, rfl⟩ := mem_lv.mp hx
      exact ⟨q.2, (lv_ex fb n _).mpr ⟨q, hq, rfl⟩, p, hp, e⟩
theorem lv_len {b : Book} (fb : FormB b) {s : Nat} : ∀ n, (lvM b s n).length ≤ 5 ^ n
  | 0 => by simp [lvM]
  | n + 1 => by
    have ih := lv_len (b := b) fb (s := s) n
    show (((lvM b s n).map fun q => (mvs b q.2).map fun p => (q.1 ++ [p.1], p.2)).flatten).length ≤ _
    have : ∀ l : List (List Nat × Nat), ((l.map fun q => (mvs b q.2).map fun p => (q.1 ++ [p.1], p.2)).flatten).length ≤ 5 * l.length := by
      intro l
      induction l with
      | nil => simp
      | cons x r ih =>
        rw [List.map_cons, List.flatten_cons, List.length_append, List.length_map, List.length_cons]
        have : (mvs b x.2).length ≤ 5 := by
          by_cases hs : x.2 < b.length
          · exact (fb.ok hs).few
          · rw [mvs_out (by omega)]
            simp
        omega
    have := this (lvM b s n)
    rw [Nat.pow_succ]
    omega
theorem mem_rows {b : Book} {s : Nat} : ∀ n r, r ∈ rowsM b s n ↔ ∃ j, j ≤ n ∧ ∃ q ∈ lvM b s j, q.1 = r
  | 0, r => by
    show r ∈ [[]] ↔ _
    constructor
    · intro h
      rw [List.mem_singleton.mp h]
      exact ⟨0, Nat.le_refl _, _, List.mem_singleton.mpr rfl, rfl⟩
    · rintro ⟨j, hj, q, hq, e⟩
      have : j = 0 := by omega
      subst this
      rw [List.mem_singleton.mp hq] at e
      rw [← e]
      exact List.mem_singleton.mpr rfl
  | n + 1, r => by
    show r ∈ rowsM b s n ++ (lvM b s (n + 1)).map (·.1) ↔ _
    rw [List.mem_append, mem_rows n r, List.mem_map]
    constructor
    · rintro (⟨j, hj, h⟩ | ⟨q, hq, e⟩)
      · exact ⟨j, by omega, h⟩
      · exact ⟨n + 1, Nat.le_refl _, q, hq, e⟩
    · rintro ⟨j, hj, q, hq, e⟩
      by_cases h : j ≤ n
      · exact .inl ⟨j, h, q, hq, e⟩
      · have : j = n + 1 := by omega
        subst this
        exact .inr ⟨q, hq, e⟩
theorem rows_succ {b : Book} {s : Nat} (n : Nat) : (rowsM b s (n + 1)).length = (rowsM b s n).length + (lvM b s (n + 1)).length := by
  show (rowsM b s n ++ (lvM b s (n + 1)).map (·.1)).length = _
  rw [List.length_append, List.length_map]
theorem rows_len {b : Book} (fb : FormB b) {s n : Nat} (hn : n ≤ 3) : (rowsM b s n).length ≤ 156 ∧ (lvM b s n).length ≤ 125 := by
  have l0 := lv_len fb (s := s) 0
  have l1 := lv_len fb (s := s) 1
  have l2 := lv_len fb (s := s) 2
  have l3 := lv_len fb (s := s) 3
  have r0 : (rowsM b s 0).length = 1 := rfl
  have r1 : (rowsM b s 1).length = (rowsM b s 0).length + (lvM b s 1).length := rows_succ 0
  have r2 : (rowsM b s 2).length = (rowsM b s 1).length + (lvM b s 2).length := rows_succ 1
  have r3 : (rowsM b s 3).length = (rowsM b s 2).length + (lvM b s 3).length := rows_succ 2
  have : n = 0 ∨ n = 1 ∨ n = 2 ∨ n = 3 := by omega
  rcases this with rfl | rfl | rfl | rfl <;> exact ⟨by omega, by omega⟩
/-- the states to which the rows come -/
theorem rows_ends {b : Book} (fb : FormB b) {t n : Nat} (ht : t < b.length) (hn : n < 8) {k : Nat} : (∃ r ∈ rowsM b t n, atM b t r = some k) ↔ k ∈ ledL b t (n + 1) := by
  rw [led_ends fb ht, mem_ends fb ht, Nat.min_eq_left (by omega)]
  constructor
  · rintro ⟨r, hr, e⟩
    obtain ⟨j, hj, q, hq, rfl⟩ := (mem_rows n r).mp hr
    rw [lv_at fb j q hq] at e
    exact ⟨j, by omega, (lv_ex fb j k).mpr ⟨q, hq, Option.some.inj e⟩⟩
  · rintro ⟨j, hj, h⟩
    obtain ⟨q, hq, rfl⟩ := (lv_ex fb j k).mp h
    exact ⟨q.1, (mem_rows n q.1).mpr ⟨j, by omega, q, hq, rfl⟩, lv_at fb j q hq⟩
theorem ledL_srt (b : Book) (t m : Nat) : (ledL b t m).Pairwise (· < ·) := by
  unfold ledL
  split
  · exact .nil
  · exact wiL_srt _ _ _
theorem led_eq_ends {b : Book} (fb : FormB b) {t m : Nat} (ht : t < b.length) : ledL b t m = endsL b t (min m 8) := srt_eq (ledL_srt b t m) (endsL_srt b t _) fun k => led_ends fb ht
theorem led_eq_full {b : Book} (fb : FormB b) {t m : Nat} (ht : t < b.length) (h : b.length ≤ m) : ledL b t m = endsL b t (min 8 8) := by
  rw [led_full fb ht h, ← led_full fb ht fb.eight]
  exact led_eq_ends fb ht
theorem led_len {b : Book} {t m : Nat} (ht : t < b.length) : (ledL b t m).length ≤ b.length := nodup_le (srt_nodup (ledL_srt b t m)) (ledL_lt ht)
end Nv
set_option Elab.async false
set_option linter.all false
set_option maxRecDepth 100000
namespace Nv
open PySem PySem.Spec PyProof.Rows L2
theorem op_catAK (K : PySem.W.Frag) {X : Cx} (h : X.K = K := by rfl) : OpR X (binaryOp .Add) (rCatA K) := by subst h; exact op_catA
/-! ### sorted(set), of few unlike numbers -/
theorem SetR_few {w : World} {h : Heap} {a : Addr} {S : Int → Bool} {n : Nat} (R : SetR w h a S n) {L : List Int} (hL : ∀ k, S k = true → k ∈ L) : n ≤ L.length := by
  obtain ⟨o, es, ep, t, ho, hx, hd, g, nd, hm, hb, hf, hn, _⟩ := R
  have := List.Nodup.length_le_of_subset nd (l₂ := L) fun k hk => hL k ((hm k).mpr hk)
  rw [List.length_map, Array.length_toList] at this
  omega
def rSortedSetL (w : World) : List V → Hp → VK → Prop := fun vs H Q => ∃ (a : Addr) (S : Int → Bool) (n : Nat) (L : List Int), vs = [V.ref a] ∧ H a = some (SetO w a S n) ∧ (∀ k, S k = true → k ∈ L) ∧ L.length < 64 ∧
  ∀ (ns : List Int) (p : Addr), ns.Pairwise (· < ·) → (∀ k : Int, k ∈ ns ↔ S k = true) → H p = none → Q (.ref p) (upd H p (.lst (ns.map V.int)))
theorem cr_sortedSetL {X : Cx} (hc : X.calm = true) : CallR X (.builtin "sorted") (rSortedSetL X.w) := by
  intro pins s σ H vs us Q I r h
  obtain ⟨a, S, n, L, e, ha, hS, h64, q⟩ := h
  have R := setO_get I ha
  have := SetR_few R hS
  exact cr_sortedSet hc pins s σ H vs us Q I r ⟨a, S, n, e, ha, by omega, fun ns p h1 h2 _ h4 => q ns p h1 h2 h4⟩
/-! ### rows and pairs of a row and a state -/
def RwV (K : PySem.W.Frag) (H : Hp) (v : V) (r : List Nat) : Prop := ∃ a : Addr, v = .ref a ∧ SqT K H a (r.map nV)
def PrV (K : PySem.W.Frag) (H : Hp) (v : V) (q : List Nat × Nat) : Prop := ∃ (a : Addr) (u : V), v = .ref a ∧ SqT K H a [u, .int q.2] ∧ RwV K H u q.1
theorem RwV.ext {K : PySem.W.Frag} {L : List Addr} {H H' : Hp} {v : V} {r : List Nat} (h : RwV K H v r) (e : Ext L H H') (l : Lsts L H) : RwV K H' v r := by
  obtain ⟨a, rfl, h1⟩ := h
  exact ⟨a, rfl, e.tup l h1⟩
theorem PrV.ext {K : PySem.W.Frag} {L : List Addr} {H H' : Hp} {v : V} {q : List Nat × Nat} (h : PrV K H v q) (e : Ext L H H') (l : Lsts L H) : PrV K H' v q := by
  obtain ⟨a, u, rfl, h1, h2⟩ := h
  exact ⟨a, u, rfl, e.tup l h1, h2.ext e l⟩
theorem RwV.ext0 {K : PySem.W.Frag} {H H' : Hp} {v : V} {r : List Nat} (h : RwV K H v r) (e : Ext [] H H') : RwV K H' v r := h.ext e Lsts.nil
theorem PrV.ext0 {K : PySem.W.Frag} {H H' : Hp} {v : V} {q : List Nat × Nat} (h : PrV K H v q) (e : Ext [] H H') : PrV K H' v q := h.ext e Lsts.nil
theorem RwV.put {K : PySem.W.Frag} {H : Hp} {v : V} {r : List Nat} {p : Addr} {xs ys : List V} (h : RwV K H v r) (hp : H p = some (.lst xs)) : RwV K (upd H p (.lst ys)) v r := h.ext (L := [p]) (.wr (by simp)) (one_lst hp)
theorem PrV.put {K : PySem.W.Frag} {H : Hp} {v : V} {q : List Nat × Nat} {p : Addr} {xs ys : List V} (h : PrV K H v q) (hp : H p = some (.lst xs)) : PrV K (upd H p (.lst ys)) v q := h.ext (L := [p]) (.wr (by simp)) (one_lst hp)
theorem Paired.app {α β : Type} {F : α → β → Prop} : ∀ {l₁ : List α} {m₁ : List β} {l₂ : List α} {m₂ : List β}, Paired F l₁ m₁ → Paired F l₂ m₂ → Paired F (l₁ ++ l₂) (m₁ ++ m₂)
  | _, _, _, _, .nil, h => h
  | _, _, _, _, .cons r t, h => .cons r (Paired.app t h)
theorem next_head {b : Book} (fb : FormB b) {s : Nat} {p : Nat × Nat} (hp : p ∈ mvs b s) : ∃ rest, ((mvs b s).filter fun q => decide (q.1 = p.1)).map (·.2) = p.2 :: rest := by
  have h := next_mem fb hp
  unfold nextM at h
  rw [← List.head?_filter, ← List.head?_map] at h
  cases e : ((mvs b s).filter fun q => decide (q.1 = p.1)).map (·.2) with
  | nil => rw [e] at h; cases h
  | cons x r =>
    rw [e] at h
    have h := Option.some.inj h
    rw [h]
    exact ⟨r, rfl⟩
theorem next_some {b : Book} {s m t : Nat} (h : nextM b s m = some t) : ∃ p ∈ mvs b s, p.1 = m ∧ p.2 = t := by
  unfold nextM at h
  cases e : (mvs b s).find? fun p => decide (p.1 = m) with
  | none => rw [e] at h; cases h
  | some p =>
    rw [e] at h
    exact ⟨p, List.mem_of_find?_eq_some e, of_decide_eq_true (by simpa using List.find?_some e), Option.some.inj h⟩
theorem drop_at {α : Type} {l : List α} {i : Nat} {x : α} (h : l[i]? = some x) : l.drop i = x :: l.drop (i + 1) := by
  obtain ⟨hi, e⟩ := List.getElem?_eq_some_iff.mp h
  rw [List.drop_eq_getElem_cons hi, e]
end Nv
set_option Elab.async false
set_option linter.all false
set_option maxRecDepth 100000
/-! sorted of a list of pairs (int, tuple of ints), of any length -/
namespace Nv
open PySem PySem.Spec PyProof.Rows L2
/-! ### the order -/
theorem lexLt_irr : ∀ a : List Int, HT.lexLt a a = false
  | [] => rfl
  | x :: r => by rw [HT.lexLt_cons, if_pos rfl]; exact lexLt_irr r
theorem lexLt_asym : ∀ a b : List Int, HT.lexLt a b = true → HT.lexLt b a = false
  | [], [], h => by cases h
  | [], _ :: _, _ => rfl
  | _ :: _, [], h => by cases h
  | x :: r, y :: t, h => by
    rw [HT.lexLt_cons] at h ⊢
    by_cases e : x = y
    · rw [if_pos e] at h
      rw [if_pos e.symm]
      exact lexLt_asym r t h
    · rw [if_neg e] at h
      rw [if_neg (Ne.symm e)]
      have := of_decide_eq_true h
      exact decide_eq_false (by omega)
theorem lexLt_tr : ∀ x y z : List Int, HT.lexLt y x = false → HT.lexLt z y = false → HT.lexLt z x = false
  | [], _, [], _, _ => rfl
  | _ :: _, [], _, h, _ => by cases h
  | _ :: _, _ :: _, [], _, h => by cases h
  | [], [], _ :: _, _, _ => rfl
  | [], _ :: _, _ :: _, _, _ => rfl
  | x :: r, y :: t, z :: u, h1, h2 => by
    rw [HT.lexLt_cons] at h1 h2 ⊢
    by_cases e1 : y = x
    · rw [if_pos e1] at h1
      by_cases e2 : z = y
      · rw [if_pos e2] at h2
        rw [if_pos (e2.trans e1)]
        exact lexLt_tr r t u h1 h2
      · rw [if_neg e2] at h2
        rw [if_neg (by rw [← e1]; exact e2)]
        have := of_decide_eq_false h2
        exact decide_eq_false (by omega)
    · rw [if_neg e1] at h1
      have h1 := of_decide_eq_false h1
      by_cases e2 : z = y
      · rw [if_neg (by rw [e2]; exact e1)]
        exact decide_eq_false (by omega)
      · rw [if_neg e2] at h2
        have h2 := of_decide_eq_false h2
        by_cases e3 : z = x
        · omega
        · rw [if_neg e3]
          exact decide_eq_false (by omega)
/-- by their first, then by their second -/
def lrLt (p q : Int × List Int) : Bool := if p.1 = q.1 then HT.lexLt p.2 q.2 else decide (p.1 < q.1)
theorem lrLt_asym (p q : Int × List Int) (h : lrLt p q = true) : lrLt q p = false := by
  unfold lrLt at h ⊢
  by_cases e : p.1 = q.1
  · rw [if_pos e] at h
    rw [if_pos e.symm]
    exact lexLt_asym _ _ h
  · rw [if_neg e] at h
    rw [if_neg (Ne.symm e)]
    have := of_decide_eq_true h
    exact decide_eq_false (by omega)
theorem lrLt_tr (x y z : Int × List Int) (h1 : lrLt y x = false) (h2 : lrLt z y = false) : lrLt z x = false := by
  unfold lrLt at h1 h2 ⊢
  by_cases e1 : y.1 = x.1
  · rw [if_pos e1] at h1
    by_cases e2 : z.1 = y.1
    · rw [if_pos e2] at h2
      rw [if_pos (e2.trans e1)]
      exact lexLt_tr _ _ _ h1 h2
    · rw [if_neg e2] at h2
      rw [if_neg (by rw [← e1]; exact e2)]
      have := of_decide_eq_false h2
      exact decide_eq_false (by omega)
  · rw [if_neg e1] at h1
    have h1 := of_decide_eq_false h1
    by_cases e2 : z.1 = y.1
    · rw [if_neg (by rw [e2]; exact e1)]
      exact decide_eq_false (by omega)
    · rw [if_neg e2] at h2
      have h2 := of_decide_eq_false h2
      by_cases e3 : z.1 = x.1
      · omega
      · rw [if_neg e3]
        exact decide_eq_false (by omega)
/-- what a heap says of a pair -/
def lrKey (h : Heap) : Value → Int × List Int
  | .ref a => match h.get? a with
    | some o => match o.data with
      | .seq its _ => match its.toList with
        | [.int n _, .ref b] => (n, match h.get? b with
          | some o2 => match o2.data with
            | .seq ys _ => ys.toList.map SrtO.iv
            | _ => []
          | none => [])
        | _ => (0, [])
      | _ => (0, [])
    | none => (0, [])
  | _ => (0, [])
theorem swo_lr (h : Heap) : SrtO.Swo fun v u => lrLt (lrKey h v) (lrKey h u) := ⟨fun x y => lrLt_asym _ _, fun x y z => lrLt_tr _ _ _⟩
/-- v is a pair of n and a tuple of the ints r, in the heap h -/
structure IsLR (P : Program) (w : World) (h : Heap) (v : Value) (n : Int) (r : List Int) : Prop where
  ex : ∃ (a b : Addr) (o o2 : Obj) (t : Tok) (k k2 : Nat) (ys : Array Value), v = .ref a ∧ h.get? a = some o ∧ o.cls = .type "tuple" ∧ o.data = .seq #[.int n t, .ref b] k ∧
    h.get? b = some o2 ∧ o2.cls = .type "tuple" ∧ o2.data = .seq ys k2 ∧ ItemsAre (PySem.intKind P w) r ys.toList
theorem items_iv {P : Program} {w : World} {r : List Int} {vs : List Value} (h : ItemsAre (PySem.intKind P w) r vs) : vs.map SrtO.iv = r := by
  induction h with
  | nil => rfl
  | @cons k v ks vs h1 _ ih =>
    obtain ⟨t, rfl⟩ := Value.isInt_shape h1
    rw [List.map_cons, ih]
    rfl
theorem IsLR.key {P : Program} {w : World} {h : Heap} {v : Value} {n : Int} {r : List Int} (x : IsLR P w h v n r) : lrKey h v = (n, r) := by
  obtain ⟨a, b, o, o2, t, k, k2, ys, rfl, ho, _, hd, ho2, _, hd2, hi⟩ := x
  unfold lrKey
  simp only [ho, hd, ho2, hd2]
  rw [items_iv hi]
theorem IsLR.keeps {P : Program} {w : World} {h h' : Heap} {v : Value} {n : Int} {r : List Int} (x : IsLR P w h v n r) (k : ∀ b o, h.get? b = some o → o.cls = .type "tuple" → h'.get? b = some o) : IsLR P w h' v n r := by
  obtain ⟨a, b, o, o2, t, k1, k2, ys, e, ho, hc, hd, ho2, hc2, hd2, hi⟩ := x
  exact ⟨a, b, o, o2, t, k1, k2, ys, e, k _ _ ho hc, hc, hd, k _ _ ho2 hc2, hc2, hd2, hi⟩
section
variable {prog : Program} {w : World} {A : Around} {E : Value → Shared → Prop} {s : Shared}
theorem lr_cmp {vs : List Value} {ky : Value → Int × List Int} (hu : A.units < cLine) (hp : ∀ v ∈ vs, IsLR prog w s.heap v (ky v).1 (ky v).2) : SrtO.Cmp prog w A s (tuples' true) (fun p => p.1 ∈ vs) (SrtO.lt2 fun v u => lrLt (ky v) (ky u)) := by
  intro p q hm hm'
  obtain ⟨a, b, o, o2, t, k, k2, ys, e, ho, hc, hd, ho2, hc2, hd2, hi⟩ := hp _ hm
  obtain ⟨a', b', o', o2', t', k', k2', ys', e', ho', hc', hd', ho2', hc2', hd2', hi'⟩ := hp _ hm'
  show wpAny (model prog w) A (keyLt' (tuples' true) p.1 q.1) (fun r s' => s' = s ∧ r = lrLt (ky p.1) (ky q.1)) (fun _ _ => False) s
  unfold lrLt
  generalize (ky p.1).1 = x at hd ⊢
  generalize (ky p.1).2 = y at hi ⊢
  generalize (ky q.1).1 = x' at hd' ⊢
  generalize (ky q.1).2 = y' at hi' ⊢
  rw [e, e']
  refine PySem.W.kat_lt ho hd ho' hd' ?_
  show PySem.W.KatLex prog w A true (decide (2 < 2)) _ [(.int x t, .int x' t'), (.ref b, .ref b')] 0 s
  refine PySem.W.kat_cons (SeqAt.EqAt.int_int x t x' t' prog w _ _ ?_)
  refine PySem.W.kat_go (fun e1 => ?_) (fun e1 => ?_)
  · have ex : x = x' := by simpa using e1
    refine PySem.W.kat_yes (PySem.W.kat_cons (wpAny_eqBool_tuple hu ⟨o2, ys, k2, ho2, hc2, hd2, hi⟩ ⟨o2', ys', k2', ho2', hc2', hd2', hi'⟩ ?_))
    refine PySem.W.kat_go (fun e2 => ?_) (fun e2 => ?_)
    · have ey : y = y' := of_decide_eq_true e2
      refine PySem.W.kat_yes (PySem.W.kat_nil ⟨rfl, ?_⟩)
      rw [if_pos ex, ey, lexLt_irr]
      rfl
    · refine PySem.W.kat_no (PySem.W.kat_one _ _ (E := fun _ _ => False) (HT.lt_tupInts (ns := y) (ms := y') ⟨o2, ho2, hc2, k2, hd2⟩ ⟨o2', ho2', hc2', k2', hd2'⟩ (L2.ints_of_items hi) (L2.ints_of_items hi') hu ?_))
      exact (show s = s ∧ HT.lexLt y y' = _ from ⟨rfl, (if_pos ex).symm⟩)
  · have ex : ¬ x = x' := by simpa using e1
    exact PySem.W.kat_no (oneLt_int ⟨rfl, (if_neg ex).symm⟩)
theorem lr_firsts {h : Heap} {ky : Value → Int × List Int} : ∀ {vs : List Value}, (∀ v ∈ vs, IsLR prog w h v (ky v).1 (ky v).2) → ∃ fs, PySem.W.KatTups h vs fs ∧ fs.length = vs.length ∧ ∀ f ∈ fs, ∃ n t, f = Value.int n t
  | [], _ => ⟨[], .nil, rfl, fun f hf => by cases hf⟩
  | v :: vs, hp => by
    obtain ⟨a, b, o, o2, t, k, k2, ys, rfl, ho, hc, hd, _⟩ := hp v List.mem_cons_self
    obtain ⟨fs, h1, h2, h3⟩ := lr_firsts (vs := vs) fun v hv => hp v (List.mem_cons_of_mem _ hv)
    refine ⟨_ :: fs, .cons ho hc hd rfl h1, by simp [h2], fun f hf => ?_⟩
    rcases List.mem_cons.mp hf with rfl | hf
    · exact ⟨_, _, rfl⟩
    · exact h3 f hf
theorem lr_sortable {a : Addr} {vs : List Value} {ky : Value → Int × List Int} (hu : A.units < cLine) (h0 : 0 < vs.length) (hp : ∀ v ∈ vs, IsLR prog w s.heap v (ky v).1 (ky v).2) (ha : ∀ o, s.heap.get? a = some o → o.cls ≠ .type "tuple") : SrtO.SortableO prog w A s a vs fun v u => lrLt (ky v) (ky u) := by
  intro h' keep
  have hp' : ∀ v ∈ vs, IsLR prog w h' v (ky v).1 (ky v).2 := fun v hm => (hp v hm).keeps fun b o e c => keep b o (fun z => by subst z; exact ha o e c) e
  obtain ⟨fs, h1, h2, h3⟩ := lr_firsts hp'
  refine ⟨tuples' true, fun Q E hq => ?_, lr_cmp (s := { s with heap := h' }) hu hp'⟩
  refine PySem.W.kat_kind (T := .type "int") h1 (by omega) (fun f hm => ?_) (by rfl) ?_
  · obtain ⟨x, t, rfl⟩ := h3 f hm
    exact PySem.W.Looks.now
  · have e : (Value.type "int" != Value.type "tuple") = true := by first | decide +kernel | rfl | decide
    rw [e]
    exact hq
theorem sorted_lr {l : Addr} {vs : List Value} {Q : Value → Shared → Prop} (hu : A.in1.in1.units < cLine) (hl : s.heap.IsList l vs.toArray) (hz : vs.length ≤ sizeLine) (hp : ∀ v ∈ vs, IsLR prog w s.heap v (lrKey s.heap v).1 (lrKey s.heap v).2)
    (h : ∀ (h' : Heap) (d : Addr) (out : List Value), SrtO.Srtd (fun v u => lrLt (lrKey s.heap v) (lrKey s.heap u)) out → SrtO.Stb (fun v u => lrLt (lrKey s.heap v) (lrKey s.heap u)) out vs → (∀ b o, s.heap.get? b = some o → h'.get? b = some o) → s.heap.objs.size ≤ d → (∃ n, h'.get? d = some (seqObj "list" out.toArray n)) → Q (.ref d) { s with heap := h' }) :
    wpAny (model prog w) A (call (.builtin "sorted") [.ref l]) Q E s := by
  refine SrtO.sorted_ord (swo_lr s.heap) hl hz (fun h2 h₁ a ha kk => ?_) fun out hs hb => ?_
  · refine lr_sortable (s := { s with heap := h₁ }) hu (by omega) (fun v hm => (hp v hm).keeps fun b o e _ => (kk b o e).2) fun o e => ?_
    have e' : some o = some (seqObj "list" vs.toArray 0) := e.symm.trans ha
    cases e'
    intro c
    exact absurd (Value.type.inj c) (by decide)
  · exact h _ _ out hs hb (fun b o e => sortedAll_old e) (Nat.le_succ _) (sortedAll_at s.heap vs out.toArray)
end
/-! ### as a rule of the layer -/
/-- v is a pair of the length of r and r -/
def LrV (K : PySem.W.Frag) (H : Hp) (v : V) (r : List Nat) : Prop := ∃ (t : Addr) (u : V), v = .ref t ∧ SqT K H t [.int r.length, u] ∧ RwV K H u r
theorem LrV.ext0 {K : PySem.W.Frag} {H H' : Hp} {v : V} {r : List Nat} (h : LrV K H v r) (e : Ext [] H H') : LrV K H' v r := by
  obtain ⟨t, u, e1, h1, h2⟩ := h
  exact ⟨t, u, e1, e.tup Lsts.nil h1, h2.ext0 e⟩
/-- shorter ahead, then as tuples -/
def ltR (p q : List Nat) : Bool := lrLt ((p.length : Int), p.map Int.ofNat) ((q.length : Int), q.map Int.ofNat)
def rSortedLR (K : PySem.W.Frag) : List V → Hp → VK → Prop := fun vs H Q => ∃ (a : Addr) (xs : List V) (rs : List (List Nat)), vs = [V.ref a] ∧ SqL K H a xs ∧ Paired (LrV K H) xs rs ∧ rs.Pairwise (fun p q => ltR p q = true) ∧ ∀ p, H p = none → Q (.ref p) (upd H p (.lst xs))
theorem nV_map (r : List Nat) : r.map nV = (r.map Int.ofNat).map V.int := by rw [List.map_map] <;> rfl
theorem lr_of {X : Cx} {pins : List (Addr × Obj)} {σ : L2.St} {H : Hp} {s : Shared} (I : Inv X pins σ H s) : ∀ {xs : List V} {rs : List (List Nat)} {its : List Value}, Paired (LrV X.K H) xs rs → Vals xs its → Paired (fun v r => IsLR X.prog X.w s.heap v (r.length : Nat) (r.map Int.ofNat)) its rs
  | _, _, _, .nil, .nil => .nil
  | _, _, _, .cons ⟨t, u, e, ht, b, eb, hb⟩ hr, .cons rv rr => by
    subst e eb
    cases rv
    obtain ⟨i1, r1, p1, _⟩ := I.tuple ht
    obtain ⟨u1, u2, rfl, ra, rb⟩ := vals2 r1
    obtain ⟨tk, rfl⟩ := ra
    obtain rfl : u2 = Value.ref b := rb
    obtain ⟨i2, r2, p2, _⟩ := I.tuple hb
    rw [nV_map] at r2
    obtain ⟨o, ho, hc, k, hd⟩ := p1
    obtain ⟨o2, ho2, hc2, k2, hd2⟩ := p2
    exact .cons ⟨_, _, o, o2, tk, k, k2, _, rfl, ho, hc, hd, ho2, hc2, hd2, items_of_vals r2⟩ (lr_of I hr rr)
theorem lr_all {P : Program} {w : World} {h : Heap} : ∀ {its : List Value} {rs : List (List Nat)}, Paired (fun v r => IsLR P w h v (r.length : Nat) (r.map Int.ofNat)) its rs → rs.Pairwise (fun p q => ltR p q = true) →
    (∀ v ∈ its, IsLR P w h v (lrKey h v).1 (lrKey h v).2 ∧ ∃ r ∈ rs, lrKey h v = ((r.length : Int), r.map Int.ofNat)) ∧ SrtO.Srtd (fun v u => lrLt (lrKey h v) (lrKey h u)) its
  | _, _, .nil, _ => ⟨fun v hv => absurd hv (by simp), List.Pairwise.nil⟩
  | _, _, .cons (a := v) (b := r) h1 t, p => by
    obtain ⟨p1, p2⟩ := List.pairwise_cons.mp p
    obtain ⟨i1, i2⟩ := lr_all t p2
    have e := h1.key
    refine ⟨fun u hu => ?_, List.pairwise_cons.mpr ⟨fun u hu => ?_, i2⟩⟩
    · rcases List.mem_cons.mp hu with rfl | hu
      · rw [e]
        exact ⟨h1, r, List.mem_cons_self, rfl⟩
      · obtain ⟨a, q, hq, eq⟩ := i1 u hu
        exact ⟨a, q, List.mem_cons_of_mem _ hq, eq⟩
    · obtain ⟨_, q, hq, eq⟩ := i1 u hu
      show lrLt (lrKey h u) (lrKey h v) = false
      rw [e, eq]
      exact lrLt_asym _ _ (p1 q hq)
theorem call_sortedLR {X : Cx} (hu : X.A.units + 64 < cLine) : CallR X (.builtin "sorted") (rSortedLR X.K) := by
  intro pins s σ H vs us Q I r h
  obtain ⟨a, xs, rs, rfl, hs, hx, hsort, q⟩ := h
  obtain ⟨its, rv, hl, hz⟩ := I.list hs
  obtain ⟨u, rfl, ru⟩ := vals1 r
  obtain rfl : u = Value.ref a := ru
  have e0 : ∀ x ∈ xs, ∃ a, x = V.ref a := fun x m => by
    obtain ⟨i, hi⟩ := List.mem_iff_getElem?.mp m
    obtain ⟨r, _, t, u, e, _⟩ := Paired.get' hx hi
    exact ⟨t, e⟩
  obtain ⟨e1, e2⟩ := refs_back rv e0
  obtain ⟨k1, k2⟩ := lr_all (lr_of I hx rv) hsort
  refine sorted_lr (by show X.A.units + 1 + 1 < cLine; omega) hl.isList (by rw [← rv.length]; exact hz) (fun v hv => (k1 v hv).1) fun h' d out h1 h2 kp hd hn => ?_
  have eo : out = its := SrtO.stb_uniq (swo_lr s.heap) h1 k2 h2
  subst eo
  obtain ⟨n, hn⟩ := hn
  refine ⟨.ref d, upd H d (.lst xs), I.laid (t' := s.toks) kp hd ⟨hz, out, n, rv, hn⟩, rfl, q d (I.hok.fresh hd)⟩
end Nv
set_option linter.all false
namespace Nv
open PySem PySem.Spec PyProof.Rows L2
/-! ### rows in their order: the shorter ahead, then as tuples -/
theorem lexLt_app : ∀ {a b : List Int} (c d : List Int), a.length = b.length → HT.lexLt a b = true → HT.lexLt (a ++ c) (b ++ d) = true
  | [], [], c, d, _, h => by cases h
  | [], _ :: _, _, _, e, _ => by cases e
  | _ :: _, [], _, _, e, _ => by cases e
  | x :: r, y :: t, c, d, e, h => by
    rw [List.cons_append, List.cons_append, HT.lexLt_cons] at *
    by_cases q : x = y
    · rw [if_pos q] at h ⊢
      exact lexLt_app c d (by simpa using e) h
    · rw [if_neg q] at h ⊢
      exact h
theorem lexLt_pre : ∀ (a c d : List Int), HT.lexLt (a ++ c) (a ++ d) = HT.lexLt c d
  | [], _, _ => rfl
  | x :: r, c, d => by rw [List.cons_append, List.cons_append, HT.lexLt_cons, if_pos rfl, lexLt_pre r c d]
theorem ltR_short {p q : List Nat} (h : p.length < q.length) : ltR p q = true := by
  unfold ltR lrLt
  rw [if_neg (by show ¬ (p.length : Int) = (q.length : Int); omega)]
  exact decide_eq_true (by show (p.length : Int) < (q.length : Int); omega)
theorem ltR_same {p q : List Nat} (h : p.length = q.length) : ltR p q = HT.lexLt (p.map Int.ofNat) (q.map Int.ofNat) := by
  unfold ltR lrLt
  rw [if_pos (by show (p.length : Int) = (q.length : Int); omega)]
theorem ltR_len {p q : List Nat} (h : ltR p q = true) : p.length ≤ q.length := by
  refine Nat.le_of_not_lt fun z => ?_
  have := lrLt_asym _ _ (show lrLt _ _ = true from ltR_short z)
  rw [show lrLt ((p.length : Int), p.map Int.ofNat) ((q.length : Int), q.map Int.ofNat) = ltR p q from rfl, h] at this
  cases this
theorem ltR_asym {p q : List Nat} (h : ltR p q = true) : ltR q p = false := lrLt_asym _ _ h
theorem ltR_irr (p : List Nat) : ltR p p = false := by rw [ltR_same rfl]; exact lexLt_irr _
theorem ltR_tr {p q r : List Nat} (h1 : ltR q p = false) (h2 : ltR r q = false) : ltR r p = false := lrLt_tr _ _ _ h1 h2
theorem ltR_app {p q : List Nat} (m k : Nat) (h : ltR p q = true) : ltR (p ++ [m]) (q ++ [k]) = true := by
  have l := ltR_len h
  by_cases e : p.length = q.length
  · rw [ltR_same (by simp [e]), List.map_append, List.map_append]
    rw [ltR_same e] at h
    exact lexLt_app _ _ (by simp [e]) h
  · exact ltR_short (by simp; omega)
theorem ltR_last (p : List Nat) {m k : Nat} (h : m < k) : ltR (p ++ [m]) (p ++ [k]) = true := by
  rw [ltR_same (by simp), List.map_append, List.map_append, lexLt_pre]
  show HT.lexLt [Int.ofNat m] [Int.ofNat k] = true
  rw [HT.lexLt_cons, if_neg (fun z => by have := Int.ofNat.inj z; omega)]
  exact decide_eq_true (Int.ofNat_lt.mpr h)
theorem lexLt_tot : ∀ {a b : List Int}, a.length = b.length → HT.lexLt a b = false → HT.lexLt b a = false → a = b
  | [], [], _, _, _ => rfl
  | [], _ :: _, e, _, _ => by cases e
  | _ :: _, [], e, _, _ => by cases e
  | x :: r, y :: t, e, h1, h2 => by
    rw [HT.lexLt_cons] at h1 h2
    by_cases q : x = y
    · rw [if_pos q] at h1
      rw [if_pos q.symm] at h2
      rw [q, lexLt_tot (by simpa using e) h1 h2]
    · rw [if_neg q] at h1
      rw [if_neg (Ne.symm q)] at h2
      have := of_decide_eq_false h1
      have := of_decide_eq_false h2
      omega
theorem ofNat_inj : ∀ {a b : List Nat}, a.map Int.ofNat = b.map Int.ofNat → a = b
  | [], [], _ => rfl
  | [], _ :: _, h => by cases h
  | _ :: _, [], h => by cases h
  | x :: r, y :: t, h => by
    obtain ⟨h1, h2⟩ := List.cons.inj h
    rw [Int.ofNat.inj h1, ofNat_inj h2]
theorem ltR_tot {p q : List Nat} (h1 : ltR p q = false) (h2 : ltR q p = false) : p = q := by
  by_cases e : p.length = q.length
  · rw [ltR_same e] at h1
    rw [ltR_same e.symm] at h2
    exact ofNat_inj (lexLt_tot (by simp [e]) h1 h2)
  · rcases Nat.lt_or_gt_of_ne e with z | z
    · rw [ltR_short z] at h1; cases h1
    · rw [ltR_short z] at h2; cases h2
theorem mvs_rise {b : Book} (fb : FormB b) (s : Nat) : ((mvs b s).map (·.1)).Pairwise (· < ·) := by
  by_cases hs : s < b.length
  · exact (fb.ok hs).rise
  · rw [mvs_out (by omega)]
    exact .nil
theorem lv_srt {b : Book} (fb : FormB b) (s : Nat) : ∀ n, ((lvM b s n).map (·.1)).Pairwise (fun p q => ltR p q = true)
  | 0 => List.pairwise_singleton _ _
  | n + 1 => by
    have ih := lv_srt fb s n
    show ((((lvM b s n).map fun q => (mvs b q.2).map fun p => (q.1 ++ [p.1], p.2)).flatten).map (·.1)).Pairwise _
    rw [List.map_flatten, List.map_map, List.pairwise_flatten]
    refine ⟨fun l hl => ?_, ?_⟩
    · obtain ⟨q, _, rfl⟩ := List.mem_map.mp hl
      have h := mvs_rise fb q.2
      show (((mvs b q.2).map fun p => (q.1 ++ [p.1], p.2)).map (·.1)).Pairwise _
      rw [List.map_map]
      rw [List.pairwise_map] at h
      rw [List.pairwise_map]
      exact h.imp fun z => ltR_last _ z
    · rw [List.pairwise_map] at ih ⊢
      refine ih.imp fun z => ?_
      intro x hx y hy
      obtain ⟨x', hx', rfl⟩ := List.mem_map.mp hx
      obtain ⟨p, _, rfl⟩ := List.mem_map.mp hx'
      obtain ⟨y', hy', rfl⟩ := List.mem_map.mp hy
      obtain ⟨q, _, rfl⟩ := List.mem_map.mp hy'
      exact ltR_app _ _ z
theorem rows_short {b : Book} (fb : FormB b) {s n : Nat} {r : List Nat} (h : r ∈ rowsM b s n) : r.length ≤ n := by
  obtain ⟨j, hj, q, hq, rfl⟩ := (mem_rows n r).mp h
  rw [(lv_row fb j q hq).2]
  exact hj
theorem rows_srt {b : Book} (fb : FormB b) (s : Nat) : ∀ n, (rowsM b s n).Pairwise (fun p q => ltR p q = true)
  | 0 => List.pairwise_singleton _ _
  | n + 1 => by
    refine List.pairwise_append.mpr ⟨rows_srt fb s n, lv_srt fb s (n + 1), fun x hx y hy => ?_⟩
    obtain ⟨q, hq, rfl⟩ := List.mem_map.mp hy
    have h1 := rows_short fb hx
    have h2 := (lv_row fb (n + 1) q hq).2
    exact ltR_short (by omega)
theorem at_lv {b : Book} : ∀ (r : List Nat) (s t : Nat), atM b s r = some t → ∀ (n : Nat) (r0 : List Nat) (s0 : Nat), (r0, s) ∈ lvM b s0 n → (r0 ++ r, t) ∈ lvM b s0 (n + r.length)
  | [], s, t, e, n, r0, s0, h => by
    cases e
    rw [List.append_nil]
    exact h
  | m :: r, s, t, e, n, r0, s0, h => by
    have e : (match nextM b s m with | some t => atM b t r | none => none) = some t := e
    cases hn : nextM b s m with
    | none => rw [hn] at e; cases e
    | some u =>
      rw [hn] at e
      obtain ⟨p, hp, h1, h2⟩ : ∃ p ∈ mvs b s, p.1 = m ∧ p.2 = u := by
        unfold nextM at hn
        cases e1 : (mvs b s).find? fun p => decide (p.1 = m) with
        | none => rw [e1] at hn; cases hn
        | some p =>
          rw [e1] at hn
          have h2 := List.find?_some e1
          exact ⟨p, List.mem_of_find?_eq_some e1, of_decide_eq_true h2, Option.some.inj hn⟩
      have := at_lv r u t e (n + 1) (r0 ++ [m]) s0 (mem_lv.mpr ⟨(r0, s), h, p, hp, by rw [h1, h2]⟩)
      rw [List.append_assoc] at this
      rw [List.length_cons, show n + (r.length + 1) = n + 1 + r.length by omega]
      exact this
theorem at_rows {b : Book} {s t n : Nat} {r : List Nat} (h : atM b s r = some t) (hn : r.length ≤ n) : r ∈ rowsM b s n := by
  have := at_lv r s t h 0 [] s (List.mem_singleton.mpr rfl)
  exact (mem_rows n r).mpr ⟨r.length, hn, _, by rw [Nat.zero_add] at this; exact this, rfl⟩
/-! ### the first row to each state, found round by round -/
structure RW (b : Book) (L : List (Nat × List Nat)) (i k : Nat) : Prop where
  nd : (L.map (·.1)).Nodup
  zero : L[0]? = some (0, [])
  at_ : ∀ x ∈ L, atM b 0 x.2 = some x.1
  lt : ∀ x ∈ L, x.1 < b.length
  len : ∀ (j : Nat) (x : Nat × List Nat), L[j]? = some x → x.2.length ≤ j
  srt : (L.map (·.2)).Pairwise (fun p q => ltR p q = true)
  old : ∀ x ∈ L, x.2 = [] ∨ ∃ (j : Nat) (y : Nat × List Nat) (p : Nat × Nat) (k' : Nat), L[j]? = some y ∧ x.2 = y.2 ++ [p.1] ∧ (mvs b y.1)[k']? = some p ∧ (j < i ∨ (j = i ∧ k' < k))
  cl : ∀ (j : Nat) (y : Nat × List Nat), L[j]? = some y → ∀ (k' : Nat) (p : Nat × Nat), (mvs b y.1)[k']? = some p → (j < i ∨ (j = i ∧ k' < k)) → ∃ r', (p.2, r') ∈ L ∧ ltR (y.2 ++ [p.1]) r' = false
  le : i ≤ L.length
theorem RW.first {b : Book} (h : 1 ≤ b.length) : RW b [(0, [])] 0 0 where
  nd := by simp
  zero := rfl
  at_ := fun x hx => by rw [List.mem_singleton.mp hx]; rfl
  lt := fun x hx => by rw [List.mem_singleton.mp hx]; exact h
  len := fun j x hx => by
    cases j with
    | zero => cases hx; exact Nat.zero_le _
    | succ j => cases hx
  srt := List.pairwise_singleton _ _
  old := fun x hx => by rw [List.mem_singleton.mp hx]; exact .inl rfl
  cl := fun j y _ k' p _ h => by omega
  le := Nat.zero_le _
theorem RW.srt_at {b : Book} {L : List (Nat × List Nat)} {i k j j' : Nat} {x y : Nat × List Nat} (h : RW b L i k) (hj : L[j]? = some x) (hj' : L[j']? = some y) (l : j < j') : ltR x.2 y.2 = true := by
  have s := List.pairwise_iff_getElem.mp h.srt
  obtain ⟨h1, e1⟩ := List.getElem?_eq_some_iff.mp hj
  obtain ⟨h2, e2⟩ := List.getElem?_eq_some_iff.mp hj'
  have := s j j' (by simpa using h1) (by simpa using h2) l
  rw [List.getElem_map, List.getElem_map, e1, e2] at this
  exact this
/-- what stands there lies below a row that is met next -/
theorem RW.below {b : Book} (fb : FormB b) {L : List (Nat × List Nat)} {i k : Nat} {y x : Nat × List Nat} {p : Nat × Nat} (h : RW b L i k) (hy : L[i]? = some y) (hp : (mvs b y.1)[k]? = some p) (hx : x ∈ L) : ltR x.2 (y.2 ++ [p.1]) = true := by
  rcases h.old x hx with e | ⟨j, z, q, k', hz, e, hq, hj | ⟨rfl, hk⟩⟩
  · rw [e]
    exact ltR_short (by simp)
  · rw [e]
    exact ltR_app _ _ (h.srt_at hz hy hj)
  · rw [hy] at hz
    cases hz
    rw [e]
    refine ltR_last _ ?_
    have s := List.pairwise_iff_getElem.mp (mvs_rise fb y.1)
    obtain ⟨h1, e1⟩ := List.getElem?_eq_some_iff.mp hq
    obtain ⟨h2, e2⟩ := List.getElem?_eq_some_iff.mp hp
    have := s k' k (by simpa using h1) (by simpa using h2) hk
    rw [List.getElem_map, List.getElem_map, e1, e2] at this
    exact this
theorem RW.skip {b : Book} (fb : FormB b) {L : List (Nat × List Nat)} {i k : Nat} {y : Nat × List Nat} {p : Nat × Nat} (h : RW b L i k) (hy : L[i]? = some y) (hp : (mvs b y.1)[k]? = some p) (hin : p.2 ∈ L.map (·.1)) : RW b L i (k + 1) where
  nd := h.nd
  zero := h.zero
  at_ := h.at_
  lt := h.lt
  len := h.len
  srt := h.srt
  old := fun x hx => (h.old x hx).imp id fun ⟨j, y, p, k', h1, h2, h3, h4⟩ => ⟨j, y, p, k', h1, h2, h3, h4.imp id fun z => ⟨z.1, by omega⟩⟩
  cl := fun j z hz k' q hq hjk => by
    by_cases hn : j < i ∨ (j = i ∧ k' < k)
    · exact h.cl j z hz k' q hq hn
    · obtain ⟨rfl, rfl⟩ : j = i ∧ k' = k := by omega
      rw [hy] at hz
      cases hz
      rw [hp] at hq
      cases hq
      obtain ⟨x, hx, e⟩ := List.mem_map.mp hin
      exact ⟨x.2, by rw [← e]; exact hx, ltR_asym (h.below fb hy hp hx)⟩
  le := h.le
theorem RW.push {b : Book} (fb : FormB b) {L : List (Nat × List Nat)} {i k : Nat} {y : Nat × List Nat} {p : Nat × Nat} (h : RW b L i k) (hy : L[i]? = some y) (hp : (mvs b y.1)[k]? = some p) (hin : p.2 ∉ L.map (·.1)) : RW b (L ++ [(p.2, y.2 ++ [p.1])]) i (k + 1) := by
  have hpm := List.mem_of_getElem? hp
  have iL : i < L.length := (List.getElem?_eq_some_iff.mp hy).1
  have up : ∀ {j : Nat} {z : Nat × List Nat}, L[j]? = some z → (L ++ [(p.2, y.2 ++ [p.1])])[j]? = some z := fun {j z} hz => by
    rw [List.getElem?_append_left (List.getElem?_eq_some_iff.mp hz).1]
    exact hz
  have dn : ∀ {j : Nat} {z : Nat × List Nat}, (L ++ [(p.2, y.2 ++ [p.1])])[j]? = some z → j < L.length → L[j]? = some z := fun {j z} hz hj => by
    rwa [List.getElem?_append_left hj] at hz
  refine { nd := ?_, zero := up h.zero, at_ := fun x hx => ?_, lt := fun x hx => ?_, len := fun j x hx => ?_, srt := ?_, old := fun x hx => ?_, cl := fun j z hz k' q hq hjk => ?_, le := by rw [List.length_append]; have := h.le; omega }
  · rw [List.map_append, List.nodup_append]
    exact ⟨h.nd, by simp, fun a ha b hb e => by
      rw [List.mem_singleton.mp hb] at e
      rw [e] at ha
      exact hin ha⟩
  · rcases List.mem_append.mp hx with hx | hx
    · exact h.at_ x hx
    · rw [List.mem_singleton.mp hx]
      show atM b 0 (y.2 ++ [p.1]) = some p.2
      rw [at_snoc _ _ _ _ (h.at_ y (List.mem_of_getElem? hy))]
      exact next_mem fb hpm
  · rcases List.mem_append.mp hx with hx | hx
    · exact h.lt x hx
    · rw [List.mem_singleton.mp hx]
      exact fb.to hpm
  · by_cases hj : j < L.length
    · exact h.len j x (dn hx hj)
    · have hl := (List.getElem?_eq_some_iff.mp hx).1
      rw [List.length_append, List.length_singleton] at hl
      have : j = L.length := by omega
      subst this
      rw [List.getElem?_append_right (Nat.le_refl _), Nat.sub_self] at hx
      cases hx
      have := h.len i y hy
      show (y.2 ++ [p.1]).length ≤ _
      rw [List.length_append, List.length_singleton]
      omega
  · rw [List.map_append, List.pairwise_append]
    refine ⟨h.srt, List.pairwise_singleton _ _, fun a ha c hc => ?_⟩
    obtain ⟨x, hx, rfl⟩ := List.mem_map.mp ha
    rw [List.mem_singleton.mp hc]
    exact h.below fb hy hp hx
  · rcases List.mem_append.mp hx with hx | hx
    · exact (h.old x hx).imp id fun ⟨j, y, p, k', h1, h2, h3, h4⟩ => ⟨j, y, p, k', up h1, h2, h3, h4.imp id fun z => ⟨z.1, by omega⟩⟩
    · rw [List.mem_singleton.mp hx]
      exact .inr ⟨i, y, p, k, up hy, rfl, hp, .inr ⟨rfl, by omega⟩⟩
  · have hj : j < L.length := by omega
    have hz := dn hz hj
    by_cases hn : j < i ∨ (j = i ∧ k' < k)
    · obtain ⟨r', h1, h2⟩ := h.cl j z hz k' q hq hn
      exact ⟨r', List.mem_append_left _ h1, h2⟩
    · obtain ⟨rfl, rfl⟩ : j = i ∧ k' = k := by omega
      rw [hy] at hz
      cases hz
      rw [hp] at hq
      cases hq
      exact ⟨_, List.mem_append_right _ (List.mem_singleton.mpr rfl), ltR_irr _⟩
theorem RW.next {b : Book} {L : List (Nat × List Nat)} {i k : Nat} {y : Nat × List Nat} (h : RW b L i k) (hy : L[i]? = some y) (hk : (mvs b y.1).length ≤ k) : RW b L (i + 1) 0 where
  nd := h.nd
  zero := h.zero
  at_ := h.at_
  lt := h.lt
  len := h.len
  srt := h.srt
  old := fun x hx => (h.old x hx).imp id fun ⟨j, y, p, k', h1, h2, h3, h4⟩ => ⟨j, y, p, k', h1, h2, h3, .inl (by omega)⟩
  cl := fun j z hz k' q hq hjk => by
    by_cases hn : j < i
    · exact h.cl j z hz k' q hq (.inl hn)
    · obtain rfl : j = i := by omega
      rw [hy] at hz
      cases hz
      exact h.cl j y hy k' q hq (.inr ⟨rfl, Nat.lt_of_lt_of_le (List.getElem?_eq_some_iff.mp hq).1 hk⟩)
  le := (List.getElem?_eq_some_iff.mp hy).1
theorem RW.idx {b : Book} {L : List (Nat × List Nat)} {i k : Nat} (h : RW b L i k) {x y : Nat × List Nat} (hx : x ∈ L) (hy : y ∈ L) (e : x.1 = y.1) : x = y := by
  obtain ⟨j, hj⟩ := List.mem_iff_getElem?.mp hx
  obtain ⟨j', hj'⟩ := List.mem_iff_getElem?.mp hy
  have e1 : (L.map (·.1))[j]? = some x.1 := by rw [List.getElem?_map, hj]; rfl
  have e2 : (L.map (·.1))[j']? = some x.1 := by rw [List.getElem?_map, hj', e]; rfl
  have := idx_of h.nd e1
  have := idx_of h.nd e2
  have : j = j' := by omega
  subst this
  rw [hj] at hj'
  exact Option.some.inj hj'
/-- at the end: no row to a state lies below the one that was found -/
theorem RW.least {b : Book} (fb : FormB b) {L : List (Nat × List Nat)} {i k : Nat} (h : RW b L i k) (hi : L.length ≤ i) : ∀ (n : Nat) (r : List Nat) (t : Nat), r.length = n → atM b 0 r = some t → ∃ r', (t, r') ∈ L ∧ ltR r r' = false
  | 0, r, t, hl, ha => by
    have : r = [] := List.length_eq_zero_iff.mp hl
    subst this
    cases ha
    exact ⟨[], List.mem_of_getElem? h.zero, ltR_irr _⟩
  | n + 1, r, t, hl, ha => by
    obtain ⟨r0, m, rfl⟩ : ∃ r0 m, r = r0 ++ [m] := by
      rcases List.eq_nil_or_concat r with e | ⟨r0, m, e⟩
      · rw [e] at hl; cases hl
      · exact ⟨r0, m, by rw [e, List.concat_eq_append]⟩
    have l0 : r0.length = n := by simpa using hl
    obtain ⟨s, hs⟩ : ∃ s, atM b 0 r0 = some s := by
      cases e : atM b 0 r0 with
      | some s => exact ⟨s, rfl⟩
      | none =>
        have pre : ∀ (r0 : List Nat) (s : Nat), atM b s r0 = none → atM b s (r0 ++ [m]) = none := by
          intro r0
          induction r0 with
          | nil => intro s e; cases e
          | cons x r0 ih =>
            intro s e
            show (match nextM b s x with | some t => atM b t (r0 ++ [m]) | none => none) = none
            have e : (match nextM b s x with | some t => atM b t r0 | none => none) = none := e
            cases hn : nextM b s x with
            | none => rfl
            | some u =>
              rw [hn] at e
              exact ih u e
        rw [pre r0 0 e] at ha
        cases ha
    rw [at_snoc _ _ _ _ hs] at ha
    obtain ⟨r1, h1, h2⟩ := RW.least fb h hi n r0 s l0 hs
    obtain ⟨p, hp, e1, e2⟩ : ∃ p ∈ mvs b s, p.1 = m ∧ p.2 = t := by
      unfold nextM at ha
      cases e1 : (mvs b s).find? fun p => decide (p.1 = m) with
      | none => rw [e1] at ha; cases ha
      | some p =>
        rw [e1] at ha
        have h2 := List.find?_some e1
        exact ⟨p, List.mem_of_find?_eq_some e1, of_decide_eq_true h2, Option.some.inj ha⟩
    obtain ⟨j, hj⟩ := List.mem_iff_getElem?.mp h1
    obtain ⟨k', hk'⟩ := List.mem_iff_getElem?.mp hp
    have jL := (List.getElem?_eq_some_iff.mp hj).1
    obtain ⟨r', h3, h4⟩ := h.cl j (s, r1) hj k' p hk' (.inl (by omega))
    rw [e2] at h3
    refine ⟨r', h3, ?_⟩
    rw [e1] at h4
    have h5 : ltR (r0 ++ [m]) (r1 ++ [m]) = false := by
      by_cases q : r0 = r1
      · rw [q]
        exact ltR_irr _
      · have : ltR r1 r0 = true := by
          cases z : ltR r1 r0 with
          | true => rfl
          | false => exact absurd (ltR_tot h2 z) q
        exact ltR_asym (ltR_app _ _ this)
    exact ltR_tr h4 h5
/-- the first one of a rising list that is so -/
theorem find_least {p : List Nat → Bool} : ∀ {l : List (List Nat)} {x : List Nat}, l.Pairwise (fun p q => ltR p q = true) → x ∈ l → p x = true → (∀ y ∈ l, p y = true → ltR y x = false) → l.find? p = some x
  | y :: l, x, s, hx, hp, h => by
    obtain ⟨s1, s2⟩ := List.pairwise_cons.mp s
    rcases List.mem_cons.mp hx with rfl | hx
    · rw [List.find?_cons_of_pos hp]
    · cases e : p y with
      | true =>
        have := h y List.mem_cons_self e
        rw [s1 x hx] at this
        cases this
      | false =>
        rw [List.find?_cons_of_neg (by rw [e]; decide)]
        exact find_least s2 hx hp fun z hz => h z (List.mem_cons_of_mem _ hz)
theorem RW.find {b : Book} (fb : FormB b) {L : List (Nat × List Nat)} {i k : Nat} (h : RW b L i k) (hi : L.length ≤ i) {x : Nat × List Nat} (hx : x ∈ L) {n : Nat} (hn : b.length ≤ n + 1) : (rowsM b 0 n).find? (fun r => decide (atM b 0 r = some x.1)) = some x.2 := by
  have hLb : L.length ≤ b.length := by
    have := nodup_le h.nd fun s hs => by
      obtain ⟨y, hy, rfl⟩ := List.mem_map.mp hs
      exact h.lt y hy
    simpa using this
  refine find_least (rows_srt fb 0 n) (at_rows (h.at_ x hx) ?_) (decide_eq_true (h.at_ x hx)) fun y hy hp => ?_
  · obtain ⟨j, hj⟩ := List.mem_iff_getElem?.mp hx
    have := h.len j x hj
    have := (List.getElem?_eq_some_iff.mp hj).1
    omega
  · obtain ⟨r', h1, h2⟩ := h.least fb hi _ y x.1 rfl (of_decide_eq_true hp)
    have := h.idx h1 hx rfl
    rw [← this]
    exact h2
theorem RW.all {b : Book} (fb : FormB b) (ok : OkB b) {L : List (Nat × List Nat)} {i k : Nat} (h : RW b L i k) (hi : L.length ≤ i) {s : Nat} (hs : s < b.length) : s ∈ L.map (·.1) := by
  have key : ∀ s, Rch b s → s ∈ L.map (·.1) := by
    intro s r
    induction r with
    | zero => exact List.mem_map.mpr ⟨_, List.mem_of_getElem? h.zero, rfl⟩
    | @step s p _ hp ih =>
      obtain ⟨x, hx, rfl⟩ := List.mem_map.mp ih
      obtain ⟨j, hj⟩ := List.mem_iff_getElem?.mp hx
      obtain ⟨k', hk'⟩ := List.mem_iff_getElem?.mp hp
      have jL := (List.getElem?_eq_some_iff.mp hj).1
      obtain ⟨r', h3, _⟩ := h.cl j x hj k' p hk' (.inl (by omega))
      exact List.mem_map.mpr ⟨_, h3, rfl⟩
  exact key s (ok.reach s hs)
end Nv
set_option linter.all false
namespace Nv
open PySem PySem.Spec PyProof.Rows L2
/-! ### what may be shown -/
theorem int_short {i : Int} (h1 : -1 ≤ i) (h2 : i < 8) : PyData.leavesShort 8 (.int i) = true := by
  have : i = -1 ∨ i = 0 ∨ i = 1 ∨ i = 2 ∨ i = 3 ∨ i = 4 ∨ i = 5 ∨ i = 6 ∨ i = 7 := by omega
  rcases this with rfl | rfl | rfl | rfl | rfl | rfl | rfl | rfl | rfl <;> decide +kernel
structure ShowOk (d : PyData) : Prop where
  a : d.showable = true
  b : d.hasDict = false
  c : d.depth ≤ 60
  d : d.shown.length ≤ sizeLine
end Nv
set_option Elab.async false
set_option linter.all false
set_option maxRecDepth 100000
namespace Nv
open PySem PySem.Spec PyProof.Rows L2
/-! ### repr of any data -/
/-- repr(x) of data; nothing is being shown around -/
def rReprA (K : PySem.W.Frag) : List V → Hp → VK → Prop := fun xs H Q => ∃ (v : V) (d : PyData), xs = [v] ∧ Dp K H v d ∧ ShowOk d ∧ Q (.str d.shown) H
theorem call_reprA {X : Cx} (hu : X.A.units + 64 < cLine) (hg : X.A.guards = some []) : CallR X (.builtin "repr") (rReprA X.K) := by
  intro pins s σ H xs us Q I r h
  obtain ⟨v, d, rfl, hd, sh, q⟩ := h
  cases hd with
  | non =>
    obtain ⟨u, rfl, rfl⟩ := vals1 r
    exact PySem.P.repr_of_none ⟨.str _, H, I.tok _, ⟨_, rfl⟩, q⟩
  | bl b =>
    obtain ⟨u, rfl, rfl⟩ := vals1 r
    exact PySem.P.repr_of_bool ⟨.str _, H, I.tok _, ⟨_, rfl⟩, q⟩
  | int i =>
    exact SkE.call_repr_int pins s σ H _ us Q I r ⟨i, rfl, of_decide_eq_true sh.a, q⟩
  | str x =>
    obtain ⟨u, rfl, rx⟩ := vals1 r
    obtain ⟨t, rfl⟩ := rx
    exact PySem.P.repr_of_str ⟨.str _, H, I.tok _, ⟨_, rfl⟩, q⟩ sh.d
  | lst h1 h2 => exact call_reprD hu hg pins s σ H _ us Q I r ⟨_, _, rfl, .lst h1 h2, sh.a, sh.b, sh.c, sh.d, q⟩
  | tup h1 h2 => exact call_reprD hu hg pins s σ H _ us Q I r ⟨_, _, rfl, .tup h1 h2, sh.a, sh.b, sh.c, sh.d, q⟩
theorem call_reprAK (K : PySem.W.Frag) {X : Cx} (hu : X.A.units + 64 < cLine) (hg : X.A.guards = some []) (eK : X.K = K := by rfl) : CallR X (.builtin "repr") (rReprA K) := by
  subst eK
  exact call_reprA hu hg
/-- what is shown of some data -/
theorem show_mk {d : PyData} {n : Nat} (a : d.showable = true) (b : d.hasDict = false) (c : d.depth ≤ 60) (e : PyData.leavesShort 8 d = true) (k : PyData.bulk d ≤ n) (hn : n ≤ 60) : ShowOk d where
  a := a
  b := b
  c := c
  d := by
    have k2 := PyData.shown_le_bulk 8 (Nat.le_refl _) d e
    refine Nat.le_of_lt (small1000 (Nat.le_trans k2 ?_))
    omega
theorem nat_short {n : Nat} (h : n < 8) : PyData.leavesShort 8 (.int (n : Int)) = true := int_short (by omega) (by omega)
abbrev iN (l : List Nat) : List Int := l.map fun n : Nat => (n : Int)
theorem map_nV_iN (l : List Nat) : l.map nV = (iN l).map V.int := by rw [List.map_map]; rfl
theorem str_ne (x : Str) : (!decide (V.str x = V.str x)) = false := by rw [decide_eq_true rfl]; rfl
theorem str_eq (x : Str) : decide (V.str x = V.str x) = true := decide_eq_true rfl
theorem str_small {e : Int} (h : -1 ≤ e ∧ e ≤ 8) : (Str.ofString (toString e)).length ≤ 8 := by
  have : e = -1 ∨ e = 0 ∨ e = 1 ∨ e = 2 ∨ e = 3 ∨ e = 4 ∨ e = 5 ∨ e = 6 ∨ e = 7 ∨ e = 8 := by omega
  rcases this with rfl | rfl | rfl | rfl | rfl | rfl | rfl | rfl | rfl | rfl <;> decide +kernel
theorem show_int {e : Int} (h : -1 ≤ e ∧ e ≤ 8) : ShowOk (.int e) ∧ (PyData.int e).shown.length ≤ 100 := by
  have sl := str_small h
  have hlog : e.natAbs.log2 < 1920 := Nat.lt_of_le_of_lt (Nat.log2_le_self _) (by omega)
  have e1 : (PyData.int e).shown.length = (Str.ofString (toString e)).length := rfl
  exact ⟨⟨decide_eq_true hlog, rfl, (by show (0 : Nat) ≤ 60; decide), by rw [e1]; exact Nat.le_of_lt (small1000 (by omega))⟩, by omega⟩
end Nv
set_option linter.all false
namespace Nv
open PySem PySem.Spec PyProof.Rows L2
/-! ### what may be shown, part by part -/
structure Sh (d : PyData) (k n : Nat) : Prop where
  a : d.showable = true
  b : d.hasDict = false
  c : d.depth ≤ k
  e : PyData.leavesShort 8 d = true
  f : PyData.bulk d ≤ n
structure ShL (ds : List PyData) (k n : Nat) : Prop where
  a : PyData.showableAll ds = true
  b : PyData.hasDictAll ds = false
  c : PyData.depthAll ds ≤ k
  e : PyData.leavesShortAll 8 ds = true
  f : PyData.bulkAll ds ≤ n
theorem ShL.nil {k n : Nat} : ShL [] k n := ⟨rfl, rfl, Nat.zero_le _, rfl, Nat.zero_le _⟩
theorem ShL.cons {d : PyData} {ds : List PyData} {k n m : Nat} (h : Sh d k n) (t : ShL ds k m) : ShL (d :: ds) k (n + 1 + m) where
  a := by simp only [PyData.showableAll, h.a, t.a, Bool.and_self]
  b := by simp only [PyData.hasDictAll, h.b, t.b, Bool.or_self]
  c := by
    have := h.c
    have := t.c
    simp only [PyData.depthAll]
    omega
  e := by simp only [PyData.leavesShortAll, h.e, t.e, Bool.and_self]
  f := by
    have := h.f
    have := t.f
    simp only [PyData.bulkAll]
    omega
theorem Sh.mono {d : PyData} {k n k' n' : Nat} (h : Sh d k n) (hk : k ≤ k') (hn : n ≤ n') : Sh d k' n' := ⟨h.a, h.b, Nat.le_trans h.c hk, h.e, Nat.le_trans h.f hn⟩
theorem ShL.mono {d : List PyData} {k n k' n' : Nat} (h : ShL d k n) (hk : k ≤ k') (hn : n ≤ n') : ShL d k' n' := ⟨h.a, h.b, Nat.le_trans h.c hk, h.e, Nat.le_trans h.f hn⟩
theorem Sh.tup {ds : List PyData} {k n : Nat} (h : ShL ds k n) : Sh (.tuple ds) (k + 1) n where
  a := by simp only [PyData.showable, h.a]
  b := by simp only [PyData.hasDict, h.b]
  c := by
    have := h.c
    simp only [PyData.depth]
    omega
  e := by simp only [PyData.leavesShort, h.e]
  f := by simp only [PyData.bulk]; exact h.f
theorem Sh.lst {ds : List PyData} {k n : Nat} (h : ShL ds k n) : Sh (.list ds) (k + 1) n where
  a := by simp only [PyData.showable, h.a]
  b := by simp only [PyData.hasDict, h.b]
  c := by
    have := h.c
    simp only [PyData.depth]
    omega
  e := by simp only [PyData.leavesShort, h.e]
  f := by simp only [PyData.bulk]; exact h.f
theorem nat_len2 : ∀ n : Fin 100, PyData.leavesShort 8 (.int ((n.val : Nat) : Int)) = true := by decide +kernel
theorem Sh.nat {n : Nat} (h : n ≤ 99) {k m : Nat} : Sh (.int (n : Int)) k m where
  a := by
    show decide ((n : Int).natAbs.log2 < 1920) = true
    exact decide_eq_true (Nat.lt_of_le_of_lt (Nat.log2_le_self _) (by omega))
  b := rfl
  c := Nat.zero_le _
  e := nat_len2 ⟨n, by omega⟩
  f := Nat.zero_le _
theorem Sh.neg1 {k m : Nat} : Sh (.int (-1)) k m := ⟨by decide +kernel, rfl, Nat.zero_le _, by decide +kernel, Nat.zero_le _⟩
theorem Sh.bl {b : Bool} {k m : Nat} : Sh (.bool b) k m := ⟨by cases b <;> rfl, rfl, Nat.zero_le _, by cases b <;> rfl, Nat.zero_le _⟩
theorem Sh.non {k m : Nat} : Sh .none k m := ⟨rfl, rfl, Nat.zero_le _, rfl, Nat.zero_le _⟩
theorem Sh.str {x : Str} (a : (PyData.str x).showable = true) (e : PyData.leavesShort 8 (.str x) = true) {k n : Nat} (f : x.cps.size ≤ n) : Sh (.str x) k n := ⟨a, rfl, Nat.zero_le _, e, f⟩
theorem ShL.map {α : Type} {f : α → PyData} {k n : Nat} : ∀ {l : List α}, (∀ x ∈ l, Sh (f x) k n) → ShL (l.map f) k (l.length * (n + 1))
  | [], _ => .nil
  | x :: r, h => by
    have h1 := ShL.cons (h x (List.mem_cons_self ..)) (ShL.map fun y hy => h y (List.mem_cons_of_mem _ hy))
    refine h1.mono (Nat.le_refl _) ?_
    rw [List.length_cons, Nat.add_mul]
    omega
theorem Sh.ok {d : PyData} {k n : Nat} (h : Sh d k n) (hk : k ≤ 60) (hn : n ≤ 1000000) : ShowOk d where
  a := h.a
  b := h.b
  c := Nat.le_trans h.c hk
  d := PyData.shown_fits_bulk (Nat.le_refl _) (by decide) h.e (Nat.le_trans h.f (Nat.le_trans hn (by decide)))
end Nv
set_option Elab.async false
set_option linter.all false
set_option maxRecDepth 100000
/-! tuples written out, known to have no dict of their own; tuples many times over -/
namespace Nv
open PySem PySem.Spec PyProof.Rows L2
def tTupZ (t : TA) : TE := fun σ H Q => t σ H fun xs H1 => xs.length ≤ sizeLine ∧ ∀ (p : Addr) (H' : Hp), H1 p = none → (∃ o : Obj, o.dict = none ∧ H' = upd H1 p (.frz o (.tup xs))) → Q (.ref p) H'
theorem pe_tupZ {X : Cx} {es : List Expr} {t : TA} {pos : Pos} {x1 : Nat} (h : PA X es t) : PE X (.Tuple es x1 pos) (tTupZ t) :=
  ⟨fun pins s σ H Q I hq => wpAny_Tuple_spliced (thn (h.run pos pins s σ H _ I hq) fun us s1 ⟨xs, H1, J, rel, small, go⟩ => ⟨by rw [← rel.length]; exact small, by
    have J2 : Inv X pins σ (upd H1 s1.heap.objs.size (.frz { cls := .type "tuple", data := .seq us.toArray } (.tup xs))) { s1 with heap := s1.heap.push { cls := .type "tuple", data := .seq us.toArray } } :=
      J.laid (t' := s1.toks) (fun _ _ e => Heap.get?_push_of_some _ e) (Nat.le_refl _) (show ObjOk X.prog X.w _ _ _ (.frz _ (.tup xs)) from ⟨Heap.get?_push_size _ rfl, small, us, rel, IsTup.new _ _⟩)
    exact ⟨.ref s1.heap.objs.size, _, J2, rfl, go _ _ (J.hok.fresh (Nat.le_refl _)) ⟨_, rfl, rfl⟩⟩⟩)⟩
/-- t * k, up to a hundred thousand members -/
def rRepTB (K : PySem.W.Frag) : R2 := fun x y H Q => ∃ (a : Addr) (k : Nat) (xs : List V), x = .ref a ∧ y = .int (k : Int) ∧ SqT K H a xs ∧ xs ≠ [] ∧ 2 ≤ k ∧ k * xs.length ≤ 100000 ∧ ∀ p, H p = none → Q (.ref p) (upd H p (.tup (List.replicate k xs).flatten))
theorem op_repTB {X : Cx} : OpR X (binaryOp .Mult) (rRepTB X.K) := by
  intro pins s σ H x y v u Q I rx ry h
  obtain ⟨a, k, xs, rfl, rfl, sq, some_, two, few, go⟩ := h
  cases rx
  obtain ⟨tok, rfl⟩ := ry
  obtain ⟨vals, rel, ⟨⟨cl, dic, dat, slo⟩, here, ecl, cap, edat⟩, _⟩ := I.tuple sq
  simp only at ecl edat
  subst ecl edat
  have el : vals.length = xs.length := rel.length.symm
  have pos : 0 < vals.length := by
    rw [el]
    exact List.length_pos_iff.mpr some_
  have few' : k * vals.length ≤ 100000 := by rw [el]; exact few
  have k5 : k ≤ 100000 := Nat.le_trans (Nat.le_mul_of_pos_right k pos) few'
  have notE : vals.toArray.isEmpty = false := by
    cases vals with
    | nil => cases pos
    | cons _ _ => rfl
  have prod : ((vals.toArray.size : Nat) : Int) * (k : Int) ≤ 100000 := by
    rw [List.size_toArray, Int.mul_comm]
    have z : ((k * vals.length : Nat) : Int) ≤ ((100000 : Nat) : Int) := Int.ofNat_le.mpr few'
    rw [Int.natCast_mul] at z
    exact z
  have fits : (List.replicate k vals).flatten.length ≤ sizeLine := by
    rw [PyProof.Rows.lm_len_rep_flat]
    exact Nat.le_trans few' (by decide)
  have b0 : (decide ((k : Int) < -(2 ^ 63)) || decide ((k : Int) ≥ 2 ^ 63)) = false := by
    rw [decide_eq_false (by omega), decide_eq_false (by omega)]
    rfl
  have b1 : (vals.toArray.isEmpty || (k : Int) == 1) = false := by
    rw [notE, Bool.false_or]
    exact beq_eq_false_iff_ne.mpr (by omega)
  have b2 : (decide ((k : Int) ≤ 0) || vals.toArray.isEmpty) = false := by
    rw [notE, Bool.or_false]
    exact decide_eq_false (by omega)
  have b4 : Builtin.Tuple.tupleTooMany (((vals.toArray.size : Nat) : Int) * (k : Int)) = false := by
    unfold Builtin.Tuple.tupleTooMany
    rw [sizeLine_eq]
    exact decide_eq_false (by omega)
  refine wpAny_binaryOp_repeat_ref (T := "tuple") (U := "int") (by decide) ⟨_, here, rfl⟩ (fun s' => typeIs_int s' (k : Int) tok) noFill_tuple_mul F.fills_int_mul F.slot_int_rmul repeat_tuple F.slot_int_index.lookup
    (call_meets F.slot_int_rmul (typeIs_int s (k : Int) tok) F.entry_int_rmul (F.args_int_rmul_2 _ _) (int_rmul_tuple (k : Int) tok a vals.toArray cap dic slo)
      ⟨here, rfl, ⟨_, here, rfl⟩, call_meets F.slot_tuple_mul ⟨_, here, rfl⟩ F.entry_tuple_mul (F.args_tuple_mul_2 _ _) (tuple_mulW a vals.toArray cap dic slo (k : Int) tok b0 b1 b2 (by omega) b4 (by rw [Int.toNat_natCast, size_rep, List.size_toArray]; exact fits)) ⟨here, ?_⟩⟩)
  rw [Int.toNat_natCast, size_rep]
  refine ⟨.ref s.heap.objs.size, _, I.laid (t' := s.toks) (o := .tup (List.replicate k xs).flatten) (fun _ _ e => Heap.get?_push_of_some _ e) (Nat.le_refl _) ?_, rfl, go _ (I.hok.fresh (Nat.le_refl _))⟩
  exact ⟨by rw [PyProof.Rows.lm_len_rep_flat]; exact Nat.le_trans few (by decide), _, rel.rep k, IsTup.new _ _⟩
theorem op_repTBK (K : PySem.W.Frag) {X : Cx} (h : X.K = K := by rfl) : OpR X (binaryOp .Mult) (rRepTB K) := by
  subst h
  exact op_repTB
end Nv
set_option Elab.async false
set_option linter.all false
set_option maxRecDepth 100000
namespace Nv
open PySem PySem.Spec PyProof.Rows L2
section
variable {P : Program} {w : World} {K : PySem.W.Frag} {mg : Str → Option Value} {base : Heap}
/-! ### the checks, of any data -/
def intLike : PyData → Bool
  | .int _ => true
  | .bool _ => true
  | _ => false
def isBoolD : PyData → Bool
  | .bool _ => true
  | _ => false
def isTupD : PyData → Bool
  | .tuple _ => true
  | _ => false
theorem kit_int (d : PyData) : kitB (tyD d) "int" = some (intLike d) := by
  cases d with
  | none => exact (by decide +kernel : kitB "NoneType" "int" = some false)
  | bool b => exact (by decide +kernel : kitB "bool" "int" = some true)
  | int i => exact (by decide +kernel : kitB "int" "int" = some true)
  | str x => exact (by decide +kernel : kitB "str" "int" = some false)
  | list l => exact (by decide +kernel : kitB "list" "int" = some false)
  | tuple l => exact (by decide +kernel : kitB "tuple" "int" = some false)
  | dict l => exact (by decide +kernel : kitB "dict" "int" = some false)
theorem kit_bool (d : PyData) : kitB (tyD d) "bool" = some (isBoolD d) := by
  cases d with
  | none => exact (by decide +kernel : kitB "NoneType" "bool" = some false)
  | bool b => exact (by decide +kernel : kitB "bool" "bool" = some true)
  | int i => exact (by decide +kernel : kitB "int" "bool" = some false)
  | str x => exact (by decide +kernel : kitB "str" "bool" = some false)
  | list l => exact (by decide +kernel : kitB "list" "bool" = some false)
  | tuple l => exact (by decide +kernel : kitB "tuple" "bool" = some false)
  | dict l => exact (by decide +kernel : kitB "dict" "bool" = some false)
theorem kit_tup (d : PyData) : kitB (tyD d) "tuple" = some (isTupD d) := by
  cases d with
  | none => exact (by decide +kernel : kitB "NoneType" "tuple" = some false)
  | bool b => exact (by decide +kernel : kitB "bool" "tuple" = some false)
  | int i => exact (by decide +kernel : kitB "int" "tuple" = some false)
  | str x => exact (by decide +kernel : kitB "str" "tuple" = some false)
  | list l => exact (by decide +kernel : kitB "list" "tuple" = some false)
  | tuple l => exact (by decide +kernel : kitB "tuple" "tuple" = some true)
  | dict l => exact (by decide +kernel : kitB "dict" "tuple" = some false)

def sp_wholeD (K : PySem.W.Frag) : Sp := fun vs H Q _ => ∃ (v : V) (d : PyData), vs = [v] ∧ Dp K H v d ∧ Q (.bl (wholeD d)) H
theorem okD_whole (T : Tx K mg) : FnOk P w K mg base CX0 1 T.whole.f T.whole.fd ["thing"] (sp_wholeD K) := by
  refine T.whole.F.ok sc_whole (fun vs H Q E h => ?_) (fun cdv A outer s H vs Q E hr h => ?_)
  · obtain ⟨v, d, rfl, _⟩ := h; rfl
  · obtain ⟨v, d, rfl, hd, q⟩ := h
    refine ⟨_, (pss_one (ps_ret (pe_and (pe_callB call_isi (by rfl) T.n_isinstance (by decide +kernel) (pa_cons (pv 0) (pa_cons (pe_bltn (v := .ty "int") (by rfl) T.n_int (by decide +kernel) rfl) pa_nil))) (pe_one (pe_not (pe_callB call_isi (by rfl) T.n_isinstance (by decide +kernel) (pa_cons (pv 0) (pa_cons (pe_bltn (v := .ty "bool") (by rfl) T.n_bool (by decide +kernel) rfl) pa_nil)))))))), ?_⟩
    have ty := Dp.ty hd
    refine ⟨_, rfl, _, _, _, _, _, rfl, .ty _, ty, kit_ty (kit_int d), _, rfl, ?_⟩
    cases hi : intLike d with
    | false =>
      refine iteF ?_
      have : wholeD d = false := by cases d <;> first | rfl | cases hi
      rw [this] at q
      exact q
    | true =>
      refine iteT ⟨_, rfl, _, _, _, _, _, rfl, .ty _, ty, kit_ty (kit_bool d), _, rfl, ?_⟩
      have : wholeD d = !isBoolD d := by cases d <;> first | rfl | cases hi
      rw [this] at q
      exact q

def sp_whole_withinD (K : PySem.W.Frag) : Sp := fun vs H Q _ => ∃ (v : V) (d : PyData) (a b : Int), vs = [v, .int a, .int b] ∧ Dp K H v d ∧ Q (.bl (inD d a b)) H
theorem okD_whole_within (T : Tx K mg) : FnOk P w K mg base CX0 2 T.whole_within.f T.whole_within.fd ["thing", "low", "high"] (sp_whole_withinD K) := by
  refine T.whole_within.F.ok sc_whole_within (fun vs H Q E h => ?_) (fun cdv A outer s H vs Q E hr h => ?_)
  · obtain ⟨v, d, a, b, rfl, _⟩ := h; rfl
  · obtain ⟨v, d, a, b, rfl, hd, q⟩ := h
    refine ⟨_, (pss_one (ps_ret (pe_and (pe_call (okD_whole T) (hr.mono (by decide)) (by rfl) T.whole.g T.whole.F.kp T.whole.b .nil pass0 (pa_cons (pv 0) pa_nil)) (pe_one (pe_chain op_le op_le (pv 1) (pv 0) (pv 2)))))), ?_⟩
    refine ⟨_, rfl, v, d, rfl, hd, _, rfl, ?_⟩
    cases hd with
    | int i =>
      refine iteT ⟨_, rfl, _, rfl, _, _, rfl, rfl, _, rfl, ?_⟩
      have q : Q (.bl (decide (a ≤ i ∧ i ≤ b))) H := q
      by_cases h1 : a ≤ i
      · rw [decide_eq_true h1]
        refine iteT ⟨_, rfl, _, _, rfl, rfl, ?_⟩
        have e : decide (a ≤ i ∧ i ≤ b) = decide (i ≤ b) := by simp [h1]
        rw [e] at q
        exact q
      · rw [decide_eq_false h1]
        have e : decide (a ≤ i ∧ i ≤ b) = false := by simp [h1]
        rw [e] at q
        exact iteF q
    | non => exact iteF q
    | bl b => exact iteF q
    | str x => exact iteF q
    | lst h1 h2 => exact iteF q
    | tup h1 h2 => exact iteF q

def sp_tuple_withinD (K : PySem.W.Frag) : Sp := fun vs H Q _ => ∃ (v : V) (d : PyData) (a b : Int), vs = [v, .int a, .int b] ∧ Dp K H v d ∧ Q (.bl (tupD d a b)) H
theorem okD_tuple_within (T : Tx K mg) : FnOk P w K mg base CX0 1 T.tuple_within.f T.tuple_within.fd ["thing", "low", "high"] (sp_tuple_withinD K) := by
  refine T.tuple_within.F.ok sc_tuple_within (fun vs H Q E h => ?_) (fun cdv A outer s H vs Q E hr h => ?_)
  · obtain ⟨v, d, a, b, rfl, _⟩ := h; rfl
  · obtain ⟨v, d, a, b, rfl, hd, q⟩ := h
    refine ⟨_, (pss_one (ps_ret (pe_and (pe_callB call_isi (by rfl) T.n_isinstance (by decide +kernel) (pa_cons (pv 0) (pa_cons (pe_bltn (v := .ty "tuple") (by rfl) T.n_tuple (by decide +kernel) rfl) pa_nil))) (pe_one (pe_chain op_le op_le (pv 1) (pe_callB call_len_seq (by rfl) T.n_len PySem.boot_len (pa_cons (pv 0) pa_nil)) (pv 2)))))), ?_⟩
    have ty := Dp.ty hd
    refine ⟨_, rfl, _, _, _, _, _, rfl, .ty _, ty, kit_ty (kit_tup d), _, rfl, ?_⟩
    cases hd with
    | @tup t xs ds ht hds =>
      have len := dpAll_len hds
      refine iteT ⟨_, rfl, _, rfl, t, xs, rfl, .inr ht, _, _, rfl, rfl, _, rfl, ?_⟩
      have q : Q (.bl (decide (a ≤ (ds.length : Int) ∧ (ds.length : Int) ≤ b))) H := q
      rw [← len] at q
      by_cases h1 : a ≤ (xs.length : Int)
      · rw [decide_eq_true h1]
        refine iteT ⟨_, rfl, _, _, rfl, rfl, ?_⟩
        have e : decide (a ≤ (xs.length : Int) ∧ (xs.length : Int) ≤ b) = decide ((xs.length : Int) ≤ b) := by simp [h1]
        rw [e] at q
        exact q
      · rw [decide_eq_false h1]
        have e : decide (a ≤ (xs.length : Int) ∧ (xs.length : Int) ≤ b) = false := by simp [h1]
        rw [e] at q
        exact iteF q
    | non => exact iteF q
    | bl b => exact iteF q
    | str x => exact iteF q
    | int i => exact iteF q
    | lst h1 h2 => exact iteF q
end
end Nv
set_option Elab.async false
set_option linter.all false
set_option maxRecDepth 100000
namespace Nv
open PySem PySem.Spec PyProof.Rows L2
section
variable {P : Program} {w : World} {K : PySem.W.Frag} {mg : Str → Option Value} {base : Heap}
/-! ### the book's form, of any data -/
def intD : PyData → Option Int
  | .int i => some i
  | _ => none
theorem pairD_two {last n : Int} {x y : PyData} : pairD last n (.tuple [x, y]) = if inD x (last + 1) 99 = true ∧ inD y 0 (n - 1) = true then intD x else none := by
  cases x with
  | int m =>
    cases y with
    | int t =>
      simp only [pairD, inD, intD, decide_eq_true_eq]
      by_cases h : last + 1 ≤ m ∧ m ≤ 99 ∧ 0 ≤ t ∧ t ≤ n - 1
      · rw [if_pos h, if_pos ⟨⟨h.1, h.2.1⟩, h.2.2.1, h.2.2.2⟩]
      · rw [if_neg h, if_neg fun z => h ⟨z.1.1, z.1.2, z.2.1, z.2.2⟩]
    | _ => simp [pairD, inD]
  | _ => simp [pairD, inD]
theorem pairD_not {last n : Int} {d : PyData} (h : tupD d 2 2 = false) : pairD last n d = none := by
  cases d with
  | tuple ds =>
    match ds, h with
    | [], _ => rfl
    | [x], _ => cases x <;> rfl
    | [x, y], h => exact absurd h (by show ¬ decide ((2 : Int) ≤ 2 ∧ (2 : Int) ≤ 2) = false; decide)
    | x :: y :: z :: r, _ => cases x <;> cases y <;> rfl
  | _ => rfl
theorem tupD_true {d : PyData} {a b : Int} (h : tupD d a b = true) : ∃ ds, d = .tuple ds ∧ a ≤ (ds.length : Int) ∧ (ds.length : Int) ≤ b := by
  cases d with
  | tuple ds => exact ⟨ds, rfl, of_decide_eq_true h⟩
  | _ => cases h
theorem pairs_drop {last n : Int} {ds : List PyData} {k : Nat} {d : PyData} (h : ds[k]? = some d) : pairsD last n (ds.drop k) = match pairD last n d with | some m => pairsD m n (ds.drop (k + 1)) | none => false := by
  obtain ⟨hk, e⟩ := List.getElem?_eq_some_iff.mp h
  rw [List.drop_eq_getElem_cons hk, e]
  rfl

def sp_has_state_formD (K : PySem.W.Frag) : Sp := fun vs H Q _ => ∃ (v : V) (d : PyData) (n : Int), vs = [v, .int n] ∧ Dp K H v d ∧ Q (.bl (stateD n d)) H
theorem okD_has_state_form (T : Tx K mg) : FnOk P w K mg base CX0 3 T.has_state_form.f T.has_state_form.fd ["thing", "many"] (sp_has_state_formD K) := by
  refine T.has_state_form.F.ok sc_has_state_form (fun vs H Q E h => ?_) (fun cdv A outer s H vs Q E hr h => ?_)
  · obtain ⟨v, d, n, rfl, _⟩ := h; rfl
  · obtain ⟨v, d, n, rfl, hd, q⟩ := h
    refine ⟨_, (pss_cons (ps_if (pt_not (pt_val (pe_call (okD_tuple_within T) (hr.mono (by decide)) (by rfl) T.tuple_within.g T.tuple_within.F.kp T.tuple_within.b .nil pass0 (pa_cons (pv 0) (pa_cons pe_int (pa_cons (pe_glob (v := .int 5) (by rfl) T.c_MOST_MESSAGES.choose_spec ⟨_, rfl⟩) pa_nil))))))
        (pss_one (ps_ret pe_bl))
        pss_nil)
      (pss_cons (ps_set (i := 2) sc_has_state_form.nd rfl (.inl rfl) (pe_un un_neg pe_int))
      (pss_cons (ps_for PassesOwn.never rfl (pi_tup (pv 0)) (pg_name (i := 3) sc_has_state_form.nd rfl (.inl rfl))
        (pss_cons (ps_if (pt_not (pt_val (pe_call (okD_tuple_within T) (hr.mono (by decide)) (by rfl) T.tuple_within.g T.tuple_within.F.kp T.tuple_within.b .nil pass0 (pa_cons (pv 3) (pa_cons pe_int (pa_cons pe_int pa_nil))))))
          (pss_one (ps_ret pe_bl))
          pss_nil)
        (pss_cons (ps_asg (pv 3) (pg_tup rfl (pgs_cons (pg_name (i := 4) sc_has_state_form.nd rfl (.inl rfl)) (pgs_cons (pg_name (i := 5) sc_has_state_form.nd rfl (.inl rfl)) pgs_nil))))
        (pss_cons (ps_if (PW.pt (pw_or (pt_not (pt_val (pe_call (okD_whole_within T) (hr.mono (by decide)) (by rfl) T.whole_within.g T.whole_within.F.kp T.whole_within.b .nil pass0 (pa_cons (pv 4) (pa_cons (pe_op op_add (pv 2) pe_int) (pa_cons (pe_glob (v := .int 99) (by rfl) T.c_GREATEST_MESSAGE.choose_spec ⟨_, rfl⟩) pa_nil)))))) (pw_or1 (pt_not (pt_val (pe_call (okD_whole_within T) (hr.mono (by decide)) (by rfl) T.whole_within.g T.whole_within.F.kp T.whole_within.b .nil pass0 (pa_cons (pv 5) (pa_cons pe_int (pa_cons (pe_op op_sub (pv 1) pe_int) pa_nil)))))))))
          (pss_one (ps_ret pe_bl))
          pss_nil)
        (pss_one (ps_set (i := 2) sc_has_state_form.nd rfl (.inl rfl) (pv 4)))))))
      (pss_one (ps_ret pe_bl))))), ?_⟩
    refine ⟨_, rfl, v, d, 0, 5, rfl, hd, _, rfl, ?_⟩
    cases ht : tupD d 0 5 with
    | false =>
      have e : stateD n d = false := by
        cases d with
        | tuple ds =>
          have ht : decide ((0 : Int) ≤ (ds.length : Int) ∧ (ds.length : Int) ≤ 5) = false := ht
          have h5 : ¬ ds.length ≤ 5 := fun z => by
            have := of_decide_eq_false ht
            omega
          show (decide (ds.length ≤ 5) && pairsD (-1) n ds) = false
          rw [decide_eq_false h5]
          rfl
        | _ => rfl
      rw [e] at q
      exact iteT q
    | true =>
      obtain ⟨ds, rfl, _, h5⟩ := tupD_true ht
      cases hd with
      | @tup t xs _ hT hds =>
        have len := dpAll_len hds
        have e : stateD n (.tuple ds) = pairsD (-1) n ds := by
          show (decide (ds.length ≤ 5) && pairsD (-1) n ds) = _
          rw [decide_eq_true (by omega)]
          rfl
        rw [e] at q
        refine iteF ⟨1, rfl, ?_⟩
        refine ⟨_, rfl, t, rfl, ⟨_, hT⟩, for_tup (K := K) (a := t) (xs := xs) (fun k σ H' => H' = H ∧ ∃ (z : Int) (y3 y4 y5 : Option V), σ = [some (.ref t), some (.int n), some (.int z), y3, y4, y5] ∧ pairsD (-1) n ds = pairsD z n (ds.drop k))
          ⟨rfl, -1, _, _, _, rfl, rfl⟩ (fun k σ H' _ ⟨e, _⟩ => by rw [e]; exact hT) ?_ ?_⟩
        · rintro k v σ H' hv ⟨rfl, z, y3, y4, y5, rfl, hz⟩
          obtain ⟨dk, hdk, hDp⟩ := dpAll_get' hds hv
          rw [hz, pairs_drop hdk] at q
          refine ⟨_, rfl, v, dk, 2, 2, rfl, hDp, _, rfl, ?_⟩
          cases h2 : tupD dk 2 2 with
          | false =>
            rw [pairD_not h2] at q
            exact iteT q
          | true =>
            obtain ⟨l2, rfl, l2a, l2b⟩ := tupD_true h2
            match l2, l2a, l2b with
            | [x, y], _, _ =>
              cases hDp with
              | @tup c ys _ hc hys =>
                cases hys with
                | @cons vx _ _ _ hx r =>
                  cases r with
                  | @cons vy _ _ _ hy r2 =>
                    cases r2
                    refine iteF ⟨_, rfl, c, _, rfl, hc, rfl, _, _, rfl, _, _, rfl, rfl, ?_⟩
                    rw [pairD_two] at q
                    refine ⟨_, rfl, _, rfl, _, _, rfl, rfl, vx, x, _, _, rfl, hx, _, rfl, ?_⟩
                    cases hix : inD x (z + 1) 99 with
                    | false =>
                      rw [hix, if_neg (fun w => by cases w.1)] at q
                      exact iteT q
                    | true =>
                      refine iteF ⟨_, rfl, _, rfl, _, _, rfl, rfl, vy, y, _, _, rfl, hy, _, rfl, ?_⟩
                      cases hiy : inD y 0 (n - 1) with
                      | false =>
                        rw [hix, hiy, if_neg (fun w => by cases w.2)] at q
                        exact iteT q
                      | true =>
                        rw [hix, hiy, if_pos ⟨rfl, rfl⟩] at q
                        cases hx with
                        | int m => 
                          refine iteF ⟨_, rfl, rfl, m, _, _, _, rfl, ?_⟩
                          rw [hz, pairs_drop hdk, pairD_two, hix, hiy, if_pos ⟨rfl, rfl⟩]
                          rfl
                        | non => cases hix
                        | bl b => cases hix
                        | str b => cases hix
                        | lst _ _ => cases hix
                        | tup _ _ => cases hix
        · rintro σ H' ⟨rfl, z, y3, y4, y5, rfl, hz⟩
          rw [hz, len, List.drop_length] at q
          exact q
end
end Nv
set_option Elab.async false
set_option linter.all false
set_option maxRecDepth 100000
namespace Nv
open PySem PySem.Spec PyProof.Rows L2
section
variable {P : Program} {w : World} {K : PySem.W.Frag} {mg : Str → Option Value} {base : Heap}
/-! ### what is raised -/
theorem sc_init : FnScope ["self", "what"] ["self", "what"] (defScope s_init) := ⟨rfl, rfl, rfl, by decide +kernel, rfl, by decide +kernel, by decide +kernel⟩
theorem ok_init (T : Tx K mg) : FnOk P w K mg base CX0 1 T.init.f T.init.fd ["self", "what"] (sp_init K) := by
  refine T.init.F.ok sc_init (fun vs H Q E h => ?_) (fun cdv A outer s H vs Q E hr h => ?_)
  · obtain ⟨a, C, y, nm, rfl, _⟩ := h; rfl
  · obtain ⟨a, C, y, nm, rfl, ha, o, no, nn, q⟩ := h
    refine ⟨_, (pss_cons (ps_ost (pv 0) (pv 1))
      (pss_one (ps_ost (pv 0) (pe_kind (pv 0))))), ?_⟩
    refine ⟨_, rfl, _, rfl, a, C, rfl, o, no, .inl ⟨ha, fun dx nd ne => ?_⟩⟩
    refine ⟨_, rfl, a, C, dx, _, nm, rfl, upd_same, by rw [upd_ne ne, upd_same], nn, _, rfl, a, C, rfl, o, nn.nk, .inr ⟨dx, _, upd_same, by rw [upd_ne ne, upd_same], by show 1 ≤ 900; decide, ?_⟩⟩
    have e : upd (upd (upd H dx (exd dx [("what", y)])) a (exo a C (some dx))) dx (exd dx [("kind", .str nm), ("what", y)]) = upd (upd H dx (exd dx [("kind", .str nm), ("what", y)])) a (exo a C (some dx)) := by
      funext b
      by_cases h1 : b = dx
      · rw [h1, upd_same, upd_ne ne, upd_same]
      · rw [upd_ne h1]
        by_cases h2 : b = a
        · rw [h2, upd_same, upd_same]
        · rw [upd_ne h2, upd_ne h2, upd_ne h1, upd_ne h1]
    rw [e]
    exact q dx nd ne

def sp_check_formX (K : PySem.W.Frag) (C : Addr) : Sp := fun vs H Q E => ∃ (v : V) (d : PyData), vs = [v] ∧ Dp K H v d ∧ (formErr d = none → Q .non H) ∧ ∀ e, formErr d = some e → ∀ dx, H dx = none → E (.ref C) (some dx) (upd H dx (xdW "BadBook" (.int e)))
theorem okX_check_form (T : Tx K mg) : FnOk P w K mg base (L2.CX P w) 4 T.check_form.f T.check_form.fd ["thing"] (sp_check_formX K T.x_BadBook.C) := by
  refine T.check_form.F.okX sc_check_form (fun vs H Q E h => ?_) (fun cdv A outer s H vs Q E hr h => ?_)
  · obtain ⟨v, d, rfl, _⟩ := h; rfl
  · obtain ⟨v, d, rfl, hd, q, qe⟩ := h
    refine ⟨_, (pss_cons (ps_if (pt_not (pt_val (pe_call (okD_tuple_within T) (hr.mono (by decide)) (by rfl) T.tuple_within.g T.tuple_within.F.kp T.tuple_within.b .nil pass0 (pa_cons (pv 0) (pa_cons pe_int (pa_cons (pe_glob (v := .int 8) (by rfl) T.c_MOST_STATES.choose_spec ⟨_, rfl⟩) pa_nil))))))
        (pss_one (ps_raise rfl (takes_of rfl rfl rfl rfl) (pmk_X T.x_BadBook T.init.ti (ok_init T) (hr.mono (by decide)) T.init.b (by rfl) (pe_un un_neg pe_int))))
        pss_nil)
      (pss_one (ps_for (passes_of rfl) rfl (pi_range1 (by rfl) T.n_range (pa_cons (pe_callB call_len_seq (by rfl) T.n_len PySem.boot_len (pa_cons (pv 0) pa_nil)) pa_nil)) (pg_name (i := 1) sc_check_form.nd rfl (.inl rfl))
        (pss_one (ps_if (pt_not (pt_val (pe_call (okD_has_state_form T) (hr.mono (by decide)) (by rfl) T.has_state_form.g T.has_state_form.F.kp T.has_state_form.b .nil pass0 (pa_cons (pe_ix ix_tup (pv 0) (pv 1) (fun _ _ => rfl)) (pa_cons (pe_callB call_len_seq (by rfl) T.n_len PySem.boot_len (pa_cons (pv 0) pa_nil)) pa_nil)))))
          (pss_one (ps_raise rfl (takes_of rfl rfl rfl rfl) (pmk_X T.x_BadBook T.init.ti (ok_init T) (hr.mono (by decide)) T.init.b (by rfl) (pv 1))))
          pss_nil))))), ?_⟩
    refine ⟨_, rfl, v, d, 1, 8, rfl, hd, _, rfl, ?_⟩
    cases ht : tupD d 1 8 with
    | false =>
      have e : formErr d = some (-1) := by
        cases d with
        | tuple ds =>
          have ht : decide ((1 : Int) ≤ (ds.length : Int) ∧ (ds.length : Int) ≤ 8) = false := ht
          show (if 1 ≤ ds.length ∧ ds.length ≤ 8 then firstBad ds.length ds 0 else some (-1)) = some (-1)
          rw [if_neg]
          intro z
          have := of_decide_eq_false ht
          omega
        | _ => rfl
      exact iteT ⟨1, rfl, fun dx nd => qe _ e dx nd⟩
    | true =>
      obtain ⟨ds, rfl, l1, l8⟩ := tupD_true ht
      cases hd with
      | @tup t xs _ hT hds =>
        have len := dpAll_len hds
        have e : formErr (.tuple ds) = firstBad ds.length ds 0 := by
          show (if 1 ≤ ds.length ∧ ds.length ≤ 8 then firstBad ds.length ds 0 else some (-1)) = _
          rw [if_pos ⟨by omega, by omega⟩]
        rw [e] at q qe
        refine iteF ⟨_, rfl, t, _, rfl, .inr hT, _, rfl, by omega, by omega, for_range (lo := 0) (n := _) (fun k σ H' => H' = H ∧ ∃ y : Option V, σ = [some (.ref t), y] ∧ firstBad ds.length ds 0 = firstBad ds.length (ds.drop k) k) ⟨rfl, _, rfl, rfl⟩ ?_ ?_⟩
        · rintro k σ H' hk ⟨rfl, y, rfl, hb⟩
          have hk : k < ds.length := by
            have : ((xs.length : Int)).toNat = xs.length := Int.toNat_natCast _
            omega
          simp only [Int.zero_add]
          obtain ⟨vk, hvk, hDk⟩ := dpAll_get hds (List.getElem?_eq_getElem hk)
          have step : firstBad ds.length (ds.drop k) k = if stateD ds.length ds[k] = true then firstBad ds.length (ds.drop (k + 1)) (k + 1) else some (k : Int) := by
            rw [List.drop_eq_getElem_cons hk]
            rfl
          refine ⟨_, rfl, _, rfl, t, _, _, _, rfl, rfl, hT, atI_nat hvk, _, rfl, t, _, rfl, .inr hT, vk, ds[k], _, rfl, hDk, _, rfl, ?_⟩
          rw [len]
          cases hs : stateD ds.length ds[k] with
          | true =>
            rw [hs, if_pos rfl] at step
            exact iteF ⟨rfl, _, rfl, hb.trans step⟩
          | false =>
            rw [hs, if_neg (by simp)] at step
            exact iteT ⟨_, rfl, fun dx nd => qe _ (hb.trans step) dx nd⟩
        · rintro σ H' ⟨rfl, y, rfl, hb⟩
          have : ((xs.length : Int)).toNat = ds.length := by omega
          rw [this, List.drop_length] at hb
          exact q hb
end
end Nv
set_option Elab.async false
set_option linter.all false
set_option maxRecDepth 100000
namespace Nv
open PySem PySem.Spec PyProof.Rows L2
section
variable {P : Program} {w : World} {K : PySem.W.Frag} {mg : Str → Option Value} {base : Heap}
/-! ### books as data -/
def stD (s : State) : PyData := .tuple (s.map mvD)
def bookD (b : Book) : PyData := .tuple (b.map stD)
theorem pairs_st {n : Nat} : ∀ (s : State) (last : Int), (s.map (·.1)).Pairwise (· < ·) → (∀ p ∈ s, last < (p.1 : Int)) → (∀ p ∈ s, p.1 ≤ 99) → (∀ p ∈ s, p.2 < n) → pairsD last n (s.map mvD) = true
  | [], _, _, _, _, _ => rfl
  | p :: r, last, h1, h2, h3, h4 => by
    rw [List.map_cons, List.pairwise_cons] at h1
    have a := h2 p (by simp)
    have b := h3 p (by simp)
    have c := h4 p (by simp)
    have e : pairD last n (mvD p) = some (p.1 : Int) := by
      show (if last + 1 ≤ (p.1 : Int) ∧ (p.1 : Int) ≤ 99 ∧ (0 : Int) ≤ p.2 ∧ (p.2 : Int) ≤ n - 1 then some (p.1 : Int) else none) = _
      rw [if_pos ⟨by omega, by omega, by omega, by omega⟩]
    rw [List.map_cons, pairs_cons, e]
    refine pairs_st r (p.1 : Int) h1.2 (fun q hq => ?_) (fun q hq => h3 q (List.mem_cons_of_mem _ hq)) (fun q hq => h4 q (List.mem_cons_of_mem _ hq))
    have := h1.1 q.1 (List.mem_map.mpr ⟨q, hq, rfl⟩)
    omega
theorem state_ok {n : Nat} {s : State} (h : StOk n s) : stateD n (stD s) = true := by
  show (decide ((s.map mvD).length ≤ 5) && pairsD (-1) n (s.map mvD)) = true
  rw [pairs_st s (-1) h.rise (fun p _ => by omega) h.msg h.to, List.length_map, decide_eq_true h.few]
  rfl
theorem first_ok {n : Nat} : ∀ (l : List PyData) (i : Nat), (∀ d ∈ l, stateD n d = true) → firstBad n l i = none
  | [], _, _ => rfl
  | d :: r, i, h => by
    show (if stateD n d = true then firstBad n r (i + 1) else some (i : Int)) = none
    rw [if_pos (h d (by simp)), first_ok r (i + 1) fun e he => h e (List.mem_cons_of_mem _ he)]
theorem form_none {b : Book} (fb : FormB b) : formErr (bookD b) = none := by
  show (if 1 ≤ (b.map stD).length ∧ (b.map stD).length ≤ 8 then firstBad (b.map stD).length (b.map stD) 0 else some (-1)) = none
  rw [List.length_map, if_pos ⟨fb.one, fb.eight⟩]
  refine first_ok _ _ fun d hd => ?_
  obtain ⟨s, hs, rfl⟩ := List.mem_map.mp hd
  exact state_ok (fb.st s hs)
theorem first_at {n : Nat} : ∀ (l : List PyData) (i k : Nat) (d : PyData), l[k]? = some d → stateD n d = false → (∀ j e, j < k → l[j]? = some e → stateD n e = true) → firstBad n l i = some ((i + k : Nat) : Int)
  | [], _, _, _, h, _, _ => by simp at h
  | d :: r, i, 0, e, h, hb, _ => by
    cases h
    show (if stateD n d = true then firstBad n r (i + 1) else some (i : Int)) = _
    rw [if_neg (by rw [hb]; simp)]
    rfl
  | d :: r, i, k + 1, e, h, hb, hok => by
    show (if stateD n d = true then firstBad n r (i + 1) else some (i : Int)) = _
    rw [if_pos (hok 0 d (Nat.zero_lt_succ _) rfl), first_at r (i + 1) k e (by simpa using h) hb fun j f hj hf => hok (j + 1) f (by omega) (by simpa using hf)]
    congr 2
    omega
theorem mv_of {K : PySem.W.Frag} {H : Hp} : ∀ {s : State} {vs : List V}, DpAll K H vs (s.map mvD) → ∃ ps : List Addr, vs = ps.map V.ref ∧ Paired (MvV K H) ps s
  | [], _, .nil => ⟨[], rfl, .nil⟩
  | p :: r, _, .cons h t => by
    obtain ⟨ps, e, hp⟩ := mv_of t
    cases h with
    | tup hc hds =>
      cases hds with
      | cons h1 r1 =>
        cases r1 with
        | cons h2 r2 =>
          cases r2
          cases h1
          cases h2
          exact ⟨_ :: ps, by rw [e]; rfl, .cons hc hp⟩
theorem bk_of {K : PySem.W.Frag} {H : Hp} : ∀ {b : Book} {vs : List V}, DpAll K H vs (b.map stD) → Paired (StW K H) vs b
  | [], _, .nil => .nil
  | s :: r, _, .cons h t => by
    cases h with
    | tup hc hds =>
      obtain ⟨ps, rfl, hp⟩ := mv_of hds
      exact .cons ⟨_, ps, rfl, hc, hp⟩ (bk_of t)
theorem BkW.of {K : PySem.W.Frag} {H : Hp} {v : V} {b : Book} (h : Dp K H v (bookD b)) : BkW K H v b := by
  cases h with
  | tup hc hds => exact ⟨_, _, rfl, hc, bk_of hds⟩
/-! ### what made_book raises -/
/-- the first state to which no row comes -/
def StrayAt (b : Book) (s : Nat) : Prop := s < b.length ∧ ¬ Rch b s ∧ ∀ t, t < s → Rch b t
theorem Met.rch {b : Book} {F : List Nat} (m : Met b F) : ∀ (n j s : Nat), j ≤ n → F[j]? = some s → Rch b s := by
  intro n
  induction n with
  | zero =>
    intro j s hj e
    have : j = 0 := by omega
    subst this
    rw [m.zero] at e
    cases e
    exact .zero
  | succ n ih =>
    intro j s hj e
    by_cases h0 : j = 0
    · subst h0
      rw [m.zero] at e
      cases e
      exact .zero
    · obtain ⟨i, s', hi, hs', p, hp, rfl⟩ := m.from_ j s e h0
      exact .step (ih i s' (by omega) hs') hp
theorem Met.iff {b : Book} {F : List Nat} (m : Met b F) (s : Nat) : s ∈ F ↔ Rch b s := by
  constructor
  · intro h
    obtain ⟨j, hj, e⟩ := List.mem_iff_getElem.mp h
    exact m.rch j j s (Nat.le_refl _) (by rw [List.getElem?_eq_getElem hj, e])
  · exact m.all
/-- refused: a wrong form, or a stray -/
inductive Ref (CB CS : Addr) (d : PyData) : Addr → Int → Prop
  | form {e : Int} : formErr d = some e → Ref CB CS d CB e
  | stray {b : Book} {s : Nat} : d = bookD b → FormB b → StrayAt b s → Ref CB CS d CS s
/-- the way out of a refusal -/
def Outs (H : Hp) (E : XK) (C : Addr) (e : Int) : Prop := ∀ dx H', H dx = none → XdAt H' dx (.int e) → Ext [] H H' → E (.ref C) (some dx) H'
def sp_refused (K : PySem.W.Frag) (CB CS : Addr) : Sp := fun vs H _ E => ∃ (v : V) (d : PyData) (C : Addr) (e : Int), vs = [v] ∧ Dp K H v d ∧ Ref CB CS d C e ∧ Outs H E C e

theorem okX_made_book (T : Tx K mg) : FnOk P w K mg base (L2.CX P w) 5 T.made_book.f T.made_book.fd ["thing"] (sp_refused K T.x_BadBook.C T.x_Stray.C) := by
  refine T.made_book.F.okX sc_made_book (fun vs H Q E h => ?_) (fun cdv A outer s H vs Q E hr h => ?_)
  · obtain ⟨v, d, C, e, rfl, _⟩ := h; rfl
  · obtain ⟨v, d, C, e, rfl, hd, href, q⟩ := h
    refine ⟨_, (pss_cons (ps_expr (pe_call (okX_check_form T) (hr.mono (by decide)) (by rfl) T.check_form.g T.check_form.F.kp T.check_form.b .nil (passes_call (takes_of rfl rfl rfl rfl) (fun _ _ _ _ h => h)) (pa_cons (pv 0) pa_nil)))
      (pss_cons (ps_set (i := 1) sc_made_book.nd rfl (.inl rfl) (pe_call (ok_first_rows T) (hr.mono (by decide)) (by rfl) T.first_rows.g T.first_rows.F.kp T.first_rows.bD.choose_spec.2 T.first_rows.bD.choose_spec.1 pass0 (pa_cons (pv 0) pa_nil)))
      (pss_cons (ps_for (passes_of rfl) rfl (pi_range1 (by rfl) T.n_range (pa_cons (pe_callB call_len_seq (by rfl) T.n_len PySem.boot_len (pa_cons (pv 0) pa_nil)) pa_nil)) (pg_name (i := 2) sc_made_book.nd rfl (.inl rfl))
        (pss_one (ps_if (pt_cmp (pc_dnotin (hu_of hr) (pv 2) (pv 1)))
          (pss_one (ps_raise rfl (takes_of rfl rfl rfl rfl) (pmk_X T.x_Stray T.init.ti (ok_init T) (hr.mono (by decide)) T.init.b (by rfl) (pv 2))))
          pss_nil)))
      (PSs.nox (pss_one (ps_ret (pv 0))))))), ?_⟩
    refine ⟨_, rfl, v, d, rfl, hd, ?_⟩
    cases href with
    | form he => exact ⟨fun h => (by rw [he] at h; cases h), fun e2 he2 dx nd => (by rw [he] at he2; cases he2; exact q dx _ nd ⟨_, upd_same⟩ (.new nd))⟩
    | @stray b st eb fb hst =>
      subst eb
      have fn := form_none fb
      refine ⟨fun _ => ?_, fun e2 he2 => (by rw [fn] at he2; cases he2)⟩
      have hw := BkW.of hd
      refine ⟨_, rfl, v, b, rfl, hw, fb, fun F kvs dd H' mt hk hdd e => ?_⟩
      obtain ⟨a, ls, rfl, ha, hls⟩ := hw
      have llen := Paired.len hls
      have h8 := fb.eight
      obtain ⟨s1, s2, s3⟩ := hst
      refine ⟨_, rfl, a, _, rfl, .inr (e.tup Lsts.nil ha), _, rfl, by omega, by omega, for_range (lo := 0) (n := _) (fun k σ H2 => H2 = H' ∧ k ≤ st ∧ ∃ y : Option V, σ = [some (.ref a), some (.ref dd), y]) ⟨rfl, Nat.zero_le _, _, rfl⟩ ?_ ?_⟩
      · rintro k σ H2 hk' ⟨rfl, hle, y, rfl⟩
        simp only [Int.zero_add]
        refine ⟨_, rfl, _, rfl, dd, _, rfl, DGet.k (k := kN k) hdd, _, rfl, ?_⟩
        rw [valV_key hk]
        by_cases hks : k = st
        · subst hks
          rw [decide_eq_false (fun z => s2 ((mt.iff _).mp z))]
          refine iteT ⟨_, rfl, fun dx nd => q dx _ (e.free nd) ⟨_, upd_same⟩ (e.put2 nd)⟩
        · rw [decide_eq_true ((mt.iff _).mpr (s3 k (by omega)))]
          exact iteF ⟨rfl, by omega, _, rfl⟩
      · rintro σ H2 ⟨rfl, hle, y, rfl⟩
        exfalso
        have : ((ls.length : Int)).toNat = ls.length := Int.toNat_natCast _
        omega
end
end Nv
set_option Elab.async false
set_option linter.all false
set_option maxRecDepth 100000
namespace Nv
open PySem PySem.Spec PyProof.Rows L2
section
variable {P : Program} {w : World} {K : PySem.W.Frag} {mg : Str → Option Value} {base : Heap}
/-! ### windows and states that are none -/
def OutsV (H : Hp) (E : XK) (C : Addr) (v : V) : Prop := ∀ dx H', H dx = none → XdAt H' dx v → Ext [] H H' → E (.ref C) (some dx) H'
theorem OutsV.ext {H H' : Hp} {E : XK} {C : Addr} {v : V} (h : OutsV H E C v) (e : Ext [] H H') : OutsV H' E C v := fun dx H2 n z x => h dx H2 (e.free n) z (e.trans x)
/-- a window, or None -/
def winD : PyData → Bool
  | .none => true
  | .int i => decide (1 ≤ i)
  | _ => false
/-- a window that is a number -/
def numD : PyData → Bool
  | .int i => decide (1 ≤ i)
  | _ => false
theorem iteNon {A B : Prop} (h : B) : if (!decide (V.non = V.non)) = true then A else B := by
  rw [decide_eq_true rfl]
  exact h
theorem sc_check_state : FnScope ["book", "state"] ["book", "state"] (defScope s_check_state) := ⟨rfl, rfl, rfl, by decide +kernel, rfl, by decide +kernel, by decide +kernel⟩
def sp_check_state (K : PySem.W.Frag) : Sp := fun vs H Q _ => ∃ (v : V) (b : Book) (s : Nat), vs = [v, .int s] ∧ BkV K H v b ∧ s < b.length ∧ Q .non H
theorem ok_check_state (T : Tx K mg) : FnOk P w K mg base CX0 3 T.check_state.f T.check_state.fd ["book", "state"] (sp_check_state K) := by
  refine T.check_state.F.ok sc_check_state (fun vs H Q E h => ?_) (fun cdv A outer s H vs Q E hr h => ?_)
  · obtain ⟨v, b, s, rfl, _⟩ := h; rfl
  · obtain ⟨v, b, s, rfl, ⟨a, ls, rfl, ha, hls⟩, hs, q⟩ := h
    have llen := Paired.len hls
    refine ⟨_, (pss_one (ps_if (pt_not (pt_val (pe_call (ok_whole_within T) (hr.mono (by decide)) (by rfl) T.whole_within.g T.whole_within.F.kp T.whole_within.b .nil pass0 (pa_cons (pv 1) (pa_cons pe_int (pa_cons (pe_op op_sub (pe_callB call_len_seq (by rfl) T.n_len PySem.boot_len (pa_cons (pv 0) pa_nil)) pe_int) pa_nil))))))
        (pss_one ps_never)
        pss_nil)), ?_⟩
    refine ⟨_, rfl, _, rfl, a, _, rfl, .inr ha, _, _, rfl, rfl, s, 0, _, rfl, _, rfl, ?_⟩
    exact notF (decide_eq_true ⟨by omega, by omega⟩) q
def sp_check_stateX (K : PySem.W.Frag) (C : Addr) : Sp := fun vs H _ E => ∃ (v u : V) (b : Book) (d : PyData), vs = [v, u] ∧ BkV K H v b ∧ Dp K H u d ∧ inD d 0 ((b.length : Int) - 1) = false ∧ OutsV H E C u
theorem okX_check_state (T : Tx K mg) : FnOk P w K mg base (L2.CX P w) 3 T.check_state.f T.check_state.fd ["book", "state"] (sp_check_stateX K T.x_BadState.C) := by
  refine T.check_state.F.okX sc_check_state (fun vs H Q E h => ?_) (fun cdv A outer s H vs Q E hr h => ?_)
  · obtain ⟨v, u, b, d, rfl, _⟩ := h; rfl
  · obtain ⟨v, u, b, d, rfl, ⟨a, ls, rfl, ha, hls⟩, hd, hi, qe⟩ := h
    have llen := Paired.len hls
    refine ⟨_, (pss_one (ps_if (pt_not (pt_val (pe_call (okD_whole_within T) (hr.mono (by decide)) (by rfl) T.whole_within.g T.whole_within.F.kp T.whole_within.b .nil pass0 (pa_cons (pv 1) (pa_cons pe_int (pa_cons (pe_op op_sub (pe_callB call_len_seq (by rfl) T.n_len PySem.boot_len (pa_cons (pv 0) pa_nil)) pe_int) pa_nil))))))
        (pss_one (ps_raise rfl (takes_of rfl rfl rfl rfl) (pmk_X T.x_BadState T.init.ti (ok_init T) (hr.mono (by decide)) T.init.b (by rfl) (pv 1))))
        pss_nil)), ?_⟩
    refine ⟨_, rfl, _, rfl, a, _, rfl, .inr ha, _, _, rfl, rfl, u, d, 0, _, rfl, hd, _, rfl, ?_⟩
    rw [llen, hi]
    exact iteT ⟨_, rfl, fun dx nd => qe dx _ nd ⟨_, upd_same⟩ (.new nd)⟩
/-- no book, or no window -/
def RefBW (K : PySem.W.Frag) (CB CS CW : Addr) (H : Hp) (E : XK) (v u : V) : Prop := (∃ (d : PyData) (C : Addr) (e : Int), Dp K H v d ∧ Ref CB CS d C e ∧ Outs H E C e) ∨ (∃ (b : Book) (d : PyData), BkV K H v b ∧ OkB b ∧ Dp K H u d ∧ numD d = false ∧ OutsV H E CW (.int 0))
def sp_winX (K : PySem.W.Frag) (CB CS CW : Addr) : Sp := fun vs H _ E => ∃ (v u : V), vs = [v, u] ∧ RefBW K CB CS CW H E v u
end
end Nv
set_option Elab.async false
set_option linter.all false
set_option maxRecDepth 100000
namespace Nv
open PySem PySem.Spec PyProof.Rows L2
open LamX in
/-- the end of a law some of whose defs make lambdas: Ts, their code objects, each with its table -/
theorem endGTs {l : PySem.W.OpenLaw} {n k : Nat} {q : Program} {loose : List Str} {XP : (Str → Option Value) → Heap → Prop} {YP : World → Heap → Prop} {d : DefRec} {K : Params → PySem.W.Frag} {sp : PySem.W.Frag → List (Addr × Addr) → Sp} {x : Str} {Ts : List (Addr × Addr)}
    (hn : l.most = some n) (hn2 : n ≤ sizeLine) (hdf : d.params.defaults = []) (hr : Room k callerA) (hY : ∀ (w : World) (h : Heap), YP w h → (K w.params).In h) (hP : ∀ (w : World) (h : Heap), YP w h → ∀ p ∈ Ts, h.get? p.2 = some { cls := .none, data := .fields #[] })
    (F : ∀ (w : World) (mg : Str → Option Value) (fa : Addr) (h : Heap), (K w.params).In h → h.Ns mainGlobals mg → mg d.name = some (.ref fa) →
      (∀ p ∈ Ts, (K w.params).lookup p.2 = none ∧ PySem.W.codeHdIn (K w.params) p.1 p.2 = true) ∧
      ∃ fd : FuncData, (∀ (s : Shared) (u : Value), BindsTo s fd ⟨[u], []⟩ [(x, u)]) ∧ ∀ base : Heap, (K w.params).In base → base.Ns mainGlobals mg → (∀ p ∈ Ts, TabB base mg p.1 p.2) → FnG l.prog w (K w.params) mg base CX0 k fa fd [x] (sp (K w.params) Ts))
    (hsp : ∀ (K : PySem.W.Frag) (H : Hp) (a : Addr) (ns : List Int), ns.length ≤ n → SqL K H a (ns.map V.int) → (∀ p ∈ Ts, H p.2 = some (.tbl #[])) → sp K Ts [.ref a] H (fun v _ => v = .bl true) fun _ _ _ => False) :
    PySem.W.WalkO q loose XP YP l.row.toRowW d [] (fun f vs => PySem.call f vs) := by
  refine Att.attach_call hn hdf fun w s₀ s1 mg mb fa o pm cd doc a vs ns G Y ho hd hcd hmg hobj hints hlen hg => ?_
  have KX := hY w _ Y
  have hP := hP w _ Y
  obtain ⟨nC, fd, hb, hF⟩ := F w mg fa _ KX G.T.g hmg
  have small : ns.length ≤ sizeLine := Nat.le_trans hlen hn2
  obtain ⟨Z, only, seen, hok, dom⟩ := script_gone (P := l.prog) (w := w) KX hobj hints small
  have aP : ∀ p ∈ Ts, a ≠ p.2 := fun p hp z => by
    rw [z, hP p hp] at hobj
    cases hobj
  let isT : Addr → Prop := fun b => ∃ p ∈ Ts, b = p.2
  have isT0 : ∀ b, isT b → s1.heap.get? b = some { cls := .none, data := .fields #[] } := fun b ⟨p, hp, e⟩ => by rw [e]; exact hP p hp
  haveI : DecidablePred isT := fun b => Classical.propDecidable _
  have aT : ¬ isT a := fun ⟨p, hp, e⟩ => aP p hp e
  obtain ⟨H, eH⟩ : ∃ H : Hp, H = fun b => if isT b then some (.tbl #[]) else Z b := ⟨_, rfl⟩
  have HP : ∀ b, isT b → H b = some (.tbl #[]) := fun b hb => by rw [eH]; exact if_pos hb
  have Ho : ∀ b, ¬ isT b → H b = Z b := fun b hb => by rw [eH]; exact if_neg hb
  have seen : SqL (K w.params) H a (ns.map V.int) := by
    rcases seen with (z | ⟨ob, z⟩) | z
    · exact .inl (.inl (by rw [Ho a aT]; exact z))
    · exact .inl (.inr ⟨ob, by rw [Ho a aT]; exact z⟩)
    · exact .inr z
  have what : ∀ b u, H b = some u → (isT b ∧ u = .tbl #[]) ∨ (¬ isT b ∧ b = a ∧ (K w.params).lookup a = none ∧ ∃ ob ys, u = .frz ob (.lst ys) ∧ Z b = some u) := fun b u e => by
    by_cases hb : isT b
    · rw [HP b hb] at e
      exact .inl ⟨hb, (Option.some.inj e).symm⟩
    · rw [Ho b hb] at e
      obtain ⟨h1, h2⟩ := dom b u e
      rcases only b with z | ⟨ob, ys, z⟩
      · rw [z] at e; cases e
      · rw [z] at e
        exact .inr ⟨hb, h1, h2, ob, ys, (Option.some.inj e).symm, by rw [z]; exact e⟩
  have hok : HOk l.prog w H s1.heap := fun b u e => by
    rcases what b u e with ⟨hb, rfl⟩ | ⟨_, _, _, ob, ys, rfl, z⟩
    · exact isT0 b hb
    · exact hok b _ z
  have free : ∀ {b : Addr} {o : Obj}, s1.heap.get? b = some o → (∀ xs k, o.data ≠ .seq xs k) → o.data ≠ .fields #[] → H b = none := fun {b o} e n1 n2 => by
    cases q : H b with
    | none => rfl
    | some u =>
      rcases what b u q with ⟨hb, _⟩ | ⟨_, rfl, _⟩
      · rw [isT0 b hb] at e
        cases e
        exact (n2 rfl).elim
      · rw [hobj] at e
        cases e
        exact (n1 _ _ rfl).elim
  have dk : ∀ {b : Addr} {o : Obj} {es : Array DictEntry} {ep : Nat}, s1.heap.get? b = some o → o.data = .dict es ep → H b = none := fun {b o es ep} e dd => free e (by rw [dd]; intro _ _ z; cases z) (by rw [dd]; intro z; cases z)
  have ns : ∀ {b : Addr} {m : Str → Option Value}, s1.heap.Ns b m → (hidT s1.heap H).Ns b m := fun {b m} ⟨o, es, ep, e, dd, r⟩ => ⟨o, es, ep, hidT_get e (dk e dd), dd, r⟩
  have inK : (K w.params).In (hidT s1.heap H) := fun b o e => hidT_get (KX b o e) (by
    cases q : H b with
    | none => rfl
    | some u =>
      rcases what b u q with ⟨⟨p, hp, rfl⟩, _⟩ | ⟨_, rfl, z, _⟩
      · rw [(nC p hp).1] at e; cases e
      · rw [z] at e; cases e)
  have M : Mod (K w.params) mg (hidT s1.heap H) := ⟨inK, ns G.T.g, ⟨mb, ns G.T.b, G.T.builtins⟩, let ⟨mc, h1, h2⟩ := G.T.nolimit; ⟨mc, ns h1, h2⟩⟩
  have e0 : Env0 l.prog w (K w.params) mg (hidT s1.heap H) callerA [] s1 H := ⟨rfl, M, fun b o e => of_hidT e, Nat.le_of_eq (hidT_size _ _), trivial, fun b z => absurd (show b ∈ ([] : List Addr) from z) (by simp), hok, AllBare.of_eq hg⟩
  have gP : ∀ P, isT P → mainGlobals ≠ P := fun P hb z => by
    obtain ⟨o, es, ep, e, dd, _⟩ := G.T.g
    rw [z, isT0 P hb] at e
    cases e
    cases dd
  have bmP : ∀ P, isT P → (hidT s1.heap H).BuiltinsAt mg P := fun P hb => by
    obtain ⟨bm, ob, b1, b2, b3, b4, b5, b6⟩ := G.T.bmain
    refine ⟨bm, ob, b1, b2, fun z => ?_, fun z => ?_, hidT_get b3 (free b3 (by rw [b6]; intro _ _ z; cases z) (by rw [b6]; intro z; cases z)), b4, b5, b6⟩
    · obtain ⟨o, es, ep, e, dd, _⟩ := G.T.g
      rw [z, e] at b3
      cases b3
      rw [dd] at b6
      cases b6
    · rw [z, isT0 P hb] at b3
      cases b3
      cases b6
  have TB : ∀ p ∈ Ts, TabB (hidT s1.heap H) mg p.1 p.2 := fun p hp => ⟨PySem.W.codeHd_of_K inK (nC p hp).2, bmP _ ⟨p, hp, rfl⟩, gP _ ⟨p, hp, rfl⟩⟩
  refine codeAny_mono ((hF _ inK (ns G.T.g) TB).run callerA [] s1 H ⟨[.ref a], []⟩ [.ref a] [.ref a] _ _ rfl hr e0 (hb s1 (.ref a)) (.cons rfl .nil) (hsp _ H a _ hlen seen fun p hp => HP _ ⟨p, hp, rfl⟩)) fun r s' h => ?_
  rcases r with e | fl
  · exact (h : False).elim
  · cases fl with
    | next => exact (h : False).elim
    | brk => exact (h : False).elim
    | cont => exact (h : False).elim
    | ret u =>
      obtain ⟨v, H', os, bare, un, hok', rv, qv⟩ := h
      obtain rfl : v = .bl true := qv
      obtain rfl : u = Value.bool true := rv
      have mores : ∀ b, isT b → ∃ more : Array Value, s'.heap.get? b = some { cls := .none, data := .fields more } := fun b hb => by
        obtain ⟨more, z⟩ := un.tbls b #[] (HP b hb)
        exact ⟨_, hok' b _ z⟩
      have stays : ∀ b o, ¬ isT b → s1.heap.get? b = some o → s'.heap.get? b = some o := fun b o hb e => by
        cases z : H b with
        | none => exact un.keep b o e z (fun z => absurd (show b ∈ ([] : List Addr) from z) (by simp)) (by simp)
        | some u =>
          rcases what b u z with ⟨z2, _⟩ | ⟨_, _, _, ob, ys, rfl, _⟩
          · exact absurd z2 hb
          · obtain ⟨g1, _⟩ := hok b _ z
            obtain ⟨g2, _⟩ := hok' b _ (un.frzs b ob _ z)
            rw [e] at g1
            cases g1
            exact g2
      refine ⟨rfl, ⟨fun b o e => ?_, fun b o e => ?_⟩, os, bare⟩
      · by_cases hb : isT b
        · obtain ⟨more, ht⟩ := mores b hb
          obtain ⟨p, hp, rfl⟩ := hb
          have hPp := hP p hp
          rw [hPp] at e
          cases e
          exact .inr (.inl ⟨((PySem.W.codeHd_of_K KX (nC p hp).2).tab hPp).isCodeTable, rfl, #[], more, rfl, by rw [Array.empty_append]; exact ht⟩)
        · exact .inl (stays b o hb e)
      · by_cases hb : isT b
        · obtain ⟨more, ht⟩ := mores b hb
          exact ⟨_, ht⟩
        · exact ⟨o, stays b o hb e⟩
end Nv
set_option linter.all false
namespace Nv
/-! ### the order in which states are met -/
def addS (F : List Nat) : State → List Nat
  | [] => F
  | p :: r => addS (if p.2 ∈ F then F else F ++ [p.2]) r
def stB (b : Book) : Nat → List Nat
  | 0 => [0]
  | i + 1 => match (stB b i)[i]? with
    | some s => addS (stB b i) (mvs b s)
    | none => stB b i
def ordB (b : Book) : List Nat := stB b b.length
theorem addS_append : ∀ (l r : State) (F : List Nat), addS F (l ++ r) = addS (addS F l) r
  | [], _, _ => rfl
  | p :: l, r, F => by
    show addS _ (l ++ r) = addS (addS _ l) r
    exact addS_append l r _
theorem addS_take {F G : List Nat} {p : Nat × Nat} {ms : State} {k : Nat} (h : ms[k]? = some p) (e : F = addS G (ms.take k)) : addS G (ms.take (k + 1)) = if p.2 ∈ F then F else F ++ [p.2] := by
  rw [List.take_add_one, h]
  show addS G (ms.take k ++ [p]) = _
  rw [addS_append, ← e]
  rfl
theorem addS_pre : ∀ (l : State) (F : List Nat), F <+: addS F l
  | [], F => List.prefix_refl _
  | p :: l, F => by
    show F <+: addS (if p.2 ∈ F then F else F ++ [p.2]) l
    split
    · exact addS_pre l F
    · exact (List.prefix_append _ _).trans (addS_pre l _)
theorem stB_step {b : Book} {i s : Nat} (h : (stB b i)[i]? = some s) : stB b (i + 1) = addS (stB b i) (mvs b s) := by
  show (match (stB b i)[i]? with
    | some s => addS (stB b i) (mvs b s)
    | none => stB b i) = _
  rw [h]
theorem stB_rest {b : Book} {i : Nat} (h : (stB b i).length ≤ i) : ∀ k, stB b (i + k) = stB b i
  | 0 => rfl
  | k + 1 => by
    have ih := stB_rest h k
    show (match (stB b (i + k))[i + k]? with
      | some s => addS (stB b (i + k)) (mvs b s)
      | none => stB b (i + k)) = _
    rw [ih, List.getElem?_eq_none (by omega)]
theorem stB_pre {b : Book} (i : Nat) : ∀ k, stB b i <+: stB b (i + k)
  | 0 => List.prefix_refl _
  | k + 1 => by
    refine (stB_pre i k).trans ?_
    show stB b (i + k) <+: (match (stB b (i + k))[i + k]? with
      | some s => addS (stB b (i + k)) (mvs b s)
      | none => stB b (i + k))
    split
    · exact addS_pre _ _
    · exact List.prefix_refl _
theorem stB_end {b : Book} {i : Nat} (h : (stB b i).length ≤ i) (hi : i ≤ b.length) : ordB b = stB b i := by
  obtain ⟨k, hk⟩ := Nat.le.dest hi
  unfold ordB
  rw [← hk]
  exact stB_rest h k
structure MetIO (b : Book) (F : List Nat) (i : Nat) : Prop extends MetI b F i where
  eq : F = stB b i
structure MetWO (b : Book) (F : List Nat) (i s k : Nat) : Prop extends MetW b F i s k where
  eq : F = addS (stB b i) ((mvs b s).take k)
structure MetO (b : Book) (F : List Nat) : Prop extends Met b F where
  eq : F = ordB b
theorem MetIO.first {b : Book} (h : 1 ≤ b.length) : MetIO b [0] 0 := ⟨.first h, rfl⟩
theorem MetIO.begin {b : Book} {F : List Nat} {i s : Nat} (m : MetIO b F i) (h : F[i]? = some s) : MetWO b F i s 0 := ⟨m.toMetI.begin h, by rw [m.eq]; rfl⟩
theorem MetWO.skip {b : Book} {F : List Nat} {i s k : Nat} {p : Nat × Nat} (m : MetWO b F i s k) (h : (mvs b s)[k]? = some p) (hp : p.2 ∈ F) : MetWO b F i s (k + 1) := ⟨m.toMetW.skip h hp, by rw [addS_take h m.eq, if_pos hp]⟩
theorem MetWO.push {b : Book} {F : List Nat} {i s k : Nat} {p : Nat × Nat} (m : MetWO b F i s k) (h : (mvs b s)[k]? = some p) (hp : p.2 ∉ F) (hb : p.2 < b.length) : MetWO b (F ++ [p.2]) i s (k + 1) := ⟨m.toMetW.push h hp hb, by rw [addS_take h m.eq, if_neg hp]⟩
theorem MetWO.pre {b : Book} {F : List Nat} {i s k : Nat} (m : MetWO b F i s k) : stB b i <+: F := by
  rw [m.eq]
  exact addS_pre _ _
theorem stB_len (b : Book) : ∀ i, 1 ≤ (stB b i).length
  | 0 => Nat.le_refl _
  | i + 1 => by
    have h := (stB_pre (b := b) i 1).length_le
    have := stB_len b i
    show 1 ≤ (stB b (i + 1)).length
    omega
theorem MetWO.done {b : Book} {F : List Nat} {i s k : Nat} (m : MetWO b F i s k) (g : (stB b i)[i]? = some s) (hk : (mvs b s).length ≤ k) : MetIO b F (i + 1) := ⟨m.toMetW.done hk, by
  rw [stB_step g, m.eq, List.take_of_length_le hk]⟩
theorem MetIO.met {b : Book} {F : List Nat} {i : Nat} (m : MetIO b F i) (h : i = F.length) : MetO b F := ⟨m.toMetI.met (.inl h), by
  rw [stB_end (i := i) (by rw [← m.eq]; omega) (by rw [h]; exact nodup_le m.nd m.lt)]
  exact m.eq⟩
theorem metO {b : Book} (fb : FormB b) : MetO b (ordB b) := by
  have row : ∀ {F : List Nat} {i s : Nat}, MetIO b F i → F[i]? = some s → ∀ k, k ≤ (mvs b s).length → ∃ F', MetWO b F' i s k := by
    intro F i s mi hs k
    induction k with
    | zero => exact fun _ => ⟨F, mi.begin hs⟩
    | succ k ih =>
      intro hk
      obtain ⟨F', mw⟩ := ih (by omega)
      have hp : (mvs b s)[k]? = some (mvs b s)[k] := List.getElem?_eq_getElem (by omega)
      by_cases hin : (mvs b s)[k].2 ∈ F'
      · exact ⟨F', mw.skip hp hin⟩
      · exact ⟨_, mw.push hp hin (fb.to (List.getElem_mem _))⟩
  have all : ∀ n, ∃ i F, MetIO b F i ∧ (i = F.length ∨ i = n) := by
    intro n
    induction n with
    | zero => exact ⟨0, [0], .first fb.one, .inr rfl⟩
    | succ n ih =>
      obtain ⟨i, F, mi, h⟩ := ih
      by_cases hi : i < F.length
      · have hs : F[i]? = some F[i] := List.getElem?_eq_getElem hi
        obtain ⟨F', mw⟩ := row mi hs _ (Nat.le_refl _)
        have g : (stB b i)[i]? = some F[i] := by rw [← mi.eq]; exact hs
        refine ⟨i + 1, F', mw.done g (Nat.le_refl _), .inr ?_⟩
        omega
      · have := mi.le
        exact ⟨i, F, mi, .inl (by omega)⟩
  obtain ⟨i, F, mi, h⟩ := all b.length
  have h1 : F.length ≤ b.length := nodup_le mi.nd mi.lt
  have h2 := mi.le
  have mo := mi.met (by omega)
  rw [mo.eq] at mo
  exact mo
theorem ren_okB {b : Book} (fb : FormB b) : OkB (rename b (ordB b)) :=
  (metO fb).toMet.okB fb.eight fun s hs => ⟨(fb.ok hs).few, (fb.ok hs).rise, (fb.ok hs).msg⟩
/-! ### the book by its own numbers -/
theorem ren_in {F G : List Nat} (nd : F.Nodup) (pre : G <+: F) {x : Nat} (hx : x ∈ F) : F.idxOf x ∈ List.range G.length ↔ x ∈ G := by
  obtain ⟨R, rfl⟩ := pre
  rw [List.mem_range]
  constructor
  · intro h
    by_cases hG : x ∈ G
    · exact hG
    · rw [List.idxOf_append, if_neg hG] at h
      omega
  · intro h
    rw [List.idxOf_append, if_pos h]
    exact List.idxOf_lt_length_of_mem h
theorem addS_ren {F : List Nat} (nd : F.Nodup) : ∀ (ms : State) (G : List Nat), addS G ms <+: F → (∀ p ∈ ms, p.2 ∈ F) → addS (List.range G.length) (ms.map fun p => (p.1, F.idxOf p.2)) = List.range (addS G ms).length
  | [], _, _, _ => rfl
  | p :: r, G, pre, hF => by
    have pre0 : addS (if p.2 ∈ G then G else G ++ [p.2]) r <+: F := pre
    have preG : G <+: F := (addS_pre (p :: r) G).trans pre
    have hp := hF p (List.mem_cons_self ..)
    have ih := addS_ren nd r (if p.2 ∈ G then G else G ++ [p.2]) pre0 fun q hq => hF q (List.mem_cons_of_mem _ hq)
    show addS (if F.idxOf p.2 ∈ List.range G.length then List.range G.length else List.range G.length ++ [F.idxOf p.2]) (r.map fun p => (p.1, F.idxOf p.2)) = List.range (addS (if p.2 ∈ G then G else G ++ [p.2]) r).length
    rw [← ih]
    by_cases h : p.2 ∈ G
    · rw [if_pos ((ren_in nd preG hp).mpr h), if_pos h]
    · rw [if_neg (fun z => h ((ren_in nd preG hp).mp z)), if_neg h]
      have pre1 : G ++ [p.2] <+: F := by
        rw [if_neg h] at pre0
        exact (addS_pre _ _).trans pre0
      obtain ⟨R, rfl⟩ := pre1
      have e : (G ++ [p.2] ++ R).idxOf p.2 = G.length := by
        rw [List.append_assoc, List.idxOf_append, if_neg h]
        simp
      rw [e, List.length_append, List.length_singleton, List.range_succ]
theorem stB_ren {b : Book} {F : List Nat} (m : MetO b F) (hm : ∀ s ∈ F, ∀ p ∈ mvs b s, p.2 ∈ F) : ∀ i, stB (rename b F) i = List.range (stB b i).length
  | 0 => rfl
  | i + 1 => by
    have ih := stB_ren m hm i
    have pre : stB b (i + 1) <+: F := by
      rw [m.eq]
      by_cases h : i + 1 ≤ b.length
      · obtain ⟨k, hk⟩ := Nat.le.dest h
        unfold ordB
        rw [← hk]
        exact stB_pre _ _
      · have hl : (ordB b).length ≤ b.length := by rw [← m.eq]; exact nodup_le m.nd m.lt
        obtain ⟨k, hk⟩ := Nat.le.dest (show b.length ≤ i + 1 by omega)
        have := stB_rest (b := b) (i := b.length) hl k
        rw [← hk, this]
        exact List.prefix_refl _
    have pre0 : stB b i <+: F := (stB_pre i 1).trans pre
    cases hs : (stB b i)[i]? with
    | none =>
      have hl := List.getElem?_eq_none_iff.mp hs
      have e1 := stB_rest (b := b) hl 1
      have e2 := stB_rest (b := rename b F) (i := i) (by rw [ih, List.length_range]; exact hl) 1
      rw [e1, e2, ih]
    | some s =>
      have hl := (List.getElem?_eq_some_iff.mp hs).1
      have hF : F[i]? = some s := by
        obtain ⟨R, rfl⟩ := pre0
        rw [List.getElem?_append_left hl]
        exact hs
      have hsF := List.mem_of_getElem? hF
      rw [stB_step hs] at pre ⊢
      have hr : (stB (rename b F) i)[i]? = some i := by rw [ih, List.getElem?_range hl]
      rw [stB_step hr, rename_at hF, ih]
      exact addS_ren m.nd _ _ pre fun p hp => hm s hsF p hp
theorem ren_self {b : Book} {F : List Nat} (m : MetO b F) : ordB (rename b F) = List.range F.length ∧ rename (rename b F) (List.range F.length) = rename b F := by
  have e : ordB (rename b F) = List.range F.length := by
    have h := stB_ren m m.cl
    have hl : F.length ≤ b.length := nodup_le m.nd m.lt
    have hF : stB b F.length = F := by
      have hpre : stB b F.length <+: F := by
        rw [m.eq]
        obtain ⟨k, hk⟩ := Nat.le.dest (show (ordB b).length ≤ b.length by rw [← m.eq]; exact hl)
        have := stB_pre (b := b) (ordB b).length k
        rw [hk] at this
        exact this
      -- at F.length all is met
      have : ∀ i, i ≤ F.length → i < (stB b i).length ∨ stB b i = F := by
        intro i hi
        by_cases hc : (stB b i).length ≤ i
        · refine .inr ?_
          rw [m.eq, stB_end hc (by omega)]
        · exact .inl (by omega)
      rcases this F.length (Nat.le_refl _) with h1 | h1
      · have := hpre.length_le
        omega
      · exact h1
    show stB (rename b F) (rename b F).length = _
    rw [rename_len, h, hF]
  refine ⟨e, ?_⟩
  refine List.ext_getElem? fun k => ?_
  unfold rename
  rw [List.getElem?_map]
  by_cases hk : k < F.length
  · rw [List.getElem?_range hk, List.getElem?_map, List.getElem?_eq_getElem hk]
    have hF : F[k]? = some F[k] := List.getElem?_eq_getElem hk
    show some ((mvs (rename b F) k).map fun p => (p.1, (List.range F.length).idxOf p.2)) = some ((mvs b F[k]).map fun p => (p.1, F.idxOf p.2))
    rw [rename_at hF, List.map_map]
    refine congrArg some (List.map_congr_left fun p hp => ?_)
    have hm := m.cl _ (List.getElem_mem hk) p hp
    have hlt := List.idxOf_lt_length_of_mem hm
    show (p.1, (List.range F.length).idxOf (F.idxOf p.2)) = (p.1, F.idxOf p.2)
    rw [idx_of List.nodup_range (List.getElem?_range hlt)]
  · rw [List.getElem?_eq_none (by rw [List.length_range]; omega), List.getElem?_map, List.getElem?_eq_none (by omega)]
    rfl
end Nv
set_option Elab.async false
set_option linter.all false
set_option maxRecDepth 100000
/-! a dict's comprehension over a walk; dicts from numbers to numbers -/
namespace Nv
open PySem PySem.Spec PyProof.Rows L2
theorem dc_it {J : It} {n : Nat} {G : Hp → Prop} {Y : Nat → Hp → V → Hp → Prop} (w : Walk J n G Y) {g : TG} {tt : TT} {tk tv : TE} {vs : List Nat} {σ : L2.St} {H1 : Hp} {D : Addr} {Qd : Hp → Prop} (Pv : Nat → Hp → Prop) (h0 : Pv 0 (upd H1 D (.dK []))) (hG : ∀ i H, i ≤ n → Pv i H → G H)
    (hs : ∀ i x H H', i < n → Pv i H → Y i H x H' → g x (wipe σ vs) H' fun σ2 H2 => wipe σ2 vs = wipe σ vs ∧ tt σ2 H2 fun b H3 =>
      if b = true then tk σ2 H3 fun y H4 => tv σ2 H4 fun z H5 => ∃ kvs k, y = kV k ∧ H5 D = some (.dK kvs) ∧ kvs.length < sizeLine ∧ Pv (i + 1) (upd H5 D (.dK (putK kvs k z))) else Pv (i + 1) H3) (hd : ∀ H, Pv n H → Qd H) :
    ∃ W : Nat → Nat → Hp → Prop, (∃ m, W 0 m (upd H1 D (.dK []))) ∧ ∀ i m H, W i m H →
      (J.stop i H ∧ Qd H) ∨ (J.go i H ∧ ∃ Nx : Hp → Prop, (∀ H', Nx H' → ∃ m', m' < m ∧ W (i + 1) m' H') ∧ ∀ x H', J.yld i H x H' → g x (wipe σ vs) H' fun σ2 H2 => wipe σ2 vs = wipe σ vs ∧ tt σ2 H2 fun b H3 =>
        if b = true then tk σ2 H3 fun y H4 => tv σ2 H4 fun z H5 => ∃ kvs k, y = kV k ∧ H5 D = some (.dK kvs) ∧ kvs.length < sizeLine ∧ Nx (upd H5 D (.dK (putK kvs k z))) else Nx H3) := by
  refine ⟨fun i m H => m = n - i ∧ i ≤ n ∧ Pv i H, ⟨n, by simp, Nat.zero_le _, h0⟩, ?_⟩
  rintro i m H ⟨rfl, hi, p⟩
  have q := hG i H hi p
  by_cases hlt : i < n
  · refine .inr ⟨w.goes i H hlt q, Pv (i + 1), fun H' p' => ⟨n - (i + 1), by omega, rfl, hlt, p'⟩, fun x H' y => hs i x H H' hlt p (w.yields i H x H' hlt q y)⟩
  · have e : i = n := by omega
    subst e
    exact .inl ⟨w.stops H q, hd H p⟩
/-- the dict that gives each state of F its place there -/
abbrev placesK (F : List Nat) : List (Key × V) := F.zipIdx.map fun p => (kN p.1, nV p.2)
theorem placesK_snoc {F : List Nat} {s : Nat} : placesK (F ++ [s]) = placesK F ++ [(kN s, nV F.length)] := by
  unfold placesK
  rw [List.zipIdx_append, List.map_append]
  simp
theorem placesK_keys {F : List Nat} : (placesK F).map (·.1) = F.map kN := by
  unfold placesK
  rw [List.map_map]
  have : (F.zipIdx.map ((fun x => x.1) ∘ fun p : Nat × Nat => (kN p.1, nV p.2))) = (F.zipIdx.map (·.1)).map kN := by rw [List.map_map]; rfl
  rw [this, List.zipIdx_map_fst]
theorem placesK_len {F : List Nat} : (placesK F).length = F.length := by simp [placesK]
theorem kN_inj {a b : Nat} (h : kN a = kN b) : a = b := by
  have := Sum.inl.inj h
  omega
/-- a new key goes to the end -/
theorem placesK_put {F : List Nat} {s : Nat} (h : s ∉ F) : putK (placesK F) (kN s) (nV F.length) = placesK (F ++ [s]) := by
  rw [placesK_snoc]
  have hf : valV (placesK F) (kN s) = none := by
    have := valV_key (placesK_keys (F := F)) s
    rw [decide_eq_false h] at this
    cases e : valV (placesK F) (kN s) with
    | none => rfl
    | some z => rw [e] at this; cases this
  exact putK_new _ hf
theorem placesK_val {F : List Nat} (nd : F.Nodup) {s : Nat} (h : s ∈ F) : valV (placesK F) (kN s) = some (nV (F.idxOf s)) := by
  have hs := valV_key (placesK_keys (F := F)) s
  rw [decide_eq_true h] at hs
  obtain ⟨v, hv⟩ := Option.isSome_iff_exists.mp hs
  have hm := valV_mem hv
  obtain ⟨p, hp, e⟩ := List.mem_map.mp hm
  have e1 : kN p.1 = kN s := congrArg Prod.fst e
  have e2 : nV p.2 = v := congrArg Prod.snd e
  have e3 := kN_inj e1
  obtain ⟨i, hi, hie⟩ := List.mem_iff_getElem.mp hp
  rw [List.getElem_zipIdx] at hie
  have hi' : i < F.length := by simpa using hi
  have a1 : F[i] = p.1 := congrArg Prod.fst hie
  have a2 : 0 + i = p.2 := congrArg Prod.snd hie
  have : F.idxOf s = i := by
    rw [← e3, ← a1]
    exact List.Nodup.idxOf_getElem nd i hi'
  rw [hv, ← e2, this, ← a2, Nat.zero_add]
end Nv
set_option Elab.async false
set_option linter.all false
set_option maxRecDepth 100000
namespace Nv
open PySem PySem.Spec PyProof.Rows L2
section
variable {P : Program} {w : World} {K : PySem.W.Frag} {mg : Str → Option Value} {base : Heap}
/-! ### what is heard: a tuple -/
theorem takes_lenT {X : Cx} {W : WX} {n : Nat} (tk : Takes X W) (hn : X.N.length = n) : Takes X fun cls d σ H => σ.length = n → W cls d σ H := by
  rintro u s' ⟨a, B, sI, pins, σ, H, cls, d, e, I, nb, up, sky, na, os, ag, w⟩
  exact tk u s' ⟨a, B, sI, pins, σ, H, cls, d, e, I, nb, up, sky, na, os, ag, w (by rw [I.len, hn])⟩
open LamX in
/-- call(), heard: its value, or its error by name and what -/
def THeardT {K : PySem.W.Frag} {mg : Str → Option Value} (T : Tx K mg) : (XK → Hp → VK → Prop) → Hp → VK → Prop := fun tl H Q =>
  tl (fun cls d H' => ∃ (nm : Str) (C dx : Addr) (v : V), cls = .ref C ∧ ((C = T.x_BadState.C ∧ nm = "BadState") ∨ (C = T.x_BadMany.C ∧ nm = "BadMany") ∨ (C = T.x_TooMany.C ∧ nm = "TooMany")) ∧ d = some dx ∧ XdAt H' dx v ∧ ∀ t, H' t = none → Q (.ref t) (upd H' t (.tup [.str nm, v, .bl true]))) H fun v H' => [V.str "told", v].length ≤ sizeLine ∧ ∀ t, H' t = none → Q (.ref t) (upd H' t (.tup [.str "told", v]))
theorem sc_law_heard : FnScope ["call", "error", "found"] ["call"] (defScope s_law_heard) := ⟨rfl, rfl, rfl, by decide +kernel, rfl, by decide +kernel, by decide +kernel⟩
open LamX in
theorem heard_givesT (T : Tx K mg) {X : Cx} {k : Nat} (hr : Room (k + 1) X.A) (eK : X.K = K) (em : X.mg = mg) {cdg : Value} {q : Str} : GivesTo X ["call", "error", "found"] "_law_heard" (defScope s_law_heard) T.law_heard.f cdg (defBody s_law_heard) "call" q (THeardT T) := by
  subst eK em
  intro f c' s H Q tl act hc h
  refine ⟨_, pss_cons (ps_try_all2 (X := (cxOf C8.CX0 X.prog X.w X.K X.mg X.base ["call", "error", "found"] "_law_heard" (defScope s_law_heard) T.law_heard.f cdg X.A X.stack s H C8.E0).nox) (n := "error") (i := 1) (Wout := fun _ _ _ _ => False)
    (tb := fun W D σ H => ∃ Ech : XK, (∀ cls d σ' H', Ech cls d H' → σ'.length = 3 → W cls d σ' H') ∧ σ[0]? = some (some (.ref f)) ∧ H c' = some (CodeO c' q) ∧ tl Ech H fun v H' => [V.str "told", v].length ≤ sizeLine ∧ ∀ t, H' t = none → D.rt (.ref t) (upd H' t (.tup [.str "told", v])))
    rfl rfl sc_law_heard.nd rfl rfl L2.takes0 (fun W pn xe tk _ => ?_) (.one (c := .ref T.x_BadState.C) ⟨rfl, by decide, .inl T.x_BadState.g⟩ (fun a oe cls d pn hz hf => pss_one (ps_set (i := 2) sc_law_heard.nd rfl (.inl rfl) (pe_tup (pa_cons pe_str (pa_cons (pe_what (X := (cxOf C8.CX0 X.prog X.w X.K X.mg X.base ["call", "error", "found"] "_law_heard" (defScope s_law_heard) T.law_heard.f cdg X.A X.stack s H C8.E0).nox) T.x_BadState hz hf (pv 1)) (pa_cons (pe_and (pe_callB (call_isET (X := (cxOf C8.CX0 X.prog X.w X.K X.mg X.base ["call", "error", "found"] "_law_heard" (defScope s_law_heard) T.law_heard.f cdg X.A X.stack s H C8.E0).nox) hz) (by rfl) T.n_isinstance (by decide +kernel) (pa_cons (pv 1) (pa_cons (pe_glob (v := .ref T.r_Refused.C) (by rfl) T.r_Refused.g rfl) pa_nil))) (pe_one (pe_callB (call_isET (X := (cxOf C8.CX0 X.prog X.w X.K X.mg X.base ["call", "error", "found"] "_law_heard" (defScope s_law_heard) T.law_heard.f cdg X.A X.stack s H C8.E0).nox) hz) (by rfl) T.n_isinstance (by decide +kernel) (pa_cons (pv 1) (pa_cons (pe_bltn (v := .ty "ValueError") (by rfl) T.n_ValueError (by decide +kernel) rfl) pa_nil))))) pa_nil)))))) (.one (c := .ref T.x_BadMany.C) ⟨rfl, by decide, .inl T.x_BadMany.g⟩ (fun a oe cls d pn hz hf => pss_one (ps_set (i := 2) sc_law_heard.nd rfl (.inl rfl) (pe_tup (pa_cons pe_str (pa_cons (pe_what (X := (cxOf C8.CX0 X.prog X.w X.K X.mg X.base ["call", "error", "found"] "_law_heard" (defScope s_law_heard) T.law_heard.f cdg X.A X.stack s H C8.E0).nox) T.x_BadMany hz hf (pv 1)) (pa_cons (pe_and (pe_callB (call_isET (X := (cxOf C8.CX0 X.prog X.w X.K X.mg X.base ["call", "error", "found"] "_law_heard" (defScope s_law_heard) T.law_heard.f cdg X.A X.stack s H C8.E0).nox) hz) (by rfl) T.n_isinstance (by decide +kernel) (pa_cons (pv 1) (pa_cons (pe_glob (v := .ref T.r_Refused.C) (by rfl) T.r_Refused.g rfl) pa_nil))) (pe_one (pe_callB (call_isET (X := (cxOf C8.CX0 X.prog X.w X.K X.mg X.base ["call", "error", "found"] "_law_heard" (defScope s_law_heard) T.law_heard.f cdg X.A X.stack s H C8.E0).nox) hz) (by rfl) T.n_isinstance (by decide +kernel) (pa_cons (pv 1) (pa_cons (pe_bltn (v := .ty "ValueError") (by rfl) T.n_ValueError (by decide +kernel) rfl) pa_nil))))) pa_nil)))))) (.one (c := .ref T.x_TooMany.C) ⟨rfl, by decide, .inl T.x_TooMany.g⟩ (fun a oe cls d pn hz hf => pss_one (ps_set (i := 2) sc_law_heard.nd rfl (.inl rfl) (pe_tup (pa_cons pe_str (pa_cons (pe_what (X := (cxOf C8.CX0 X.prog X.w X.K X.mg X.base ["call", "error", "found"] "_law_heard" (defScope s_law_heard) T.law_heard.f cdg X.A X.stack s H C8.E0).nox) T.x_TooMany hz hf (pv 1)) (pa_cons (pe_and (pe_callB (call_isET (X := (cxOf C8.CX0 X.prog X.w X.K X.mg X.base ["call", "error", "found"] "_law_heard" (defScope s_law_heard) T.law_heard.f cdg X.A X.stack s H C8.E0).nox) hz) (by rfl) T.n_isinstance (by decide +kernel) (pa_cons (pv 1) (pa_cons (pe_glob (v := .ref T.r_Refused.C) (by rfl) T.r_Refused.g rfl) pa_nil))) (pe_one (pe_callB (call_isET (X := (cxOf C8.CX0 X.prog X.w X.K X.mg X.base ["call", "error", "found"] "_law_heard" (defScope s_law_heard) T.law_heard.f cdg X.A X.stack s H C8.E0).nox) hz) (by rfl) T.n_isinstance (by decide +kernel) (pa_cons (pv 1) (pa_cons (pe_bltn (v := .ty "ValueError") (by rfl) T.n_ValueError (by decide +kernel) rfl) pa_nil))))) pa_nil)))))) (.bare (c := .ref T.r_Refused.C) ⟨rfl, by decide, .inl T.r_Refused.g⟩ (fun a oe cls d pn hz hf => pss_one (ps_set (i := 2) sc_law_heard.nd rfl (.inl rfl) (pe_tup (pa_cons pe_str (pa_cons pe_int (pa_cons pe_bl pa_nil)))))) .none))))) (pss_one (ps_ret (pv 2))), ?_⟩
  · refine ⟨fun pins s' σ H' D I h' => ?_⟩
    obtain ⟨Ech, hW, h1, h2, h3⟩ := h'
    refine (pss_one (ps_ret (pe_tup (pa_cons pe_str (pa_cons (act _ pn xe Ech _ _ (takes_lenT (n := 3) tk rfl) hW) pa_nil))))).run pins s' σ H' D I ⟨h1, h2, h3⟩
  · refine ⟨_, fun cls d σ' H' hE hl => ?_, rfl, hc, h⟩
    obtain ⟨nm, C, dx, v, rfl, hC, rfl, hd, hq⟩ := hE
    obtain ⟨y0, y1, y2, rfl⟩ : ∃ y0 y1 y2, σ' = [y0, y1, y2] := by
      match σ', hl with
      | [y0, y1, y2], _ => exact ⟨y0, y1, y2, rfl⟩
    rcases hC with ⟨rfl, rfl⟩ | ⟨rfl, rfl⟩ | ⟨rfl, rfl⟩
    · refine ⟨true, exm_is _ _ T.s_BadState_BadState, fun _ a na => ?_, fun z => by cases z⟩
      exact ⟨_, rfl, rfl, rfl, dx, v, rfl, hd, ⟨_, rfl, .ref T.r_Refused.C, .ref T.r_Refused.C, rfl, fun u hu => hu, T.r_Refused.kit T.q_BadState, _, rfl, iteT ⟨_, rfl, .ty "ValueError", .type "ValueError", rfl, fun u hu => hu, kit_ve T.v_BadState, ⟨(by show 3 ≤ sizeLine; decide), fun t ht => ⟨_, rfl, hq t ht⟩⟩⟩⟩⟩
    · refine ⟨false, exm_is _ _ T.s_BadMany_BadState, (fun z => by cases z), fun _ => ?_⟩
      refine ⟨true, exm_is _ _ T.s_BadMany_BadMany, fun _ a na => ?_, fun z => by cases z⟩
      exact ⟨_, rfl, rfl, rfl, dx, v, rfl, hd, ⟨_, rfl, .ref T.r_Refused.C, .ref T.r_Refused.C, rfl, fun u hu => hu, T.r_Refused.kit T.q_BadMany, _, rfl, iteT ⟨_, rfl, .ty "ValueError", .type "ValueError", rfl, fun u hu => hu, kit_ve T.v_BadMany, ⟨(by show 3 ≤ sizeLine; decide), fun t ht => ⟨_, rfl, hq t ht⟩⟩⟩⟩⟩
    · refine ⟨false, exm_is _ _ T.s_TooMany_BadState, (fun z => by cases z), fun _ => ?_⟩
      refine ⟨false, exm_is _ _ T.s_TooMany_BadMany, (fun z => by cases z), fun _ => ?_⟩
      refine ⟨true, exm_is _ _ T.s_TooMany_TooMany, fun _ a na => ?_, fun z => by cases z⟩
      exact ⟨_, rfl, rfl, rfl, dx, v, rfl, hd, ⟨_, rfl, .ref T.r_Refused.C, .ref T.r_Refused.C, rfl, fun u hu => hu, T.r_Refused.kit T.q_TooMany, _, rfl, iteT ⟨_, rfl, .ty "ValueError", .type "ValueError", rfl, fun u hu => hu, kit_ve T.v_TooMany, ⟨(by show 3 ≤ sizeLine; decide), fun t ht => ⟨_, rfl, hq t ht⟩⟩⟩⟩⟩
/-! ### a lambda handed to _law_heard -/
open LamX in
theorem pe_heardT {K : PySem.W.Frag} {mg : Str → Option Value} {X : Cx} {k : Nat} (T : Tx K mg) {c P : Addr} {params : Arguments} {body : Expr} {scope : Scope} {t : XK → TE} {p lpos pos : Pos} (eK : X.K = K) (em : X.mg = mg) (hg : Gl X "_law_heard") (TB : TabB X.base X.mg c P) {TT : List (Addr × Str)} (hT : (P, X.env.qual ++ "<lambda>") ∈ TT) (hN : ∀ p ∈ TT, p.1 = P → p.2 = X.env.qual ++ "<lambda>") (hcode : X.env.code = .ref c)
    (hr : Room (k + 2) X.A) (L : LamS X.env.scope scope) (hdef : defaultsOf params X.env = ([], [])) (hbind : ∀ (q : Str) (cl : List (Str × Addr)) (pm cv ctv : Value), bindArgs (PySem.W.kla_fn "<lambda>" q params body scope cl pm cv ctv) ⟨[], []⟩ = pure [])
    (hbody : ∀ (A : Around) (outer : List Env) (s : Shared) (H : Hp) (E : XK) (f c' : Addr), Room k (A.deeper (lamEnv X scope s.heap.objs.size f c')) → PE (lamCx X A outer s H E scope f c') body (t E)) :
    PE X (.Call (.Name "_law_heard" p) [.Lambda params body scope lpos] [] pos) (tLam TT (THeardT T) t) := by
  subst eK em
  obtain ⟨oc, od, kV, doc, pm, an, cdv, ct, osl, hfd, lk, cd⟩ := T.law_heard.F.ex
  rw [hfd] at lk
  have hb := T.law_heard.b
  rw [hfd] at hb
  exact pe_lamcall hg T.law_heard.g T.law_heard.F.kp lk cd hb sc_law_heard rfl (.inl rfl) (heard_givesT T (k := k + 1) hr rfl rfl) TB hcode hT hN hr L hdef hbind hbody
end
end Nv
set_option Elab.async false
set_option linter.all false
set_option maxRecDepth 100000
namespace Nv
open PySem PySem.Spec PyProof.Rows L2
section
variable {P : Program} {w : World} {K : PySem.W.Frag} {mg : Str → Option Value} {base : Heap}
/-! ### is it a book -/
/-! ### states by meeting -/

def sp_first_rowsO (K : PySem.W.Frag) : Sp := fun vs H Q _ => ∃ (v : V) (b : Book), vs = [v, .int 0] ∧ BkW K H v b ∧ FormB b ∧ ∀ (F : List Nat) (kvs : List (Key × V)) (d : Addr) (H' : Hp), MetO b F → kvs.map (·.1) = F.map kN → H' d = some (.dK kvs) → Ext [] H H' → Q (.ref d) H'
theorem okO_first_rows (T : Tx K mg) : FnOk P w K mg base CX0 1 T.first_rows.f T.first_rows.fd ["states", "start"] (sp_first_rowsO K) := by
  refine T.first_rows.F.ok sc_first_rows (fun vs H Q E h => ?_) (fun cdv A outer s H vs Q E hr h => ?_)
  · obtain ⟨v, b, rfl, _⟩ := h; rfl
  · obtain ⟨v, b, rfl, ⟨a, ls, rfl, ha, hls⟩, ok, q⟩ := h
    have llen := Paired.len hls
    have h8 := ok.eight
    refine ⟨_, (pss_cons (ps_set (i := 2) sc_first_rows.nd rfl (.inl rfl) (pe_disp (pps_cons (pv 1) (pe_tup pa_nil) pps_nil) (by rfl) (by rfl) (fun z => by cases z) (by decide)))
      (pss_cons (ps_set (i := 3) sc_first_rows.nd rfl (.inl rfl) (pe_lst (pa_cons (pv 1) pa_nil)))
      (pss_cons (ps_set (i := 4) sc_first_rows.nd rfl (.inl rfl) pe_int)
      (pss_cons (ps_while PassesOwn.never (pt_cmpR op_lt (pv 4) (pe_callB call_len_seq (by rfl) T.n_len PySem.boot_len (pa_cons (pv 3) pa_nil)) (nomark _))
        (pss_cons (ps_set (i := 5) sc_first_rows.nd rfl (.inl rfl) (pe_ix ix_list (pv 3) (pv 4) (fun _ _ => rfl)))
        (pss_cons (ps_aug (i := 4) sc_first_rows.nd rfl (.inl rfl) pe_int ip_add)
        (pss_one (ps_for PassesOwn.never rfl (pi_tup (pe_ix ix_tup (pv 0) (pv 5) (fun _ _ => rfl))) (pg_tup rfl (pgs_cons (pg_name (i := 6) sc_first_rows.nd rfl (.inl rfl)) (pgs_cons (pg_name (i := 7) sc_first_rows.nd rfl (.inl rfl)) pgs_nil)))
          (pss_one (ps_if (pt_cmp (pc_dnotin (hu_of hr) (pv 7) (pv 2)))
            (pss_cons (ps_dput (hu_of hr) (pv 2) (pv 7) (pe_op op_catA (pe_dget (hu_of hr) (pv 2) (pv 5) (fun _ _ => rfl)) (pe_tup (pa_cons (pv 6) pa_nil))) rfl)
            (pss_one (ps_expr (pe_bm PySem.F.plainAttrs_list PySem.F.slot_list_append PySem.F.type_list_append mt_append (pv 3) (pa_cons (pv 7) pa_nil)))))
            pss_nil)))))))
      (pss_one (ps_ret (pv 2))))))), ?_⟩
    -- rows = {0: ()}
    refine fun d hd => ⟨_, rfl, Nat.zero_le _, fun t ht => ?_⟩
    have e1 : Ext [] H (upd H d (.dK [])) := .new hd
    have e2 := e1.trans (Ext.new (L := []) (o := .tup []) ht)
    have dt : d ≠ t := fun z => by rw [← z, upd_same] at ht; cases ht
    refine ⟨by rw [upd_ne dt, upd_same], [(kN 0, .ref t)], rfl, (by show 1 ≤ 15; decide), ?_⟩
    have e3 := e2.put (o := .dK (mergeK [] [(kN 0, .ref t)])) hd
    have hd3 : upd (upd (upd H d (.dK [])) t (.tup [])) d (.dK (mergeK [] [(kN 0, .ref t)])) d = some (.dK [(kN 0, .ref t)]) := upd_same
    have ht3 : upd (upd (upd H d (.dK [])) t (.tup [])) d (.dK (mergeK [] [(kN 0, .ref t)])) t = some (.tup []) := by rw [upd_ne dt.symm, upd_same]
    generalize upd (upd (upd H d (.dK [])) t (.tup [])) d (.dK (mergeK [] [(kN 0, .ref t)])) = H3 at *
    -- order = [0]
    refine ⟨_, rfl, (by show 1 ≤ sizeLine; decide), fun o ho => ?_⟩
    have ho0 : H o = none := e3.free ho
    have od : d ≠ o := ne_of_none hd3 ho
    have e4 := e3.put2 (o := .lst [.int 0]) ho
    -- the loop
    let Row : Hp → Nat → V → Prop := fun H' m v => ∃ (x : Addr) (xs : List V), v = .ref x ∧ SqT K H' x xs ∧ xs.length ≤ m
    refine ⟨fun m σ H' => ∃ (F : List Nat) (kvs : List (Key × V)) (i : Nat) (y4 y5 y6 : Option V), σ = [some (.ref a), some (.int 0), some (.ref d), some (.ref o), some (.int i), y4, y5, y6] ∧ MetIO b F i ∧ m = b.length - i ∧ H' o = some (.lst (F.map nV)) ∧ H' d = some (.dK kvs) ∧ kvs.map (·.1) = F.map kN ∧ (∀ e ∈ kvs, Row H' F.length e.2) ∧ Ext [] H H',
      ⟨_, [0], [(kN 0, .ref t)], 0, _, _, _, rfl, .first ok.one, rfl, upd_same, by rw [upd_ne od]; exact hd3, rfl, fun e he => ?_, e4⟩, ?_⟩
    · obtain rfl := List.mem_singleton.mp he
      have ot : t ≠ o := ne_of_none ht3 ho
      exact ⟨t, [], rfl, .of (by rw [upd_ne ot]; exact ht3), Nat.zero_le _⟩
    rintro m σ H' ⟨F, kvs, i, y4, y5, y6, rfl, mi, rfl, hF, hD, hk, hrow, e⟩
    have Fle : F.length ≤ b.length := nodup_le mi.nd mi.lt
    refine ⟨_, rfl, _, rfl, o, _, rfl, .inl (.of hF), _, _, rfl, rfl, _, rfl, ite2 (fun z => ?_) (fun z => ?_)⟩
    · have z := of_decide_eq_true z
      rw [List.length_map] at z
      have hiF : i < F.length := by omega
      have hs : F[i]? = some F[i] := List.getElem?_eq_getElem hiF
      generalize F[i] = x at hs
      have gx : (stB b i)[i]? = some x := by rw [← mi.eq]; exact hs
      have hx : x < b.length := mi.lt x (List.mem_of_getElem? hs)
      obtain ⟨u, hu, c, ps, rfl, hc, hps⟩ := Paired.get hls (mvs_lt hx)
      have plen := Paired.len hps
      refine ⟨fun σ H' => ∃ (F : List Nat) (kvs : List (Key × V)) (y4 y5 y6 : Option V), σ = [some (.ref a), some (.int 0), some (.ref d), some (.ref o), some (.int (i + 1 : Nat)), y4, y5, y6] ∧ MetIO b F (i + 1) ∧ H' o = some (.lst (F.map nV)) ∧ H' d = some (.dK kvs) ∧ kvs.map (·.1) = F.map kN ∧ (∀ e ∈ kvs, Row H' F.length e.2) ∧ Ext [] H H', ?_, ?_⟩
      · rintro σ' H' ⟨F, kvs, y4, y5, y6, rfl, mi, r⟩
        exact ⟨b.length - (i + 1), by omega, F, kvs, i + 1, _, _, _, rfl, mi, rfl, r⟩
      refine ⟨_, rfl, _, rfl, o, _, _, _, rfl, rfl, .of hF, atI_nat (at_map hs), ?_⟩
      refine ⟨_, rfl, _, _, rfl, rfl, ?_⟩
      refine ⟨_, rfl, _, rfl, a, _, _, _, rfl, rfl, e.tup Lsts.nil ha, atI_nat hu, c, rfl, ⟨_, (e.tup Lsts.nil hc)⟩, ?_⟩
      refine for_tup (K := K) (a := c) (xs := ps.map V.ref) (fun k σ H' => ∃ (F : List Nat) (kvs : List (Key × V)) (y5 y6 : Option V), σ = [some (.ref a), some (.int 0), some (.ref d), some (.ref o), some (.int ((i : Int) + 1)), some (nV x), y5, y6] ∧ MetWO b F i x k ∧ H' o = some (.lst (F.map nV)) ∧ H' d = some (.dK kvs) ∧ kvs.map (·.1) = F.map kN ∧ (∀ e ∈ kvs, Row H' F.length e.2) ∧ Ext [] H H')
        ⟨F, kvs, _, _, rfl, mi.begin hs, hF, hD, hk, hrow, e⟩ (fun k σ H' _ ⟨_, _, _, _, _, _, _, _, _, _, e⟩ => (e.tup Lsts.nil hc)) ?_ ?_
      · rintro k v σ H' hv ⟨F, kvs, y5, y6, rfl, mw, hF, hD, hk, hrow, e⟩
        obtain ⟨g, hg, rfl⟩ := map_at hv
        obtain ⟨p, hp, hcp⟩ := Paired.get' hps hg
        have hcp := hcp.ext0 e
        have Fle : F.length ≤ b.length := nodup_le mw.nd mw.lt
        have pb : p.2 < b.length := ok.to (List.mem_of_getElem? hp)
        refine ⟨g, _, rfl, hcp, rfl, _, _, rfl, _, _, rfl, rfl, ?_⟩
        refine ⟨_, rfl, _, rfl, d, _, rfl, DGet.k (k := kN p.2) hD, _, rfl, ?_⟩
        rw [valV_key hk]
        by_cases hin : p.2 ∈ F
        · rw [decide_eq_true hin]
          exact iteF ⟨F, kvs, _, _, rfl, mw.skip hp hin, hF, hD, hk, hrow, e⟩
        · rw [decide_eq_false hin]
          refine iteT ?_
          -- rows[state] + (message,)
          have xin : x ∈ F := List.mem_of_getElem? mw.here
          have hsome : (valV kvs (kN x)).isSome = true := by rw [valV_key hk]; exact decide_eq_true xin
          obtain ⟨rv, hrv⟩ := Option.isSome_iff_exists.mp hsome
          obtain ⟨r, rs, er, hr1, hr2⟩ := hrow _ (valV_mem hrv)
          have er : rv = .ref r := er
          subst er
          have newk : valV kvs (kN p.2) = none := by
            have := valV_key hk p.2
            rw [decide_eq_false hin] at this
            cases h : valV kvs (kN p.2) with
            | none => rfl
            | some z => rw [h] at this; cases this
          have klen : kvs.length = F.length := by have := congrArg List.length hk; simpa using this
          -- behind the new row: the dict, the list
          have fin : ∀ (nr : Addr) (ys : List V) (H4 : Hp), Ext [] H' H4 → SqT K H4 nr ys → ys.length ≤ F.length + 1 → ∃ H5, DPut H4 d (.int p.2) (.ref nr) H5 ∧
              ∃ q5 : H5 = upd H4 d (.dK (kvs ++ [(kN p.2, .ref nr)])), H5 o = some (.lst (F.map nV)) ∧ H5 d = some (.dK (kvs ++ [(kN p.2, .ref nr)])) ∧ (∀ e ∈ kvs ++ [(kN p.2, .ref nr)], Row H5 (F.length + 1) e.2) ∧ Ext [] H H5 := by
            intro nr ys H4 e4 hn hl
            have hD4 := e4.at hD (by simp)
            have hF4 := e4.at hF (by simp)
            refine ⟨_, DPut.k (k := kN p.2) hD4 (small1000 (by omega)), by rw [putK_new _ newk], ?_⟩
            rw [putK_new _ newk]
            have ee : Ext [d] H4 (upd H4 d (.dK (kvs ++ [(kN p.2, .ref nr)]))) := .wr (by simp)
            refine ⟨by rw [upd_ne od.symm]; exact hF4, upd_same, fun z hz => ?_, (e.trans e4).put hd⟩
            rcases List.mem_append.mp hz with hz | hz
            · obtain ⟨x, xs, h1, h2, h3⟩ := hrow z hz
              exact ⟨x, xs, h1, ee.tup (one_dk hD4) (e4.tup Lsts.nil h2), by omega⟩
            · obtain rfl := List.mem_singleton.mp hz
              exact ⟨nr, ys, rfl, ee.tup (one_dk hD4) hn, hl⟩
          have last : ∀ (nr : Addr) (H5 : Hp), H5 o = some (.lst (F.map nV)) → H5 d = some (.dK (kvs ++ [(kN p.2, .ref nr)])) → (∀ e ∈ kvs ++ [(kN p.2, .ref nr)], Row H5 (F.length + 1) e.2) → Ext [] H H5 →
              ∃ (F' : List Nat) (kvs' : List (Key × V)) (y5 y6 : Option V), [some (.ref a), some (.int 0), some (.ref d), some (.ref o), some (.int ((i : Int) + 1)), some (nV x), some (.int p.1), some (.int p.2)] = [some (.ref a), some (.int 0), some (.ref d), some (.ref o), some (.int ((i : Int) + 1)), some (nV x), y5, y6] ∧
                MetWO b F' i x (k + 1) ∧ upd H5 o (.lst (F.map nV ++ [.int p.2])) o = some (.lst (F'.map nV)) ∧ upd H5 o (.lst (F.map nV ++ [.int p.2])) d = some (.dK kvs') ∧ kvs'.map (·.1) = F'.map kN ∧ (∀ e ∈ kvs', Row (upd H5 o (.lst (F.map nV ++ [.int p.2]))) F'.length e.2) ∧ Ext [] H (upd H5 o (.lst (F.map nV ++ [.int p.2]))) := by
            intro nr H5 h1 h2 h3 h4
            refine ⟨F ++ [p.2], kvs ++ [(kN p.2, .ref nr)], _, _, rfl, mw.push hp hin pb, by rw [upd_same, List.map_append]; rfl, by rw [upd_ne od]; exact h2, by rw [List.map_append, List.map_append, hk]; rfl, fun z hz => ?_, h4.put ho0⟩
            obtain ⟨x, xs, g1, g2, g3⟩ := h3 z hz
            exact ⟨x, xs, g1, Ext.tup (L := [o]) (.wr (by simp)) (one_lst h1) g2, by rw [List.length_append]; exact g3⟩
          refine ⟨_, rfl, _, rfl, d, _, rfl, by rw [← hrv]; exact DGet.k (k := kN x) hD, _, rfl, (by show 1 ≤ sizeLine; decide), fun g2 hg2 => ?_⟩
          have e5 : Ext [] H' (upd H' g2 (.tup [.int p.1])) := .new hg2
          refine ⟨r, g2, rs, _, rfl, rfl, e5.tup Lsts.nil hr1, .of upd_same, ?_, fun h0 => ?_, fun _ h0 => (by cases h0), fun _ _ g3 hg3 => ?_⟩
          · show rs.length + 1 ≤ sizeLine
            exact Nat.le_of_lt (small1000 (by omega))
          · obtain ⟨H5, dp, _, f1, f2, f3, f4⟩ := fin g2 [.int p.1] _ e5 (.of upd_same) (by simp)
            refine ⟨_, rfl, _, rfl, d, H5, rfl, dp, ?_⟩
            exact ⟨_, rfl, .inl ⟨rfl, _, .of f1⟩, _, rfl, o, _, _, rfl, rfl, f1, by rw [List.length_map]; exact small1000 (by omega), last g2 H5 f1 f2 f3 f4⟩
          · obtain ⟨H5, dp, _, f1, f2, f3, f4⟩ := fin g3 (rs ++ [.int p.1]) _ (e5.put2 hg3) (.of upd_same) (by rw [List.length_append]; show rs.length + 1 ≤ _; omega)
            refine ⟨_, rfl, _, rfl, d, H5, rfl, dp, ?_⟩
            exact ⟨_, rfl, .inl ⟨rfl, _, .of f1⟩, _, rfl, o, _, _, rfl, rfl, f1, by rw [List.length_map]; exact small1000 (by omega), last g3 H5 f1 f2 f3 f4⟩
      · rintro σ H' ⟨F, kvs, y5, y6, rfl, mw, hF, hD, hk, hrow, e⟩
        exact ⟨F, kvs, _, _, _, by rw [Int.natCast_add]; rfl, mw.done gx (by rw [List.length_map, plen]; exact Nat.le_refl _), hF, hD, hk, hrow, e⟩
    · have z : ¬ ((i : Int) < ((F.map nV).length : Int)) := fun y => z (decide_eq_true y)
      rw [List.length_map] at z
      have := mi.le
      exact ⟨_, rfl, q F kvs d H' (mi.met (by omega)) hk hD e⟩

theorem sc_by_meeting : FnScope ["states", "order", "number", "k", "state", "message", "to"] ["states"] (defScope s_by_meeting) := ⟨rfl, rfl, rfl, by decide +kernel, rfl, by decide +kernel, by decide +kernel⟩
def sp_by_meeting (K : PySem.W.Frag) : Sp := fun vs H Q _ => ∃ (v : V) (b : Book), vs = [v] ∧ BkW K H v b ∧ FormB b ∧ ∀ (v' : V) (H' : Hp), BkV K H' v' (rename b (ordB b)) → Ext [] H H' → Q v' H'
theorem ok_by_meeting (T : Tx K mg) : FnOk P w K mg base CX0 3 T.by_meeting.f T.by_meeting.fd ["states"] (sp_by_meeting K) := by
  refine T.by_meeting.F.ok sc_by_meeting (fun vs H Q E h => ?_) (fun cdv A outer s H vs Q E hr h => ?_)
  · obtain ⟨v, b, rfl, _⟩ := h; rfl
  · obtain ⟨v, b, rfl, hw, fb, q⟩ := h
    obtain ⟨m, ls, rfl, hm, hls⟩ := id hw
    have h8 := fb.eight
    refine ⟨_, (pss_cons (ps_set (i := 1) sc_by_meeting.nd rfl (.inl rfl) (pe_callTy (call_list_dK rfl) (by rfl) T.n_list (by decide +kernel) (pa_cons (pe_call (okO_first_rows T) (hr.mono (by decide)) (by rfl) T.first_rows.g T.first_rows.F.kp T.first_rows.bD.choose_spec.2 T.first_rows.bD.choose_spec.1 pass0 (pa_cons (pv 0) pa_nil)) pa_nil)))
      (pss_cons (ps_set (i := 2) sc_by_meeting.nd rfl (.inr rfl) (pe_dc (own := [("k", 3), ("state", 4)]) rfl sc_by_meeting.nd (pi_enum (by rfl) T.n_enumerate (pa_cons (pv 1) pa_nil)) (blkOk_by (own := [("k", 3), ("state", 4)]) (N := ["states", "order", "number", "k", "state", "message", "to"]) (sc := defScope s_by_meeting) (by decide +kernel)) (fun _ _ _ _ _ => (pg_tupK (n := 2) K rfl (pgs_cons (pg_name (i := 3) sc_by_meeting.nd rfl (.inl rfl)) (pgs_cons (pg_name (i := 4) sc_by_meeting.nd rfl (.inl rfl)) pgs_nil)))) (fun _ _ _ _ _ => pts_nil) (fun _ _ _ _ _ => (pv 4)) (fun _ _ _ _ _ => (pv 3))))
      (pss_one (ps_ret (pe_callTy call_tupZ (by rfl) T.n_tuple (by decide +kernel) (pa_cons (pe_lc (own := [("state", 4)]) rfl sc_by_meeting.nd (pi_list (pv 1)) (blkOk_by (own := [("state", 4)]) (N := ["states", "order", "number", "k", "state", "message", "to"]) (sc := defScope s_by_meeting) (by decide +kernel)) (fun _ _ _ _ _ => (pg_name (i := 4) sc_by_meeting.nd rfl (.inl rfl))) (fun _ _ _ _ _ => pts_nil) (fun _ _ _ _ _ => (pe_callTy (call_tupZK K) (by rfl) T.n_tuple (by decide +kernel) (pa_cons (pe_lc (own := [("message", 5), ("to", 6)]) rfl sc_by_meeting.nd (pi_tupK K (pe_ix (ix_tupK K) (pv 0) (pv 4) (fun _ _ => rfl))) (blkOk_by (own := [("message", 5), ("to", 6)]) (by kernel_rfl)) (fun _ _ _ _ _ => (pg_tupK (n := 2) K rfl (pgs_cons (pg_name (i := 5) sc_by_meeting.nd rfl (.inl rfl)) (pgs_cons (pg_name (i := 6) sc_by_meeting.nd rfl (.inl rfl)) pgs_nil)))) (fun _ _ _ _ _ => pts_nil) (fun _ _ _ _ _ => (pe_tup (pa_cons (pv 5) (pa_cons (pe_dget (hu_of hr) (pv 2) (pv 6) (fun _ _ => rfl)) pa_nil))))) pa_nil)))) pa_nil)))))), ?_⟩
    refine ⟨_, rfl, _, b, rfl, hw, fb, fun F kvs d H1 mo hk hd e1 => ⟨d, kvs, rfl, hd, fun f hf => ?_⟩⟩
    have eF : (kvs.map fun kv => kV kv.1) = F.map nV := by
      have : (kvs.map fun kv => kV kv.1) = (kvs.map (·.1)).map kV := by rw [List.map_map]; rfl
      rw [this, hk, List.map_map]
      rfl
    rw [eF]
    have ef : Ext [] H1 (upd H1 f (.lst (F.map nV))) := .new hf
    have hF2 : upd H1 f (.lst (F.map nV)) f = some (.lst (F.map nV)) := upd_same
    have e2 := e1.trans ef
    clear hf ef
    generalize upd H1 f (.lst (F.map nV)) = H2 at *
    have hl8 : F.length ≤ 8 := Nat.le_trans (nodup_le mo.nd mo.lt) h8
    -- number = {state: k ..}
    refine ⟨_, rfl, f, _, rfl, .of hF2, fun N hN => ?_⟩
    refine dc_it (walk_enum (K := K) (a := f) (xs := F.map nV)) (fun i H' => H' N = some (.dK (placesK (F.take i))) ∧ Ext [] H2 H') ⟨by simp [placesK]; exact upd_same, .new hN⟩ (fun i H' _ ⟨_, e⟩ => .of (e.at hF2 (by simp))) ?_ ?_
    · rintro i v H3 H' hi ⟨hX, e⟩ ⟨t, x, y, rfl, nt, rfl, hx, hy⟩
      cases hx
      obtain ⟨s, hs, rfl⟩ := map_at (show (F.map nV)[i]? = some y from hy)
      have e3 := e.put2 (o := .tup [.int i, nV s]) nt
      have hX3 : upd H3 t (.tup [.int i, nV s]) N = _ := (upd_ne (ne_of_none hX nt)).trans hX
      have hiF : i < F.length := (List.getElem?_eq_some_iff.mp hs).1
      refine ⟨t, _, rfl, .of upd_same, rfl, _, _, rfl, _, _, rfl, rfl, rfl, yes ?_⟩
      refine ⟨_, rfl, _, rfl, placesK (F.take i), kN s, rfl, hX3, ?_, ?_, e3.put hN⟩
      · rw [placesK_len, List.length_take]
        exact small1000 (by omega)
      · have hnew : s ∉ F.take i := fun z => by
          obtain ⟨j, hj, ej⟩ := List.mem_iff_getElem.mp z
          rw [List.getElem_take] at ej
          rw [List.length_take] at hj
          have a1 := idx_of mo.nd hs
          have a2 := idx_of mo.nd (j := j) (s := s) (by rw [List.getElem?_eq_getElem (by omega), ej])
          omega
        have hp := placesK_put hnew
        rw [List.length_take, Nat.min_eq_left (Nat.le_of_lt hiF)] at hp
        rw [upd_same, List.take_add_one, hs]
        exact congrArg (fun z => some (HO.dK z)) hp
    · rintro H3 ⟨hN3, e3⟩
      rw [List.length_map, List.take_length] at hN3
      have hF3 := e3.at hF2 (by simp)
      have f3 := e2.trans e3
      have hw3 := hw.ext0 f3
      clear hN
      -- the new book
      refine ⟨_, rfl, f, rfl, ⟨_, .of hF3⟩, fun D hD => ?_⟩
      have fD : f ≠ D := ne_of_none hF3 hD
      have ND : N ≠ D := ne_of_none hN3 hD
      have hDH : H D = none := f3.free hD
      refine lc_list (K := K) (a := f) (xs := F.map nV) (fun i H' => ∃ vs : List V, H' D = some (.lst vs) ∧ Paired (StV K H') vs ((rename b F).take i) ∧ Ext [] H H' ∧ H' f = some (.lst (F.map nV)) ∧ H' N = some (.dK (placesK F))) ⟨[], upd_same, .nil, f3.put2 hD, by rw [upd_ne fD]; exact hF3, by rw [upd_ne ND]; exact hN3⟩ (fun i H' _ ⟨_, _, _, _, h, _⟩ => .of h) ?_ ?_
      · rintro i v H' hv ⟨vs, hDv, hpd, e, hF', hN'⟩
        obtain ⟨x, hx, rfl⟩ := map_at hv
        have hxb : x < b.length := mo.lt x (List.mem_of_getElem? hx)
        obtain ⟨u, hu, a, ps, rfl, ha, hps⟩ := Paired.get hls (mvs_lt hxb)
        have plen : ps.length = (mvs b x).length := Paired.len hps
        have five := (fb.ok hxb).few
        refine ⟨rfl, yes ?_⟩
        refine ⟨_, rfl, _, rfl, m, _, _, _, rfl, rfl, e.tup Lsts.nil hm, atI_nat hu, a, rfl, ⟨_, e.tup Lsts.nil ha⟩, fun D2 hD2 => ?_⟩
        have hD2H : H D2 = none := e.free hD2
        have n1 : D ≠ D2 := ne_of_none hDv hD2
        have n2 : f ≠ D2 := ne_of_none hF' hD2
        refine lc_tup (K := K) (a := a) (xs := ps.map V.ref) (fun k H2 => ∃ qs : List Addr, H2 D2 = some (.lst (qs.map V.ref)) ∧ Paired (MvV K H2) qs (((mvs b x).take k).map fun p => (p.1, F.idxOf p.2)) ∧ Ext [] H' H2) ⟨[], upd_same, .nil, .new hD2⟩ (fun k H2 _ ⟨_, _, _, e2⟩ => (e.trans e2).tup Lsts.nil ha) ?_ ?_
        · rintro k v H2 hv ⟨qs, hq, hqp, e2⟩
          obtain ⟨c, hc, rfl⟩ := map_at hv
          obtain ⟨p, hp, hcp⟩ := Paired.get' hps hc
          have hcp := hcp.ext0 (e.trans e2)
          have hN2 := e2.at hN' (by simp)
          have pin : p.2 ∈ F := mo.cl x (List.mem_of_getElem? hx) p (List.mem_of_getElem? hp)
          refine ⟨c, _, rfl, hcp, rfl, _, _, rfl, _, _, rfl, rfl, rfl, yes ?_⟩
          refine ⟨_, rfl, _, rfl, _, rfl, N, nV (F.idxOf p.2), rfl, by rw [← placesK_val mo.nd pin]; exact DGet.k (k := kN p.2) hN2, ?_⟩
          refine ⟨(by show 2 ≤ sizeLine; decide), fun t ht => ?_⟩
          have tD2 : D2 ≠ t := ne_of_none hq ht
          have e3 : Ext [] H2 (upd H2 t (.tup [.int p.1, .int (F.idxOf p.2 : Nat)])) := .new ht
          refine ⟨_, e3.at hq (by simp), ?_, qs ++ [t], by rw [upd_same, List.map_append]; rfl, ?_, (e2.trans e3).put hD2⟩
          · rw [List.length_map, Paired.len hqp, List.length_map, List.length_take]
            exact small1000 (by omega)
          · rw [List.take_add_one, hp, List.map_append]
            refine Paired.snoc ?_ (Paired.imp hqp fun _ _ z => (z.ext0 e3).put (e3.at hq (by simp)))
            exact MvV.put (m := (p.1, F.idxOf p.2)) (.of upd_same) (e3.at hq (by simp))
        · rintro H2 ⟨qs, hq, hqp, e2⟩
          have ek : (mvs b x).take (ps.map V.ref).length = mvs b x := List.take_of_length_le (by rw [List.length_map, plen]; exact Nat.le_refl _)
          rw [ek] at hqp
          refine ⟨D2, _, rfl, .of hq, fun t H3 ht hH3 => ?_⟩
          obtain ⟨o, od, rfl⟩ := hH3
          have e3 : Ext [] H2 (upd H2 t (.frz o (.tup (qs.map V.ref)))) := .new ht
          have e4 := e2.trans e3
          refine ⟨vs, e4.at hDv (by simp), ?_, vs ++ [.ref t], upd_same, ?_, (e.trans e4).put hDH, by rw [upd_ne fD]; exact e4.at hF' (by simp), by rw [upd_ne ND]; exact e4.at hN' (by simp)⟩
          · rw [Paired.len hpd, List.length_take]
            exact small1000 (by rw [rename_len]; omega)
          · have hr' : (rename b F)[i]? = some ((mvs b x).map fun p => (p.1, F.idxOf p.2)) := by
              unfold rename
              rw [List.getElem?_map, hx]
              rfl
            rw [List.take_add_one, hr']
            have hDe := e4.at hDv (by simp)
            refine Paired.snoc ?_ (Paired.imp hpd fun _ _ z => (z.ext0 e4).put hDe)
            exact StV.put ⟨t, qs, rfl, ⟨o, upd_same, od⟩, Paired.imp hqp fun _ _ z => z.ext0 e3⟩ hDe
      · rintro H' ⟨vs, hDv, hpd, e, hF', _⟩
        refine ⟨D, vs, rfl, .of hDv, fun t H3 ht hH3 => ?_⟩
        obtain ⟨o, od, rfl⟩ := hH3
        have e3 : Ext [] H' (upd H' t (.frz o (.tup vs))) := .new ht
        have ek : (rename b F).take (F.map nV).length = rename b F := List.take_of_length_le (by rw [List.length_map, rename_len]; exact Nat.le_refl _)
        rw [ek, mo.eq] at hpd
        exact q _ _ ⟨t, vs, rfl, .inl (.inr ⟨o, upd_same⟩), Paired.imp hpd fun _ _ z => z.ext0 e3⟩ (e.trans e3)
theorem FnOk.calmT {P : Program} {w : World} {K : PySem.W.Frag} {mg : Str → Option Value} {base : Heap} {k : Nat} {f : Addr} {fd : FuncData} {ps : List Str} {sp : Sp} (F : FnOk P w K mg base (L2.CX P w) k f fd ps sp) : FnOk P w K mg base CX0 k f fd ps (fun vs H Q _ => sp vs H Q fun _ _ _ => False) :=
  ⟨fun vs H Q E h => F.len vs H Q _ h, fun A outer s H args us vs Q E a b c d h => codeAny_mono (F.run A outer s H args us vs Q _ a b c d h) fun r s' z => by
    cases r with
    | error e =>
      obtain ⟨_, _, _, _, _, _, _, _, _, _, _, _, x⟩ := z
      exact x.elim
    | ok fl => cases fl <;> exact z⟩
theorem dp_stsB {K : PySem.W.Frag} {H : Hp} : ∀ {vs : List V} {b : Book}, Paired (StW K H) vs b → DpAll K H vs (b.map stD)
  | _, _, .nil => .nil
  | _, _, .cons r t => by
    obtain ⟨c, ps, rfl, h1, h2⟩ := r
    exact .cons (.tup h1 (dp_mvs h2)) (dp_stsB t)
theorem BkW.dp {K : PySem.W.Frag} {H : Hp} {v : V} {b : Book} (h : BkW K H v b) : Dp K H v (bookD b) := by
  obtain ⟨a, vs, rfl, h1, h2⟩ := h
  exact .tup h1 (dp_stsB h2)

theorem okC_check_form (T : Tx K mg) : FnOk P w K mg base CX0 4 T.check_form.f T.check_form.fd ["thing"] (fun vs H Q _ => sp_check_formX K T.x_BadBook.C vs H Q fun _ _ _ => False) := FnOk.calmT (okX_check_form T)
theorem sc_trimmed : FnScope ["thing"] ["thing"] (defScope s_trimmed) := ⟨rfl, rfl, rfl, by decide +kernel, rfl, by decide +kernel, by decide +kernel⟩
def sp_trimmed (K : PySem.W.Frag) : Sp := sp_by_meeting K
theorem ok_trimmed (T : Tx K mg) : FnOk P w K mg base CX0 5 T.trimmed.f T.trimmed.fd ["thing"] (sp_trimmed K) := by
  refine T.trimmed.F.ok sc_trimmed (fun vs H Q E h => ?_) (fun cdv A outer s H vs Q E hr h => ?_)
  · obtain ⟨v, b, rfl, _⟩ := h; rfl
  · obtain ⟨v, b, rfl, hw, fb, q⟩ := h
    refine ⟨_, (pss_cons (ps_expr (pe_call (okC_check_form T) (hr.mono (by decide)) (by rfl) T.check_form.g T.check_form.F.kp T.check_form.b .nil pass0 (pa_cons (pv 0) pa_nil)))
      (pss_one (ps_ret (pe_call (ok_by_meeting T) (hr.mono (by decide)) (by rfl) T.by_meeting.g T.by_meeting.F.kp T.by_meeting.b .nil pass0 (pa_cons (pv 0) pa_nil))))), ?_⟩
    exact ⟨_, rfl, v, bookD b, rfl, hw.dp, fun _ => ⟨_, rfl, v, b, rfl, hw, fb, q⟩, fun e he => (by rw [form_none fb] at he; cases he)⟩
def sp_trimmedX (K : PySem.W.Frag) (CB : Addr) : Sp := fun vs H _ E => ∃ (v : V) (d : PyData) (e : Int), vs = [v] ∧ Dp K H v d ∧ formErr d = some e ∧ Outs H E CB e
theorem okX_trimmed (T : Tx K mg) : FnOk P w K mg base (L2.CX P w) 5 T.trimmed.f T.trimmed.fd ["thing"] (sp_trimmedX K T.x_BadBook.C) := by
  refine T.trimmed.F.okX sc_trimmed (fun vs H Q E h => ?_) (fun cdv A outer s H vs Q E hr h => ?_)
  · obtain ⟨v, d, e, rfl, _⟩ := h; rfl
  · obtain ⟨v, d, e, rfl, hd, he, q⟩ := h
    refine ⟨_, (pss_cons (ps_expr (pe_call (okX_check_form T) (hr.mono (by decide)) (by rfl) T.check_form.g T.check_form.F.kp T.check_form.b .nil (passes_call (takes_of rfl rfl rfl rfl) (fun _ _ _ _ h => h)) (pa_cons (pv 0) pa_nil)))
      (PSs.nox (pss_one (ps_ret (pe_call (ok_by_meeting T) (hr.mono (by decide)) (by rfl) T.by_meeting.g T.by_meeting.F.kp T.by_meeting.b .nil pass0 (pa_cons (pv 0) pa_nil)))))), ?_⟩
    exact ⟨_, rfl, v, d, rfl, hd, fun h => (by rw [he] at h; cases h), fun e2 he2 dx nd => (by rw [he] at he2; cases he2; exact q dx _ nd ⟨_, upd_same⟩ (.new nd))⟩
end
end Nv
set_option Elab.async false
set_option linter.all false
set_option maxRecDepth 100000
namespace Nv
open PySem PySem.Spec PyProof.Rows L2
section
variable {P : Program} {w : World} {K : PySem.W.Frag} {mg : Str → Option Value} {base : Heap}
/-! ### what stays where lambdas are made -/
theorem Ext.tabs {L : List Addr} {H H' : Hp} {P : Addr} {q : Str} (e : Ext L H H') (hL : ∀ x ∈ L, ∀ o, H x = some o → (∃ xs, o = .lst xs)) (t : LamX.Tabs [(P, q)] H) : LamX.Tabs [(P, q)] H' := fun z hz => by
  rw [List.mem_singleton.mp hz]
  obtain ⟨ps, h1, h2, h3⟩ := t (P, q) (List.mem_singleton.mpr rfl)
  refine ⟨ps, e _ _ (fun z => ?_) h1, h2, fun pos cv hc => ?_⟩
  · obtain ⟨xs, e⟩ := hL _ z _ h1
    cases e
  · obtain ⟨c, e1, e2⟩ := h3 pos cv hc
    refine ⟨c, e1, e _ _ (fun z => ?_) e2⟩
    obtain ⟨xs, e⟩ := hL _ z _ e2
    cases e
theorem PoolAt.only {H : Hp} {p l : Addr} (h : PoolAt H p l) : ∀ x ∈ [p, l], ∀ o, H x = some o → (∃ xs, o = .lst xs) := by
  obtain ⟨_, x, y, ls, h1, h2, _⟩ := h
  intro z hz o ho
  rcases List.mem_cons.mp hz with rfl | hz
  · rw [h1] at ho
    cases ho
    exact ⟨_, rfl⟩
  · rw [List.mem_singleton.mp hz, h2] at ho
    cases ho
    exact ⟨_, rfl⟩
theorem PoolAt.extN {H H' : Hp} {p l : Addr} (h : PoolAt H p l) (e : LamX.ExtN H H') : PoolAt H' p l := by
  obtain ⟨n, x, y, ls, h1, h2, r⟩ := h
  exact ⟨n, x, y, ls, e _ _ h1 (fun ps z => nomatch z), e _ _ h2 (fun ps z => nomatch z), r⟩
theorem ext_toN {H H' : Hp} (e : Ext [] H H') : LamX.ExtN H H' := .of e.toSame
theorem fd_of {name : Str} {st : Stmt} {ps : List Str} (D : DefAt K mg name st ps) {fd' : FuncData} {oc : Value} {od : Option Addr} {osl : Array (Option Value)} (lk : K.lookup D.f = some ⟨oc, od, .func fd', osl⟩) : D.fd = fd' := by
  obtain ⟨oc', od', kV, doc, pm, an, cdv, ct, osl', hfd, lk', cd'⟩ := D.F.ex
  rw [lk] at lk'
  have h := Option.some.inj lk'
  injection h with h1 h2 h3 h4
  injection h3 with h3
  exact h3.symm
theorem cutDrop (xs : List V) : cutV xs (some 1) none = xs.drop 1 := by
  unfold cutV
  cases xs with
  | nil => simp
  | cons x r => simp [HT.sIx]
theorem dpAll_drop {K : PySem.W.Frag} {H : Hp} : ∀ {vs : List V} {ds : List PyData} (n : Nat), DpAll K H vs ds → DpAll K H (vs.drop n) (ds.drop n)
  | _, _, 0, h => h
  | _, _, n + 1, .nil => .nil
  | _, _, n + 1, .cons _ t => dpAll_drop n t
end
end Nv
set_option Elab.async false
set_option linter.all false
set_option maxRecDepth 100000
namespace Nv
open PySem PySem.Spec PyProof.Rows L2
section
variable {P : Program} {w : World} {K : PySem.W.Frag} {mg : Str → Option Value} {base : Heap}
/-! ### what stays where lambdas are made: data -/
theorem extN_of {L : List Addr} {H H' : Hp} (e : Ext L H H') (n : ∀ b ∈ L, ∃ ps, H b = some (.tbl ps)) : LamX.ExtN H H' := fun b o h k => e b o (fun z => by
  obtain ⟨ps, q⟩ := n b z
  rw [h] at q
  exact k ps (Option.some.inj q)) h
theorem ExtN.tup {H H' : Hp} {K : PySem.W.Frag} {a : Addr} {xs : List V} (e : LamX.ExtN H H') (h : SqT K H a xs) : SqT K H' a xs := by
  rcases h with (h | ⟨o, h⟩) | h
  · exact .inl (.inl (e _ _ h fun ps z => nomatch z))
  · exact .inl (.inr ⟨o, e _ _ h fun ps z => nomatch z⟩)
  · exact .inr h
theorem ExtN.lst {H H' : Hp} {K : PySem.W.Frag} {a : Addr} {xs : List V} (e : LamX.ExtN H H') (h : SqL K H a xs) : SqL K H' a xs := by
  rcases h with (h | ⟨o, h⟩) | h
  · exact .inl (.inl (e _ _ h fun ps z => nomatch z))
  · exact .inl (.inr ⟨o, e _ _ h fun ps z => nomatch z⟩)
  · exact .inr h
mutual
theorem Dp.extN {K : PySem.W.Frag} {H H' : Hp} (e : LamX.ExtN H H') : ∀ {v : V} {d : PyData}, Dp K H v d → Dp K H' v d
  | _, _, .non => .non
  | _, _, .bl b => .bl b
  | _, _, .int i => .int i
  | _, _, .str x => .str x
  | _, _, .lst h t => .lst (ExtN.lst e h) (DpAll.extN e t)
  | _, _, .tup h t => .tup (ExtN.tup e h) (DpAll.extN e t)
theorem DpAll.extN {K : PySem.W.Frag} {H H' : Hp} (e : LamX.ExtN H H') : ∀ {vs : List V} {ds : List PyData}, DpAll K H vs ds → DpAll K H' vs ds
  | _, _, .nil => .nil
  | _, _, .cons h t => .cons (Dp.extN e h) (DpAll.extN e t)
end
theorem MvV.extN {K : PySem.W.Frag} {H H' : Hp} (e : LamX.ExtN H H') {p : Addr} {m : Nat × Nat} (h : MvV K H p m) : MvV K H' p m := ExtN.tup e h
theorem StV.extN {K : PySem.W.Frag} {H H' : Hp} (e : LamX.ExtN H H') {v : V} {s : State} (h : StV K H v s) : StV K H' v s := by
  obtain ⟨a, ps, rfl, ⟨o, h1, hd⟩, h2⟩ := h
  exact ⟨a, ps, rfl, ⟨o, e _ _ h1 fun ps z => (nomatch z), hd⟩, Paired.imp h2 fun _ _ q => q.extN e⟩
theorem BkV.extN {K : PySem.W.Frag} {H H' : Hp} (e : LamX.ExtN H H') {v : V} {b : Book} (h : BkV K H v b) : BkV K H' v b := by
  obtain ⟨a, vs, rfl, h1, h2⟩ := h
  exact ⟨a, vs, rfl, ExtN.tup e h1, Paired.imp h2 fun _ _ q => q.extN e⟩
theorem PoolAt.not_tbl {H : Hp} {p l q : Addr} {ts : Array Value} (h : PoolAt H p l) (t : H q = some (.tbl ts)) : q ∉ [p, l] := by
  obtain ⟨_, x, y, ls, h1, h2, _⟩ := h
  refine off2 (fun z => ?_) (fun z => ?_)
  · rw [z, h1] at t; cases t
  · rw [z, h2] at t; cases t
end
end Nv
set_option Elab.async false
set_option linter.all false
set_option maxRecDepth 100000
namespace Nv
open PySem PySem.Spec PyProof.Rows L2
section
variable {P : Program} {w : World} {K : PySem.W.Frag} {mg : Str → Option Value} {base : Heap}
/-! ### the first row to each state -/
/-- an entry of the dict: a state, the row to it -/
def RnV (K : PySem.W.Frag) (H : Hp) (e : Key × V) (x : Nat × List Nat) : Prop := e.1 = kN x.1 ∧ RwV K H e.2 x.2
theorem rn_keys {K : PySem.W.Frag} {H : Hp} : ∀ {kvs : List (Key × V)} {L : List (Nat × List Nat)}, Paired (RnV K H) kvs L → kvs.map (·.1) = (L.map (·.1)).map kN
  | _, _, .nil => rfl
  | _, _, .cons h t => by rw [List.map_cons, List.map_cons, List.map_cons, rn_keys t, h.1]
theorem rn_val {K : PySem.W.Frag} {H : Hp} {x : Nat × List Nat} : ∀ {kvs : List (Key × V)} {L : List (Nat × List Nat)}, Paired (RnV K H) kvs L → (L.map (·.1)).Nodup → x ∈ L → ∃ v, valV kvs (kN x.1) = some v ∧ RwV K H v x.2
  | _, _, .cons (a := e) (b := y) h t, nd, hx => by
    rw [List.map_cons, List.nodup_cons] at nd
    unfold valV
    by_cases q : e.1 = kN x.1
    · rw [List.find?_cons_of_pos (by exact decide_eq_true q)]
      have : y.1 = x.1 := by
        have := h.1.symm.trans q
        have := Sum.inl.inj this
        omega
      rcases List.mem_cons.mp hx with rfl | hx
      · exact ⟨e.2, rfl, h.2⟩
      · exact absurd (List.mem_map.mpr ⟨x, hx, this.symm⟩) nd.1
    · rw [List.find?_cons_of_neg (by simpa using q)]
      rcases List.mem_cons.mp hx with rfl | hx
      · exact absurd h.1 q
      · exact rn_val t nd.2 hx
theorem RnV.ext {K : PySem.W.Frag} {L : List Addr} {H H' : Hp} {e : Key × V} {x : Nat × List Nat} (h : RnV K H e x) (ee : Ext L H H') (l : Lsts L H) : RnV K H' e x := ⟨h.1, h.2.ext ee l⟩

def sp_first_rowsR (K : PySem.W.Frag) : Sp := fun vs H Q _ => ∃ (v : V) (b : Book), vs = [v, .int 0] ∧ BkW K H v b ∧ FormB b ∧ ∀ (L : List (Nat × List Nat)) (kvs : List (Key × V)) (d : Addr) (H' : Hp), RW b L L.length 0 → Paired (RnV K H') kvs L → H' d = some (.dK kvs) → Ext [] H H' → Q (.ref d) H'
theorem okR_first_rows (T : Tx K mg) : FnOk P w K mg base CX0 1 T.first_rows.f T.first_rows.fd ["states", "start"] (sp_first_rowsR K) := by
  refine T.first_rows.F.ok sc_first_rows (fun vs H Q E h => ?_) (fun cdv A outer s H vs Q E hr h => ?_)
  · obtain ⟨v, b, rfl, _⟩ := h; rfl
  · obtain ⟨v, b, rfl, ⟨a, ls, rfl, ha, hls⟩, ok, q⟩ := h
    have llen := Paired.len hls
    have h8 := ok.eight
    refine ⟨_, (pss_cons (ps_set (i := 2) sc_first_rows.nd rfl (.inl rfl) (pe_disp (pps_cons (pv 1) (pe_tup pa_nil) pps_nil) (by rfl) (by rfl) (fun z => by cases z) (by decide)))
      (pss_cons (ps_set (i := 3) sc_first_rows.nd rfl (.inl rfl) (pe_lst (pa_cons (pv 1) pa_nil)))
      (pss_cons (ps_set (i := 4) sc_first_rows.nd rfl (.inl rfl) pe_int)
      (pss_cons (ps_while PassesOwn.never (pt_cmpR op_lt (pv 4) (pe_callB call_len_seq (by rfl) T.n_len PySem.boot_len (pa_cons (pv 3) pa_nil)) (nomark _))
        (pss_cons (ps_set (i := 5) sc_first_rows.nd rfl (.inl rfl) (pe_ix ix_list (pv 3) (pv 4) (fun _ _ => rfl)))
        (pss_cons (ps_aug (i := 4) sc_first_rows.nd rfl (.inl rfl) pe_int ip_add)
        (pss_one (ps_for PassesOwn.never rfl (pi_tup (pe_ix ix_tup (pv 0) (pv 5) (fun _ _ => rfl))) (pg_tup rfl (pgs_cons (pg_name (i := 6) sc_first_rows.nd rfl (.inl rfl)) (pgs_cons (pg_name (i := 7) sc_first_rows.nd rfl (.inl rfl)) pgs_nil)))
          (pss_one (ps_if (pt_cmp (pc_dnotin (hu_of hr) (pv 7) (pv 2)))
            (pss_cons (ps_dput (hu_of hr) (pv 2) (pv 7) (pe_op op_catA (pe_dget (hu_of hr) (pv 2) (pv 5) (fun _ _ => rfl)) (pe_tup (pa_cons (pv 6) pa_nil))) rfl)
            (pss_one (ps_expr (pe_bm PySem.F.plainAttrs_list PySem.F.slot_list_append PySem.F.type_list_append mt_append (pv 3) (pa_cons (pv 7) pa_nil)))))
            pss_nil)))))))
      (pss_one (ps_ret (pv 2))))))), ?_⟩
    -- rows = {0: ()}
    refine fun d hd => ⟨_, rfl, Nat.zero_le _, fun t ht => ?_⟩
    have e1 : Ext [] H (upd H d (.dK [])) := .new hd
    have e2 := e1.trans (Ext.new (L := []) (o := .tup []) ht)
    have dt : d ≠ t := fun z => by rw [← z, upd_same] at ht; cases ht
    refine ⟨by rw [upd_ne dt, upd_same], [(kN 0, .ref t)], rfl, (by show 1 ≤ 15; decide), ?_⟩
    have e3 := e2.put (o := .dK (mergeK [] [(kN 0, .ref t)])) hd
    have hd3 : upd (upd (upd H d (.dK [])) t (.tup [])) d (.dK (mergeK [] [(kN 0, .ref t)])) d = some (.dK [(kN 0, .ref t)]) := upd_same
    have ht3 : upd (upd (upd H d (.dK [])) t (.tup [])) d (.dK (mergeK [] [(kN 0, .ref t)])) t = some (.tup []) := by rw [upd_ne dt.symm, upd_same]
    generalize upd (upd (upd H d (.dK [])) t (.tup [])) d (.dK (mergeK [] [(kN 0, .ref t)])) = H3 at *
    -- order = [0]
    refine ⟨_, rfl, (by show 1 ≤ sizeLine; decide), fun o ho => ?_⟩
    have ho0 : H o = none := e3.free ho
    have od : d ≠ o := ne_of_none hd3 ho
    have e4 := e3.put2 (o := .lst [.int 0]) ho
    have low : ∀ {L : List (Nat × List Nat)} {i k : Nat}, RW b L i k → L.length ≤ b.length := fun {L i k} m => by
      have := nodup_le m.nd fun s hs => by
        obtain ⟨y, hy, rfl⟩ := List.mem_map.mp hs
        exact m.lt y hy
      simpa using this
    -- the loop
    refine ⟨fun m σ H' => ∃ (L : List (Nat × List Nat)) (kvs : List (Key × V)) (i : Nat) (y4 y5 y6 : Option V), σ = [some (.ref a), some (.int 0), some (.ref d), some (.ref o), some (.int i), y4, y5, y6] ∧ RW b L i 0 ∧ m = b.length - i ∧ H' o = some (.lst ((L.map (·.1)).map nV)) ∧ H' d = some (.dK kvs) ∧ Paired (RnV K H') kvs L ∧ Ext [] H H',
      ⟨_, [(0, [])], [(kN 0, .ref t)], 0, _, _, _, rfl, .first ok.one, rfl, upd_same, by rw [upd_ne od]; exact hd3, .cons ⟨rfl, t, rfl, ?_⟩ .nil, e4⟩, ?_⟩
    · have ot : t ≠ o := ne_of_none ht3 ho
      exact .of (by rw [upd_ne ot]; exact ht3)
    rintro m σ H' ⟨L, kvs, i, y4, y5, y6, rfl, mi, rfl, hF, hD, hk, e⟩
    have Fle := low mi
    refine ⟨_, rfl, _, rfl, o, _, rfl, .inl (.of hF), _, _, rfl, rfl, _, rfl, ite2 (fun z => ?_) (fun z => ?_)⟩
    · have z := of_decide_eq_true z
      rw [List.length_map, List.length_map] at z
      have hiF : i < L.length := by omega
      have hy : L[i]? = some L[i] := List.getElem?_eq_getElem hiF
      generalize L[i] = y at hy
      obtain ⟨x, rx⟩ := y
      have hx : x < b.length := mi.lt _ (List.mem_of_getElem? hy)
      have hs : (L.map (·.1))[i]? = some x := by rw [List.getElem?_map, hy]; rfl
      obtain ⟨u, hu, c, ps, rfl, hc, hps⟩ := Paired.get hls (mvs_lt hx)
      have plen := Paired.len hps
      refine ⟨fun σ H' => ∃ (L : List (Nat × List Nat)) (kvs : List (Key × V)) (y4 y5 y6 : Option V), σ = [some (.ref a), some (.int 0), some (.ref d), some (.ref o), some (.int (i + 1 : Nat)), y4, y5, y6] ∧ RW b L (i + 1) 0 ∧ H' o = some (.lst ((L.map (·.1)).map nV)) ∧ H' d = some (.dK kvs) ∧ Paired (RnV K H') kvs L ∧ Ext [] H H', ?_, ?_⟩
      · rintro σ' H' ⟨L, kvs, y4, y5, y6, rfl, mi, r⟩
        exact ⟨b.length - (i + 1), by omega, L, kvs, i + 1, _, _, _, rfl, mi, rfl, r⟩
      refine ⟨_, rfl, _, rfl, o, _, _, _, rfl, rfl, .of hF, atI_nat (at_map hs), ?_⟩
      refine ⟨_, rfl, _, _, rfl, rfl, ?_⟩
      refine ⟨_, rfl, _, rfl, a, _, _, _, rfl, rfl, e.tup Lsts.nil ha, atI_nat hu, c, rfl, ⟨_, (e.tup Lsts.nil hc)⟩, ?_⟩
      refine for_tup (K := K) (a := c) (xs := ps.map V.ref) (fun k σ H' => ∃ (L : List (Nat × List Nat)) (kvs : List (Key × V)) (y5 y6 : Option V), σ = [some (.ref a), some (.int 0), some (.ref d), some (.ref o), some (.int ((i : Int) + 1)), some (nV x), y5, y6] ∧ RW b L i k ∧ L[i]? = some (x, rx) ∧ H' o = some (.lst ((L.map (·.1)).map nV)) ∧ H' d = some (.dK kvs) ∧ Paired (RnV K H') kvs L ∧ Ext [] H H')
        ⟨L, kvs, _, _, rfl, mi, hy, hF, hD, hk, e⟩ (fun k σ H' _ ⟨_, _, _, _, _, _, _, _, _, _, e⟩ => (e.tup Lsts.nil hc)) ?_ ?_
      · rintro k v σ H' hv ⟨L, kvs, y5, y6, rfl, mw, hy, hF, hD, hk, e⟩
        obtain ⟨g, hg, rfl⟩ := map_at hv
        obtain ⟨p, hp, hcp⟩ := Paired.get' hps hg
        have hcp := hcp.ext0 e
        have Fle := low mw
        have pb : p.2 < b.length := ok.to (List.mem_of_getElem? hp)
        refine ⟨g, _, rfl, hcp, rfl, _, _, rfl, _, _, rfl, rfl, ?_⟩
        refine ⟨_, rfl, _, rfl, d, _, rfl, DGet.k (k := kN p.2) hD, _, rfl, ?_⟩
        rw [valV_key (rn_keys hk)]
        by_cases hin : p.2 ∈ L.map (·.1)
        · rw [decide_eq_true hin]
          exact iteF ⟨L, kvs, _, _, rfl, mw.skip ok hy hp hin, hy, hF, hD, hk, e⟩
        · rw [decide_eq_false hin]
          refine iteT ?_
          -- rows[state] + (message,)
          have xin : (x, rx) ∈ L := List.mem_of_getElem? hy
          obtain ⟨rv, hrv, r, er, hr1⟩ := rn_val hk mw.nd xin
          have er : rv = .ref r := er
          subst er
          have rl : rx.length ≤ 8 := by
            have := mw.len i _ hy
            have : rx.length ≤ i := this
            have := (List.getElem?_eq_some_iff.mp hy).1
            omega
          have newk : valV kvs (kN p.2) = none := by
            have := valV_key (rn_keys hk) p.2
            rw [decide_eq_false hin] at this
            cases h : valV kvs (kN p.2) with
            | none => rfl
            | some z => rw [h] at this; cases this
          have klen : kvs.length = L.length := Paired.len hk
          -- behind the new row: the dict, the list
          have fin : ∀ (nr : Addr) (H4 : Hp), Ext [] H' H4 → SqT K H4 nr ((rx ++ [p.1]).map nV) → ∃ H5, DPut H4 d (.int p.2) (.ref nr) H5 ∧
              H5 o = some (.lst ((L.map (·.1)).map nV)) ∧ (∀ H6, H6 = upd H5 o (.lst ((L.map (·.1)).map nV ++ [.int p.2])) → H6 o = some (.lst (((L ++ [(p.2, rx ++ [p.1])]).map (·.1)).map nV)) ∧ H6 d = some (.dK (kvs ++ [(kN p.2, .ref nr)])) ∧ Paired (RnV K H6) (kvs ++ [(kN p.2, .ref nr)]) (L ++ [(p.2, rx ++ [p.1])]) ∧ Ext [] H H6) := by
            intro nr H4 e4 hn
            have hD4 := e4.at hD (by simp)
            have hF4 := e4.at hF (by simp)
            refine ⟨_, DPut.k (k := kN p.2) hD4 (small1000 (by omega)), by rw [upd_ne od.symm]; exact hF4, ?_⟩
            rw [putK_new _ newk]
            have ee : Ext [d] H4 (upd H4 d (.dK (kvs ++ [(kN p.2, .ref nr)]))) := .wr (by simp)
            have hn5 := ee.tup (one_dk hD4) hn
            have hk5 : Paired (RnV K (upd H4 d (.dK (kvs ++ [(kN p.2, .ref nr)])))) kvs L := Paired.imp hk fun _ _ z => (z.ext e4 Lsts.nil).ext ee (one_dk hD4)
            have hF5 : upd H4 d (.dK (kvs ++ [(kN p.2, .ref nr)])) o = some (.lst ((L.map (·.1)).map nV)) := by rw [upd_ne od.symm]; exact hF4
            have e5 := (e.trans e4).put (o := .dK (kvs ++ [(kN p.2, .ref nr)])) hd
            have hD5 : upd H4 d (.dK (kvs ++ [(kN p.2, .ref nr)])) d = some (.dK (kvs ++ [(kN p.2, .ref nr)])) := upd_same
            generalize upd H4 d (.dK (kvs ++ [(kN p.2, .ref nr)])) = H5 at *
            rintro H6 rfl
            have e6 : Ext [o] H5 (upd H5 o (.lst ((L.map (·.1)).map nV ++ [.int p.2]))) := .wr (by simp)
            refine ⟨by rw [upd_same, List.map_append, List.map_append]; rfl, by rw [upd_ne od]; exact hD5, Paired.snoc ⟨rfl, nr, rfl, e6.tup (one_lst hF5) hn5⟩ (Paired.imp hk5 fun _ _ z => z.ext e6 (one_lst hF5)), e5.put ho0⟩
          refine ⟨_, rfl, _, rfl, d, _, rfl, by rw [← hrv]; exact DGet.k (k := kN x) hD, _, rfl, (by show 1 ≤ sizeLine; decide), fun g2 hg2 => ?_⟩
          have e5 : Ext [] H' (upd H' g2 (.tup [.int p.1])) := .new hg2
          have yL : i < L.length := (List.getElem?_eq_some_iff.mp hy).1
          have hy' : (L ++ [(p.2, rx ++ [p.1])])[i]? = some (x, rx) := by rw [List.getElem?_append_left yL]; exact hy
          refine ⟨r, g2, _, _, rfl, rfl, e5.tup Lsts.nil hr1, .of upd_same, ?_, fun h0 => ?_, fun _ h0 => (by cases h0), fun _ _ g3 hg3 => ?_⟩
          · show (rx.map nV).length + 1 ≤ sizeLine
            rw [List.length_map]
            exact Nat.le_of_lt (small1000 (by omega))
          · have : rx = [] := List.map_eq_nil_iff.mp h0
            subst this
            obtain ⟨H5, dp, f1, f2⟩ := fin g2 _ e5 (.of upd_same)
            obtain ⟨f3, f4, f5, f6⟩ := f2 _ rfl
            refine ⟨_, rfl, _, rfl, d, H5, rfl, dp, ?_⟩
            exact ⟨_, rfl, .inl ⟨rfl, _, .of f1⟩, _, rfl, o, _, _, rfl, rfl, f1, by rw [List.length_map, List.length_map]; exact small1000 (by omega), _, _, _, _, rfl, mw.push ok hy hp hin, hy', f3, f4, f5, f6⟩
          · obtain ⟨H5, dp, f1, f2⟩ := fin g3 _ (e5.put2 hg3) (by rw [List.map_append]; exact .of upd_same)
            obtain ⟨f3, f4, f5, f6⟩ := f2 _ rfl
            refine ⟨_, rfl, _, rfl, d, H5, rfl, dp, ?_⟩
            exact ⟨_, rfl, .inl ⟨rfl, _, .of f1⟩, _, rfl, o, _, _, rfl, rfl, f1, by rw [List.length_map, List.length_map]; exact small1000 (by omega), _, _, _, _, rfl, mw.push ok hy hp hin, hy', f3, f4, f5, f6⟩
      · rintro σ H' ⟨L, kvs, y5, y6, rfl, mw, hy, hF, hD, hk, e⟩
        exact ⟨L, kvs, _, _, _, by rw [Int.natCast_add]; rfl, mw.next hy (by rw [List.length_map, plen]; exact Nat.le_refl _), hF, hD, hk, e⟩
    · have z : ¬ ((i : Int) < (((L.map (·.1)).map nV).length : Int)) := fun y => z (decide_eq_true y)
      rw [List.length_map, List.length_map] at z
      have := mi.le
      have : i = L.length := by omega
      subst this
      exact ⟨_, rfl, q L kvs d H' mi hk hD e⟩
end
end Nv
set_option Elab.async false
set_option linter.all false
set_option maxRecDepth 100000
namespace Nv
open PySem PySem.Spec PyProof.Rows L2
section
variable {P : Program} {w : World} {K : PySem.W.Frag} {mg : Str → Option Value} {base : Heap}
/-! ### rows from a state, the way to one, the ends -/
theorem FnOk.orX2 {P : Program} {w : World} {K : PySem.W.Frag} {mg : Str → Option Value} {base : Heap} {k : Nat} {f : Addr} {fd : FuncData} {ps : List Str} {sp1 sp2 : Sp} (F1 : FnOk P w K mg base (L2.CX P w) k f fd ps sp1) (F2 : FnOk P w K mg base CX0 k f fd ps sp2) : FnOk P w K mg base (L2.CX P w) k f fd ps (fun vs H Q E => sp1 vs H Q E ∨ sp2 vs H Q E) :=
  ⟨fun vs H Q E z => z.elim (F1.len vs H Q E) (F2.len vs H Q E), fun A outer s H args us vs Q E a b c d z => z.elim (F1.run A outer s H args us vs Q E a b c d) (fun z => codeAny_mono (F2.run A outer s H args us vs Q E a b c d z) fun r s' y => by
    cases r with
    | error e => exact (show False from y).elim
    | ok fl => cases fl <;> exact y)⟩
theorem inD_nat {d : PyData} {hi : Int} (h : inD d 0 hi = true) : ∃ n : Nat, d = .int (n : Int) ∧ (n : Int) ≤ hi := by
  cases d with
  | int i =>
    have h := of_decide_eq_true h
    exact ⟨i.toNat, by rw [Int.toNat_of_nonneg h.1], by omega⟩
  | _ => cases h
theorem lv_le_rows {b : Book} {s n : Nat} : (lvM b s n).length ≤ (rowsM b s n).length := by
  cases n with
  | zero => exact Nat.le_refl _
  | succ n => rw [rows_succ]; omega
/-- too many rows of up to n messages -/
def overM (b : Book) (s n : Nat) : Prop := ∃ i, i ≤ n ∧ 5000 < (rowsM b s i).length

theorem okU_check_state (T : Tx K mg) : FnOk P w K mg base (L2.CX P w) 3 T.check_state.f T.check_state.fd ["book", "state"] (fun vs H Q E => sp_check_stateX K T.x_BadState.C vs H Q E ∨ sp_check_state K vs H Q E) := FnOk.orX2 (okX_check_state T) (ok_check_state T)
theorem sc_rows_from : FnScope ["book", "state", "many", "rows", "ends", "_", "row", "at", "message", "to"] ["book", "state", "many"] (defScope s_rows_from) := ⟨rfl, rfl, rfl, by decide +kernel, rfl, by decide +kernel, by decide +kernel⟩
def sp_rows_from (K : PySem.W.Frag) (CS CM CT : Addr) : Sp := fun vs H Q E => ∃ (v u z : V) (b : Book) (d e : PyData), vs = [v, u, z] ∧ BkV K H v b ∧ OkB b ∧ Dp K H u d ∧ Dp K H z e ∧
  (inD d 0 ((b.length : Int) - 1) = false → OutsV H E CS u) ∧ ∀ s : Nat, d = .int (s : Int) → s < b.length → (inD e 0 8 = false → OutsV H E CM (.int 0)) ∧ ∀ n : Nat, e = .int (n : Int) → n ≤ 8 → (overM b s n → OutsV H E CT (.int 5000)) ∧
    (¬ overM b s n → ∀ (t : Addr) (xs : List V) (H' : Hp), SqT K H' t xs → Paired (RwV K H') xs (rowsM b s n) → Ext [] H H' → Q (.ref t) H')
set_option maxHeartbeats 4000000 in
theorem okU_rows_from (T : Tx K mg) : FnOk P w K mg base (L2.CX P w) 6 T.rows_from.f T.rows_from.fd ["book", "state", "many"] (sp_rows_from K T.x_BadState.C T.x_BadMany.C T.x_TooMany.C) := by
  refine T.rows_from.F.okX sc_rows_from (fun vs H Q E h => ?_) (fun cdv A outer s H vs Q E hr h => ?_)
  · obtain ⟨v, u, z, b, d, e, rfl, _⟩ := h; rfl
  · obtain ⟨v, u, z, b, d, dm, rfl, hb, ok, hd, hz, q1, q2⟩ := h
    have fb := ok.toFormB
    have h8 := fb.eight
    refine ⟨_, (pss_cons (ps_expr (pe_call (ok_made_book T) (hr.mono (by decide)) (by rfl) T.made_book.g T.made_book.F.kp T.made_book.b .nil pass0 (pa_cons (pv 0) pa_nil)))
      (pss_cons (ps_expr (pe_call (okU_check_state T) (hr.mono (by decide)) (by rfl) T.check_state.g T.check_state.F.kp T.check_state.b .nil (passes_call (takes_of rfl rfl rfl rfl) (fun _ _ _ _ h => h)) (pa_cons (pv 0) (pa_cons (pv 1) pa_nil))))
      (pss_cons (ps_if (pt_not (pt_val (pe_call (okD_whole_within T) (hr.mono (by decide)) (by rfl) T.whole_within.g T.whole_within.F.kp T.whole_within.b .nil pass0 (pa_cons (pv 2) (pa_cons pe_int (pa_cons pe_int pa_nil))))))
        (pss_one (ps_raise rfl (takes_of rfl rfl rfl rfl) (pmk_X T.x_BadMany T.init.ti (ok_init T) (hr.mono (by decide)) T.init.b (by rfl) pe_int)))
        pss_nil)
      (pss_cons (ps_set (i := 3) sc_rows_from.nd rfl (.inl rfl) (pe_lst (pa_cons (pe_tup pa_nil) pa_nil)))
      (pss_cons (ps_set (i := 4) sc_rows_from.nd rfl (.inl rfl) (pe_lst (pa_cons (pe_tup (pa_cons (pe_tup pa_nil) (pa_cons (pv 1) pa_nil))) pa_nil)))
      (pss_cons (ps_for (passes_of rfl) rfl (pi_range1 (by rfl) T.n_range (pa_cons (pv 2) pa_nil)) (pg_name (i := 5) sc_rows_from.nd rfl (.inl rfl))
        (pss_cons (ps_setLc2 (i := 4) (own := [("row", 6), ("at", 7), ("message", 8), ("to", 9)]) (vs1 := [8, 9]) rfl sc_rows_from.nd rfl rfl (sw_true rfl rfl rfl (by decide +kernel)) (pi_list (pv 4)) (blkOk_by (own := [("row", 6), ("at", 7), ("message", 8), ("to", 9)]) (N := ["book", "state", "many", "rows", "ends", "_", "row", "at", "message", "to"]) (sc := defScope s_rows_from) (by decide +kernel)) (by decide) (fun _ _ _ _ _ => (pg_tupK (n := 2) K rfl (pgs_cons (pg_name (i := 6) sc_rows_from.nd rfl (.inl rfl)) (pgs_cons (pg_name (i := 7) sc_rows_from.nd rfl (.inl rfl)) pgs_nil)))) (fun _ _ _ _ _ => pts_nil) (fun _ _ _ _ _ => (pi_tupK K (pe_ix (ix_tupK K) (pv 0) (pv 7) (fun _ _ => rfl)))) (fun _ _ _ _ _ => (pg_tupK (n := 2) K rfl (pgs_cons (pg_name (i := 8) sc_rows_from.nd rfl (.inl rfl)) (pgs_cons (pg_name (i := 9) sc_rows_from.nd rfl (.inl rfl)) pgs_nil)))) (fun _ _ _ _ _ => pts_nil) (fun _ _ _ _ _ => (pe_tup (pa_cons (pe_mid (pe_op (op_catAK K) (pv 6) (pe_tup (pa_cons (pv 8) pa_nil)))) (pa_cons (pv 9) pa_nil)))))
        (pss_cons (ps_expr (pe_bm PySem.F.plainAttrs_list PySem.F.slot_list_extend PySem.F.type_list_extend mt_extend (pv 3) (pa_cons (pe_lc (own := [("row", 6), ("at", 7)]) rfl sc_rows_from.nd (pi_list (pv 4)) (blkOk_by (own := [("row", 6), ("at", 7)]) (N := ["book", "state", "many", "rows", "ends", "_", "row", "at", "message", "to"]) (sc := defScope s_rows_from) (by decide +kernel)) (fun _ _ _ _ _ => (pg_tupK (n := 2) K rfl (pgs_cons (pg_name (i := 6) sc_rows_from.nd rfl (.inl rfl)) (pgs_cons (pg_name (i := 7) sc_rows_from.nd rfl (.inl rfl)) pgs_nil)))) (fun _ _ _ _ _ => pts_nil) (fun _ _ _ _ _ => (pv 6))) pa_nil)))
        (pss_one (ps_if (pt_cmpR op_gt (pe_callB call_len_seq (by rfl) T.n_len PySem.boot_len (pa_cons (pv 3) pa_nil)) (pe_glob (v := .int 5000) (by rfl) T.c_MOST_ROWS.choose_spec ⟨_, rfl⟩) (nomark _))
          (pss_one (ps_raise rfl (takes_of rfl rfl rfl rfl) (pmk_X T.x_TooMany T.init.ti (ok_init T) (hr.mono (by decide)) T.init.b (by rfl) (pe_glob (v := .int 5000) (by rfl) T.c_MOST_ROWS.choose_spec ⟨_, rfl⟩))))
          pss_nil)))))
      (PSs.nox (pss_one (ps_ret (pe_callTy call_tupZ (by rfl) T.n_tuple (by decide +kernel) (pa_cons (pv 3) pa_nil))))))))))), ?_⟩
    refine ⟨_, rfl, v, b, rfl, hb, ok, fun H1 e1 => ?_⟩
    cases hi : inD d 0 ((b.length : Int) - 1) with
    | false => exact ⟨_, rfl, _, rfl, .inl ⟨v, u, b, d, rfl, hb.ext0 e1, Dp.ext0 e1 hd, hi, (q1 hi).ext e1⟩⟩
    | true =>
      obtain ⟨st, rfl, hst⟩ := inD_nat hi
      cases hd
      have hs : st < b.length := by omega
      obtain ⟨q3, q4⟩ := q2 st rfl hs
      clear q1 q2
      refine ⟨_, rfl, _, rfl, .inr ⟨v, b, st, rfl, hb.ext0 e1, hs, ?_⟩⟩
      refine ⟨_, rfl, z, dm, 0, 8, rfl, Dp.ext0 e1 hz, _, rfl, ?_⟩
      cases hm : inD dm 0 8 with
      | false => exact iteT fun dx nd => q3 hm dx _ (e1.free nd) ⟨_, upd_same⟩ (e1.put2 nd)
      | true =>
        obtain ⟨n, rfl, hn⟩ := inD_nat hm
        cases hz
        have hn : n ≤ 8 := by omega
        obtain ⟨q5, q6⟩ := q4 n rfl hn
        clear q3 q4
        refine iteF ?_
        obtain ⟨a, ls, rfl, ha, hls⟩ := hb.ext0 e1
        -- rows, ends
        refine ⟨Nat.zero_le _, fun t0 ht0 => ⟨(by show 1 ≤ sizeLine; decide), fun f0 hf0 => ?_⟩⟩
        refine ⟨Nat.zero_le _, fun t1 ht1 => ⟨_, rfl, (by show 2 ≤ sizeLine; decide), fun t2 ht2 => ⟨(by show 1 ≤ sizeLine; decide), fun l0 hl0 => ?_⟩⟩⟩
        have x0 : Ext [] H1 (upd H1 t0 (.tup [])) := .new ht0
        have x1 : Ext [] (upd H1 t0 (.tup [])) (upd (upd H1 t0 (.tup [])) f0 (.lst [.ref t0])) := .new hf0
        have x2 : Ext [] (upd (upd H1 t0 (.tup [])) f0 (.lst [.ref t0])) (upd (upd (upd H1 t0 (.tup [])) f0 (.lst [.ref t0])) t1 (.tup [])) := .new ht1
        have x3 : Ext [] (upd (upd (upd H1 t0 (.tup [])) f0 (.lst [.ref t0])) t1 (.tup [])) (upd (upd (upd (upd H1 t0 (.tup [])) f0 (.lst [.ref t0])) t1 (.tup [])) t2 (.tup [.ref t1, .int st])) := .new ht2
        have x4 := Ext.new (L := []) (o := .lst [.ref t2]) hl0
        have hF : Paired (RwV K (upd (upd (upd (upd (upd H1 t0 (.tup [])) f0 (.lst [.ref t0])) t1 (.tup [])) t2 (.tup [.ref t1, .int st])) l0 (.lst [.ref t2]))) [.ref t0] (rowsM b st 0) := .cons ⟨t0, rfl, (((x1.trans x2).trans x3).trans x4).tup Lsts.nil (.of upd_same)⟩ .nil
        have hL : Paired (PrV K (upd (upd (upd (upd (upd H1 t0 (.tup [])) f0 (.lst [.ref t0])) t1 (.tup [])) t2 (.tup [.ref t1, .int st])) l0 (.lst [.ref t2]))) [.ref t2] (lvM b st 0) := .cons ⟨t2, .ref t1, rfl, x4.tup Lsts.nil (.of upd_same), t1, rfl, (x3.trans x4).tup Lsts.nil (.of upd_same)⟩ .nil
        have hf : upd (upd (upd (upd (upd H1 t0 (.tup [])) f0 (.lst [.ref t0])) t1 (.tup [])) t2 (.tup [.ref t1, .int st])) l0 (.lst [.ref t2]) f0 = some (.lst [.ref t0]) := ((x2.trans x3).trans x4).at upd_same (by simp)
        have hl : upd (upd (upd (upd (upd H1 t0 (.tup [])) f0 (.lst [.ref t0])) t1 (.tup [])) t2 (.tup [.ref t1, .int st])) l0 (.lst [.ref t2]) l0 = some (.lst [.ref t2]) := upd_same
        have x := (((x0.trans x1).trans x2).trans x3).trans x4
        have fH : H1 f0 = none := x0.free hf0
        clear x0 x1 x2 x3 x4 ht0 hf0 ht1 ht2 hl0
        show _
        generalize upd (upd (upd (upd (upd H1 t0 (.tup [])) f0 (.lst [.ref t0])) t1 (.tup [])) t2 (.tup [.ref t1, .int st])) l0 (.lst [.ref t2]) = H0 at *
        refine ⟨_, rfl, _, rfl, by omega, by omega, ?_⟩
        rw [Int.toNat_natCast]
        refine for_range (lo := 0) (n := n) (fun i σ H' => ∃ (lv : Addr) (fx lx : List V) (y5 : Option V), σ = [some (.ref a), some (.int st), some (.int n), some (.ref f0), some (.ref lv), y5, none, none, none, none] ∧ H' f0 = some (.lst fx) ∧ Paired (RwV K H') fx (rowsM b st i) ∧ H' lv = some (.lst lx) ∧ Paired (PrV K H') lx (lvM b st i) ∧ (∀ j, j ≤ i → (rowsM b st j).length ≤ 5000) ∧ Ext [] H1 H')
          ⟨l0, _, _, _, rfl, hf, hF, hl, hL, (fun j hj => by rw [Nat.le_zero.mp hj]; show 1 ≤ 5000; decide), x⟩ ?_ ?_
        · rintro i σ H2 hin ⟨lv, fx, lx, y5, rfl, hfd, hF1, hlv, hL1, few, x1⟩
          have rl := few i (Nat.le_refl _)
          have ll : (lvM b st i).length ≤ 5000 := Nat.le_trans lv_le_rows rl
          have lxl := Paired.len hL1
          have fxl := Paired.len hF1
          refine ⟨_, rfl, lv, rfl, ⟨_, .of hlv⟩, fun D hD => ?_⟩
          have DH : H1 D = none := x1.free hD
          refine lc2_list (K := K) (a := lv) (xs := lx) (fun j H' => ∃ zs : List V, H' D = some (.lst zs) ∧ zs.length ≤ 5 * j ∧ Paired (PrV K H') zs ((((lvM b st i).take j).map fun q => (mvs b q.2).map fun p => (q.1 ++ [p.1], p.2)).flatten) ∧ Ext [] H2 H') ⟨[], upd_same, Nat.zero_le _, by simp; exact .nil, .new hD⟩ (fun j H' _ ⟨_, _, _, _, e⟩ => .of (e.at hlv (by simp))) ?_ ?_
          · rintro j v H3 hv ⟨zs, hzs, zl, hZ, e2⟩
            obtain ⟨⟨r, h⟩, hq, t, u, rfl, ht, ra, rfl, hra⟩ := Paired.get' hL1 hv
            have hqm := List.mem_of_getElem? hq
            have hlt : h < b.length := lv_lt fb hs i _ hqm
            obtain ⟨hm99, hrl⟩ := lv_row fb i _ hqm
            have hrl : r.length = i := hrl
            have hjl : j < lx.length := (List.getElem?_eq_some_iff.mp hv).1
            obtain ⟨us, hu, c, ps, rfl, hc, hps⟩ := Paired.get hls (mvs_lt hlt)
            have plen := Paired.len hps
            have five := (fb.ok hlt).few
            have x2 := x1.trans e2
            refine ⟨t, _, rfl, e2.tup Lsts.nil ht, rfl, _, _, rfl, _, _, rfl, rfl, rfl, yes ?_⟩
            refine ⟨_, rfl, _, rfl, a, _, _, _, rfl, rfl, x2.tup Lsts.nil ha, atI_nat hu, c, rfl, ⟨_, (x2.tz Lsts.nil hc).sq⟩, ?_⟩
            refine lc2_tup (K := K) (c := c) (ys := ps.map V.ref) (fun k H4 => ∃ ws : List V, H4 D = some (.lst ws) ∧ ws.length ≤ 5 * j + k ∧ Paired (PrV K H4) ws ((((lvM b st i).take j).map fun q => (mvs b q.2).map fun p => (q.1 ++ [p.1], p.2)).flatten ++ ((mvs b h).take k).map fun p => (r ++ [p.1], p.2)) ∧ Ext [] H2 H4) ⟨zs, hzs, zl, by rw [List.take_zero, List.map_nil, List.append_nil]; exact hZ, e2⟩ (fun k H4 _ ⟨_, _, _, _, e⟩ => ((x1.trans e).tz Lsts.nil hc).sq) ?_ ?_
            · rintro k v H4 hv2 ⟨ws, hws, wl, hW, e4⟩
              obtain ⟨g, hg, rfl⟩ := map_at hv2
              obtain ⟨p, hp, hcp⟩ := Paired.get' hps hg
              have hk5 : k < 5 := by
                have := (List.getElem?_eq_some_iff.mp hp).1
                omega
              refine ⟨g, _, rfl, hcp.ext0 (x1.trans e4), rfl, _, _, rfl, _, _, rfl, rfl, rfl, yes ?_⟩
              refine ⟨fun u H5 => Ext [] H4 H5 ∧ RwV K H5 u (r ++ [p.1]), ?_, ?_⟩
              · refine ⟨_, rfl, _, rfl, (by show 1 ≤ sizeLine; decide), fun s1 hs1 => ?_⟩
                have w1 : Ext [] H4 (upd H4 s1 (.tup [.int p.1])) := .new hs1
                refine ⟨ra, s1, _, _, rfl, rfl, (e4.trans w1).tup Lsts.nil hra, .of upd_same, ?_, fun h0 => ⟨w1, s1, rfl, ?_⟩, fun _ h0 => absurd h0 (by simp), fun _ _ s2 hs2 => ⟨w1.put2 hs2, s2, rfl, ?_⟩⟩
                · rw [List.length_map, hrl]
                  exact Nat.le_of_lt (small1000 (by show i + 1 ≤ 1000; omega))
                · have : r = [] := List.map_eq_nil_iff.mp h0
                  subst this
                  exact .of upd_same
                · rw [List.map_append]
                  exact .of upd_same
              · rintro u H5 ⟨e5, hu5⟩
                refine ⟨_, rfl, (by show 2 ≤ sizeLine; decide), fun s3 hs3 => ?_⟩
                have w5 : Ext [] H5 (upd H5 s3 (.tup [u, .int p.2])) := .new hs3
                have hws5 := (e5.trans w5).at hws (by simp)
                refine ⟨ws, hws5, by rw [sizeLine_eq]; omega, ws ++ [.ref s3], upd_same, by rw [List.length_append]; show ws.length + 1 ≤ _; omega, ?_, ((e4.trans e5).trans w5).put hD⟩
                rw [List.take_add_one, hp, List.map_append, ← List.append_assoc]
                refine Paired.snoc (F := PrV K (upd (upd H5 s3 (.tup [u, .int p.2])) D (.lst (ws ++ [.ref s3])))) (a := .ref s3) (b := (r ++ [p.1], p.2)) (PrV.put ⟨s3, u, rfl, .of upd_same, hu5.ext0 w5⟩ hws5) (Paired.imp hW fun _ _ z => (z.ext0 (e5.trans w5)).put hws5)
            · rintro H4 ⟨ws, hws, wl, hW, e4⟩
              rw [List.length_map, plen, List.take_length] at hW
              rw [List.length_map, plen] at wl
              refine ⟨ws, hws, by omega, ?_, e4⟩
              rw [List.take_add_one, hq, List.map_append, List.flatten_append]
              simpa using hW
          · rintro H3 ⟨zs, hzs, zl, hZ, e2⟩
            rw [lxl, List.take_length] at hZ
            have hZ : Paired (PrV K H3) zs (lvM b st (i + 1)) := hZ
            have hfd3 := e2.at hfd (by simp)
            -- rows.extend(..)
            refine ⟨_, rfl, .inl ⟨rfl, _, .of hfd3⟩, _, rfl, D, rfl, ⟨_, .of hzs⟩, fun D2 hD2 => ?_⟩
            have zsl := Paired.len hZ
            refine lc_list (K := K) (a := D) (xs := zs) (fun k H' => ∃ ws : List V, H' D2 = some (.lst ws) ∧ Paired (RwV K H') ws (((lvM b st (i + 1)).take k).map (·.1)) ∧ Ext [] H3 H') ⟨[], upd_same, by simp; exact .nil, .new hD2⟩ (fun k H' _ ⟨_, _, _, e⟩ => .of (e.at hzs (by simp))) ?_ ?_
            · rintro k v H4 hv ⟨ws, hws, hW, e4⟩
              obtain ⟨⟨r, h⟩, hq, t, u, rfl, ht, hu⟩ := Paired.get' hZ hv
              have kl := (List.getElem?_eq_some_iff.mp hv).1
              refine ⟨t, _, rfl, e4.tup Lsts.nil ht, rfl, _, _, rfl, _, _, rfl, rfl, rfl, yes ?_⟩
              refine ⟨_, rfl, ws, hws, ?_, ws ++ [u], upd_same, ?_, e4.put hD2⟩
              · rw [Paired.len hW, List.length_map, List.length_take, sizeLine_eq]
                omega
              · rw [List.take_add_one, hq, List.map_append]
                exact Paired.snoc (RwV.put (hu.ext0 e4) hws) (Paired.imp hW fun _ _ z => z.put hws)
            · rintro H4 ⟨ws, hws, hW, e4⟩
              rw [zsl, List.take_length] at hW
              have hfd4 := e4.at hfd3 (by simp)
              have wsl := Paired.len hW
              rw [List.length_map] at wsl
              refine ⟨f0, D2, _, _, rfl, rfl, hfd4, hws, by rw [sizeLine_eq]; omega, ?_⟩
              have fD2 : f0 ≠ D2 := ne_of_none hfd3 hD2
              have fD : f0 ≠ D := ne_of_none hfd hD
              have e14 := (x1.trans e2).trans e4
              have hW2 : Paired (RwV K (upd H4 f0 (.lst (fx ++ ws)))) (fx ++ ws) (rowsM b st (i + 1)) := by
                refine Paired.app (Paired.imp hF1 fun _ _ z => (z.ext0 (e2.trans e4)).put hfd4) (Paired.imp hW fun _ _ z => z.put hfd4)
              have hZ2 : Paired (PrV K (upd H4 f0 (.lst (fx ++ ws)))) zs (lvM b st (i + 1)) := Paired.imp hZ fun _ _ z => (z.ext0 e4).put hfd4
              have e15 := e14.put (o := .lst (fx ++ ws)) fH
              have hD5 : upd H4 f0 (.lst (fx ++ ws)) D = some (.lst zs) := by rw [upd_ne fD.symm]; exact e4.at hzs (by simp)
              have hf5 : upd H4 f0 (.lst (fx ++ ws)) f0 = some (.lst (fx ++ ws)) := upd_same
              have w2l := Paired.len hW2
              generalize upd H4 f0 (.lst (fx ++ ws)) = H5 at *
              refine ⟨_, rfl, f0, _, rfl, .inl (.of hf5), _, _, rfl, rfl, _, rfl, ?_⟩
              by_cases hov : (5000 : Int) < ((fx ++ ws).length : Int)
              · rw [decide_eq_true hov]
                refine iteT fun dx nd => q5 ⟨i + 1, by omega, by omega⟩ dx _ ((e1.trans e15).free nd) ⟨_, upd_same⟩ ((e1.trans e15).put2 nd)
              · rw [decide_eq_false hov]
                refine iteF ⟨D, _, _, _, rfl, hf5, hW2, hD5, hZ2, fun j hj => ?_, e15⟩
                by_cases hji : j ≤ i
                · exact few j hji
                · have : j = i + 1 := by omega
                  subst this
                  omega
        · rintro σ H2 ⟨lv, fx, lx, y5, rfl, hfd, hF1, hlv, hL1, few, x1⟩
          refine ⟨_, rfl, f0, _, rfl, .of hfd, fun t H3 ht hH => ?_⟩
          obtain ⟨o, _, rfl⟩ := hH
          refine q6 (fun ⟨j, h1, h2⟩ => by have := few j h1; omega) t fx _ (.inl (.inr ⟨o, upd_same⟩)) (Paired.imp hF1 fun _ _ z => z.ext0 (.new ht)) ((e1.trans x1).put2 ht)
theorem okX_rows_from (T : Tx K mg) : FnOk P w K mg base (L2.CX P w) 6 T.rows_from.f T.rows_from.fd ["book", "state", "many"] (sp_rows_from K T.x_BadState.C T.x_BadMany.C T.x_TooMany.C) := okU_rows_from T
theorem ok_rows_from (T : Tx K mg) : FnOk P w K mg base CX0 6 T.rows_from.f T.rows_from.fd ["book", "state", "many"] (fun vs H Q _ => sp_rows_from K T.x_BadState.C T.x_BadMany.C T.x_TooMany.C vs H Q fun _ _ _ => False) := FnOk.calmT (okU_rows_from T)
end
end Nv
set_option Elab.async false
set_option linter.all false
set_option maxRecDepth 100000
namespace Nv
open PySem PySem.Spec PyProof.Rows L2
section
variable {P : Program} {w : World} {K : PySem.W.Frag} {mg : Str → Option Value} {base : Heap}
/-! ### the way to a state, the ends -/
/-- the first of all rows that come to s -/
def wayM (b : Book) (s : Nat) : Option (List Nat) := (rowsM b 0 (b.length - 1)).find? fun r => decide (atM b 0 r = some s)
theorem sc_way_to : FnScope ["book", "state"] ["book", "state"] (defScope s_way_to) := ⟨rfl, rfl, rfl, by decide +kernel, rfl, by decide +kernel, by decide +kernel⟩
def sp_way_to (K : PySem.W.Frag) (CS : Addr) : Sp := fun vs H Q E => ∃ (v u : V) (b : Book) (d : PyData), vs = [v, u] ∧ BkV K H v b ∧ OkB b ∧ Dp K H u d ∧ (inD d 0 ((b.length : Int) - 1) = false → OutsV H E CS u) ∧
  ∀ s : Nat, d = .int (s : Int) → s < b.length → ∀ (r : List Nat) (v' : V) (H' : Hp), wayM b s = some r → r.length ≤ 8 → RwV K H' v' r → Ext [] H H' → Q v' H'
theorem okU_way_to (T : Tx K mg) : FnOk P w K mg base (L2.CX P w) 6 T.way_to.f T.way_to.fd ["book", "state"] (sp_way_to K T.x_BadState.C) := by
  refine T.way_to.F.okX sc_way_to (fun vs H Q E h => ?_) (fun cdv A outer s H vs Q E hr h => ?_)
  · obtain ⟨v, u, b, d, rfl, _⟩ := h; rfl
  · obtain ⟨v, u, b, d, rfl, hb, ok, hd, q1, q2⟩ := h
    have fb := ok.toFormB
    have h8 := fb.eight
    have h1 := fb.one
    refine ⟨_, (pss_cons (ps_expr (pe_call (ok_made_book T) (hr.mono (by decide)) (by rfl) T.made_book.g T.made_book.F.kp T.made_book.b .nil pass0 (pa_cons (pv 0) pa_nil)))
      (pss_cons (ps_expr (pe_call (okU_check_state T) (hr.mono (by decide)) (by rfl) T.check_state.g T.check_state.F.kp T.check_state.b .nil (passes_call (takes_of rfl rfl rfl rfl) (fun _ _ _ _ h => h)) (pa_cons (pv 0) (pa_cons (pv 1) pa_nil))))
      (PSs.nox (pss_one (ps_ret (pe_dget (hu_of hr) (pe_call (okR_first_rows T) (hr.mono (by decide)) (by rfl) T.first_rows.g T.first_rows.F.kp T.first_rows.bD.choose_spec.2 T.first_rows.bD.choose_spec.1 pass0 (pa_cons (pv 0) pa_nil)) (pv 1) (fun _ _ => rfl))))))), ?_⟩
    refine ⟨_, rfl, v, b, rfl, hb, ok, fun H1 e1 => ?_⟩
    cases hi : inD d 0 ((b.length : Int) - 1) with
    | false => exact ⟨_, rfl, _, rfl, .inl ⟨v, u, b, d, rfl, hb.ext0 e1, Dp.ext0 e1 hd, hi, (q1 hi).ext e1⟩⟩
    | true =>
      obtain ⟨st, rfl, hst⟩ := inD_nat hi
      cases hd
      have hs : st < b.length := by omega
      refine ⟨_, rfl, _, rfl, .inr ⟨v, b, st, rfl, hb.ext0 e1, hs, ?_⟩⟩
      refine ⟨_, rfl, v, b, rfl, (hb.ext0 e1).wk, fb, fun L kvs d H2 mw hk hD e2 => ?_⟩
      obtain ⟨x, hx, ex⟩ := List.mem_map.mp (mw.all fb ok (Nat.le_refl _) hs)
      obtain ⟨v', hv, hr⟩ := rn_val hk mw.nd hx
      rw [ex] at hv
      refine ⟨_, rfl, d, v', rfl, by rw [← hv]; exact DGet.k (k := kN st) hD, ?_⟩
      have fw := mw.find fb (Nat.le_refl _) hx (n := b.length - 1) (by omega)
      rw [ex] at fw
      refine q2 st rfl hs x.2 v' H2 fw ?_ hr (e1.trans e2)
      obtain ⟨j, hj⟩ := List.mem_iff_getElem?.mp hx
      have := mw.len j x hj
      have jl := (List.getElem?_eq_some_iff.mp hj).1
      have := nodup_le mw.nd fun s hs => by
        obtain ⟨y, hy, rfl⟩ := List.mem_map.mp hs
        exact mw.lt y hy
      rw [List.length_map] at this
      omega
theorem okX_way_to (T : Tx K mg) : FnOk P w K mg base (L2.CX P w) 6 T.way_to.f T.way_to.fd ["book", "state"] (sp_way_to K T.x_BadState.C) := okU_way_to T
theorem ok_way_to (T : Tx K mg) : FnOk P w K mg base CX0 6 T.way_to.f T.way_to.fd ["book", "state"] (fun vs H Q _ => sp_way_to K T.x_BadState.C vs H Q fun _ _ _ => False) := FnOk.calmT (okU_way_to T)
theorem sc_ends_of : FnScope ["book", "state"] ["book"] (defScope s_ends_of) := ⟨rfl, rfl, rfl, by decide +kernel, rfl, by decide +kernel, by decide +kernel⟩
def endsM (b : Book) : List Nat := (List.range b.length).filter fun s => decide ((mvs b s).length = 0)
def sp_ends_of (K : PySem.W.Frag) : Sp := fun vs H Q _ => ∃ (v : V) (b : Book), vs = [v] ∧ BkV K H v b ∧ OkB b ∧ ∀ (t : Addr) (H' : Hp), SqT K H' t ((endsM b).map nV) → Ext [] H H' → Q (.ref t) H'
theorem ok_ends_of (T : Tx K mg) : FnOk P w K mg base CX0 6 T.ends_of.f T.ends_of.fd ["book"] (sp_ends_of K) := by
  refine T.ends_of.F.ok sc_ends_of (fun vs H Q E h => ?_) (fun cdv A outer s H vs Q E hr h => ?_)
  · obtain ⟨v, b, rfl, _⟩ := h; rfl
  · obtain ⟨v, b, rfl, hb, ok, q⟩ := h
    have fb := ok.toFormB
    have h8 := fb.eight
    refine ⟨_, (pss_cons (ps_expr (pe_call (ok_made_book T) (hr.mono (by decide)) (by rfl) T.made_book.g T.made_book.F.kp T.made_book.b .nil pass0 (pa_cons (pv 0) pa_nil)))
      (pss_one (ps_ret (pe_callTy call_tupZ (by rfl) T.n_tuple (by decide +kernel) (pa_cons (pe_lc (own := [("state", 1)]) rfl sc_ends_of.nd (pi_range1 (by rfl) T.n_range (pa_cons (pe_callB call_len_seq (by rfl) T.n_len PySem.boot_len (pa_cons (pv 0) pa_nil)) pa_nil)) (blkOk_by (own := [("state", 1)]) (N := ["book", "state"]) (sc := defScope s_ends_of) (by decide +kernel)) (fun _ _ _ _ _ => (pg_name (i := 1) sc_ends_of.nd rfl (.inl rfl))) (fun _ _ _ _ _ => pts_one (pt_mid (pt_not (pt_truthK K (pe_ix (ix_tupK K) (pv 0) (pv 1) (fun _ _ => rfl)) (by intro _; rfl))))) (fun _ _ _ _ _ => (pv 1))) pa_nil))))), ?_⟩
    refine ⟨_, rfl, v, b, rfl, hb, ok, fun H1 e1 => ?_⟩
    obtain ⟨a, ls, rfl, ha, hls⟩ := hb.ext0 e1
    have llen := Paired.len hls
    refine ⟨_, rfl, a, _, rfl, .inr ha, _, rfl, by omega, by omega, fun D hD => ?_⟩
    rw [forTo llen]
    refine filt_range (fun s => decide ((mvs b s).length = 0)) hD (by omega) (fun v => rfl) (fun v => rfl) (fun k H' hk e => ?_) (fun H' h e => ?_)
    · obtain ⟨u, hu, c, ps, rfl, hc, hps⟩ := Paired.get hls (mvs_lt hk)
      have plen := Paired.len hps
      refine ⟨_, rfl, _, rfl, a, _, _, _, rfl, rfl, e.tup Lsts.nil ha, atI_nat hu, _, .inr (.inl ⟨_, (e.tz Lsts.nil hc).sq, rfl⟩), ?_, .refl⟩
      cases hm : mvs b k with
      | nil =>
        rw [hm] at plen
        have : ps = [] := List.length_eq_zero_iff.mp plen
        rw [this]
        rfl
      | cons q r =>
        rw [hm] at plen
        cases ps with
        | nil => cases plen
        | cons x y => rfl
    · refine ⟨D, _, rfl, .of h, fun t H2 ht hH => ?_⟩
      obtain ⟨o, _, rfl⟩ := hH
      exact q t _ (.inl (.inr ⟨o, upd_same⟩)) ((e1.trans e).put2 ht)
/-! ### the law's own going on -/
def nxV (o : Option Nat) : V := match o with
  | some t => .int (t : Int)
  | none => .non
theorem next_none {b : Book} {s m : Nat} (h : nextM b s m = none) : ((mvs b s).filter fun q => decide (q.1 = m)).map (·.2) = [] := by
  unfold nextM at h
  rw [← List.head?_filter, ← List.head?_map] at h
  cases e : ((mvs b s).filter fun q => decide (q.1 = m)).map (·.2) with
  | nil => rfl
  | cons x r => rw [e] at h; cases h

def sp_law_book_nextG (K : PySem.W.Frag) : Sp := fun vs H Q _ => ∃ (v : V) (b : Book) (s m : Nat), vs = [v, .int s, .int m] ∧ BkV K H v b ∧ FormB b ∧ s < b.length ∧ ∀ H', Ext [] H H' → Q (nxV (nextM b s m)) H'
theorem sc_law_book_next : FnScope ["book", "state", "message", "other", "to"] ["book", "state", "message"] (defScope s_law_book_next) := ⟨rfl, rfl, rfl, by decide +kernel, rfl, by decide +kernel, by decide +kernel⟩
theorem okG_law_book_next (T : Tx K mg) : FnOk P w K mg base CX0 1 T.law_book_next.f T.law_book_next.fd ["book", "state", "message"] (sp_law_book_nextG K) := by
  refine T.law_book_next.F.ok sc_law_book_next (fun vs H Q E h => ?_) (fun cdv A outer s H vs Q E hr h => ?_)
  · obtain ⟨v, b, s, p, rfl, _⟩ := h; rfl
  · obtain ⟨v, b, st, m0, rfl, ⟨a, ls, rfl, ha, hls⟩, fb, hs, q⟩ := h
    obtain ⟨u, hu, c, ps, rfl, hc, hps⟩ := Paired.get hls (mvs_lt hs)
    have plen := Paired.len hps
    have five := (fb.ok hs).few
    refine ⟨_, (pss_one (ps_ret (pe_ix ix_list (pe_op op_cat (pe_lc (own := [("other", 3), ("to", 4)]) rfl sc_law_book_next.nd (pi_tup (pe_ix ix_tup (pv 0) (pv 1) (fun _ _ => rfl))) (blkOk_by (own := [("other", 3), ("to", 4)]) (N := ["book", "state", "message", "other", "to"]) (sc := defScope s_law_book_next) (by decide +kernel)) (fun _ _ _ _ _ => (pg_tupK (n := 2) K rfl (pgs_cons (pg_name (i := 3) sc_law_book_next.nd rfl (.inl rfl)) (pgs_cons (pg_name (i := 4) sc_law_book_next.nd rfl (.inl rfl)) pgs_nil)))) (fun _ _ _ _ _ => pts_one (pt_mid (pt_cmpR op_eq (pv 3) (pv 2) (nomark _)))) (fun _ _ _ _ _ => (pv 4))) (pe_lst (pa_cons pe_non pa_nil))) pe_int (fun _ _ => rfl)))), ?_⟩
    refine ⟨_, rfl, _, rfl, a, _, _, _, rfl, rfl, ha, atI_nat hu, c, rfl, ⟨_, hc.sq⟩, fun D hD => ?_⟩
    refine lc_tup (K := K) (a := c) (xs := ps.map V.ref) (fun i H' => H' D = some (.lst (((((mvs b st).take i).filter fun q => decide (q.1 = m0)).map (·.2)).map nV)) ∧ Ext [] H H') ⟨by simp; exact upd_same, .new hD⟩ (fun i H' _ ⟨_, e⟩ => (e.tz Lsts.nil hc).sq) ?_ ?_
    · rintro i v H' hv ⟨hX, e⟩
      obtain ⟨g, hg, rfl⟩ := map_at hv
      obtain ⟨p, hpp, hcp⟩ := Paired.get' hps hg
      have hi5 : i < 5 := by
        have := (List.getElem?_eq_some_iff.mp hpp).1
        omega
      refine ⟨g, _, rfl, hcp.ext0 e, rfl, _, _, rfl, _, _, rfl, rfl, rfl, ?_⟩
      refine ⟨fun x H3 => x = decide (p.1 = m0) ∧ H3 = H', ⟨_, rfl, _, rfl, rfl, _, rfl, ?_, rfl⟩, ?_⟩
      · show decide (V.int p.1 = V.int m0) = _
        rw [dec_int]
        exact decide_eq_decide.mpr (by omega)
      · rintro x H3 ⟨rfl, rfl⟩
        refine ifB (fun hf => ?_) (fun hf => ?_)
        · refine ⟨_, rfl, _, hX, ?_, ?_, e.put hD⟩
          · rw [List.length_map, List.length_map]
            refine small1000 (Nat.le_trans (List.length_filter_le _ _) ?_)
            rw [List.length_take]
            omega
          · rw [upd_same, filter_take _ hpp, hf]
            simp
        · refine ⟨?_, e⟩
          rw [hX, filter_take _ hpp, hf]
          simp
    · rintro H' ⟨hX, e⟩
      rw [List.length_map, plen, List.take_length] at hX
      have rl : (((mvs b st).filter fun q => decide (q.1 = m0)).map (·.2)).length ≤ 5 := by
        rw [List.length_map]
        exact Nat.le_trans (List.length_filter_le _ _) five
      refine ⟨(by show 1 ≤ sizeLine; decide), fun z hz => ?_⟩
      have hX2 := (Ext.new (L := []) (o := .lst [.non]) hz).at hX (by simp)
      refine ⟨D, z, _, _, rfl, rfl, hX2, upd_same, ?_, fun t ht => ?_⟩
      · rw [List.length_map]
        exact Nat.le_of_lt (small1000 (by show _ + 1 ≤ 1000; omega))
      · cases hn : nextM b st m0 with
        | none =>
          rw [next_none hn]
          have := q _ ((e.put2 hz).put2 ht (o := .lst [.non]))
          rw [hn] at this
          rw [next_none hn] at hX2
          exact ⟨t, _, _, _, rfl, rfl, .of upd_same, atI_nat (j := 0) rfl, this⟩
        | some t' =>
          obtain ⟨p0, hp0, h1, h2⟩ := next_some hn
          obtain ⟨rest, hrest⟩ := next_head fb hp0
          rw [← h1, hrest]
          have := q (upd (upd H' z (.lst [.non])) t (.lst ((p0.2 :: rest).map nV ++ [.non]))) ((e.put2 hz).put2 ht)
          rw [hn, ← h2] at this
          exact ⟨t, _, _, _, rfl, rfl, .of upd_same, atI_nat (j := 0) rfl, this⟩
theorem sc_law_book_at : FnScope ["book", "state", "row", "message"] ["book", "state", "row"] (defScope s_law_book_at) := ⟨rfl, rfl, rfl, by decide +kernel, rfl, by decide +kernel, by decide +kernel⟩
def sp_law_book_at (K : PySem.W.Frag) : Sp := fun vs H Q _ => ∃ (v u : V) (b : Book) (s k : Nat) (r : List Nat), vs = [v, .int s, u] ∧ BkV K H v b ∧ FormB b ∧ s < b.length ∧ RwV K H u r ∧ atM b s r = some k ∧ ∀ H', Ext [] H H' → Q (.int k) H'
theorem ok_law_book_at (T : Tx K mg) : FnOk P w K mg base CX0 2 T.law_book_at.f T.law_book_at.fd ["book", "state", "row"] (sp_law_book_at K) := by
  refine T.law_book_at.F.ok sc_law_book_at (fun vs H Q E h => ?_) (fun cdv A outer s H vs Q E hr h => ?_)
  · obtain ⟨v, u, b, s, k, r, rfl, _⟩ := h; rfl
  · obtain ⟨v, u, b, st, k, r, rfl, hb, fb, hs, ⟨a, rfl, ha⟩, hat, q⟩ := h
    refine ⟨_, (pss_cons (ps_for PassesOwn.never rfl (pi_tup (pv 2)) (pg_name (i := 3) sc_law_book_at.nd rfl (.inl rfl))
        (pss_one (ps_set (i := 1) sc_law_book_at.nd rfl (.inl rfl) (pe_call (okG_law_book_next T) (hr.mono (by decide)) (by rfl) T.law_book_next.g T.law_book_next.F.kp T.law_book_next.b .nil pass0 (pa_cons (pv 0) (pa_cons (pv 1) (pa_cons (pv 3) pa_nil)))))))
      (pss_one (ps_ret (pv 1)))), ?_⟩
    refine ⟨_, rfl, a, rfl, ⟨_, ha⟩, for_tup (K := K) (a := a) (xs := r.map nV) (fun i σ H' => ∃ (h : Nat) (y : Option V), σ = [some v, some (.int h), some (.ref a), y] ∧ atM b h (r.drop i) = some k ∧ h < b.length ∧ Ext [] H H')
      ⟨st, _, rfl, hat, hs, .refl⟩ (fun i σ H' _ ⟨_, _, _, _, _, e⟩ => e.tup Lsts.nil ha) ?_ ?_⟩
    · rintro i v σ H1 hv ⟨h, y, rfl, hd, hlt, e⟩
      obtain ⟨m, hm, rfl⟩ := map_at hv
      rw [drop_at hm] at hd
      have hd : (match nextM b h m with | some t => atM b t (r.drop (i + 1)) | none => none) = some k := hd
      cases hn : nextM b h m with
      | none => rw [hn] at hd; cases hd
      | some t =>
        rw [hn] at hd
        obtain ⟨p, hp, h1, h2⟩ := next_some hn
        refine ⟨_, rfl, _, rfl, _, rfl, _, b, h, m, rfl, hb.ext0 e, fb, hlt, fun H2 e2 => ?_⟩
        rw [hn]
        exact ⟨t, _, rfl, hd, by rw [← h2]; exact fb.to hp, e.trans e2⟩
    · rintro σ H1 ⟨h, y, rfl, hd, hlt, e⟩
      rw [List.length_map, List.drop_length] at hd
      have hd : some h = some k := hd
      cases hd
      exact ⟨_, rfl, q H1 e⟩
end
end Nv
set_option Elab.async false
set_option linter.all false
set_option maxRecDepth 100000
namespace Nv
open PySem PySem.Spec PyProof.Rows L2
section
variable {P : Program} {w : World} {K : PySem.W.Frag} {mg : Str → Option Value} {base : Heap}
/-! ### the law's rows -/
def allM (b : Book) : List (Nat × Nat) := ((List.range b.length).map fun s => (mvs b s).map fun p => (s, p.1)).flatten
theorem mem_all {b : Book} {q : Nat × Nat} : q ∈ allM b ↔ q.1 < b.length ∧ ∃ p ∈ mvs b q.1, p.1 = q.2 := by
  unfold allM
  rw [List.mem_flatten]
  constructor
  · rintro ⟨l, hl, hq⟩
    obtain ⟨s, hs, rfl⟩ := List.mem_map.mp hl
    obtain ⟨p, hp, rfl⟩ := List.mem_map.mp hq
    exact ⟨List.mem_range.mp hs, p, hp, rfl⟩
  · rintro ⟨h, p, hp, e⟩
    exact ⟨_, List.mem_map.mpr ⟨q.1, List.mem_range.mpr h, rfl⟩, List.mem_map.mpr ⟨p, hp, by rw [e]⟩⟩
theorem all_len {b : Book} (fb : FormB b) : (allM b).length ≤ 40 := by
  have h8 := fb.eight
  have : ∀ l : List Nat, (∀ s ∈ l, s < b.length) → ((l.map fun s => (mvs b s).map fun p => (s, p.1)).flatten).length ≤ 5 * l.length := by
    intro l
    induction l with
    | nil => intro _; simp
    | cons x r ih =>
      intro h
      rw [List.map_cons, List.flatten_cons, List.length_append, List.length_map, List.length_cons]
      have := (fb.ok (h x List.mem_cons_self)).few
      have := ih fun s hs => h s (List.mem_cons_of_mem _ hs)
      omega
  have := this (List.range b.length) fun s hs => List.mem_range.mp hs
  rw [List.length_range] at this
  unfold allM
  omega
theorem lv_len3 {b : Book} (h3 : ∀ s ∈ b, s.length ≤ 3) {s : Nat} : ∀ n, (lvM b s n).length ≤ 3 ^ n
  | 0 => by simp [lvM]
  | n + 1 => by
    have ih := lv_len3 h3 (s := s) n
    show (((lvM b s n).map fun q => (mvs b q.2).map fun p => (q.1 ++ [p.1], p.2)).flatten).length ≤ _
    have : ∀ l : List (List Nat × Nat), ((l.map fun q => (mvs b q.2).map fun p => (q.1 ++ [p.1], p.2)).flatten).length ≤ 3 * l.length := by
      intro l
      induction l with
      | nil => simp
      | cons x r ih =>
        rw [List.map_cons, List.flatten_cons, List.length_append, List.length_map, List.length_cons]
        have : (mvs b x.2).length ≤ 3 := by
          by_cases hs : x.2 < b.length
          · exact h3 _ (mvs_mem hs)
          · rw [mvs_out (by omega)]
            simp
        omega
    have := this (lvM b s n)
    rw [Nat.pow_succ]
    omega
theorem rows_len3 {b : Book} (h3 : ∀ s ∈ b, s.length ≤ 3) {s n : Nat} (hn : n ≤ 4) : (rowsM b s n).length ≤ 121 := by
  have l0 := lv_len3 h3 (s := s) 0
  have l1 := lv_len3 h3 (s := s) 1
  have l2 := lv_len3 h3 (s := s) 2
  have l3 := lv_len3 h3 (s := s) 3
  have l4 := lv_len3 h3 (s := s) 4
  have r0 : (rowsM b s 0).length = 1 := rfl
  have r1 : (rowsM b s 1).length = (rowsM b s 0).length + (lvM b s 1).length := rows_succ 0
  have r2 : (rowsM b s 2).length = (rowsM b s 1).length + (lvM b s 2).length := rows_succ 1
  have r3 : (rowsM b s 3).length = (rowsM b s 2).length + (lvM b s 3).length := rows_succ 2
  have r4 : (rowsM b s 4).length = (rowsM b s 3).length + (lvM b s 4).length := rows_succ 3
  have : n = 0 ∨ n = 1 ∨ n = 2 ∨ n = 3 ∨ n = 4 := by omega
  rcases this with rfl | rfl | rfl | rfl | rfl <;> omega
/-- of all messages those that stand at h -/
theorem stand_filt {b : Book} (fb : FormB b) {ms : List Nat} (hs : ms.Pairwise (· < ·)) (hm : ∀ k, k ∈ ms ↔ ∃ q ∈ allM b, q.2 = k) {h : Nat} (hh : h < b.length) : ms.filter (fun m => (nextM b h m).isSome) = (mvs b h).map (·.1) := by
  refine srt_eq (hs.filter _) (mvs_rise fb h) fun k => ?_
  rw [List.mem_filter]
  constructor
  · rintro ⟨_, h2⟩
    obtain ⟨t, ht⟩ := Option.isSome_iff_exists.mp h2
    obtain ⟨p, hp, e, _⟩ := next_some ht
    exact List.mem_map.mpr ⟨p, hp, e⟩
  · intro hk
    obtain ⟨p, hp, rfl⟩ := List.mem_map.mp hk
    refine ⟨(hm _).mpr ⟨(h, p.1), mem_all.mpr ⟨hh, p, hp, rfl⟩, rfl⟩, ?_⟩
    rw [next_mem fb hp]
    rfl
theorem sc_law_book_moves : FnScope ["book", "found", "state", "moves", "message", "to"] ["book"] (defScope s_law_book_moves) := ⟨rfl, rfl, rfl, by decide +kernel, rfl, by decide +kernel, by decide +kernel⟩
def sp_law_book_movesA (K : PySem.W.Frag) : Sp := fun vs H Q _ => ∃ (v : V) (b : Book), vs = [v] ∧ BkV K H v b ∧ FormB b ∧
  ∀ (ps : List Addr) (t : Addr) (H' : Hp), H' t = some (.lst (ps.map V.ref)) → Paired (MvV K H') ps (allM b) → Ext [] H H' → Q (.ref t) H'
theorem okA_law_book_moves (T : Tx K mg) : FnOk P w K mg base CX0 3 T.law_book_moves.f T.law_book_moves.fd ["book"] (sp_law_book_movesA K) := by
  refine T.law_book_moves.F.ok sc_law_book_moves (fun vs H Q E h => ?_) (fun cdv A outer s H vs Q E hr h => ?_)
  · obtain ⟨v, b, rfl, _⟩ := h; rfl
  · obtain ⟨v, b, rfl, hb, fb, q⟩ := h
    obtain ⟨m, ls, rfl, hm, hls⟩ := id hb
    have h8 := fb.eight
    have llen := Paired.len hls
    refine ⟨_, (pss_cons (ps_set (i := 1) sc_law_book_moves.nd rfl (.inl rfl) (pe_lst pa_nil))
      (pss_cons (ps_for PassesOwn.never rfl (pi_enumT (by rfl) T.n_enumerate (pa_cons (pv 0) pa_nil)) (pg_tup rfl (pgs_cons (pg_name (i := 2) sc_law_book_moves.nd rfl (.inr rfl)) (pgs_cons (pg_name (i := 3) sc_law_book_moves.nd rfl (.inl rfl)) pgs_nil)))
        (pss_one (ps_expr (pe_bm PySem.F.plainAttrs_list PySem.F.slot_list_extend PySem.F.type_list_extend mt_extend (pv 1) (pa_cons (pe_lc (own := [("message", 4), ("to", 5)]) rfl sc_law_book_moves.nd (pi_tup (pv 3)) (blkOk_by (own := [("message", 4), ("to", 5)]) (N := ["book", "found", "state", "moves", "message", "to"]) (sc := defScope s_law_book_moves) (by decide +kernel)) (fun _ _ _ _ _ => (pg_tupK (n := 2) K rfl (pgs_cons (pg_name (i := 4) sc_law_book_moves.nd rfl (.inl rfl)) (pgs_cons (pg_name (i := 5) sc_law_book_moves.nd rfl (.inl rfl)) pgs_nil)))) (fun _ _ _ _ _ => pts_nil) (fun _ _ _ _ _ => (pe_tup (pa_cons (pv 2) (pa_cons (pv 4) pa_nil))))) pa_nil)))))
      (pss_one (ps_ret (pv 1))))), ?_⟩
    refine ⟨Nat.zero_le _, fun fd hfd => ?_⟩
    have e1 : Ext [] H (upd H fd (.lst [])) := .new hfd
    refine ⟨_, rfl, m, ls, rfl, e1.tup Lsts.nil hm, ?_⟩
    refine for_it (walk_enumT (K := K) (a := m) (xs := ls)) (fun i σ H' => ∃ (ps : List Addr) (qs : List (Nat × Nat)) (y2 y3 : Option V), σ = [some (.ref m), some (.ref fd), y2, y3, none, none] ∧ H' fd = some (.lst (ps.map V.ref)) ∧ Paired (MvV K H') ps qs ∧ qs.length ≤ 5 * i ∧ qs = (((List.range b.length).take i).map fun s => (mvs b s).map fun p => (s, p.1)).flatten ∧ Ext [] H H') ⟨[], [], _, _, rfl, upd_same, .nil, Nat.zero_le _, rfl, e1⟩ (fun i σ H' _ ⟨_, _, _, _, _, _, _, _, _, e⟩ => e.tup Lsts.nil hm) ?_ ?_
    · rintro i v σ H2 H' hi ⟨ps, qs, y2, y3, rfl, hF, hP, hl, h9, e⟩ ⟨T', x, y, rfl, hT, rfl, hx, hy⟩
      cases hx
      have hy : ls[i]? = some y := hy
      obtain ⟨st, hst, c, cs, rfl, hc, hcs⟩ := Paired.get' hls hy
      have stok := fb.st st (List.mem_of_getElem? hst)
      have five := stok.few
      have clen := Paired.len hcs
      have e2 := e.put2 (o := .tup [.int i, .ref c]) hT
      have eT : Ext [] H2 (upd H2 T' (.tup [.int i, .ref c])) := .new hT
      refine ⟨T', _, rfl, .of upd_same, rfl, _, _, rfl, _, _, rfl, rfl, ?_⟩
      have hF := eT.at hF (by simp)
      have hP : Paired (MvV K (upd H2 T' (.tup [.int i, .ref c]))) ps qs := Paired.imp hP fun _ _ z => z.ext0 eT
      clear eT hT e
      generalize upd H2 T' (.tup [.int i, .ref c]) = H3 at *
      have hc3 : SqT K H3 c (cs.map V.ref) := e2.tup Lsts.nil hc.sq
      refine ⟨_, rfl, .inl ⟨rfl, _, .of hF⟩, _, rfl, c, rfl, ⟨_, hc3⟩, fun D hD => ?_⟩
      refine lc_tup (K := K) (a := c) (xs := cs.map V.ref) (fun k H' => ∃ ds : List Addr, H' D = some (.lst (ds.map V.ref)) ∧ Paired (MvV K H') ds ((st.take k).map fun z => (i, z.1)) ∧ Ext [] H3 H') ⟨[], upd_same, .nil, .new hD⟩ (fun k H' _ ⟨_, _, _, e⟩ => e.tup Lsts.nil hc3) ?_ ?_
      · rintro k v H4 hv ⟨ds, hX, hd, e4⟩
        obtain ⟨g, hg, rfl⟩ := map_at hv
        obtain ⟨z, hz, hcp⟩ := Paired.get' hcs hg
        have hcp := hcp.ext0 (e2.trans e4)
        refine ⟨g, _, rfl, hcp, rfl, _, _, rfl, _, _, rfl, rfl, rfl, yes ?_⟩
        refine ⟨_, rfl, _, rfl, (by show 2 ≤ sizeLine; decide), fun t ht => ?_⟩
        have e5 : Ext [] H4 (upd H4 t (.tup [.int i, .int z.1])) := .new ht
        have hX5 := e5.at hX (by simp)
        refine ⟨_, hX5, by rw [List.length_map, Paired.len hd, List.length_map, List.length_take]; exact small1000 (by omega), ds ++ [t], by rw [upd_same, List.map_append]; rfl, ?_, (e4.trans e5).put hD⟩
        rw [List.take_add_one, hz, List.map_append]
        refine Paired.snoc ?_ (Paired.imp hd fun _ _ w => (w.ext0 e5).put hX5)
        exact MvV.put (m := (i, z.1)) (.of upd_same) hX5
      · rintro H4 ⟨ds, hX, hd, e4⟩
        rw [List.length_map, clen, List.take_length] at hd
        have hF4 := e4.at hF (by simp)
        have hP4 : Paired (MvV K H4) ps qs := Paired.imp hP fun _ _ z => z.ext0 e4
        have dl := Paired.len hd
        rw [List.length_map] at dl
        have pl := Paired.len hP4
        have i8 : i < 8 := by omega
        refine ⟨fd, D, _, _, rfl, rfl, hF4, hX, by rw [List.length_map, List.length_map]; exact Nat.le_of_lt (small1000 (by omega)), ?_⟩
        have Df : D ≠ fd := fun z => by rw [z, hF] at hD; cases hD
        have eF : Ext [fd] H4 (upd H4 fd (.lst (ps.map V.ref ++ ds.map V.ref))) := .wr (by simp)
        have lF := one_lst hF4
        refine ⟨ps ++ ds, qs ++ st.map fun z => (i, z.1), _, _, rfl, by rw [upd_same, List.map_append], ?_, ?_, ?_, (e2.trans e4).put' hfd⟩
        · have app : ∀ {l1 l2 : List Addr} {m1 m2 : List (Nat × Nat)} {H5 : Hp}, Paired (MvV K H5) l1 m1 → Paired (MvV K H5) l2 m2 → Paired (MvV K H5) (l1 ++ l2) (m1 ++ m2) := by
            intro l1 l2 m1 m2 H5 h1 h2
            induction h1 with
            | nil => exact h2
            | cons r _ ih => exact .cons r ih
          exact app (Paired.imp hP4 fun _ _ z => eF.tup lF z) (Paired.imp hd fun _ _ z => eF.tup lF z)
        · rw [List.length_append, List.length_map]
          omega
        · have hib : i < b.length := (List.getElem?_eq_some_iff.mp hst).1
          rw [List.take_add_one, List.getElem?_range hib, List.map_append, List.flatten_append, ← h9]
          show qs ++ _ = qs ++ ([(mvs b i).map fun p => (i, p.1)] : List (List (Nat × Nat))).flatten
          rw [mvs_of hst]
          simp
    · rintro σ H2 ⟨ps, qs, y2, y3, rfl, hF, hP, hl, h9, e⟩
      rw [llen, List.take_of_length_le (by rw [List.length_range]; exact Nat.le_refl _)] at h9
      subst h9
      exact ⟨_, rfl, q ps fd H2 hF hP e⟩
theorem sc_law_all_rows : FnScope ["book", "state", "length", "some", "found", "last", "turn", "longer", "row", "here", "message", "size"] ["book", "state", "length"] (defScope s_law_all_rows) := ⟨rfl, rfl, rfl, by decide +kernel, rfl, by decide +kernel, by decide +kernel⟩
def sp_law_all_rows (K : PySem.W.Frag) : Sp := fun vs H Q _ => ∃ (v : V) (b : Book) (s n : Nat), vs = [v, .int s, .int n] ∧ BkV K H v b ∧ FormB b ∧ s < b.length ∧ n ≤ 4 ∧ (∀ s ∈ b, s.length ≤ 3) ∧ ∀ (t : Addr) (xs : List V) (H' : Hp), H' t = some (.lst xs) → Paired (RwV K H') xs (rowsM b s n) → Ext [] H H' → Q (.ref t) H'
set_option maxHeartbeats 4000000 in
theorem ok_law_all_rows (T : Tx K mg) : FnOk P w K mg base CX0 4 T.law_all_rows.f T.law_all_rows.fd ["book", "state", "length"] (sp_law_all_rows K) := by
  refine T.law_all_rows.F.ok sc_law_all_rows (fun vs H Q E h => ?_) (fun cdv A outer s H vs Q E hr h => ?_)
  · obtain ⟨v, b, s, n, rfl, _⟩ := h; rfl
  · obtain ⟨v, b, st, n, rfl, hb, fb, hs, hn, h3, q⟩ := h
    refine ⟨_, (pss_cons (ps_set (i := 3) sc_law_all_rows.nd rfl (.inl rfl) (pe_callB (cr_sortedSetL rfl) (by rfl) T.n_sorted (by decide +kernel) (pa_cons (pe_callTy (cr_setI rfl) (by rfl) T.n_set (by decide +kernel) (pa_cons (pe_lc (own := [("here", 9), ("message", 10)]) rfl sc_law_all_rows.nd (pi_list (pe_call (okA_law_book_moves T) (hr.mono (by decide)) (by rfl) T.law_book_moves.g T.law_book_moves.F.kp T.law_book_moves.b .nil pass0 (pa_cons (pv 0) pa_nil))) (blkOk_by (own := [("here", 9), ("message", 10)]) (N := ["book", "state", "length", "some", "found", "last", "turn", "longer", "row", "here", "message", "size"]) (sc := defScope s_law_all_rows) (by decide +kernel)) (fun _ _ _ _ _ => (pg_tupK (n := 2) K rfl (pgs_cons (pg_name (i := 9) sc_law_all_rows.nd rfl (.inl rfl)) (pgs_cons (pg_name (i := 10) sc_law_all_rows.nd rfl (.inl rfl)) pgs_nil)))) (fun _ _ _ _ _ => pts_nil) (fun _ _ _ _ _ => (pv 10))) pa_nil)) pa_nil)))
      (pss_cons (ps_par (i := 4) (j := 5) (by rfl) sc_law_all_rows.nd rfl rfl (by decide) rfl rfl (pa_cons (pe_lst (pa_cons (pe_tup pa_nil) pa_nil)) (pa_cons (pe_lst (pa_cons (pe_tup pa_nil) pa_nil)) pa_nil)) (by rfl))
      (pss_cons (ps_for PassesOwn.never rfl (pi_range1 (by rfl) T.n_range (pa_cons (pv 2) pa_nil)) (pg_name (i := 6) sc_law_all_rows.nd rfl (.inl rfl))
        (pss_cons (ps_set (i := 7) sc_law_all_rows.nd rfl (.inl rfl) (pe_lst pa_nil))
        (pss_cons (ps_for PassesOwn.never rfl (pi_list (pv 5)) (pg_name (i := 8) sc_law_all_rows.nd rfl (.inr rfl))
          (pss_cons (ps_set (i := 9) sc_law_all_rows.nd rfl (.inr rfl) (pe_call (ok_law_book_at T) (hr.mono (by decide)) (by rfl) T.law_book_at.g T.law_book_at.F.kp T.law_book_at.b .nil pass0 (pa_cons (pv 0) (pa_cons (pv 1) (pa_cons (pv 8) pa_nil)))))
          (pss_one (ps_expr (pe_bm PySem.F.plainAttrs_list PySem.F.slot_list_extend PySem.F.type_list_extend mt_extend (pv 7) (pa_cons (pe_lc (own := [("message", 10)]) rfl sc_law_all_rows.nd (pi_list (pv 3)) (blkOk_by (own := [("message", 10)]) (N := ["book", "state", "length", "some", "found", "last", "turn", "longer", "row", "here", "message", "size"]) (sc := defScope s_law_all_rows) (by decide +kernel)) (fun _ _ _ _ _ => (pg_name (i := 10) sc_law_all_rows.nd rfl (.inl rfl))) (fun _ _ _ _ _ => pts_one (pt_mid (pt_cmpR op_notN (pe_call (okG_law_book_next T) (hr.mono (by decide)) (by rfl) T.law_book_next.g T.law_book_next.F.kp T.law_book_next.b .nil pass0 (pa_cons (pv 0) (pa_cons (pv 9) (pa_cons (pv 10) pa_nil)))) pe_non (nomark _)))) (fun _ _ _ _ _ => (pe_mid (pe_op (op_catAK K) (pv 8) (pe_tup (pa_cons (pv 10) pa_nil)))))) pa_nil))))))
        (pss_cons (ps_set (i := 5) sc_law_all_rows.nd rfl (.inl rfl) (pv 7))
        (pss_one (ps_expr (pe_bm PySem.F.plainAttrs_list PySem.F.slot_list_extend PySem.F.type_list_extend mt_extend (pv 4) (pa_cons (pv 5) pa_nil))))))))
      (pss_one (ps_ret (pe_lc (own := [("size", 11), ("row", 8)]) rfl sc_law_all_rows.nd (pi_list (pe_callB (call_sortedLR hr.units) (by rfl) T.n_sorted (by decide +kernel) (pa_cons (pe_lc (own := [("row", 8)]) rfl sc_law_all_rows.nd (pi_list (pv 4)) (blkOk_by (own := [("row", 8)]) (N := ["book", "state", "length", "some", "found", "last", "turn", "longer", "row", "here", "message", "size"]) (sc := defScope s_law_all_rows) (by decide +kernel)) (fun _ _ _ _ _ => (pg_name (i := 8) sc_law_all_rows.nd rfl (.inl rfl))) (fun _ _ _ _ _ => pts_nil) (fun _ _ _ _ _ => (pe_tup (pa_cons (pe_callB (call_len_seqK K) (by rfl) T.n_len PySem.boot_len (pa_cons (pv 8) pa_nil)) (pa_cons (pv 8) pa_nil))))) pa_nil))) (blkOk_by (own := [("size", 11), ("row", 8)]) (N := ["book", "state", "length", "some", "found", "last", "turn", "longer", "row", "here", "message", "size"]) (sc := defScope s_law_all_rows) (by decide +kernel)) (fun _ _ _ _ _ => (pg_tupK (n := 2) K rfl (pgs_cons (pg_name (i := 11) sc_law_all_rows.nd rfl (.inl rfl)) (pgs_cons (pg_name (i := 8) sc_law_all_rows.nd rfl (.inl rfl)) pgs_nil)))) (fun _ _ _ _ _ => pts_nil) (fun _ _ _ _ _ => (pv 8)))))))), ?_⟩
    refine ⟨_, rfl, v, b, rfl, hb, fb, fun ps mt H1 hmt hps e1 => ?_⟩
    have ql := all_len fb
    -- some
    refine ⟨mt, rfl, ⟨_, .of hmt⟩, fun D hD => ?_⟩
    refine lc_list (K := K) (a := mt) (xs := ps.map V.ref) (fun i H' => H' D = some (.lst (((((allM b).take i).map (·.2)).map nV))) ∧ Ext [] H1 H') ⟨by simp; exact upd_same, .new hD⟩ (fun i H' _ ⟨_, e⟩ => .of (e.at hmt (by simp))) ?_ ?_
    · rintro i x H' hv ⟨hX, e⟩
      obtain ⟨g, hg, rfl⟩ := map_at hv
      obtain ⟨z, hz, hcp⟩ := Paired.get' hps hg
      refine ⟨g, _, rfl, hcp.ext0 e, rfl, _, _, rfl, _, _, rfl, rfl, rfl, yes ?_⟩
      refine ⟨_, rfl, _, hX, ?_, ?_, e.put hD⟩
      · rw [List.length_map, List.length_map, List.length_take]
        exact small1000 (by omega)
      · rw [upd_same, List.take_add_one, hz, List.map_append, List.map_append]
        rfl
    rintro H2 ⟨hX, e2⟩
    rw [List.length_map, Paired.len hps, List.take_length] at hX
    obtain ⟨al, eal⟩ : ∃ al, al = (allM b).map (·.2) := ⟨_, rfl⟩
    rw [← eal] at hX
    have all40 : al.length ≤ 40 := by rw [eal, List.length_map]; exact ql
    refine ⟨D, al.map (fun n : Nat => (n : Int)), rfl, .of (by rw [hX, map_nV_int]), by rw [List.length_map]; omega, fun p' z hp' hz => ?_⟩
    dsimp only [cxOf, Cx.nox]
    refine ⟨p', _, z, al.map (fun n : Nat => (n : Int)), rfl, upd_same, fun k hk => of_decide_eq_true hk, by rw [List.length_map]; omega, fun ns so hns hmm hso => ?_⟩
    obtain ⟨ms, rfl⟩ : ∃ ms : List Nat, ns = ms.map (fun n : Nat => (n : Int)) := by
      refine ⟨ns.map Int.toNat, ?_⟩
      rw [List.map_map]
      conv => lhs; rw [← List.map_id ns]
      refine List.map_congr_left fun x hx => ?_
      obtain ⟨n, _, rfl⟩ := List.mem_map.mp (of_decide_eq_true ((hmm x).mp hx))
      rfl
    have hms : ms.Pairwise (· < ·) := by
      rw [List.pairwise_map] at hns
      exact hns.imp fun h => by omega
    have hmem : ∀ k, k ∈ ms ↔ ∃ q ∈ allM b, q.2 = k := fun k => by
      have h1 := hmm (k : Int)
      rw [decide_eq_true_eq, List.mem_map, List.mem_map] at h1
      rw [← List.mem_map, ← eal]
      constructor
      · intro hk
        obtain ⟨y, hy, e⟩ := h1.mp ⟨k, hk, rfl⟩
        rw [← Int.ofNat.inj e]
        exact hy
      · intro hk
        obtain ⟨y, hy, e⟩ := h1.mpr ⟨k, hk, rfl⟩
        rw [← Int.ofNat.inj e]
        exact hy
    have msl : ms.length ≤ 40 := by
      have nd : ms.Nodup := hms.imp fun h => by omega
      have := List.Nodup.length_le_of_subset nd (l₂ := al) fun k hk => by
        rw [eal]
        exact List.mem_map.mpr ((hmem k).mp hk)
      omega
    have hso4 : upd (upd H2 p' (SetO w p' (fun j => decide (j ∈ al.map fun n : Nat => (n : Int))) z)) so (.lst ((ms.map fun n : Nat => (n : Int)).map V.int)) so = some (.lst (ms.map nV)) := by rw [upd_same, map_nV_int]
    have e4 : Ext [] H (upd (upd H2 p' (SetO w p' (fun j => decide (j ∈ al.map fun n : Nat => (n : Int))) z)) so (.lst ((ms.map fun n : Nat => (n : Int)).map V.int))) := (((e1.trans e2).put2 hp').put2 hso)
    clear hX e1 e2 hp' hso hns hmm hD hmt hps hz eal all40
    generalize upd (upd H2 p' (SetO w p' (fun j => decide (j ∈ al.map fun n : Nat => (n : Int))) z)) so (.lst ((ms.map fun n : Nat => (n : Int)).map V.int)) = H4 at *
    -- found, last
    refine ⟨Nat.zero_le _, fun t0 ht0 => ⟨(by show 1 ≤ sizeLine; decide), fun f0 hf0 => ⟨Nat.zero_le _, fun t1 ht1 => ⟨(by show 1 ≤ sizeLine; decide), fun l0 hl0 => ⟨_, _, rfl, ?_⟩⟩⟩⟩⟩
    have x0 : Ext [] H4 (upd H4 t0 (.tup [])) := .new ht0
    have x1 : Ext [] (upd H4 t0 (.tup [])) (upd (upd H4 t0 (.tup [])) f0 (.lst [.ref t0])) := .new hf0
    have x2 : Ext [] (upd (upd H4 t0 (.tup [])) f0 (.lst [.ref t0])) (upd (upd (upd H4 t0 (.tup [])) f0 (.lst [.ref t0])) t1 (.tup [])) := .new ht1
    have x3 := Ext.new (L := []) (o := .lst [.ref t1]) hl0
    have hF : Paired (RwV K (upd (upd (upd (upd H4 t0 (.tup [])) f0 (.lst [.ref t0])) t1 (.tup [])) l0 (.lst [.ref t1]))) [.ref t0] (rowsM b st 0) := .cons ⟨t0, rfl, ((x1.trans x2).trans x3).tup Lsts.nil (.of upd_same)⟩ .nil
    have hL : Paired (RwV K (upd (upd (upd (upd H4 t0 (.tup [])) f0 (.lst [.ref t0])) t1 (.tup [])) l0 (.lst [.ref t1]))) [.ref t1] ((lvM b st 0).map (·.1)) := .cons ⟨t1, rfl, x3.tup Lsts.nil (.of upd_same)⟩ .nil
    have hf : upd (upd (upd (upd H4 t0 (.tup [])) f0 (.lst [.ref t0])) t1 (.tup [])) l0 (.lst [.ref t1]) f0 = some (.lst [.ref t0]) := (x2.trans x3).at upd_same (by simp)
    have hl : upd (upd (upd (upd H4 t0 (.tup [])) f0 (.lst [.ref t0])) t1 (.tup [])) l0 (.lst [.ref t1]) l0 = some (.lst [.ref t1]) := upd_same
    have x := ((x0.trans x1).trans x2).trans x3
    have fH : H4 f0 = none := x0.free hf0
    have fl : f0 ≠ l0 := ne_of_none (x2.at (upd_same (a := f0)) (by simp)) hl0
    clear x0 x1 x2 x3 ht0 hf0 ht1 hl0
    show _
    generalize upd (upd (upd (upd H4 t0 (.tup [])) f0 (.lst [.ref t0])) t1 (.tup [])) l0 (.lst [.ref t1]) = H0 at *
    refine ⟨_, rfl, _, rfl, by omega, by omega, ?_⟩
    rw [Int.toNat_natCast]
    refine for_range (lo := 0) (n := n) (fun i σ H' => ∃ (lv : Addr) (fx lx : List V) (y6 y7 y8 y9 : Option V), σ = [some v, some (.int st), some (.int n), some (.ref so), some (.ref f0), some (.ref lv), y6, y7, y8, y9, none, none] ∧ H' f0 = some (.lst fx) ∧ Paired (RwV K H') fx (rowsM b st i) ∧ H' lv = some (.lst lx) ∧ Paired (RwV K H') lx ((lvM b st i).map (·.1)) ∧ f0 ≠ lv ∧ Ext [] H4 H')
      ⟨l0, _, _, _, _, _, _, rfl, hf, hF, hl, hL, fl, x⟩ ?_ ?_
    · rintro i σ H5 hin ⟨lv, fx, lx, y6, y7, y8, y9, rfl, hfd, hF1, hlv, hL1, fl, x1⟩
      have rl := rows_len3 h3 (s := st) (n := i) (by omega)
      have rl2 := rows_len3 h3 (s := st) (n := i + 1) (by omega)
      have ll : (lvM b st i).length ≤ 121 := Nat.le_trans lv_le_rows rl
      have rsu := rows_succ (b := b) (s := st) i
      have fxl := Paired.len hF1
      have lxl := Paired.len hL1
      rw [List.length_map] at lxl
      refine ⟨Nat.zero_le _, fun lg hlg => ?_⟩
      have z0 : Ext [] H5 (upd H5 lg (.lst [])) := .new hlg
      have lgf : f0 ≠ lg := ne_of_none hfd hlg
      have lgH : H4 lg = none := x1.free hlg
      have hfl := hlv
      refine ⟨_, rfl, lv, rfl, ⟨_, .of (z0.at hlv (by simp))⟩, for_list (K := K) (a := lv) (xs := lx) (fun j σ H' => ∃ (zs : List V) (y8 y9 : Option V), σ = [some v, some (.int st), some (.int n), some (.ref so), some (.ref f0), some (.ref lv), some (.int (0 + i)), some (.ref lg), y8, y9, none, none] ∧ H' lg = some (.lst zs) ∧ zs.length ≤ 3 * j ∧ Paired (RwV K H') zs ((((lvM b st i).take j).map fun q => (mvs b q.2).map fun p => q.1 ++ [p.1]).flatten) ∧ Ext [] H5 H')
        ⟨[], _, _, rfl, upd_same, Nat.zero_le _, by simp; exact .nil, z0⟩ (fun j σ H' _ ⟨_, _, _, _, _, _, _, e⟩ => .of (e.at hlv (by simp))) ?_ ?_⟩
      · rintro j v' σ H6 hv ⟨zs, y8, y9, rfl, hzs, zl, hZ, e2⟩
        obtain ⟨r', hr', hrv⟩ := Paired.get' hL1 hv
        rw [List.getElem?_map] at hr'
        obtain ⟨⟨r, h⟩, hq, er⟩ := Option.map_eq_some_iff.mp hr'
        have er : r = r' := er
        subst er
        have hqm := List.mem_of_getElem? hq
        have hlt : h < b.length := lv_lt fb hs i _ hqm
        obtain ⟨hm99, hrl⟩ := lv_row fb i _ hqm
        have hrl : r.length = i := hrl
        have hat := lv_at fb i _ hqm
        have hjl : j < lx.length := (List.getElem?_eq_some_iff.mp hv).1
        have x2 := x1.trans e2
        refine ⟨_, rfl, _, rfl, _, rfl, v, v', b, st, h, r, rfl, hb.ext0 (e4.trans x2), fb, hs, hrv.ext0 e2, hat, fun H7 e7 => ?_⟩
        have hzs7 := e7.at hzs (by simp)
        have hZ7 : Paired (RwV K H7) zs _ := Paired.imp hZ fun _ _ z => z.ext0 e7
        have x7 := x2.trans e7
        have hso7 := x7.at hso4 (by simp)
        have hr7 := (hrv.ext0 e2).ext0 e7
        have fil := stand_filt fb hms hmem hlt
        have three : (mvs b h).length ≤ 3 := h3 _ (mvs_mem hlt)
        refine ⟨_, rfl, .inl ⟨rfl, _, .of hzs7⟩, _, rfl, so, rfl, ⟨_, .of hso7⟩, fun D hD => ?_⟩
        refine lc_list (K := K) (a := so) (xs := ms.map nV) (fun k H' => ∃ ws : List V, H' D = some (.lst ws) ∧ Paired (RwV K H') ws (((ms.take k).filter fun m => (nextM b h m).isSome).map fun m => r ++ [m]) ∧ Ext [] H7 H') ⟨[], upd_same, by simp; exact .nil, .new hD⟩ (fun k H' _ ⟨_, _, _, e⟩ => .of (e.at hso7 (by simp))) ?_ ?_
        · rintro k v'' H8 hv2 ⟨ws, hws, hW, e8⟩
          obtain ⟨m, hm, rfl⟩ := map_at hv2
          have kl : k < 40 := by
            have := (List.getElem?_eq_some_iff.mp hm).1
            omega
          refine ⟨rfl, ?_⟩
          refine ⟨fun x H9 => x = (nextM b h m).isSome ∧ Ext [] H8 H9, ?_, ?_⟩
          · refine ⟨_, rfl, _, rfl, _, rfl, v, b, h, m, rfl, hb.ext0 ((e4.trans x7).trans e8), fb, hlt, fun H9 e9 => ⟨rfl, _, rfl, ?_, e9⟩⟩
            cases nextM b h m <;> rfl
          · rintro x H9 ⟨rfl, e9⟩
            have hws9 := e9.at hws (by simp)
            have hW9 : Paired (RwV K H9) ws _ := Paired.imp hW fun _ _ z => z.ext0 e9
            rw [filter_take _ hm]
            refine ifB (fun hf => ?_) (fun hf => ?_)
            · refine ⟨fun u H10 => Ext [] H9 H10 ∧ RwV K H10 u (r ++ [m]), ?_, ?_⟩
              · obtain ⟨ra, er, hra⟩ := hr7
                subst er
                refine ⟨_, rfl, _, rfl, (by show 1 ≤ sizeLine; decide), fun s1 hs1 => ?_⟩
                have w1 : Ext [] H9 (upd H9 s1 (.tup [nV m])) := .new hs1
                refine ⟨ra, s1, _, _, rfl, rfl, ((e8.trans e9).trans w1).tup Lsts.nil hra, .of upd_same, ?_, fun h0 => ⟨w1, s1, rfl, ?_⟩, fun _ h0 => absurd h0 (by simp), fun _ _ s2 hs2 => ⟨w1.put2 hs2, s2, rfl, ?_⟩⟩
                · rw [List.length_map, hrl]
                  exact Nat.le_of_lt (small1000 (by show i + 1 ≤ 1000; omega))
                · have : r = [] := List.map_eq_nil_iff.mp h0
                  subst this
                  exact .of upd_same
                · rw [List.map_append]
                  exact .of upd_same
              · rintro u H10 ⟨e10, hu⟩
                have hws10 := e10.at hws9 (by simp)
                refine ⟨ws, hws10, ?_, ws ++ [u], upd_same, ?_, ((e8.trans e9).trans e10).put hD⟩
                · rw [Paired.len hW, List.length_map]
                  refine small1000 (Nat.le_trans (List.length_filter_le _ _) ?_)
                  rw [List.length_take]
                  omega
                · rw [hf, if_pos rfl, List.map_append]
                  exact Paired.snoc (hu.put hws10) (Paired.imp hW9 fun _ _ z => (z.ext0 e10).put hws10)
            · rw [hf, if_neg (by decide), List.append_nil]
              exact ⟨ws, hws9, hW9, e8.trans e9⟩
        · rintro H8 ⟨ws, hws, hW, e8⟩
          rw [List.length_map, List.take_length, fil, List.map_map] at hW
          have hW : Paired (RwV K H8) ws ((mvs b h).map fun p => r ++ [p.1]) := hW
          have wl := Paired.len hW
          rw [List.length_map] at wl
          have hzs8 := e8.at hzs7 (by simp)
          refine ⟨lg, D, _, _, rfl, rfl, hzs8, hws, Nat.le_of_lt (small1000 (by omega)), ?_⟩
          refine ⟨zs ++ ws, _, _, rfl, upd_same, by rw [List.length_append]; omega, ?_, ((e2.trans e7).trans e8).put hlg⟩
          rw [List.take_add_one, hq, List.map_append, List.flatten_append]
          show Paired _ _ (_ ++ ([(mvs b h).map fun p => r ++ [p.1]] : List (List (List Nat))).flatten)
          rw [show ([(mvs b h).map fun p => r ++ [p.1]] : List (List (List Nat))).flatten = (mvs b h).map fun p => r ++ [p.1] by simp]
          exact Paired.app (Paired.imp hZ7 fun _ _ z => (z.ext0 e8).put hzs8) (Paired.imp hW fun _ _ z => z.put hzs8)
      · rintro σ H6 ⟨zs, y8, y9, rfl, hzs, zl, hZ, e2⟩
        rw [lxl, List.take_length] at hZ
        have hZ : Paired (RwV K H6) zs ((lvM b st (i + 1)).map (·.1)) := by
          have : ((lvM b st (i + 1)).map (·.1)) = (((lvM b st i).map fun q => (mvs b q.2).map fun p => q.1 ++ [p.1]).flatten) := by
            show ((((lvM b st i).map fun q => (mvs b q.2).map fun p => (q.1 ++ [p.1], p.2)).flatten).map (·.1)) = _
            rw [List.map_flatten, List.map_map]
            congr 1
            refine List.map_congr_left fun q _ => ?_
            show ((mvs b q.2).map fun p => (q.1 ++ [p.1], p.2)).map (·.1) = _
            rw [List.map_map]
            rfl
          rw [this]
          exact hZ
        have zsl := Paired.len hZ
        rw [List.length_map] at zsl
        have hfd6 := e2.at hfd (by simp)
        refine ⟨_, rfl, _, rfl, .inl ⟨rfl, _, .of hfd6⟩, _, rfl, f0, lg, _, _, rfl, rfl, hfd6, hzs, Nat.le_of_lt (small1000 (by omega)), ?_⟩
        refine ⟨lg, fx ++ zs, zs, _, _, _, _, rfl, upd_same, ?_, by rw [upd_ne lgf.symm]; exact hzs, Paired.imp hZ fun _ _ z => z.put hfd6, lgf, (x1.trans e2).put fH⟩
        exact Paired.app (Paired.imp hF1 fun _ _ z => (z.ext0 e2).put hfd6) (Paired.imp hZ fun _ _ z => z.put hfd6)
    · rintro σ H5 ⟨lv, fx, lx, y6, y7, y8, y9, rfl, hfd, hF1, hlv, hL1, fl, x1⟩
      have rl := rows_len3 h3 (s := st) (n := n) hn
      have fxl := Paired.len hF1
      refine ⟨_, rfl, f0, rfl, ⟨_, .of hfd⟩, fun D hD => ?_⟩
      refine lc_list (K := K) (a := f0) (xs := fx) (fun k H' => ∃ ws : List V, H' D = some (.lst ws) ∧ Paired (LrV K H') ws ((rowsM b st n).take k) ∧ Ext [] H5 H') ⟨[], upd_same, by simp; exact .nil, .new hD⟩ (fun k H' _ ⟨_, _, _, e⟩ => .of (e.at hfd (by simp))) ?_ ?_
      · rintro k v' H6 hv ⟨ws, hws, hW, e6⟩
        obtain ⟨r, hr, ra, rfl, hra⟩ := Paired.get' hF1 hv
        have hra6 := e6.tup Lsts.nil hra
        refine ⟨rfl, yes ?_⟩
        refine ⟨_, rfl, ra, _, rfl, .inr hra6, _, rfl, (by show 2 ≤ sizeLine; decide), fun t ht => ?_⟩
        have w6 : Ext [] H6 (upd H6 t (.tup [.int ((r.map nV).length : Nat), .ref ra])) := .new ht
        have hws7 := w6.at hws (by simp)
        refine ⟨ws, hws7, ?_, ws ++ [.ref t], upd_same, ?_, (e6.trans w6).put hD⟩
        · rw [Paired.len hW, List.length_take]
          exact small1000 (by omega)
        · rw [List.take_add_one, hr]
          have put : ∀ {v : V} {r : List Nat} {ys : List V}, LrV K (upd H6 t (.tup [.int ((r.map nV).length : Nat), .ref ra])) v r → True := fun _ => trivial
          have up : ∀ {v : V} {r' : List Nat}, LrV K (upd H6 t (.tup [.int ((r.map nV).length : Nat), .ref ra])) v r' → LrV K (upd (upd H6 t (.tup [.int ((r.map nV).length : Nat), .ref ra])) D (.lst (ws ++ [.ref t]))) v r' := fun {v r'} h => by
            obtain ⟨t2, u, e1, h1, h2⟩ := h
            exact ⟨t2, u, e1, Ext.tup (L := [D]) (.wr (by simp)) (one_lst hws7) h1, h2.put hws7⟩
          refine Paired.snoc (up ⟨t, .ref ra, rfl, .of ?_, ra, rfl, w6.tup Lsts.nil hra6⟩) (Paired.imp hW fun _ _ z => up (z.ext0 w6))
          rw [upd_same, List.length_map]
      · rintro H6 ⟨ws, hws, hW, e6⟩
        rw [fxl, List.take_length] at hW
        refine ⟨D, ws, rowsM b st n, rfl, .of hws, hW, rows_srt fb st n, fun p hp => ?_⟩
        have e7 : Ext [] H6 (upd H6 p (.lst ws)) := .new hp
        have hp7 : upd H6 p (.lst ws) p = some (.lst ws) := upd_same
        have hW7 : Paired (LrV K (upd H6 p (.lst ws))) ws (rowsM b st n) := Paired.imp hW fun _ _ z => z.ext0 e7
        have wsl := Paired.len hW
        refine ⟨p, rfl, ⟨_, .of hp7⟩, fun D2 hD2 => ?_⟩
        generalize upd H6 p (.lst ws) = H7 at *
        refine lc_list (K := K) (a := p) (xs := ws) (fun k H' => ∃ us : List V, H' D2 = some (.lst us) ∧ Paired (RwV K H') us ((rowsM b st n).take k) ∧ Ext [] H7 H') ⟨[], upd_same, by simp; exact .nil, .new hD2⟩ (fun k H' _ ⟨_, _, _, e⟩ => .of (e.at hp7 (by simp))) ?_ ?_
        · rintro k v' H8 hv ⟨us, hus, hU, e8⟩
          obtain ⟨r, hr, t, u, rfl, ht, hu⟩ := Paired.get' hW7 hv
          refine ⟨t, _, rfl, e8.tup Lsts.nil ht, rfl, _, _, rfl, _, _, rfl, rfl, rfl, yes ?_⟩
          refine ⟨_, rfl, us, hus, ?_, us ++ [u], upd_same, ?_, e8.put hD2⟩
          · rw [Paired.len hU, List.length_take]
            exact small1000 (by omega)
          · rw [List.take_add_one, hr]
            exact Paired.snoc ((hu.ext0 e8).put hus) (Paired.imp hU fun _ _ z => z.put hus)
        · rintro H8 ⟨us, hus, hU, e8⟩
          rw [wsl, List.take_length] at hU
          exact q D2 us H8 hus hU ((((e4.trans x1).trans e6).trans e7).trans e8)
end
end Nv
set_option Elab.async false
set_option linter.all false
set_option maxRecDepth 100000
namespace Nv
open PySem PySem.Spec PyProof.Rows L2
section
variable {P : Program} {w : World} {K : PySem.W.Frag} {mg : Str → Option Value} {base : Heap}
/-! ### the law's way, told books -/
theorem sc_law_way : FnScope ["book", "state", "row"] ["book", "state"] (defScope s_law_way) := ⟨rfl, rfl, rfl, by decide +kernel, rfl, by decide +kernel, by decide +kernel⟩
def sp_law_way (K : PySem.W.Frag) : Sp := fun vs H Q _ => ∃ (v : V) (b : Book) (s : Nat) (r : List Nat), vs = [v, .int s] ∧ BkV K H v b ∧ OkB b ∧ b.length ≤ 4 ∧ (∀ s ∈ b, s.length ≤ 3) ∧ s < b.length ∧ wayM b s = some r ∧ ∀ (v' : V) (H' : Hp), RwV K H' v' r → Ext [] H H' → Q v' H'
theorem ok_law_way (T : Tx K mg) : FnOk P w K mg base CX0 5 T.law_way.f T.law_way.fd ["book", "state"] (sp_law_way K) := by
  refine T.law_way.F.ok sc_law_way (fun vs H Q E h => ?_) (fun cdv A outer s H vs Q E hr h => ?_)
  · obtain ⟨v, b, s, r, rfl, _⟩ := h; rfl
  · obtain ⟨v, b, st, r0, rfl, hb, ok, h4, h3, hs, hw, q⟩ := h
    have fb := ok.toFormB
    have h1 := fb.one
    obtain ⟨a, ls, rfl, ha, hls⟩ := id hb
    have llen := Paired.len hls
    refine ⟨_, (pss_cons (ps_for PassesOwn.never rfl (pi_list (pe_call (ok_law_all_rows T) (hr.mono (by decide)) (by rfl) T.law_all_rows.g T.law_all_rows.F.kp T.law_all_rows.b .nil pass0 (pa_cons (pv 0) (pa_cons pe_int (pa_cons (pe_op op_sub (pe_callB call_len_seq (by rfl) T.n_len PySem.boot_len (pa_cons (pv 0) pa_nil)) pe_int) pa_nil))))) (pg_name (i := 2) sc_law_way.nd rfl (.inl rfl))
        (pss_one (ps_if (pt_cmpR op_eq (pe_call (ok_law_book_at T) (hr.mono (by decide)) (by rfl) T.law_book_at.g T.law_book_at.F.kp T.law_book_at.b .nil pass0 (pa_cons (pv 0) (pa_cons pe_int (pa_cons (pv 2) pa_nil)))) (pv 1) (nomark _))
          (pss_one (ps_ret (pv 2)))
          pss_nil)))
      (pss_one (ps_ret pe_non))), ?_⟩
    refine ⟨_, rfl, _, rfl, a, _, rfl, .inr ha, _, _, rfl, rfl, .ref a, b, 0, b.length - 1, ?_, hb, fb, by omega, by omega, h3, fun t xs H1 ht hxs e1 => ?_⟩
    · have : (ls.length : Int) - 1 = ((b.length - 1 : Nat) : Int) := by omega
      exact congrArg (fun z : Int => [V.ref a, V.int 0, V.int z]) this
    unfold wayM at hw
    obtain ⟨rs, ers⟩ : ∃ rs, rs = rowsM b 0 (b.length - 1) := ⟨_, rfl⟩
    rw [← ers] at hw hxs
    have hall : ∀ r ∈ rs, ∃ k, atM b 0 r = some k := fun r hr => by
      rw [ers] at hr
      obtain ⟨j, _, q, hq, rfl⟩ := (mem_rows _ r).mp hr
      exact ⟨_, lv_at fb j q hq⟩
    clear ers
    have e01 := e1
    refine ⟨t, rfl, ⟨_, .of ht⟩, for_list (K := K) (a := t) (xs := xs) (fun i σ H' => ∃ y2 : Option V, σ = [some (.ref a), some (.int st), y2] ∧ (rs.drop i).find? (fun r => decide (atM b 0 r = some st)) = some r0 ∧ Ext [] H1 H') ⟨_, rfl, hw, .refl⟩ (fun i σ H' _ ⟨_, _, _, e⟩ => .of (e.at ht (by simp))) ?_ ?_⟩
    · rintro i v' σ H2 hv ⟨y2, rfl, hf, e2⟩
      obtain ⟨r, hr, hrv⟩ := Paired.get' hxs hv
      obtain ⟨k, hk⟩ := hall r (List.mem_of_getElem? hr)
      rw [drop_at hr] at hf
      refine ⟨_, rfl, _, rfl, .ref a, v', b, 0, k, r, rfl, hb.ext0 (e1.trans e2), fb, by omega, hrv.ext0 e2, hk, fun H3 e3 => ?_⟩
      refine ⟨_, rfl, rfl, _, rfl, ?_⟩
      by_cases hks : k = st
      · subst hks
        rw [List.find?_cons_of_pos (by exact decide_eq_true hk)] at hf
        cases hf
        have d1 : decide (V.int (k : Int) = V.int (k : Int)) = true := decide_eq_true rfl
        rw [d1]
        exact iteT ⟨_, rfl, q v' H3 ((hrv.ext0 e2).ext0 e3) ((e1.trans e2).trans e3)⟩
      · rw [List.find?_cons_of_neg (by rw [hk]; simpa using hks)] at hf
        have d1 : decide (V.int (k : Int) = V.int (st : Int)) = false := by
          rw [dec_int]
          exact decide_eq_false (by omega)
        rw [d1]
        exact iteF ⟨_, rfl, hf, e2.trans e3⟩
    · rintro σ H2 ⟨y2, rfl, hf, e2⟩
      rw [Paired.len hxs, List.drop_length] at hf
      cases hf
theorem formB_dec {b : Book} (h : decide (1 ≤ b.length ∧ b.length ≤ 8 ∧ ∀ s ∈ b, s.length ≤ 5 ∧ (s.map (·.1)).Pairwise (· < ·) ∧ (∀ p ∈ s, p.1 ≤ 99) ∧ ∀ p ∈ s, p.2 < b.length) = true) : FormB b := by
  obtain ⟨h1, h2, h3⟩ := of_decide_eq_true h
  exact ⟨h1, h2, fun s hs => ⟨(h3 s hs).1, (h3 s hs).2.1, (h3 s hs).2.2.1, (h3 s hs).2.2.2⟩⟩
theorem rows_mono {b : Book} {s : Nat} : ∀ {n i : Nat}, i ≤ n → (rowsM b s i).length ≤ (rowsM b s n).length
  | 0, i, h => by rw [Nat.le_zero.mp h]; exact Nat.le_refl _
  | n + 1, i, h => by
    by_cases e : i = n + 1
    · rw [e]
      exact Nat.le_refl _
    · have := rows_mono (b := b) (s := s) (n := n) (i := i) (by omega)
      rw [rows_succ]
      omega
theorem few_of {b : Book} {s n : Nat} (h : (rowsM b s n).length ≤ 5000) : ¬ overM b s n := fun ⟨i, h1, h2⟩ => by
  have := rows_mono (b := b) (s := s) h1
  omega
/-- a state with so many loops -/
def loopB (c : Nat) : Book := [(List.range c).map fun m => (m, 0)]
theorem loop_ok {c : Nat} (h : c ≤ 5) : OkB (loopB c) := by
  have fb : FormB (loopB c) := by
    have : c = 0 ∨ c = 1 ∨ c = 2 ∨ c = 3 ∨ c = 4 ∨ c = 5 := by omega
    rcases this with rfl | rfl | rfl | rfl | rfl | rfl <;> exact formB_dec (by decide +kernel)
  refine { fb with reach := fun s hs => ?_ }
  have : s < 1 := hs
  have : s = 0 := by omega
  subst this
  exact .zero
def manyL : List (Nat × Nat) := [(5, 6), (4, 7), (4, 6), (3, 8)]
theorem over_of {q : Nat × Nat} (h : q ∈ manyL) : q.1 ≤ 5 ∧ q.2 ≤ 8 ∧ overM (loopB q.1) 0 q.2 := by
  simp only [manyL, List.mem_cons, List.not_mem_nil, or_false] at h
  rcases h with rfl | rfl | rfl | rfl
  · exact ⟨by decide, by decide, 6, by decide, by decide +kernel⟩
  · exact ⟨by decide, by decide, 6, by decide, by decide +kernel⟩
  · exact ⟨by decide, by decide, 6, by decide, by decide +kernel⟩
  · exact ⟨by decide, by decide, 8, by decide, by decide +kernel⟩
theorem loop1 : (rowsM (loopB 1) 0 8).length = 9 := by decide +kernel
theorem loop2 : (rowsM (loopB 2) 0 8).length = 511 := by decide +kernel
theorem loop0 : rowsM (loopB 0) 0 8 = [[]] := by decide +kernel
theorem loop5 : (rowsM (loopB 5) 0 5).length = 3906 := by decide +kernel
theorem loop5b : ((rowsM (loopB 5) 0 5).drop 1).take 5 = [[0], [1], [2], [3], [4]] := by decide +kernel
theorem loop5c : (rowsM (loopB 5) 0 5)[3905]? = some [4, 4, 4, 4, 4] := by decide +kernel
def chainB : Book := ((List.range 7).map fun k => [(7 - k, k + 1)]) ++ [[]]
theorem chain_ok : OkB chainB := by
  refine { formB_dec (b := chainB) (by decide +kernel) with reach := fun s hs => ?_ }
  have hs : s < 8 := hs
  have st : ∀ k, k < 7 → Rch chainB k → Rch chainB (k + 1) := fun k hk h => by
    have hm : (7 - k, k + 1) ∈ mvs chainB k := by
      have : k = 0 ∨ k = 1 ∨ k = 2 ∨ k = 3 ∨ k = 4 ∨ k = 5 ∨ k = 6 := by omega
      rcases this with rfl | rfl | rfl | rfl | rfl | rfl | rfl <;> decide
    exact Rch.step (p := (7 - k, k + 1)) h hm
  have key : ∀ k, k ≤ 7 → Rch chainB k := by
    intro k
    induction k with
    | zero => exact fun _ => .zero
    | succ k ih => exact fun h => st k (by omega) (ih (by omega))
  exact key s (by omega)
theorem chain1 : wayM chainB 7 = some [7, 6, 5, 4, 3, 2, 1] := by decide +kernel
theorem chain2 : endsM chainB = [7] := by decide +kernel
theorem chain3 : (rowsM chainB 0 8).length = 8 := by decide +kernel
def bigB (last : Nat) : Book := [[(0, 1), (1, 2), (2, 2), (3, 2), (4, last)], (List.range 5).map fun m => (m, 1), (List.range 3).map fun m => (m, 2), [], [(0, 3)]]
theorem big3 : FormB (bigB 3) := formB_dec (by decide +kernel)
theorem big4 : FormB (bigB 4) := formB_dec (by decide +kernel)
theorem big4o : overM (rename (bigB 4) (ordB (bigB 4))) 0 6 := ⟨6, by decide, by decide +kernel⟩
theorem big3n : (rowsM (rename (bigB 3) (ordB (bigB 3))) 0 6).length = 5000 := by decide +kernel
end
end Nv
set_option Elab.async false
set_option linter.all false
set_option maxRecDepth 100000
namespace Nv
open PySem PySem.Spec PyProof.Rows L2
section
variable {P : Program} {w : World} {K : PySem.W.Frag} {mg : Str → Option Value} {base : Heap}
/-! ### the bounds -/
theorem newZ {K : PySem.W.Frag} {H H' : Hp} {p : Addr} {xs : List V} (f : H p = none) (h : ∃ o : Obj, o.dict = none ∧ H' = upd H p (.frz o (.tup xs))) : TupZ H' p xs ∧ Ext [] H H' := by
  obtain ⟨o, od, rfl⟩ := h
  exact ⟨⟨o, upd_same, od⟩, .new f⟩
theorem catB {K : PySem.W.Frag} {H : Hp} {a b : Addr} {xs ys : List V} {Q : VK} (h1 : SqT K H a xs) (h2 : SqT K H b ys) (hl : xs.length + ys.length ≤ 1000) (q : ∀ (t : Addr) (H' : Hp), SqT K H' t (xs ++ ys) → Ext [] H H' → Q (.ref t) H') : rCatA K (.ref a) (.ref b) H Q := by
  refine ⟨a, b, xs, ys, rfl, rfl, h1, h2, Nat.le_of_lt (small1000 hl), fun e => ?_, fun _ e => ?_, fun _ _ p hp => q p _ (.of upd_same) (.new hp)⟩
  · exact q b H (by rw [e]; exact h2) .refl
  · exact q a H (by rw [e, List.append_nil]; exact h1) .refl
theorem heard_err (T : Tx K mg) {tl : XK → Hp → VK → Prop} {nm : Str} {C : Addr} {what : V} {dw : PyData} {H5 : Hp} {Q' : VK} (hC : (C = T.x_BadState.C ∧ nm = "BadState") ∨ (C = T.x_BadMany.C ∧ nm = "BadMany") ∨ (C = T.x_TooMany.C ∧ nm = "TooMany")) (hw : Dp K H5 what dw)
    (htl : ∀ E Q, OutsV H5 E C what → tl E H5 Q) (h : ∀ (t : Addr) (H7 : Hp), Dp K H7 (.ref t) (.tuple [.str nm, dw, .bool true]) → Ext [] H5 H7 → Q' (.ref t) H7) : THeardT T tl H5 Q' := by
  unfold THeardT
  refine htl _ _ fun dx H6 hdx hd6 e6 => ⟨nm, _, dx, what, rfl, hC, rfl, hd6, fun t ht => h t _ ?_ (e6.put2 ht)⟩
  exact .tup (.of upd_same) (.cons (.str _) (.cons (Dp.ext0 (e6.put2 ht) hw) (.cons (.bl _) .nil)))
theorem okL_trimmed (T : Tx K mg) : FnOk P w K mg base (L2.CX P w) 5 T.trimmed.f T.trimmed.fd ["thing"] (fun vs H Q E => sp_trimmedX K T.x_BadBook.C vs H Q E ∨ sp_trimmed K vs H Q E) := FnOk.orX2 (okX_trimmed T) (ok_trimmed T)
/-- a row, as data -/
def rowD (r : List Nat) : PyData := .tuple ((r.map Int.ofNat).map PyData.int)
theorem rw_dp {K : PySem.W.Frag} {H : Hp} {v : V} {r : List Nat} (h : RwV K H v r) : Dp K H v (rowD r) := by
  obtain ⟨a, rfl, ha⟩ := h
  exact .tup (by rw [← nV_map]; exact ha) (dp_ints _)
theorem rws_dp {K : PySem.W.Frag} {H : Hp} : ∀ {vs : List V} {rs : List (List Nat)}, Paired (RwV K H) vs rs → DpAll K H vs (rs.map rowD)
  | _, _, .nil => .nil
  | _, _, .cons h t => .cons (rw_dp h) (rws_dp t)
theorem rwd_lay : ∀ rs : List (List Nat), PyData.canLayAll0 (rs.map rowD) = true
  | [] => rfl
  | r :: rs => by
    have := rwd_lay rs
    simp only [List.map_cons, PyData.canLayAll0, this, Bool.and_true]
    show PyData.canLayAll0 _ = true
    exact ints_lay _
theorem rwd_depth : ∀ rs : List (List Nat), PyData.depthAll (rs.map rowD) ≤ 1
  | [] => Nat.zero_le _
  | r :: rs => by
    have := rwd_depth rs
    have h : PyData.depth (rowD r) = 1 := by
      show PyData.depthAll _ + 1 = 1
      rw [ints_depth]
    simp only [List.map_cons, PyData.depthAll]
    omega
theorem rows_shaped (rs : List (List Nat)) : SeqAt.shaped (.tuple (rs.map rowD)) = true := by
  have h1 := rwd_lay rs
  have h2 := rwd_depth rs
  simp [SeqAt.shaped, PyData.canLay0, PyData.depth, h1]
  omega
theorem Paired.drop {α β : Type} {F : α → β → Prop} : ∀ {l₁ : List α} {l₂ : List β} (n : Nat), Paired F l₁ l₂ → Paired F (l₁.drop n) (l₂.drop n)
  | _, _, 0, h => h
  | _, _, n + 1, .nil => .nil
  | _, _, n + 1, .cons h t => Paired.drop n t
theorem Paired.take {α β : Type} {F : α → β → Prop} : ∀ {l₁ : List α} {l₂ : List β} (n : Nat), Paired F l₁ l₂ → Paired F (l₁.take n) (l₂.take n)
  | _, _, 0, h => .nil
  | _, _, n + 1, .nil => .nil
  | _, _, n + 1, .cons h t => .cons h (Paired.take n t)
theorem rows_call {K : PySem.W.Frag} {CS CM CT : Addr} {v : V} {b : Book} {s n : Nat} {H : Hp} {Q : VK} {E : XK} (hb : BkV K H v b) (ok : OkB b) (hs : s < b.length) (hn : n ≤ 8) (few : (rowsM b s n).length ≤ 5000) (q : ∀ (t : Addr) (xs : List V) (H' : Hp), SqT K H' t xs → Paired (RwV K H') xs (rowsM b s n) → Ext [] H H' → Q (.ref t) H') :
    sp_rows_from K CS CM CT [v, .int (s : Int), .int (n : Int)] H Q E := by
  have h1 : inD (.int (s : Int)) 0 ((b.length : Int) - 1) = true := decide_eq_true (by omega)
  have h2 : inD (.int (n : Int)) 0 8 = true := decide_eq_true (by omega)
  refine ⟨v, _, _, b, .int s, .int n, rfl, hb, ok, .int _, .int _, fun h => absurd h (by rw [h1]; decide), fun s' es hs' => ⟨fun h => absurd h (by rw [h2]; decide), fun n' en hn' => ?_⟩⟩
  have es : s = s' := by
    have := PyData.int.inj es
    omega
  have en : n = n' := by
    have := PyData.int.inj en
    omega
  subst es en
  exact ⟨fun h => absurd h (few_of few), fun _ => q⟩
theorem rows_over {K : PySem.W.Frag} {CS CM CT : Addr} {v : V} {b : Book} {s n : Nat} {H : Hp} {Q : VK} {E : XK} (hb : BkV K H v b) (ok : OkB b) (hs : s < b.length) (hn : n ≤ 8) (ov : overM b s n) (q : OutsV H E CT (.int 5000)) :
    sp_rows_from K CS CM CT [v, .int (s : Int), .int (n : Int)] H Q E := by
  have h1 : inD (.int (s : Int)) 0 ((b.length : Int) - 1) = true := decide_eq_true (by omega)
  have h2 : inD (.int (n : Int)) 0 8 = true := decide_eq_true (by omega)
  refine ⟨v, _, _, b, .int s, .int n, rfl, hb, ok, .int _, .int _, fun h => absurd h (by rw [h1]; decide), fun s' es hs' => ⟨fun h => absurd h (by rw [h2]; decide), fun n' en hn' => ?_⟩⟩
  have es : s = s' := by
    have := PyData.int.inj es
    omega
  have en : n = n' := by
    have := PyData.int.inj en
    omega
  subst es en
  exact ⟨fun _ => q, fun h => absurd ov h⟩
theorem nat_of {k s : Nat} (e : PyData.int (k : Int) = .int (s : Int)) : s = k := by
  have := PyData.int.inj e
  omega
theorem way_call {K : PySem.W.Frag} {CS : Addr} {v : V} {b : Book} {s : Nat} {H : Hp} {Q : VK} {E : XK} (hb : BkV K H v b) (ok : OkB b) (hs : s < b.length) (q : ∀ (r : List Nat) (v' : V) (H' : Hp), wayM b s = some r → r.length ≤ 8 → RwV K H' v' r → Ext [] H H' → Q v' H') :
    sp_way_to K CS [v, .int (s : Int)] H Q E := by
  have h1 : inD (.int (s : Int)) 0 ((b.length : Int) - 1) = true := decide_eq_true (by omega)
  refine ⟨v, _, b, .int s, rfl, hb, ok, .int _, fun h => absurd h (by rw [h1]; decide), fun s' es hs' => ?_⟩
  have es : s = s' := by
    have := PyData.int.inj es
    omega
  subst es
  exact q
theorem slA {K : PySem.W.Frag} {H : Hp} {a : Addr} {xs : List V} {lo hi : Option Int} {Q : VK} (h : SqT K H a xs) (q : ∀ (t : Addr) (H' : Hp), SqT K H' t (cutV xs lo hi) → Ext [] H H' → Q (.ref t) H') : rSlA K (.ref a) lo hi H Q := by
  refine ⟨a, xs, rfl, h, fun hw => ?_, fun _ p hp => q p _ (.of upd_same) (.new hp)⟩
  have e : cutV xs lo hi = xs := by
    unfold cutV
    rw [hw.1, hw.2, List.drop_zero, Nat.sub_zero, List.take_length]
  exact q a H (by rw [e]; exact h) .refl
theorem rep_flat {α : Type} (x : α) : ∀ n : Nat, (List.replicate n [x]).flatten = List.replicate n x
  | 0 => rfl
  | n + 1 => by
    rw [List.replicate_succ, List.flatten_cons, rep_flat x n, List.replicate_succ]
    rfl
theorem repZ {K : PySem.W.Frag} {H : Hp} {a : Addr} {x : V} {d : PyData} {n : Nat} {Q : VK} (h : TupZ H a [x]) (hd : Dp K H x d) (h2 : 2 ≤ n) (h5 : n ≤ 100000) (q : ∀ (g : Addr) (H' : Hp), Dp K H' (.ref g) (.tuple (List.replicate n d)) → Ext [] H H' → Q (.ref g) H') : rRepTB K (.ref a) (.int (n : Int)) H Q := by
  refine ⟨a, n, [x], rfl, rfl, h.sq, (fun z => by cases z), h2, by rw [List.length_singleton, Nat.mul_one]; exact h5, fun g hg => q g _ (.tup (.of upd_same) ?_) (.new hg)⟩
  have := DpAll.rep (K := K) (H := H) (vs := [x]) (ds := [d]) (.cons hd .nil) n
  rw [rep_flat d n] at this
  exact DpAll.ext0 (.new hg) this
/-- the loops of two states, led elsewhere -/
def lotsS (k : Nat) : State := (List.range (if k = 0 then 5 else 3)).map fun m => (m, k + 1)
def qBr0 : Str := (Str.ofString "_law_bounds_right" ++ Str.ofString ".<locals>.") ++ Str.ofString "<lambda>"
theorem ne_int {a b : Int} : (!decide (V.int a = V.int b)) = !decide (a = b) := by rw [dec_int]
theorem sc_law_bounds_right : FnScope ["pool", "loops", "count", "many", "chain", "lots", "told", "message", "at", "to", "last"] ["pool"] (defScope s_law_bounds_right) := ⟨rfl, rfl, rfl, by decide +kernel, rfl, by decide +kernel, by decide +kernel⟩
def sp_law_bounds_right (K : PySem.W.Frag) (TT : List (Addr × Str)) : Sp := fun vs H Q _ => ∃ (p l : Addr), vs = [.ref p] ∧ PoolAt H p l ∧ LamX.Tabs TT H ∧ ∀ H', Q (.bl true) H'
set_option maxHeartbeats 4000000 in
theorem ok_law_bounds_right (T : Tx K mg) {cl Pt : Addr} {kV doc pm ct oc : Value} {an od : Option Addr} {osl : Array (Option Value)}
    (lk : K.lookup T.law_bounds_right.f = some ⟨oc, od, .func (PySem.W.fnOf "_law_bounds_right" "_law_bounds_right" (defArgs s_law_bounds_right) (defBody s_law_bounds_right) (defScope s_law_bounds_right) .none kV doc pm an (.ref cl) ct), osl⟩) (cd : PySem.W.codeIn K (.ref cl) "_law_bounds_right" = true) (TB : LamX.TabB base mg cl Pt) {TT : List (Addr × Str)} (hT : (Pt, qBr0) ∈ TT) (hN : ∀ p ∈ TT, p.1 = Pt → p.2 = qBr0) :
    FnG P w K mg base CX0 10 T.law_bounds_right.f T.law_bounds_right.fd ["pool"] (sp_law_bounds_right K TT) := by
  rw [fd_of T.law_bounds_right lk]
  refine fnG_of lk cd sc_law_bounds_right (fun vs H Q E h => ?_) fun A outer s H vs Q E hG hr h => ?_
  · obtain ⟨p, l, rfl, _⟩ := h; rfl
  · obtain ⟨p, l, rfl, P0, T0, q⟩ := h
    refine ⟨_, PSs.nox (pss_cons (ps_set (i := 1) sc_law_bounds_right.nd rfl (.inr rfl) (pe_lc (own := [("count", 2)]) rfl sc_law_bounds_right.nd (pi_range1 (by rfl) T.n_range (pa_cons pe_int pa_nil)) (blkOk_by (own := [("count", 2)]) (N := ["pool", "loops", "count", "many", "chain", "lots", "told", "message", "at", "to", "last"]) (sc := defScope s_law_bounds_right) (by decide +kernel)) (fun _ _ _ _ _ => (pg_name (i := 2) sc_law_bounds_right.nd rfl (.inl rfl))) (fun _ _ _ _ _ => pts_nil) (fun _ _ _ _ _ => (pe_tupZ (pa_cons (pe_callTy (call_tupZK K) (by rfl) T.n_tuple (by decide +kernel) (pa_cons (pe_lc (own := [("message", 7)]) rfl sc_law_bounds_right.nd (pi_range1 (by rfl) T.n_range (pa_cons (pv 2) pa_nil)) (blkOk_by (own := [("message", 7)]) (by kernel_rfl)) (fun _ _ _ _ _ => (pg_name (i := 7) sc_law_bounds_right.nd rfl (.inl rfl))) (fun _ _ _ _ _ => pts_nil) (fun _ _ _ _ _ => (pe_tupZ (pa_cons (pv 7) (pa_cons pe_int pa_nil))))) pa_nil)) pa_nil)))))
      (pss_cons (ps_for PassesOwn.never rfl (pi_list (pe_lst (pa_cons (pe_tupZ (pa_cons pe_int (pa_cons pe_int pa_nil))) (pa_cons (pe_tupZ (pa_cons pe_int (pa_cons pe_int pa_nil))) (pa_cons (pe_tupZ (pa_cons pe_int (pa_cons pe_int pa_nil))) (pa_cons (pe_tupZ (pa_cons pe_int (pa_cons pe_int pa_nil))) pa_nil)))))) (pg_tup rfl (pgs_cons (pg_name (i := 2) sc_law_bounds_right.nd rfl (.inr rfl)) (pgs_cons (pg_name (i := 3) sc_law_bounds_right.nd rfl (.inr rfl)) pgs_nil)))
        (pss_one (ps_if (pt_cmpR (op_neD (hr.units)) (pe_heardT (k := 7) T rfl rfl (by rfl) TB hT hN rfl (hr.mono (by decide)) (LamX.lamS_by (sc := defScope s_law_bounds_right) (by decide +kernel)) rfl (fun _ _ _ _ _ => rfl) (fun _ _ _ _ _ _ _ hr => (pe_call (okX_rows_from T) (hr.mono (by decide)) (by rfl) T.rows_from.g T.rows_from.F.kp T.rows_from.b .nil (passes_call (takes_of rfl rfl rfl rfl) (fun _ _ _ _ h => h)) (pa_cons (pe_ix (ix_listK K) (pv 1) (pv 2) (fun _ _ => rfl)) (pa_cons pe_int (pa_cons (pv 3) pa_nil)))))) (pe_tupZ (pa_cons pe_str (pa_cons pe_int (pa_cons pe_bl pa_nil)))) (nomark _))
          (pss_one (ps_ret pe_bl))
          pss_nil)))
      (pss_cons (ps_if (PW.pt (pw_or (pt_cmpR op_ne (pe_callB call_len_seq (by rfl) T.n_len PySem.boot_len (pa_cons (pe_call (ok_rows_from T) (hr.mono (by decide)) (by rfl) T.rows_from.g T.rows_from.F.kp T.rows_from.b .nil pass0 (pa_cons (pe_ix ix_list (pv 1) pe_int (fun _ _ => rfl)) (pa_cons pe_int (pa_cons pe_int pa_nil)))) pa_nil)) pe_int (nomark _)) (pw_or (pt_cmpR op_ne (pe_callB call_len_seq (by rfl) T.n_len PySem.boot_len (pa_cons (pe_call (ok_rows_from T) (hr.mono (by decide)) (by rfl) T.rows_from.g T.rows_from.F.kp T.rows_from.b .nil pass0 (pa_cons (pe_ix ix_list (pv 1) pe_int (fun _ _ => rfl)) (pa_cons pe_int (pa_cons pe_int pa_nil)))) pa_nil)) pe_int (nomark _)) (pw_or1 (pt_cmpR (op_neD (hr.units)) (pe_call (ok_rows_from T) (hr.mono (by decide)) (by rfl) T.rows_from.g T.rows_from.F.kp T.rows_from.b .nil pass0 (pa_cons (pe_ix ix_list (pv 1) pe_int (fun _ _ => rfl)) (pa_cons pe_int (pa_cons pe_int pa_nil)))) (pe_tupZ (pa_cons (pe_tupZ pa_nil) pa_nil)) (nomark _))))))
        (pss_one (ps_ret pe_bl))
        pss_nil)
      (pss_cons (ps_set (i := 4) sc_law_bounds_right.nd rfl (.inl rfl) (pe_op op_catA (pe_callTy call_tupZ (by rfl) T.n_tuple (by decide +kernel) (pa_cons (pe_lc (own := [("at", 8)]) rfl sc_law_bounds_right.nd (pi_range1 (by rfl) T.n_range (pa_cons pe_int pa_nil)) (blkOk_by (own := [("at", 8)]) (N := ["pool", "loops", "count", "many", "chain", "lots", "told", "message", "at", "to", "last"]) (sc := defScope s_law_bounds_right) (by decide +kernel)) (fun _ _ _ _ _ => (pg_name (i := 8) sc_law_bounds_right.nd rfl (.inl rfl))) (fun _ _ _ _ _ => pts_nil) (fun _ _ _ _ _ => (pe_tupZ (pa_cons (pe_tupZ (pa_cons (pe_op op_sub pe_int (pv 8)) (pa_cons (pe_op op_add (pv 8) pe_int) pa_nil))) pa_nil)))) pa_nil)) (pe_tupZ (pa_cons (pe_tupZ pa_nil) pa_nil))))
      (pss_cons (ps_if (PW.pt (pw_or (pt_cmpR (op_neD (hr.units)) (pe_call (ok_way_to T) (hr.mono (by decide)) (by rfl) T.way_to.g T.way_to.F.kp T.way_to.b .nil pass0 (pa_cons (pv 4) (pa_cons pe_int pa_nil))) (pe_tupZ (pa_cons pe_int (pa_cons pe_int (pa_cons pe_int (pa_cons pe_int (pa_cons pe_int (pa_cons pe_int (pa_cons pe_int pa_nil)))))))) (nomark _)) (pw_or (pt_cmpR (op_neD (hr.units)) (pe_call (ok_ends_of T) (hr.mono (by decide)) (by rfl) T.ends_of.g T.ends_of.F.kp T.ends_of.b .nil pass0 (pa_cons (pv 4) pa_nil)) (pe_tupZ (pa_cons pe_int pa_nil)) (nomark _)) (pw_or1 (pt_cmpR op_ne (pe_callB call_len_seq (by rfl) T.n_len PySem.boot_len (pa_cons (pe_call (ok_rows_from T) (hr.mono (by decide)) (by rfl) T.rows_from.g T.rows_from.F.kp T.rows_from.b .nil pass0 (pa_cons (pv 4) (pa_cons pe_int (pa_cons pe_int pa_nil)))) pa_nil)) pe_int (nomark _))))))
        (pss_one (ps_ret pe_bl))
        pss_nil)
      (pss_cons (ps_set (i := 5) sc_law_bounds_right.nd rfl (.inr rfl) (pe_tupZ (pa_cons (pe_ix ix_tup (pe_ix ix_list (pv 1) pe_int (fun _ _ => rfl)) pe_int (fun _ _ => rfl)) (pa_cons (pe_ix ix_tup (pe_ix ix_list (pv 1) pe_int (fun _ _ => rfl)) pe_int (fun _ _ => rfl)) (pa_cons (pe_tupZ pa_nil) (pa_cons (pe_tupZ (pa_cons (pe_tupZ (pa_cons pe_int (pa_cons pe_int pa_nil))) pa_nil)) pa_nil))))))
      (pss_cons (ps_set (i := 5) sc_law_bounds_right.nd rfl (.inr rfl) (pe_op op_catA (pe_callTy call_tupZ (by rfl) T.n_tuple (by decide +kernel) (pa_cons (pe_lc (own := [("at", 8)]) rfl sc_law_bounds_right.nd (pi_range1 (by rfl) T.n_range (pa_cons pe_int pa_nil)) (blkOk_by (own := [("at", 8)]) (N := ["pool", "loops", "count", "many", "chain", "lots", "told", "message", "at", "to", "last"]) (sc := defScope s_law_bounds_right) (by decide +kernel)) (fun _ _ _ _ _ => (pg_name (i := 8) sc_law_bounds_right.nd rfl (.inr rfl))) (fun _ _ _ _ _ => pts_nil) (fun _ _ _ _ _ => (pe_callTy (call_tupZK K) (by rfl) T.n_tuple (by decide +kernel) (pa_cons (pe_lc (own := [("message", 7), ("to", 9)]) rfl sc_law_bounds_right.nd (pi_tupK K (pe_ix (ix_tupK K) (pv 5) (pv 8) (fun _ _ => rfl))) (blkOk_by (own := [("message", 7), ("to", 9)]) (by kernel_rfl)) (fun _ _ _ _ _ => (pg_tupK (n := 2) K rfl (pgs_cons (pg_name (i := 7) sc_law_bounds_right.nd rfl (.inl rfl)) (pgs_cons (pg_name (i := 9) sc_law_bounds_right.nd rfl (.inl rfl)) pgs_nil)))) (fun _ _ _ _ _ => pts_nil) (fun _ _ _ _ _ => (pe_tupZ (pa_cons (pv 7) (pa_cons (pe_op op_add (pv 8) pe_int) pa_nil))))) pa_nil)))) pa_nil)) (pe_slice sl_tupA (pv 5) (po_some pe_int) po_none)))
      (pss_cons (ps_set (i := 3) sc_law_bounds_right.nd rfl (.inr rfl) (pe_lc (own := [("last", 10)]) rfl sc_law_bounds_right.nd (pi_list (pe_lst (pa_cons pe_int (pa_cons pe_int pa_nil)))) (blkOk_by (own := [("last", 10)]) (N := ["pool", "loops", "count", "many", "chain", "lots", "told", "message", "at", "to", "last"]) (sc := defScope s_law_bounds_right) (by decide +kernel)) (fun _ _ _ _ _ => (pg_name (i := 10) sc_law_bounds_right.nd rfl (.inl rfl))) (fun _ _ _ _ _ => pts_nil) (fun _ _ _ _ _ => (pe_mid (pe_op (op_catAK K) (pe_tupZ (pa_cons (pe_tupZ (pa_cons (pe_tupZ (pa_cons pe_int (pa_cons pe_int pa_nil))) (pa_cons (pe_tupZ (pa_cons pe_int (pa_cons pe_int pa_nil))) (pa_cons (pe_tupZ (pa_cons pe_int (pa_cons pe_int pa_nil))) (pa_cons (pe_tupZ (pa_cons pe_int (pa_cons pe_int pa_nil))) (pa_cons (pe_tupZ (pa_cons pe_int (pa_cons (pv 10) pa_nil))) pa_nil)))))) pa_nil)) (pv 5))))))
      (pss_cons (ps_if (pt_cmpR (op_neD (hr.units)) (pe_heardT (k := 7) T rfl rfl (by rfl) TB hT hN rfl (hr.mono (by decide)) (LamX.lamS_by (sc := defScope s_law_bounds_right) (by decide +kernel)) rfl (fun _ _ _ _ _ => rfl) (fun _ _ _ _ _ _ _ hr => (pe_call (okX_rows_from T) (hr.mono (by decide)) (by rfl) T.rows_from.g T.rows_from.F.kp T.rows_from.b .nil (passes_call (takes_of rfl rfl rfl rfl) (fun _ _ _ _ h => h)) (pa_cons (pe_call (okL_trimmed T) (hr.mono (by decide)) (by rfl) T.trimmed.g T.trimmed.F.kp T.trimmed.b .nil (passes_call (takes_of rfl rfl rfl rfl) (fun _ _ _ _ h => h)) (pa_cons (pe_ix (ix_listK K) (pv 3) pe_int (fun _ _ => rfl)) pa_nil)) (pa_cons pe_int (pa_cons pe_int pa_nil)))))) (pe_tupZ (pa_cons pe_str (pa_cons pe_int (pa_cons pe_bl pa_nil)))) (nomark _))
        (pss_one (ps_ret pe_bl))
        pss_nil)
      (pss_cons (ps_if (pt_cmpR op_gt (pe_call (ok_law_draw T) (hr.mono (by decide)) (by rfl) T.law_draw.g T.law_draw.F.kp T.law_draw.b .nil pass0 (pa_cons (pv 0) (pa_cons pe_int pa_nil))) pe_int (nomark _))
        (pss_one (ps_ret pe_bl))
        pss_nil)
      (pss_cons (ps_if (pt_cmpR op_ne (pe_callB call_len_seq (by rfl) T.n_len PySem.boot_len (pa_cons (pe_call (ok_rows_from T) (hr.mono (by decide)) (by rfl) T.rows_from.g T.rows_from.F.kp T.rows_from.b .nil pass0 (pa_cons (pe_call (ok_trimmed T) (hr.mono (by decide)) (by rfl) T.trimmed.g T.trimmed.F.kp T.trimmed.b .nil pass0 (pa_cons (pe_ix ix_list (pv 3) pe_int (fun _ _ => rfl)) pa_nil)) (pa_cons pe_int (pa_cons pe_int pa_nil)))) pa_nil)) pe_int (nomark _))
        (pss_one (ps_ret pe_bl))
        pss_nil)
      (pss_cons (ps_set (i := 6) sc_law_bounds_right.nd rfl (.inl rfl) (pe_call (ok_rows_from T) (hr.mono (by decide)) (by rfl) T.rows_from.g T.rows_from.F.kp T.rows_from.b .nil pass0 (pa_cons (pe_ix ix_list (pv 1) pe_int (fun _ _ => rfl)) (pa_cons pe_int (pa_cons pe_int pa_nil)))))
      (pss_one (ps_ret (pe_and (pe_cmpR op_eq (pe_callB call_len_seq (by rfl) T.n_len PySem.boot_len (pa_cons (pv 6) pa_nil)) pe_int (nomark _)) (pe_and (pe_cmpR (op_eqD (hr.units)) (pe_slice sl_tupA (pv 6) (po_some pe_int) (po_some pe_int)) (pe_tupZ (pa_cons (pe_tupZ (pa_cons pe_int pa_nil)) (pa_cons (pe_tupZ (pa_cons pe_int pa_nil)) (pa_cons (pe_tupZ (pa_cons pe_int pa_nil)) (pa_cons (pe_tupZ (pa_cons pe_int pa_nil)) (pa_cons (pe_tupZ (pa_cons pe_int pa_nil)) pa_nil)))))) (nomark _)) (pe_one (pe_cmpR (op_eqD (hr.units)) (pe_ix ix_tup (pv 6) pe_int (fun _ _ => rfl)) (pe_op op_repTB (pe_tupZ (pa_cons pe_int pa_nil)) pe_int) (nomark _))))))))))))))))))), ?_⟩
    -- loops
    refine ⟨_, rfl, by decide, by decide, fun D hD => ?_⟩
    refine lc_range (lo := 0) (n := 6) (fun i H' => ∃ ls : List V, H' D = some (.lst ls) ∧ Paired (BkV K H') ls ((List.range i).map loopB) ∧ Ext [] H H') ⟨[], upd_same, .nil, .new hD⟩ ?_ ?_
    · rintro i H1 hi ⟨ls, hls, hB, e1⟩
      simp only [Int.zero_add]
      refine ⟨rfl, yes ?_⟩
      refine ⟨_, rfl, _, rfl, by omega, by omega, fun D2 hD2 => ?_⟩
      rw [Int.toNat_natCast]
      refine lc_range (lo := 0) (n := i) (fun k H' => ∃ ds : List Addr, H' D2 = some (.lst (ds.map V.ref)) ∧ Paired (MvV K H') ds ((List.range k).map fun m => (m, 0)) ∧ Ext [] H1 H') ⟨[], upd_same, .nil, .new hD2⟩ ?_ ?_
      · rintro k H2 hk ⟨ds, hds, hP, e2⟩
        simp only [Int.zero_add]
        refine ⟨rfl, yes ?_⟩
        refine ⟨_, rfl, (by show 2 ≤ sizeLine; decide), fun g H3 hg hH => ?_⟩
        obtain ⟨gz, e3⟩ := newZ (K := K) hg hH
        have hds3 := e3.at hds (by simp)
        refine ⟨_, hds3, by rw [List.length_map, Paired.len hP, List.length_map, List.length_range]; exact small1000 (by omega), ds ++ [g], by rw [upd_same, List.map_append]; rfl, ?_, (e2.trans e3).put hD2⟩
        rw [List.range_succ, List.map_append]
        exact Paired.snoc (MvV.put (m := (k, 0)) gz.sq hds3) (Paired.imp hP fun _ _ z => (z.ext0 e3).put hds3)
      · rintro H2 ⟨ds, hds, hP, e2⟩
        refine ⟨D2, _, rfl, .of hds, fun t H3 ht hH => ?_⟩
        obtain ⟨tz, e3⟩ := newZ (K := K) ht hH
        refine ⟨(by show 1 ≤ sizeLine; decide), fun g H4 hg hH => ?_⟩
        obtain ⟨gz, e4⟩ := newZ (K := K) hg hH
        have e24 := (e2.trans e3).trans e4
        have hls4 := e24.at hls (by simp)
        have bk : BkV K H4 (.ref g) (loopB i) := ⟨g, [.ref t], rfl, gz.sq, .cons ⟨t, ds, rfl, e4.tz Lsts.nil tz, Paired.imp hP fun _ _ z => z.ext0 (e3.trans e4)⟩ .nil⟩
        have eD : Ext [D] H4 (upd H4 D (.lst (ls ++ [.ref g]))) := .wr (by simp)
        refine ⟨_, hls4, by rw [Paired.len hB, List.length_map, List.length_range]; exact small1000 (by omega), ls ++ [.ref g], upd_same, ?_, (e1.trans e24).put hD⟩
        rw [List.range_succ, List.map_append]
        exact Paired.snoc (bk.ext eD (one_lst hls4)) (Paired.imp hB fun _ _ z => (z.ext0 e24).ext eD (one_lst hls4))
    rintro H1 ⟨ls, hls, hB, e1⟩
    have P1 := P0.ext0 e1
    have T1 := T0.ext e1.toSame
    have lsl : ls.length = 6 := by rw [Paired.len hB]; rfl
    have loop_at : ∀ c, c < 6 → ∃ v, ls[c]? = some v ∧ BkV K H1 v (loopB c) := fun c hc => Paired.get hB (by rw [List.getElem?_map, List.getElem?_range hc]; rfl)
    have offD := P0.off hD
    clear hB T0 P0 hD
    -- too many of them
    refine ⟨(by show 2 ≤ sizeLine; decide), fun p1 H2 f1 g1 => ?_⟩
    obtain ⟨z1, a1⟩ := newZ (K := K) f1 g1
    refine ⟨(by show 2 ≤ sizeLine; decide), fun p2 H3 f2 g2 => ?_⟩
    obtain ⟨z2, a2⟩ := newZ (K := K) f2 g2
    refine ⟨(by show 2 ≤ sizeLine; decide), fun p3 H4 f3 g3 => ?_⟩
    obtain ⟨z3, a3⟩ := newZ (K := K) f3 g3
    refine ⟨(by show 2 ≤ sizeLine; decide), fun p4 H5 f4 g4 => ?_⟩
    obtain ⟨z4, a4⟩ := newZ (K := K) f4 g4
    refine ⟨(by show 4 ≤ sizeLine; decide), fun L hL => ?_⟩
    have a5 : Ext [] H5 (upd H5 L (.lst [.ref p1, .ref p2, .ref p3, .ref p4])) := .new hL
    have hM : Paired (MvV K (upd H5 L (.lst [.ref p1, .ref p2, .ref p3, .ref p4]))) [p1, p2, p3, p4] manyL :=
      .cons ((((a2.trans a3).trans a4).trans a5).tz Lsts.nil z1).sq (.cons (((a3.trans a4).trans a5).tz Lsts.nil z2).sq (.cons ((a4.trans a5).tz Lsts.nil z3).sq (.cons (a5.tz Lsts.nil z4).sq .nil)))
    have hL6 : upd H5 L (.lst [.ref p1, .ref p2, .ref p3, .ref p4]) L = some (.lst ([p1, p2, p3, p4].map V.ref)) := upd_same
    have a15 := (((a1.trans a2).trans a3).trans a4).trans a5
    have T6 := T1.ext a15.toSame
    have e6 := ext_toN a15
    clear a1 a2 a3 a4 a5 a15 z1 z2 z3 z4 f1 f2 f3 f4 g1 g2 g3 g4 hL
    refine ⟨L, rfl, ⟨_, .of hL6⟩, ?_⟩
    generalize upd H5 L (.lst [.ref p1, .ref p2, .ref p3, .ref p4]) = H6 at *
    have toB : ∀ {H' : Hp}, LamX.ExtN H1 H' → ∀ c, c < 6 → ∃ v, ls[c]? = some v ∧ BkV K H' v (loopB c) := fun e c hc => by
      obtain ⟨v, h1, h2⟩ := loop_at c hc
      exact ⟨v, h1, h2.extN e⟩
    have toL : ∀ {H' : Hp}, LamX.ExtN H1 H' → H' D = some (.lst ls) := fun e => e _ _ hls fun ps z => nomatch z
    refine for_list (K := K) (a := L) (xs := [p1, p2, p3, p4].map V.ref) (fun i σ H' => ∃ y2 y3 : Option V, σ = [some (.ref p), some (.ref D), y2, y3, none, none, none, none, none, none, none] ∧ LamX.Tabs TT H' ∧ LamX.ExtN H6 H') ⟨_, _, rfl, T6, .refl _⟩ (fun i σ H' _ ⟨_, _, _, _, e⟩ => ExtN.lst e (.of hL6)) ?_ ?_
    · rintro i v σ H7 hv ⟨y2, y3, rfl, T7, e7⟩
      obtain ⟨g, hg, rfl⟩ := map_at hv
      obtain ⟨q0, hq0, hc⟩ := Paired.get' hM hg
      obtain ⟨o1, o2, o3⟩ := over_of (List.mem_of_getElem? hq0)
      refine ⟨g, _, rfl, ExtN.tup e7 hc, rfl, _, _, rfl, _, _, rfl, rfl, ?_⟩
      refine ⟨T7, fun H8 eN8 T8 => heard_err T (.inr (.inr ⟨rfl, rfl⟩)) (.int 5000) (fun E Q o => ?_) fun t H9 dp9 e9 => ?_⟩
      · have e8 := (e6.trans e7).trans eN8
        obtain ⟨lv, hlv, bkv⟩ := toB e8 q0.1 (by omega)
        refine ⟨_, rfl, _, rfl, D, ls, q0.1, lv, rfl, rfl, .of (toL e8), atN hlv, _, rfl, ?_⟩
        exact rows_over bkv (loop_ok o1) (by show 0 < 1; decide) o2 o3 o
      · refine ⟨(by show 3 ≤ sizeLine; decide), fun g2 H10 fg hg2 => ?_⟩
        obtain ⟨gz, e10⟩ := newZ (K := K) fg hg2
        refine ⟨.tuple [.str "TooMany", .int 5000, .bool true], .tuple [.str "TooMany", .int 5000, .bool true], Dp.ext0 e10 dp9, .tup gz.sq (.cons (.str _) (.cons (.int _) (.cons (.bl _) .nil))), by decide +kernel, by decide +kernel, _, rfl, ?_⟩
        rw [show (!PyData.eqv (.tuple [.str "TooMany", .int 5000, .bool true]) (.tuple [.str "TooMany", .int 5000, .bool true])) = false by decide +kernel]
        exact iteF ⟨_, _, rfl, T8.ext (e9.trans e10).toSame, (e7.trans eN8).trans (ext_toN (e9.trans e10))⟩
    rintro σ H7 ⟨y2, y3, rfl, T7, e7⟩
    have E7 := e6.trans e7
    clear hM hL6 T6 T1 e7 e6
    -- few of them
    obtain ⟨v1, hv1, b1⟩ := toB E7 1 (by decide)
    refine ⟨_, rfl, D, ls, 1, v1, rfl, rfl, .of (toL E7), atN hv1, ?_⟩
    refine ⟨v1, .int 0, .int 8, loopB 1, .int 0, .int 8, rfl, b1, loop_ok (by decide), .int 0, .int 8, fun h => absurd h (by decide), fun s1 es hs => ⟨fun h => absurd h (by decide), fun n1 en hn => ?_⟩⟩
    obtain rfl := nat_of (k := 0) es
    obtain rfl := nat_of (k := 8) en
    refine ⟨fun h => absurd h (few_of (by rw [loop1]; decide)), fun _ t1 x1 H8 ht1 hx1 e8 => ?_⟩
    clear es en hs hn
    refine ⟨t1, _, rfl, .inr ht1, rfl, _, rfl, ?_⟩
    rw [ne_int, Paired.len hx1, loop1, show (!decide (((9 : Nat) : Int) = 9)) = false by decide]
    refine iteF ?_
    have E8 := E7.trans (ext_toN e8)
    obtain ⟨v2, hv2, b2⟩ := toB E8 2 (by decide)
    refine ⟨_, rfl, D, ls, 2, v2, rfl, rfl, .of (toL E8), atN hv2, ?_⟩
    refine ⟨v2, .int 0, .int 8, loopB 2, .int 0, .int 8, rfl, b2, loop_ok (by decide), .int 0, .int 8, fun h => absurd h (by decide), fun s1 es hs => ⟨fun h => absurd h (by decide), fun n1 en hn => ?_⟩⟩
    obtain rfl := nat_of (k := 0) es
    obtain rfl := nat_of (k := 8) en
    refine ⟨fun h => absurd h (few_of (by rw [loop2]; decide)), fun _ t2 x2 H9 ht2 hx2 e9 => ?_⟩
    clear es en hs hn
    refine ⟨t2, _, rfl, .inr ht2, rfl, _, rfl, ?_⟩
    rw [ne_int, Paired.len hx2, loop2, show (!decide (((511 : Nat) : Int) = 511)) = false by decide]
    refine iteF ?_
    have E9 := E8.trans (ext_toN e9)
    obtain ⟨v0, hv0, b0⟩ := toB E9 0 (by decide)
    refine ⟨_, rfl, D, ls, 0, v0, rfl, rfl, .of (toL E9), atN hv0, ?_⟩
    refine ⟨v0, .int 0, .int 8, loopB 0, .int 0, .int 8, rfl, b0, loop_ok (by decide), .int 0, .int 8, fun h => absurd h (by decide), fun s1 es hs => ⟨fun h => absurd h (by decide), fun n1 en hn => ?_⟩⟩
    obtain rfl := nat_of (k := 0) es
    obtain rfl := nat_of (k := 8) en
    refine ⟨fun h => absurd h (few_of (by rw [loop0]; decide)), fun _ t3 x3 H10 ht3 hx3 e10 => ?_⟩
    clear es en hs hn
    refine ⟨Nat.zero_le _, fun g1 H11 fg1 hg1 => ?_⟩
    obtain ⟨gz1, e11⟩ := newZ (K := K) fg1 hg1
    refine ⟨(by show 1 ≤ sizeLine; decide), fun g2 H12 fg2 hg2 => ?_⟩
    obtain ⟨gz2, e12⟩ := newZ (K := K) fg2 hg2
    have d3 := Dp.ext0 (e11.trans e12) (.tup ht3 (rws_dp hx3))
    rw [loop0] at d3
    refine ⟨_, .tuple [.tuple []], d3, .tup gz2.sq (.cons (.tup (e12.tz Lsts.nil gz1).sq .nil) .nil), by decide +kernel, by decide +kernel, _, rfl, ?_⟩
    rw [show (!PyData.eqv (.tuple ([[]].map rowD)) (.tuple [.tuple []])) = false by decide +kernel]
    refine iteF ?_
    have eA := ((((e8.trans e9).trans e10).trans e11).trans e12)
    have T12 := T7.ext eA.toSame
    have E12 := E7.trans (ext_toN eA)
    clear b1 b2 b0 hv1 hv2 hv0 ht1 hx1 ht2 hx2 ht3 hx3 e8 e9 e10 e11 e12 E8 E9 d3 gz1 gz2 fg1 fg2 hg1 hg2 eA T7 E7
    -- the chain
    refine ⟨_, rfl, by decide, by decide, fun D2 hD2 => ?_⟩
    refine lc_range (lo := 0) (n := 7) (fun i H' => ∃ cs : List V, H' D2 = some (.lst cs) ∧ Paired (StV K H') cs ((List.range i).map fun k => [(7 - k, k + 1)]) ∧ Ext [] H12 H') ⟨[], upd_same, .nil, .new hD2⟩ ?_ ?_
    · rintro i H13 hi ⟨cs, hcs, hP, e1⟩
      simp only [Int.zero_add]
      refine ⟨rfl, yes ?_⟩
      refine ⟨_, rfl, _, _, rfl, rfl, _, rfl, _, _, rfl, rfl, (by show 2 ≤ sizeLine; decide), fun g1 H14 fg1 hg1 => ?_⟩
      obtain ⟨gz1, a1⟩ := newZ (K := K) fg1 hg1
      refine ⟨(by show 1 ≤ sizeLine; decide), fun g2 H15 fg2 hg2 => ?_⟩
      obtain ⟨gz2, a2⟩ := newZ (K := K) fg2 hg2
      have hcs2 := (a1.trans a2).at hcs (by simp)
      refine ⟨_, hcs2, by rw [Paired.len hP, List.length_map, List.length_range]; exact small1000 (by omega), cs ++ [.ref g2], upd_same, ?_, ((e1.trans a1).trans a2).put hD2⟩
      rw [List.range_succ, List.map_append]
      refine Paired.snoc (StV.put ⟨g2, [g1], rfl, gz2, .cons ?_ .nil⟩ hcs2) (Paired.imp hP fun _ _ z => (z.ext0 (a1.trans a2)).put hcs2)
      have this : SqT K H15 g1 [.int ((7 : Int) - (i : Int)), .int ((i : Int) + 1)] := (a2.tz Lsts.nil gz1).sq
      rw [show ((7 : Int) - (i : Int)) = ((7 - i : Nat) : Int) by omega, show ((i : Int) + 1) = ((i + 1 : Nat) : Int) by omega] at this
      exact this
    rintro H13 ⟨cs, hcs, hP, e1⟩
    refine ⟨D2, _, rfl, .of hcs, fun t H14 ht hH => ?_⟩
    obtain ⟨tz, a1⟩ := newZ (K := K) ht hH
    refine ⟨Nat.zero_le _, fun g1 H15 fg1 hg1 => ?_⟩
    obtain ⟨gz1, a2⟩ := newZ (K := K) fg1 hg1
    refine ⟨(by show 1 ≤ sizeLine; decide), fun g2 H16 fg2 hg2 => ?_⟩
    obtain ⟨gz2, a3⟩ := newZ (K := K) fg2 hg2
    have a13 := (a1.trans a2).trans a3
    refine catB ((a2.trans a3).tz Lsts.nil tz).sq gz2.sq (by rw [Paired.len hP, List.length_map, List.length_range]; show 7 + 1 ≤ 1000; decide) fun ch H17 hch a4 => ?_
    have bch : BkV K H17 (.ref ch) chainB := ⟨ch, _, rfl, hch, Paired.app (Paired.imp hP fun _ _ z => z.ext0 (a13.trans a4)) (.cons ⟨g1, [], rfl, (a3.trans a4).tz Lsts.nil gz1, .nil⟩ .nil)⟩
    have eA := (e1.trans a13).trans a4
    have T17 := T12.ext eA.toSame
    have E17 := E12.trans (ext_toN eA)
    clear hP hcs tz gz1 gz2 ht hH fg1 fg2 hg1 hg2 a1 a2 a3 a13 a4 hch e1 eA T12 E12 hD2
    refine ⟨_, rfl, .ref ch, .int 7, chainB, .int 7, rfl, bch, chain_ok, .int 7, fun h => absurd h (by decide), fun s1 es hs r v' H18 hw rl hr a1 => ?_⟩
    obtain rfl := nat_of (k := 7) es
    rw [chain1] at hw
    cases hw
    refine ⟨(by show 7 ≤ sizeLine; decide), fun g H19 fg hg => ?_⟩
    obtain ⟨gz, a2⟩ := newZ (K := K) fg hg
    refine ⟨rowD [7, 6, 5, 4, 3, 2, 1], .tuple [.int 7, .int 6, .int 5, .int 4, .int 3, .int 2, .int 1], Dp.ext0 a2 (rw_dp hr), .tup gz.sq (.cons (.int _) (.cons (.int _) (.cons (.int _) (.cons (.int _) (.cons (.int _) (.cons (.int _) (.cons (.int _) .nil))))))), by decide +kernel, by decide +kernel, _, rfl, ?_⟩
    rw [show (!PyData.eqv (rowD [7, 6, 5, 4, 3, 2, 1]) (.tuple [.int 7, .int 6, .int 5, .int 4, .int 3, .int 2, .int 1])) = false by decide +kernel]
    refine iteF ?_
    have a12 := a1.trans a2
    refine ⟨_, rfl, .ref ch, chainB, rfl, bch.ext0 a12, chain_ok, fun t H20 ht a3 => ?_⟩
    refine ⟨(by show 1 ≤ sizeLine; decide), fun g H21 fg hg => ?_⟩
    obtain ⟨gz, a4⟩ := newZ (K := K) fg hg
    rw [chain2] at ht
    refine ⟨.tuple [.int 7], .tuple [.int 7], .tup (a4.tup Lsts.nil ht) (.cons (.int _) .nil), .tup gz.sq (.cons (.int _) .nil), by decide +kernel, by decide +kernel, _, rfl, ?_⟩
    rw [show (!PyData.eqv (.tuple [.int 7]) (.tuple [.int 7])) = false by decide +kernel]
    refine iteF ?_
    have a14 := (a12.trans a3).trans a4
    refine ⟨_, rfl, ?_⟩
    refine ⟨.ref ch, .int 0, .int 8, chainB, .int 0, .int 8, rfl, bch.ext0 a14, chain_ok, .int 0, .int 8, fun h => absurd h (by decide), fun s2 es2 hs2 => ⟨fun h => absurd h (by decide), fun n1 en hn => ?_⟩⟩
    obtain rfl := nat_of (k := 0) es2
    obtain rfl := nat_of (k := 8) en
    refine ⟨fun h => absurd h (few_of (by rw [chain3]; decide)), fun _ t4 x4 H22 ht4 hx4 a5 => ?_⟩
    refine ⟨t4, _, rfl, .inr ht4, rfl, _, rfl, ?_⟩
    rw [ne_int, Paired.len hx4, chain3, show (!decide (((8 : Nat) : Int) = 8)) = false by decide]
    refine iteF ?_
    have a15 := a14.trans a5
    have T22 := T17.ext a15.toSame
    have E22 := E17.trans (ext_toN a15)
    clear es hs rl hr gz fg hg a1 a2 a12 a3 a4 a14 ht ht4 hx4 a5 es2 hs2 en hn bch T17 E17 a15
    -- lots
    obtain ⟨v5, hv5, b5⟩ := toB E22 5 (by decide)
    obtain ⟨v3, hv3, b3⟩ := toB E22 3 (by decide)
    obtain ⟨a5, us5, rfl, ha5, hu5⟩ := b5
    obtain ⟨a3, us3, rfl, ha3, hu3⟩ := b3
    obtain ⟨u5, hu5, s5⟩ := Paired.get hu5 (i := 0) rfl
    obtain ⟨u3, hu3, s3⟩ := Paired.get hu3 (i := 0) rfl
    refine ⟨_, rfl, D, ls, 5, .ref a5, rfl, rfl, .of (toL E22), atN hv5, a5, us5, 0, u5, rfl, rfl, ha5, atN hu5, ?_⟩
    refine ⟨_, rfl, D, ls, 3, .ref a3, rfl, rfl, .of (toL E22), atN hv3, a3, us3, 0, u3, rfl, rfl, ha3, atN hu3, ?_⟩
    refine ⟨Nat.zero_le _, fun g1 H23 fg1 hg1 => ?_⟩
    obtain ⟨gz1, e1⟩ := newZ (K := K) fg1 hg1
    refine ⟨(by show 2 ≤ sizeLine; decide), fun g2 H24 fg2 hg2 => ?_⟩
    obtain ⟨gz2, e2⟩ := newZ (K := K) fg2 hg2
    refine ⟨(by show 1 ≤ sizeLine; decide), fun g3 H25 fg3 hg3 => ?_⟩
    obtain ⟨gz3, e3⟩ := newZ (K := K) fg3 hg3
    refine ⟨(by show 4 ≤ sizeLine; decide), fun lt H26 fl hl => ?_⟩
    obtain ⟨lz, e4⟩ := newZ (K := K) fl hl
    have e14 := ((e1.trans e2).trans e3).trans e4
    have s5 := s5.ext0 e14
    have s3 := s3.ext0 e14
    have sg1 : StV K H26 (.ref g1) [] := ⟨g1, [], rfl, ((e2.trans e3).trans e4).tz Lsts.nil gz1, .nil⟩
    have sg3 : StV K H26 (.ref g3) [(0, 3)] := ⟨g3, [g2], rfl, e4.tz Lsts.nil gz3, .cons ((e3.trans e4).tz Lsts.nil gz2).sq .nil⟩
    have T26 := T22.ext e14.toSame
    have E26 := E22.trans (ext_toN e14)
    clear gz1 gz2 gz3 fg1 hg1 fg2 hg2 fg3 hg3 fl hl e1 e2 e3 e4 e14 T22 E22 ha5 ha3 hu5 hu3 hv5 hv3
    have src : ∀ i, i < 2 → ∃ (u : V) (c : Nat), ([u5, u3, .ref g1, .ref g3] : List V)[i]? = some u ∧ StV K H26 u ((List.range c).map fun m => (m, 0)) ∧ lotsS i = (List.range c).map (fun m => (m, i + 1)) ∧ c ≤ 5 := fun i hi => by
      rcases (show i = 0 ∨ i = 1 by omega) with rfl | rfl
      · exact ⟨u5, 5, rfl, s5, rfl, by decide⟩
      · exact ⟨u3, 3, rfl, s3, rfl, by decide⟩
    refine ⟨_, rfl, by decide, by decide, fun D3 hD3 => ?_⟩
    refine lc_range (lo := 0) (n := 2) (fun i H' => ∃ cs : List V, H' D3 = some (.lst cs) ∧ Paired (StV K H') cs ((List.range i).map lotsS) ∧ Ext [] H26 H') ⟨[], upd_same, .nil, .new hD3⟩ ?_ ?_
    · rintro i H27 hi ⟨cs, hcs, hP, e1⟩
      simp only [Int.zero_add]
      refine ⟨rfl, yes ?_⟩
      obtain ⟨u, c, hu, ⟨a, ps, rfl, ha, hps⟩, el, c5⟩ := src i hi
      refine ⟨_, rfl, _, rfl, lt, _, i, _, rfl, rfl, (e1.tz Lsts.nil lz).sq, atN hu, a, rfl, ⟨_, (e1.tz Lsts.nil ha).sq⟩, fun D4 hD4 => ?_⟩
      refine lc_tup (K := K) (a := a) (xs := ps.map V.ref) (fun k H' => ∃ ds : List Addr, H' D4 = some (.lst (ds.map V.ref)) ∧ Paired (MvV K H') ds ((List.range k).map fun m => (m, i + 1)) ∧ Ext [] H27 H') ⟨[], upd_same, .nil, .new hD4⟩ (fun k H' _ ⟨_, _, _, e⟩ => ((e1.trans e).tz Lsts.nil ha).sq) ?_ ?_
      · rintro k v H28 hv ⟨ds, hds, hQ, e2⟩
        obtain ⟨g, hg, rfl⟩ := map_at hv
        obtain ⟨z, hz, hcp⟩ := Paired.get' hps hg
        rw [List.getElem?_map] at hz
        obtain ⟨m, hm, rfl⟩ := Option.map_eq_some_iff.mp hz
        have kc : k < c := by
          have := (List.getElem?_eq_some_iff.mp hm).1
          rwa [List.length_range] at this
        rw [List.getElem?_range kc] at hm
        cases hm
        refine ⟨g, _, rfl, hcp.ext0 (e1.trans e2), rfl, _, _, rfl, _, _, rfl, rfl, rfl, yes ?_⟩
        refine ⟨_, rfl, _, rfl, _, _, rfl, rfl, (by show 2 ≤ sizeLine; decide), fun g5 H29 fg hg5 => ?_⟩
        obtain ⟨gz, e3⟩ := newZ (K := K) fg hg5
        have hds3 := e3.at hds (by simp)
        refine ⟨_, hds3, by rw [List.length_map, Paired.len hQ, List.length_map, List.length_range]; exact small1000 (by omega), ds ++ [g5], by rw [upd_same, List.map_append]; rfl, ?_, (e2.trans e3).put hD4⟩
        rw [List.range_succ, List.map_append]
        exact Paired.snoc (MvV.put (m := (k, i + 1)) gz.sq hds3) (Paired.imp hQ fun _ _ z => (z.ext0 e3).put hds3)
      · rintro H28 ⟨ds, hds, hQ, e2⟩
        have pl : ps.length = c := by rw [Paired.len hps, List.length_map, List.length_range]
        rw [List.length_map, pl, ← el] at hQ
        refine ⟨D4, _, rfl, .of hds, fun t5 H29 ht hH => ?_⟩
        obtain ⟨tz, e3⟩ := newZ (K := K) ht hH
        have hcs3 := (e2.trans e3).at hcs (by simp)
        refine ⟨_, hcs3, by rw [Paired.len hP, List.length_map, List.length_range]; exact small1000 (by omega), cs ++ [.ref t5], upd_same, ?_, ((e1.trans e2).trans e3).put hD3⟩
        rw [List.range_succ, List.map_append]
        exact Paired.snoc (StV.put ⟨t5, ds, rfl, tz, Paired.imp hQ fun _ _ z => z.ext0 e3⟩ hcs3) (Paired.imp hP fun _ _ z => (z.ext0 (e2.trans e3)).put hcs3)
    rintro H27 ⟨cs, hcs, hP, e1⟩
    refine ⟨D3, _, rfl, .of hcs, fun t5 H28 ht hH => ?_⟩
    obtain ⟨tz, e2⟩ := newZ (K := K) ht hH
    refine ⟨_, rfl, _, rfl, ?_⟩
    dsimp only [tNoPart]
    refine slA ((e1.trans e2).tz Lsts.nil lz).sq fun sl H29 hsl e3 => ?_
    rw [show cutV [u5, u3, .ref g1, .ref g3] (some 2) none = [V.ref g1, .ref g3] from rfl] at hsl
    refine catB (e3.tz Lsts.nil tz).sq hsl (by rw [Paired.len hP, List.length_map, List.length_range]; show 2 + 2 ≤ 1000; decide) fun l2 H30 hl2 e4 => ?_
    have e14 := ((e1.trans e2).trans e3).trans e4
    have hS : Paired (StV K H30) (cs ++ [.ref g1, .ref g3]) [lotsS 0, lotsS 1, [], [(0, 3)]] :=
      Paired.app (Paired.imp hP fun _ _ z => z.ext0 ((e2.trans e3).trans e4)) (.cons (sg1.ext0 e14) (.cons (sg3.ext0 e14) .nil))
    have T30 := T26.ext e14.toSame
    have E30 := E26.trans (ext_toN e14)
    clear src hP hcs tz ht hH hsl sg1 sg3 s5 s3 lz e1 e2 e3 e4 e14 T26 E26 hD3
    -- the books
    refine ⟨(by show 2 ≤ sizeLine; decide), fun L2 hL2 => ⟨L2, rfl, ⟨_, .of upd_same⟩, fun D5 hD5 => ?_⟩⟩
    have e0 : Ext [] H30 (upd H30 L2 (.lst [.int 3, .int 4])) := .new hL2
    have hl31 := e0.tup Lsts.nil hl2
    have hS31 : Paired (StV K (upd H30 L2 (.lst [.int 3, .int 4]))) (cs ++ [.ref g1, .ref g3]) [lotsS 0, lotsS 1, [], [(0, 3)]] := Paired.imp hS fun _ _ z => z.ext0 e0
    have hL31 : upd H30 L2 (.lst [.int 3, .int 4]) L2 = some (.lst ([3, 4].map nV)) := upd_same
    have T31 := T30.ext e0.toSame
    have E31 := E30.trans (ext_toN e0)
    clear e0 hS hl2 T30 E30 hL2
    generalize upd H30 L2 (.lst [.int 3, .int 4]) = H31 at *
    refine lc_list (K := K) (a := L2) (xs := [3, 4].map nV) (fun i H' => ∃ bs : List V, H' D5 = some (.lst bs) ∧ Paired (BkV K H') bs (([3, 4].take i).map bigB) ∧ Ext [] H31 H') ⟨[], upd_same, .nil, .new hD5⟩ (fun i H' _ ⟨_, _, _, e⟩ => .of (e.at hL31 (by simp))) ?_ ?_
    · rintro i v H32 hv ⟨bs, hbs, hB, e1⟩
      obtain ⟨last, hlast, rfl⟩ := map_at hv
      have i2 : i < 2 := (List.getElem?_eq_some_iff.mp hlast).1
      refine ⟨rfl, yes ?_⟩
      refine ⟨fun u H7 => Ext [] H32 H7 ∧ BkV K H7 u (bigB last), ?_, ?_⟩
      · refine ⟨(by show 2 ≤ sizeLine; decide), fun p1 H2 f1 g1 => ?_⟩
        obtain ⟨z1, a1⟩ := newZ (K := K) f1 g1
        refine ⟨(by show 2 ≤ sizeLine; decide), fun p2 H3 f2 g2 => ?_⟩
        obtain ⟨z2, a2⟩ := newZ (K := K) f2 g2
        refine ⟨(by show 2 ≤ sizeLine; decide), fun p3 H4 f3 g3 => ?_⟩
        obtain ⟨z3, a3⟩ := newZ (K := K) f3 g3
        refine ⟨(by show 2 ≤ sizeLine; decide), fun p4 H5 f4 g4 => ?_⟩
        obtain ⟨z4, a4⟩ := newZ (K := K) f4 g4
        refine ⟨_, rfl, (by show 2 ≤ sizeLine; decide), fun p5 H6 f5 g5 => ?_⟩
        obtain ⟨z5, a5⟩ := newZ (K := K) f5 g5
        refine ⟨(by show 5 ≤ sizeLine; decide), fun p6 H7 f6 g6 => ?_⟩
        obtain ⟨z6, a6⟩ := newZ (K := K) f6 g6
        refine ⟨(by show 1 ≤ sizeLine; decide), fun p7 H8 f7 g7 => ?_⟩
        obtain ⟨z7, a7⟩ := newZ (K := K) f7 g7
        have a27 := (((((a2.trans a3).trans a4).trans a5).trans a6).trans a7)
        have a17 := a1.trans a27
        refine ⟨_, rfl, ?_⟩
        refine catB z7.sq ((e1.trans a17).tup Lsts.nil hl31) (by rw [Paired.len hS31]; show 1 + 4 ≤ 1000; decide) fun bk H9 hbk a8 => ⟨a17.trans a8, bk, _, rfl, hbk, ?_⟩
        have h1 : StV K H9 (.ref p6) [(0, 1), (1, 2), (2, 2), (3, 2), (4, last)] := ⟨p6, [p1, p2, p3, p4, p5], rfl, (a7.trans a8).tz Lsts.nil z6,
          .cons ((a27.trans a8).tz Lsts.nil z1).sq (.cons ((((((a3.trans a4).trans a5).trans a6).trans a7).trans a8).tz Lsts.nil z2).sq (.cons (((((a4.trans a5).trans a6).trans a7).trans a8).tz Lsts.nil z3).sq (.cons ((((a5.trans a6).trans a7).trans a8).tz Lsts.nil z4).sq (.cons (((a6.trans a7).trans a8).tz Lsts.nil z5).sq .nil))))⟩
        exact .cons h1 (Paired.imp hS31 fun _ _ z => z.ext0 ((e1.trans a17).trans a8))
      · rintro u H7 ⟨e2, hu⟩
        have hbs2 := e2.at hbs (by simp)
        have eD : Ext [D5] H7 (upd H7 D5 (.lst (bs ++ [u]))) := .wr (by simp)
        refine ⟨bs, hbs2, by rw [Paired.len hB, List.length_map, List.length_take]; exact small1000 (by omega), bs ++ [u], upd_same, ?_, (e1.trans e2).put hD5⟩
        rw [List.take_add_one, hlast, List.map_append]
        exact Paired.snoc (hu.ext eD (one_lst hbs2)) (Paired.imp hB fun _ _ z => (z.ext0 e2).ext eD (one_lst hbs2))
    rintro H32 ⟨bs, hbs, hB, e1⟩
    have hB : Paired (BkV K H32) bs [bigB 3, bigB 4] := hB
    have T32 := T31.ext e1.toSame
    have E32 := E31.trans (ext_toN e1)
    have offD5 := (P1.extN E31).off hD5
    clear e1 T31 E31 hS31 hl31 hL31 hD5
    -- one row more
    refine ⟨T32, fun H33 eN33 T33 => heard_err T (.inr (.inr ⟨rfl, rfl⟩)) (.int 5000) (fun E Q o => ?_) fun t H34 dp e34 => ?_⟩
    · obtain ⟨vb, hvb, bv⟩ := Paired.get hB (i := 1) rfl
      have bv := bv.extN eN33
      refine ⟨_, rfl, D5, bs, 1, vb, rfl, rfl, .of (eN33 _ _ hbs fun ps z => nomatch z), atN hvb, .inr ⟨vb, bigB 4, rfl, bv.wk, big4, fun v' H' hb' e' => ?_⟩⟩
      exact rows_over (s := 0) (n := 6) hb' (ren_okB big4) (ren_okB big4).one (by decide) big4o (o.ext e')
    refine ⟨(by show 3 ≤ sizeLine; decide), fun gg H35 fg hg2 => ?_⟩
    obtain ⟨gz, e35⟩ := newZ (K := K) fg hg2
    refine ⟨.tuple [.str "TooMany", .int 5000, .bool true], .tuple [.str "TooMany", .int 5000, .bool true], Dp.ext0 e35 dp, .tup gz.sq (.cons (.str _) (.cons (.int _) (.cons (.bl _) .nil))), by decide +kernel, by decide +kernel, _, rfl, ?_⟩
    rw [show (!PyData.eqv (.tuple [.str "TooMany", .int 5000, .bool true]) (.tuple [.str "TooMany", .int 5000, .bool true])) = false by decide +kernel]
    refine iteF ?_
    have E35 := (E32.trans eN33).trans (ext_toN (e34.trans e35))
    have N35 := eN33.trans (ext_toN (e34.trans e35))
    have P35 := P1.extN E35
    refine ⟨_, rfl, p, l, 16, rfl, P35, by decide, by decide, fun r H36 r0 r1 P36 e36 => ?_⟩
    refine ⟨_, _, rfl, rfl, _, rfl, ?_⟩
    by_cases hr0 : (0 : Int) < r
    · rw [decide_eq_true hr0]
      exact iteT (q _)
    rw [decide_eq_false hr0]
    refine iteF ?_
    obtain ⟨vb, hvb, bv⟩ := Paired.get hB (i := 0) rfl
    have bv36 := (bv.extN N35).ext e36 P35.lsts
    obtain ⟨v5, hv5, b5⟩ := toB E35 5 (by decide)
    have b5 := b5.ext e36 P35.lsts
    have hbs36 : SqL K H36 D5 bs := .of (e36 _ _ (off2 offD5.1 offD5.2) (N35 _ _ hbs fun ps z => nomatch z))
    have hls36 : SqL K H36 D ls := .of (e36 _ _ (off2 offD.1 offD.2) (toL E35))
    refine ⟨_, rfl, D5, bs, 0, vb, rfl, rfl, hbs36, atN hvb, vb, bigB 3, rfl, bv36.wk, big3, fun v' H37 hb' e37 => ?_⟩
    refine ⟨v', .int 0, .int 6, _, .int 0, .int 6, rfl, hb', ren_okB big3, .int 0, .int 6, fun h => absurd h (by decide +kernel), fun s2 es2 hs2 => ⟨fun h => absurd h (by decide), fun n1 en hn => ?_⟩⟩
    obtain rfl := nat_of (k := 0) es2
    obtain rfl := nat_of (k := 6) en
    refine ⟨fun h => absurd h (few_of (by rw [big3n]; decide)), fun _ t4 x4 H38 ht4 hx4 e38 => ?_⟩
    refine ⟨t4, _, rfl, .inr ht4, rfl, _, rfl, ?_⟩
    rw [ne_int, Paired.len hx4, big3n, show (!decide (((5000 : Nat) : Int) = 5000)) = false by decide]
    refine iteF ?_
    have e78 := e37.trans e38
    refine ⟨_, rfl, D, ls, 5, v5, rfl, rfl, e78.frz (by simp) hls36, atN hv5, ?_⟩
    refine ⟨v5, .int 0, .int 5, loopB 5, .int 0, .int 5, rfl, b5.ext0 e78, loop_ok (by decide), .int 0, .int 5, fun h => absurd h (by decide), fun s3 es3 hs3 => ⟨fun h => absurd h (by decide), fun n2 en2 hn2 => ?_⟩⟩
    obtain rfl := nat_of (k := 0) es3
    obtain rfl := nat_of (k := 5) en2
    refine ⟨fun h => absurd h (few_of (by rw [loop5]; decide)), fun _ t6 x6 H39 ht6 hx6 e39 => ?_⟩
    have xl := Paired.len hx6
    rw [loop5] at xl
    refine ⟨_, rfl, t6, _, rfl, .inr ht6, rfl, _, rfl, ?_⟩
    rw [show decide (V.int (x6.length : Int) = V.int 3906) = true by rw [dec_int, xl]; decide]
    refine iteT ?_
    refine ⟨_, rfl, _, rfl, _, rfl, slA ht6 fun sl2 H40 hsl2 e40 => ?_⟩
    have ec : cutV x6 (some ((1 : Nat) : Int)) (some ((6 : Nat) : Int)) = (x6.drop 1).take 5 := by
      unfold cutV
      rw [HT.sIx_nat, HT.sIx_nat, xl, Nat.min_eq_left (by decide), Nat.min_eq_left (by decide)]
    have hsl2 : SqT K H40 sl2 ((x6.drop 1).take 5) := by
      rw [← ec]
      exact hsl2
    have dsl := rws_dp (Paired.take 5 (Paired.drop 1 (Paired.imp hx6 fun _ _ z => z.ext0 e40)))
    rw [loop5b] at dsl
    refine ⟨(by show 1 ≤ sizeLine; decide), fun p1 H2 f1 g1 => ?_⟩
    obtain ⟨z1, a1⟩ := newZ (K := K) f1 g1
    refine ⟨(by show 1 ≤ sizeLine; decide), fun p2 H3 f2 g2 => ?_⟩
    obtain ⟨z2, a2⟩ := newZ (K := K) f2 g2
    refine ⟨(by show 1 ≤ sizeLine; decide), fun p3 H4 f3 g3 => ?_⟩
    obtain ⟨z3, a3⟩ := newZ (K := K) f3 g3
    refine ⟨(by show 1 ≤ sizeLine; decide), fun p4 H5 f4 g4 => ?_⟩
    obtain ⟨z4, a4⟩ := newZ (K := K) f4 g4
    refine ⟨(by show 1 ≤ sizeLine; decide), fun p5 H6' f5 g5 => ?_⟩
    obtain ⟨z5, a5⟩ := newZ (K := K) f5 g5
    refine ⟨(by show 5 ≤ sizeLine; decide), fun p6 H7' f6 g6 => ?_⟩
    obtain ⟨z6, a6⟩ := newZ (K := K) f6 g6
    have a16 := ((((a1.trans a2).trans a3).trans a4).trans a5).trans a6
    have one : ∀ {g : Addr} {n : Int} {H' : Hp}, TupZ H' g [.int n] → Dp K H' (.ref g) (.tuple [.int n]) := fun z => .tup z.sq (.cons (.int _) .nil)
    refine ⟨.tuple ([[0], [1], [2], [3], [4]].map rowD), .tuple [.tuple [.int 0], .tuple [.int 1], .tuple [.int 2], .tuple [.int 3], .tuple [.int 4]], .tup (a16.tup Lsts.nil hsl2) (DpAll.ext0 a16 dsl), .tup z6.sq ?_, by decide +kernel, by decide +kernel, _, rfl, ?_⟩
    · exact .cons (one (((((a2.trans a3).trans a4).trans a5).trans a6).tz Lsts.nil z1)) (.cons (one ((((a3.trans a4).trans a5).trans a6).tz Lsts.nil z2)) (.cons (one (((a4.trans a5).trans a6).tz Lsts.nil z3)) (.cons (one ((a5.trans a6).tz Lsts.nil z4)) (.cons (one (a6.tz Lsts.nil z5)) .nil))))
    rw [show PyData.eqv (.tuple ([[0], [1], [2], [3], [4]].map rowD)) (.tuple [.tuple [.int 0], .tuple [.int 1], .tuple [.int 2], .tuple [.int 3], .tuple [.int 4]]) = true by decide +kernel]
    refine iteT ?_
    obtain ⟨lv, hlv, hlr⟩ := Paired.get (Paired.imp hx6 fun _ _ z => z.ext0 (e40.trans a16)) loop5c
    refine ⟨_, rfl, t6, x6, (3905 : Nat), lv, rfl, rfl, (e40.trans a16).tup Lsts.nil ht6, atN hlv, ?_⟩
    refine ⟨(by show 1 ≤ sizeLine; decide), fun p8 H8' f8 g8 => ?_⟩
    obtain ⟨z8, a8⟩ := newZ (K := K) f8 g8
    show rRepTB K (.ref p8) (.int ((5 : Nat) : Int)) H8' (fun y H2 => rEqD K lv y H2 Q)
    refine repZ (n := 5) z8 (.int 4) (by decide) (by decide) fun g9 H9' h9 a9 => ?_
    refine ⟨rowD [4, 4, 4, 4, 4], _, rw_dp (hlr.ext0 (a8.trans a9)), h9, by decide +kernel, by decide +kernel, ?_⟩
    rw [show PyData.eqv (rowD [4, 4, 4, 4, 4]) (.tuple (List.replicate 5 (PyData.int 4))) = true by decide +kernel]
    exact q _
end
end Nv
set_option Elab.async false
set_option linter.all false
set_option maxRecDepth 100000
namespace Nv
open PySem PySem.Spec PyProof.Rows L2
section
variable {P : Program} {w : World} {K : PySem.W.Frag} {mg : Str → Option Value} {base : Heap}
/-! ### the law -/
theorem sh_ints : ∀ (r : List Nat), (∀ m ∈ r, m ≤ 99) → ShL ((r.map Int.ofNat).map PyData.int) 0 r.length
  | [], _ => .nil
  | m :: r, h => by
    have := ShL.cons (n := 0) (Sh.nat (n := m) (k := 0) (m := 0) (h m List.mem_cons_self)) (sh_ints r fun x hx => h x (List.mem_cons_of_mem _ hx))
    refine this.mono (Nat.le_refl _) ?_
    rw [List.length_cons]
    omega
theorem sh_row {r : List Nat} {n : Nat} (h : ∀ m ∈ r, m ≤ 99) (hl : r.length ≤ n) : Sh (rowD r) 1 n := Sh.tup ((sh_ints r h).mono (Nat.le_refl _) hl)
theorem sh_rows {rs : List (List Nat)} {n : Nat} (h : ∀ r ∈ rs, (∀ m ∈ r, m ≤ 99) ∧ r.length ≤ 8) (hl : rs.length ≤ n) : ShL (rs.map rowD) 1 (n * 9) :=
  (ShL.map (f := rowD) (k := 1) (n := 8) fun r hr => sh_row (h r hr).1 (h r hr).2).mono (Nat.le_refl _) (Nat.mul_le_mul_right _ hl)
theorem rows_small {b : Book} (fb : FormB b) {s n : Nat} (hn : n ≤ 8) : ∀ r ∈ rowsM b s n, (∀ m ∈ r, m ≤ 99) ∧ r.length ≤ 8 := fun r hr => by
  obtain ⟨j, hj, q, hq, rfl⟩ := (mem_rows _ r).mp hr
  obtain ⟨h1, h2⟩ := lv_row fb j q hq
  exact ⟨h1, by omega⟩
def badL (n : Nat) : List PyData := [.int (-1), .int (n : Int), .bool true, .none, .str "0", .tuple [.int 0], .int (10 ^ (20 : Int).toNat)]
def oddM : List PyData := [.int (-1), .int 9, .bool true, .none, .str "1", .int (10 ^ (20 : Int).toNat)]
def errD (nm : Str) (d : PyData) : PyData := .tuple [.str nm, d, .bool true]
theorem bad_ok {n : Nat} (h1 : n ≤ 4) : ∀ d ∈ badL n, inD d 0 ((n : Int) - 1) = false ∧ noL d = true ∧ ShowOk (errD "BadState" d) := by
  intro d hd
  simp only [badL, List.mem_cons, List.not_mem_nil, or_false] at hd
  have big : inD (.int (10 ^ (20 : Int).toNat)) 0 ((n : Int) - 1) = false := by
    refine decide_eq_false ?_
    have : ((10 : Int) ^ (20 : Int).toNat) = 100000000000000000000 := by decide +kernel
    omega
  rcases hd with rfl | rfl | rfl | rfl | rfl | rfl | rfl
  · exact ⟨show decide (0 ≤ (-1 : Int) ∧ (-1 : Int) ≤ (n : Int) - 1) = false from decide_eq_false (by omega), rfl, ⟨by decide +kernel, by decide +kernel, by decide +kernel, by decide +kernel⟩⟩
  · refine ⟨show decide (0 ≤ (n : Int) ∧ (n : Int) ≤ (n : Int) - 1) = false from decide_eq_false (by omega), rfl, (Sh.tup (ShL.cons (n := 20) (Sh.str (by decide +kernel) (by decide +kernel) (by decide +kernel)) (ShL.cons (n := 0) (Sh.nat (n := n) (k := 0) (by omega)) (ShL.cons (n := 0) (m := 0) Sh.bl ShL.nil)))).ok (by decide) (by decide)⟩
  · exact ⟨rfl, rfl, ⟨by decide +kernel, by decide +kernel, by decide +kernel, by decide +kernel⟩⟩
  · exact ⟨rfl, rfl, ⟨by decide +kernel, by decide +kernel, by decide +kernel, by decide +kernel⟩⟩
  · exact ⟨rfl, rfl, ⟨by decide +kernel, by decide +kernel, by decide +kernel, by decide +kernel⟩⟩
  · exact ⟨rfl, rfl, ⟨by decide +kernel, by decide +kernel, by decide +kernel, by decide +kernel⟩⟩
  · exact ⟨big, rfl, ⟨by decide +kernel, by decide +kernel, by decide +kernel, by decide +kernel⟩⟩
theorem odd_ok : ∀ d ∈ oddM, inD d 0 8 = false ∧ noL d = true := by
  intro d hd
  simp only [oddM, List.mem_cons, List.not_mem_nil, or_false] at hd
  rcases hd with rfl | rfl | rfl | rfl | rfl | rfl <;> exact ⟨by decide +kernel, rfl⟩
theorem law_ends {b : Book} : ((List.range b.length).filter fun s => decide ((mvs b s).length = 0)) = endsM b := rfl
def qLaw : Str := (Str.ofString "law" ++ Str.ofString ".<locals>.") ++ Str.ofString "<lambda>"
def spLaw (K : PySem.W.Frag) (Ts : List (Addr × Addr)) : Sp := fun vs H Q _ => ∃ (a : Addr) (ns : List Int), vs = [.ref a] ∧ SqL K H a (ns.map V.int) ∧ ns.length ≤ 63 ∧ (∀ p ∈ Ts, H p.2 = some (.tbl #[])) ∧ ∀ H', Q (.bl true) H'
theorem Ext.tabsL {L : List Addr} {H H' : Hp} {TT : List (Addr × Str)} (e : Ext L H H') (hL : ∀ x ∈ L, ∀ o, H x = some o → (∃ xs, o = .lst xs)) (t : LamX.Tabs TT H) : LamX.Tabs TT H' := fun p hp => by
  obtain ⟨ps, h1, h2, h3⟩ := t p hp
  refine ⟨ps, e _ _ (fun z => ?_) h1, h2, fun pos cv hc => ?_⟩
  · obtain ⟨xs, e⟩ := hL _ z _ h1
    cases e
  · obtain ⟨c, e1, e2⟩ := h3 pos cv hc
    refine ⟨c, e1, e _ _ (fun z => ?_) e2⟩
    obtain ⟨xs, e⟩ := hL _ z _ e2
    cases e
theorem sc_law : FnScope ["script", "pool", "book", "turn", "state", "many", "bad", "odd"] ["script"] (defScope s_law) := ⟨rfl, rfl, rfl, by decide +kernel, rfl, by decide +kernel, by decide +kernel⟩
set_option maxHeartbeats 4000000 in
theorem ok_law (T : Tx K mg) {cl Pt : Addr} {kV doc pm ct oc : Value} {an od : Option Addr} {osl : Array (Option Value)}
    (lk : K.lookup T.law.f = some ⟨oc, od, .func (PySem.W.fnOf "law" "law" (defArgs s_law) (defBody s_law) (defScope s_law) .none kV doc pm an (.ref cl) ct), osl⟩) (cd : PySem.W.codeIn K (.ref cl) "law" = true) (TB : LamX.TabB base mg cl Pt)
    {cl1 Pt1 : Addr} {kV1 doc1 pm1 ct1 oc1 : Value} {an1 od1 : Option Addr} {osl1 : Array (Option Value)}
    (lk1 : K.lookup T.law_bounds_right.f = some ⟨oc1, od1, .func (PySem.W.fnOf "_law_bounds_right" "_law_bounds_right" (defArgs s_law_bounds_right) (defBody s_law_bounds_right) (defScope s_law_bounds_right) .none kV1 doc1 pm1 an1 (.ref cl1) ct1), osl1⟩) (cd1 : PySem.W.codeIn K (.ref cl1) "_law_bounds_right" = true) (TB1 : LamX.TabB base mg cl1 Pt1) (hD : Pt ≠ Pt1) :
    FnG P w K mg base CX0 11 T.law.f (PySem.W.fnOf "law" "law" (defArgs s_law) (defBody s_law) (defScope s_law) .none kV doc pm an (.ref cl) ct) ["script"] (spLaw K [(cl, Pt), (cl1, Pt1)]) := by
  obtain ⟨TT, eT⟩ : ∃ TT : List (Addr × Str), TT = [(Pt, qLaw), (Pt1, qBr0)] := ⟨_, rfl⟩
  have hT : (Pt, qLaw) ∈ TT := by rw [eT]; simp
  have hT1 : (Pt1, qBr0) ∈ TT := by rw [eT]; simp
  have hN : ∀ p ∈ TT, p.1 = Pt → p.2 = qLaw := fun p hp e => by
    rw [eT] at hp
    rcases List.mem_cons.mp hp with rfl | hp
    · rfl
    · rw [List.mem_singleton.mp hp] at e
      exact absurd e.symm hD
  have hN1 : ∀ p ∈ TT, p.1 = Pt1 → p.2 = qBr0 := fun p hp e => by
    rw [eT] at hp
    rcases List.mem_cons.mp hp with rfl | hp
    · exact absurd e hD
    · rw [List.mem_singleton.mp hp]
  refine fnG_of lk cd sc_law (fun vs H Q E h => ?_) fun A outer s H vs Q E hG hr h => ?_
  · obtain ⟨a, ns, rfl, _⟩ := h; rfl
  · obtain ⟨a, ns, rfl, hs, hn, hP, q⟩ := h
    refine ⟨_, PSs.nox (pss_cons (ps_set (i := 1) sc_law.nd rfl (.inl rfl) (pe_call (ok_law_pool T) (hr.mono (by decide)) (by rfl) T.law_pool.g T.law_pool.F.kp T.law_pool.b .nil pass0 (pa_cons (pv 0) pa_nil)))
      (pss_cons (ps_set (i := 2) sc_law.nd rfl (.inr rfl) (pe_call (ok_law_book_drawn T) (hr.mono (by decide)) (by rfl) T.law_book_drawn.g T.law_book_drawn.F.kp T.law_book_drawn.b .nil pass0 (pa_cons (pv 1) (pa_cons pe_int (pa_cons pe_int pa_nil)))))
      (pss_cons (ps_for PassesOwn.never rfl (pi_range1 (by rfl) T.n_range (pa_cons pe_int pa_nil)) (pg_name (i := 3) sc_law.nd rfl (.inl rfl))
        (pss_cons (ps_par (i := 4) (j := 5) (by rfl) sc_law.nd rfl rfl (by decide) rfl rfl (pa_cons (pe_call (ok_law_draw T) (hr.mono (by decide)) (by rfl) T.law_draw.g T.law_draw.F.kp T.law_draw.b .nil pass0 (pa_cons (pv 1) (pa_cons (pe_callB call_len_seq (by rfl) T.n_len PySem.boot_len (pa_cons (pv 2) pa_nil)) pa_nil))) (pa_cons (pe_call (ok_law_pick T) (hr.mono (by decide)) (by rfl) T.law_pick.g T.law_pick.F.kp T.law_pick.b .nil pass0 (pa_cons (pv 1) (pa_cons (pd_lst (K := K) (pds_cons pd_int (pds_cons pd_int (pds_cons pd_int (pds_cons pd_int (pds_cons pd_int (pds_cons pd_int pds_nil))))))) pa_nil))) pa_nil)) (by rfl))
        (pss_one (ps_if (pt_cmpR op_ne (pe_callB (call_reprA hr.units hG) (by rfl) T.n_repr (by decide +kernel) (pa_cons (pe_call (ok_rows_from T) (hr.mono (by decide)) (by rfl) T.rows_from.g T.rows_from.F.kp T.rows_from.b .nil pass0 (pa_cons (pv 2) (pa_cons (pv 4) (pa_cons (pv 5) pa_nil)))) pa_nil)) (pe_callB (call_reprA hr.units hG) (by rfl) T.n_repr (by decide +kernel) (pa_cons (pe_callTy call_tupZ (by rfl) T.n_tuple (by decide +kernel) (pa_cons (pe_call (ok_law_all_rows T) (hr.mono (by decide)) (by rfl) T.law_all_rows.g T.law_all_rows.F.kp T.law_all_rows.b .nil pass0 (pa_cons (pv 2) (pa_cons (pv 4) (pa_cons (pv 5) pa_nil)))) pa_nil)) pa_nil)) (nomark _))
          (pss_one (ps_ret pe_bl))
          pss_nil))))
      (pss_cons (ps_if (pt_cmpR op_ne (pe_callB (call_reprA hr.units hG) (by rfl) T.n_repr (by decide +kernel) (pa_cons (pe_lc (own := [("state", 4)]) rfl sc_law.nd (pi_range1 (by rfl) T.n_range (pa_cons (pe_callB call_len_seq (by rfl) T.n_len PySem.boot_len (pa_cons (pv 2) pa_nil)) pa_nil)) (blkOk_by (own := [("state", 4)]) (N := ["script", "pool", "book", "turn", "state", "many", "bad", "odd"]) (sc := defScope s_law) (by decide +kernel)) (fun _ _ _ _ _ => (pg_name (i := 4) sc_law.nd rfl (.inl rfl))) (fun _ _ _ _ _ => pts_nil) (fun _ _ _ _ _ => (pe_call (ok_way_to T) (hr.mono (by decide)) (by rfl) T.way_to.g T.way_to.F.kp T.way_to.b .nil pass0 (pa_cons (pv 2) (pa_cons (pv 4) pa_nil))))) pa_nil)) (pe_callB (call_reprA hr.units hG) (by rfl) T.n_repr (by decide +kernel) (pa_cons (pe_lc (own := [("state", 4)]) rfl sc_law.nd (pi_range1 (by rfl) T.n_range (pa_cons (pe_callB call_len_seq (by rfl) T.n_len PySem.boot_len (pa_cons (pv 2) pa_nil)) pa_nil)) (blkOk_by (own := [("state", 4)]) (N := ["script", "pool", "book", "turn", "state", "many", "bad", "odd"]) (sc := defScope s_law) (by decide +kernel)) (fun _ _ _ _ _ => (pg_name (i := 4) sc_law.nd rfl (.inl rfl))) (fun _ _ _ _ _ => pts_nil) (fun _ _ _ _ _ => (pe_call (ok_law_way T) (hr.mono (by decide)) (by rfl) T.law_way.g T.law_way.F.kp T.law_way.b .nil pass0 (pa_cons (pv 2) (pa_cons (pv 4) pa_nil))))) pa_nil)) (nomark _))
        (pss_one (ps_ret pe_bl))
        pss_nil)
      (pss_cons (ps_if (pt_cmpR op_ne (pe_callB (call_reprA hr.units hG) (by rfl) T.n_repr (by decide +kernel) (pa_cons (pe_call (ok_ends_of T) (hr.mono (by decide)) (by rfl) T.ends_of.g T.ends_of.F.kp T.ends_of.b .nil pass0 (pa_cons (pv 2) pa_nil)) pa_nil)) (pe_callB (call_reprA hr.units hG) (by rfl) T.n_repr (by decide +kernel) (pa_cons (pe_callTy call_tupZ (by rfl) T.n_tuple (by decide +kernel) (pa_cons (pe_lc (own := [("state", 4)]) rfl sc_law.nd (pi_range1 (by rfl) T.n_range (pa_cons (pe_callB call_len_seq (by rfl) T.n_len PySem.boot_len (pa_cons (pv 2) pa_nil)) pa_nil)) (blkOk_by (own := [("state", 4)]) (N := ["script", "pool", "book", "turn", "state", "many", "bad", "odd"]) (sc := defScope s_law) (by decide +kernel)) (fun _ _ _ _ _ => (pg_name (i := 4) sc_law.nd rfl (.inl rfl))) (fun _ _ _ _ _ => pts_one (pt_mid (pt_cmpR op_eq (pe_callB (call_len_seqK K) (by rfl) T.n_len PySem.boot_len (pa_cons (pe_ix (ix_tupK K) (pv 2) (pv 4) (fun _ _ => rfl)) pa_nil)) pe_int (nomark _)))) (fun _ _ _ _ _ => (pv 4))) pa_nil)) pa_nil)) (nomark _))
        (pss_one (ps_ret pe_bl))
        pss_nil)
      (pss_cons (ps_asg (pe_tup (pa_cons (pe_call (ok_law_pick T) (hr.mono (by decide)) (by rfl) T.law_pick.g T.law_pick.F.kp T.law_pick.b .nil pass0 (pa_cons (pv 1) (pa_cons (pe_lst (pa_cons (pe_un un_neg pe_int) (pa_cons (pe_callB call_len_seq (by rfl) T.n_len PySem.boot_len (pa_cons (pv 2) pa_nil)) (pa_cons pe_bl (pa_cons pe_non (pa_cons pe_str (pa_cons (pd_tup (K := K) (pds_cons pd_int pds_nil)) (pa_cons (pe_op op_pow pe_int pe_int) pa_nil)))))))) pa_nil))) (pa_cons (pe_call (ok_law_pick T) (hr.mono (by decide)) (by rfl) T.law_pick.g T.law_pick.F.kp T.law_pick.b .nil pass0 (pa_cons (pv 1) (pa_cons (pe_lst (pa_cons (pe_un un_neg pe_int) (pa_cons pe_int (pa_cons pe_bl (pa_cons pe_non (pa_cons pe_str (pa_cons (pe_op op_pow pe_int pe_int) pa_nil))))))) pa_nil))) pa_nil))) (pg_tup rfl (pgs_cons (pg_name (i := 6) sc_law.nd rfl (.inr rfl)) (pgs_cons (pg_name (i := 7) sc_law.nd rfl (.inr rfl)) pgs_nil))))
      (pss_cons (ps_if (pt_cmpR op_ne (pe_callB (call_reprA hr.units hG) (by rfl) T.n_repr (by decide +kernel) (pa_cons (pe_heardT (k := 7) T rfl rfl (by rfl) TB hT hN rfl (hr.mono (by decide)) (LamX.lamS_by (sc := defScope s_law) (by decide +kernel)) rfl (fun _ _ _ _ _ => rfl) (fun _ _ _ _ _ _ _ hr => (pe_call (okX_rows_from T) (hr.mono (by decide)) (by rfl) T.rows_from.g T.rows_from.F.kp T.rows_from.b .nil (passes_call (takes_of rfl rfl rfl rfl) (fun _ _ _ _ h => h)) (pa_cons (pv 2) (pa_cons (pv 6) (pa_cons (pv 7) pa_nil)))))) pa_nil)) (pe_callB (call_reprA hr.units hG) (by rfl) T.n_repr (by decide +kernel) (pa_cons (pe_tup (pa_cons pe_str (pa_cons (pv 6) (pa_cons pe_bl pa_nil)))) pa_nil)) (nomark _))
        (pss_one (ps_ret pe_bl))
        pss_nil)
      (pss_cons (ps_if (pt_cmpR op_ne (pe_callB (call_reprA hr.units hG) (by rfl) T.n_repr (by decide +kernel) (pa_cons (pe_heardT (k := 7) T rfl rfl (by rfl) TB hT hN rfl (hr.mono (by decide)) (LamX.lamS_by (sc := defScope s_law) (by decide +kernel)) rfl (fun _ _ _ _ _ => rfl) (fun _ _ _ _ _ _ _ hr => (pe_call (okX_way_to T) (hr.mono (by decide)) (by rfl) T.way_to.g T.way_to.F.kp T.way_to.b .nil (passes_call (takes_of rfl rfl rfl rfl) (fun _ _ _ _ h => h)) (pa_cons (pv 2) (pa_cons (pv 6) pa_nil))))) pa_nil)) (pe_callB (call_reprA hr.units hG) (by rfl) T.n_repr (by decide +kernel) (pa_cons (pe_tup (pa_cons pe_str (pa_cons (pv 6) (pa_cons pe_bl pa_nil)))) pa_nil)) (nomark _))
        (pss_one (ps_ret pe_bl))
        pss_nil)
      (pss_cons (ps_if (pt_cmpR (op_neD (hr.units)) (pe_heardT (k := 7) T rfl rfl (by rfl) TB hT hN rfl (hr.mono (by decide)) (LamX.lamS_by (sc := defScope s_law) (by decide +kernel)) rfl (fun _ _ _ _ _ => rfl) (fun _ _ _ _ _ _ _ hr => (pe_call (okX_rows_from T) (hr.mono (by decide)) (by rfl) T.rows_from.g T.rows_from.F.kp T.rows_from.b .nil (passes_call (takes_of rfl rfl rfl rfl) (fun _ _ _ _ h => h)) (pa_cons (pv 2) (pa_cons (pe_op op_sub (pe_callB (call_len_seqK K) (by rfl) T.n_len PySem.boot_len (pa_cons (pv 2) pa_nil)) pe_int) (pa_cons (pv 7) pa_nil)))))) (pd_tup (K := K) (pds_cons pd_str (pds_cons pd_int (pds_cons pd_bool pds_nil)))) (nomark _))
        (pss_one (ps_ret pe_bl))
        pss_nil)
      (pss_one (ps_ret (pe_callG (ok_law_bounds_right T lk1 cd1 TB1 hT1 hN1) hG (hr.mono (by decide)) (by rfl) T.law_bounds_right.g T.law_bounds_right.F.kp T.law_bounds_right.b .nil pass0 (pa_cons (pv 1) pa_nil))))))))))))), ?_⟩
    have T0 : LamX.Tabs TT H := by
      rw [eT]
      intro p hp
      rcases List.mem_cons.mp hp with rfl | hp
      · exact LamX.TabS.nil (hP (cl, Pt) (by simp))
      · rw [List.mem_singleton.mp hp]
        exact LamX.TabS.nil (hP (cl1, Pt1) (by simp))
    refine ⟨_, rfl, a, ns, rfl, hs, hn, fun p l H1 hp hl P1 e1 => ?_⟩
    have T1 : LamX.Tabs TT H1 := T0.ext e1.toSame
    refine ⟨_, rfl, p, l, 4, 3, rfl, P1, by decide, by decide, by decide, fun b bv H2 ok h4 h3 hb P2 e2 => ?_⟩
    have fb := ok.toFormB
    have T2 := e2.tabsL P1.only T1
    have b1 := fb.one
    obtain ⟨ba, bs, rfl, hba, hbs⟩ := id hb
    have bl := Paired.len hbs
    clear T1 P1 T0 e1 e2 hP hs
    refine ⟨2, rfl, by decide, by decide, for_range (lo := 0) (n := 2) (fun i σ H' => ∃ y3 y4 y5 : Option V, σ = [some (.ref a), some (.ref p), some (.ref ba), y3, y4, y5, none, none] ∧ BkV K H' (.ref ba) b ∧ PoolAt H' p l ∧ LamX.Tabs TT H') ⟨_, _, _, rfl, hb, P2, T2⟩ ?_ ?_⟩
    · rintro i σ H3 hi ⟨y3, y4, y5, rfl, hb3, P3, T3⟩
      obtain ⟨_, bs3, e, hba3, hbs3⟩ := id hb3
      cases e
      have bl3 := Paired.len hbs3
      refine ⟨_, rfl, _, rfl, ba, _, rfl, .inr hba3, p, l, _, rfl, P3, by omega, by omega, fun k' H4 k0 k1 P4 e4 => ?_⟩
      have T4 := e4.tabsL P3.only T3
      have hb4 := hb3.ext e4 P3.lsts
      refine ⟨_, rfl, [.int 0, .int 1, .int 2, .int 3, .int 3, .int 4], rfl, (by show 6 ≤ 1000; decide), fun L ws H5 fL hL e5 hd5 => ?_⟩
      have P5 := P4.ext0 e5
      have offL := P4.off fL
      have wl := dpAll_len hd5
      refine ⟨p, l, L, ws, rfl, P5, .of hL, offL.1, offL.2, by rw [wl]; decide, by rw [wl]; decide, fun j nv H6 hnv P6 e6 => ?_⟩
      obtain ⟨dn, hdn, hDn⟩ := dpAll_get' hd5 hnv
      have T6 := e6.tabsL P5.only (T4.ext e5.toSame)
      have hb6 := (hb4.ext0 e5).ext e6 P5.lsts
      obtain ⟨n, rfl, hn4⟩ : ∃ n : Nat, dn = .int (n : Int) ∧ n ≤ 4 := by
        have := List.mem_of_getElem? hdn
        simp only [List.mem_cons, List.not_mem_nil, or_false] at this
        rcases this with rfl | rfl | rfl | rfl | rfl | rfl
        · exact ⟨0, rfl, by decide⟩
        · exact ⟨1, rfl, by decide⟩
        · exact ⟨2, rfl, by decide⟩
        · exact ⟨3, rfl, by decide⟩
        · exact ⟨3, rfl, by decide⟩
        · exact ⟨4, rfl, by decide⟩
      cases hDn
      obtain ⟨k, rfl⟩ : ∃ k : Nat, k' = (k : Int) := ⟨k'.toNat, by omega⟩
      have hk : k < b.length := by omega
      refine ⟨_, _, rfl, ?_⟩
      clear hd5 hnv hdn e6 P5 e5 fL hL offL e4 P4 P3 T3 T4 hb4 hb3 hba3 hbs3 bl3
      have sh : ShowOk (.tuple ((rowsM b k n).map rowD)) := (Sh.tup (sh_rows (rows_small fb (by omega)) (rows_len3 h3 hn4))).ok (by decide) (by decide)
      refine ⟨_, rfl, _, rfl, _, rfl, ?_⟩
      refine ⟨.ref ba, .int k, .int n, b, .int k, .int n, rfl, hb6, ok, .int _, .int _, fun h => absurd h (by rw [show inD (.int (k : Int)) 0 ((b.length : Int) - 1) = true from decide_eq_true (by omega)]; decide), fun s1 es hs1 => ⟨fun h => absurd h (by rw [show inD (.int (n : Int)) 0 8 = true from decide_eq_true (by omega)]; decide), fun n1 en hn1 => ?_⟩⟩
      obtain rfl := nat_of es
      obtain rfl := nat_of en
      refine ⟨fun h => absurd h (few_of (Nat.le_trans (rows_len3 h3 hn4) (by decide))), fun _ t xs H7 ht hxs e7 => ?_⟩
      refine ⟨.ref t, _, rfl, .tup ht (rws_dp hxs), sh, ?_⟩
      refine ⟨_, rfl, _, rfl, _, rfl, .ref ba, b, _, _, rfl, hb6.ext0 e7, fb, hk, hn4, h3, fun t2 xs2 H8 ht2 hxs2 e8 => ?_⟩
      refine ⟨t2, _, rfl, .of ht2, fun t3 H9 f3 h9 => ?_⟩
      obtain ⟨z3, e9⟩ := newZ (K := K) f3 h9
      refine ⟨.ref t3, _, rfl, .tup z3.sq (rws_dp (Paired.imp hxs2 fun _ _ z => z.ext0 e9)), sh, rfl, _, rfl, ?_⟩
      rw [str_ne]
      have e79 := (e7.trans e8).trans e9
      exact iteF ⟨_, _, _, rfl, hb6.ext0 e79, P6.ext0 e79, T6.ext e79.toSame⟩
    rintro σ H3 ⟨y3, y4, y5, rfl, hb3, P3, T3⟩
    clear hb P2 T2 hba hbs bl
    obtain ⟨_, bs3, e, hba3, hbs3⟩ := id hb3
    cases e
    have bl3 := Paired.len hbs3
    have small : ∀ {s : Nat} {r : List Nat}, wayM b s = some r → (∀ m ∈ r, m ≤ 99) ∧ r.length ≤ 8 := fun h => rows_small fb (by omega) _ (List.mem_of_find?_eq_some h)
    -- ways
    refine ⟨_, rfl, ba, _, rfl, .inr hba3, _, rfl, by omega, by omega, fun D hD => ?_⟩
    rw [forTo bl3]
    refine lc_range (lo := 0) (n := b.length) (fun i H' => ∃ (ws : List V) (Rs : List (List Nat)), H' D = some (.lst ws) ∧ Paired (RwV K H') ws Rs ∧ Rs.length = i ∧ (∀ j, j < i → wayM b j = Rs[j]?) ∧ (∀ r ∈ Rs, (∀ m ∈ r, m ≤ 99) ∧ r.length ≤ 8) ∧ Ext [] H3 H') ⟨[], [], upd_same, .nil, rfl, fun j h => absurd h (by omega), fun r h => absurd h (by simp), .new hD⟩ ?_ ?_
    · rintro i H4 hi ⟨ws, Rs, hws, hW, rl, hway, hsm, e4⟩
      simp only [Int.zero_add]
      refine ⟨rfl, yes ?_⟩
      refine ⟨_, rfl, _, rfl, .ref ba, .int i, b, .int i, rfl, hb3.ext0 e4, ok, .int _, fun h => absurd h (by rw [show inD (.int (i : Int)) 0 ((b.length : Int) - 1) = true from decide_eq_true (by omega)]; decide), fun s1 es hs1 r v' H5 hw rl8 hrv e5 => ?_⟩
      obtain rfl := nat_of es
      have hws5 := e5.at hws (by simp)
      refine ⟨ws, hws5, by rw [Paired.len hW, rl]; exact small1000 (by omega), ws ++ [v'], Rs ++ [r], upd_same, ?_, by rw [List.length_append, rl]; rfl, fun j hj => ?_, fun x hx => ?_, (e4.trans e5).put hD⟩
      · exact Paired.snoc (hrv.put hws5) (Paired.imp hW fun _ _ z => (z.ext0 e5).put hws5)
      · by_cases hji : j < s1
        · rw [List.getElem?_append_left (by omega)]
          exact hway j hji
        · have : j = s1 := by omega
          subst this
          rw [List.getElem?_append_right (by omega), rl, Nat.sub_self]
          exact hw
      · rcases List.mem_append.mp hx with hx | hx
        · exact hsm x hx
        · rw [List.mem_singleton.mp hx]
          exact small hw
    rintro H4 ⟨ws, Rs, hws, hW, rl, hway, hsm, e4⟩
    have shR : ShowOk (.list (Rs.map rowD)) := (Sh.lst (sh_rows hsm (n := 4) (by omega))).ok (by decide) (by decide)
    refine ⟨.ref D, _, rfl, .lst (.of hws) (rws_dp hW), shR, ?_⟩
    refine ⟨_, rfl, ba, _, rfl, .inr (e4.tup Lsts.nil hba3), _, rfl, by omega, by omega, fun D2 hD2 => ?_⟩
    rw [forTo bl3]
    refine lc_range (lo := 0) (n := b.length) (fun i H' => ∃ us : List V, H' D2 = some (.lst us) ∧ Paired (RwV K H') us (Rs.take i) ∧ Ext [] H4 H') ⟨[], upd_same, .nil, .new hD2⟩ ?_ ?_
    · rintro i H5 hi ⟨us, hus, hU, e5⟩
      simp only [Int.zero_add]
      refine ⟨rfl, yes ?_⟩
      have hri : Rs[i]? = some Rs[i] := List.getElem?_eq_getElem (by omega)
      refine ⟨_, rfl, _, rfl, .ref ba, b, i, Rs[i], rfl, hb3.ext0 (e4.trans e5), ok, h4, h3, hi, (hway i hi).trans hri, fun v' H6 hrv e6 => ?_⟩
      have hus6 := e6.at hus (by simp)
      refine ⟨us, hus6, by rw [Paired.len hU, List.length_take]; exact small1000 (by omega), us ++ [v'], upd_same, ?_, (e5.trans e6).put hD2⟩
      rw [List.take_add_one, hri]
      exact Paired.snoc (hrv.put hus6) (Paired.imp hU fun _ _ z => (z.ext0 e6).put hus6)
    rintro H5 ⟨us, hus, hU, e5⟩
    rw [List.take_of_length_le (by omega)] at hU
    refine ⟨.ref D2, _, rfl, .lst (.of hus) (rws_dp hU), shR, rfl, _, rfl, ?_⟩
    rw [str_ne]
    refine iteF ?_
    have e35 := e4.trans e5
    clear hws hW hus hU shR hway hsm rl e4 e5
    -- ends
    have shE : ShowOk (rowD (endsM b)) := (sh_row (n := 8) (fun m hm => by
      have := List.mem_range.mp (List.mem_filter.mp hm).1
      omega) (Nat.le_trans (List.length_filter_le _ _) (by rw [List.length_range]; omega))).ok (by decide) (by decide)
    refine ⟨_, rfl, .ref ba, b, rfl, hb3.ext0 e35, ok, fun t H6 ht e6 => ?_⟩
    refine ⟨.ref t, rowD (endsM b), rfl, rw_dp ⟨t, rfl, ht⟩, shE, ?_⟩
    have e36 := e35.trans e6
    refine ⟨_, rfl, ba, _, rfl, .inr (e36.tup Lsts.nil hba3), _, rfl, by omega, by omega, fun D3 hD3 => ?_⟩
    rw [forTo bl3]
    refine filt_range (fun s => decide ((mvs b s).length = 0)) hD3 (by omega) (fun v => rfl) (fun v => rfl) (fun k H' hk e => ?_) (fun H7 hX7 e7 => ?_)
    · obtain ⟨u, hu, c, ps, rfl, hc, hps⟩ := Paired.get hbs3 (mvs_lt hk)
      have plen := Paired.len hps
      refine ⟨_, rfl, _, rfl, ba, _, _, _, rfl, rfl, (e36.trans e).tup Lsts.nil hba3, atI_nat hu, c, _, rfl, .inr ((e36.trans e).tz Lsts.nil hc).sq, rfl, _, rfl, ?_, .refl⟩
      rw [dec_int, List.length_map, plen]
      exact decide_eq_decide.mpr (by omega)
    refine ⟨D3, _, rfl, .of hX7, fun t2 H8 f2 h8 => ?_⟩
    obtain ⟨z2, e8⟩ := newZ (K := K) f2 h8
    refine ⟨.ref t2, rowD (endsM b), rfl, rw_dp ⟨t2, rfl, z2.sq⟩, shE, rfl, _, rfl, ?_⟩
    rw [str_ne]
    refine iteF ?_
    have e38 := (e36.trans e7).trans e8
    have hb8 := hb3.ext0 e38
    have P8 := P3.ext0 e38
    have T8 := T3.ext e38.toSame
    have hba8 := e38.tup Lsts.nil hba3
    clear hX7 z2 f2 h8 shE ht e35 e6 e36 e7 e8 e38 hb3 P3 T3 hba3 hbs3 hD3
    -- bad, odd
    have bl8 := bl3
    refine ⟨_, rfl, 1, rfl, _, rfl, ba, _, rfl, .inr hba8, .tuple [.int 0], rfl, fun v1 H9 e9 d9 => ⟨_, _, rfl, rfl, ⟨by decide, by decide, by decide⟩, (by show 7 ≤ sizeLine; decide), fun L hL => ?_⟩⟩
    obtain ⟨xs, exs⟩ : ∃ xs : List V, xs = [(fun i : Int => V.int (-i)) 1, .int (bs3.length : Int), .bl true, .non, .str (Str.ofString "0"), v1, .int (10 ^ (20 : Int).toNat)] := ⟨_, rfl⟩
    rw [← exs]
    have eL : Ext [] H9 (upd H9 L (.lst xs)) := .new hL
    have hds : DpAll K (upd H9 L (.lst xs)) xs (badL b.length) := by
      refine DpAll.ext0 eL ?_
      rw [exs, ← bl8]
      exact .cons (.int _) (.cons (.int _) (.cons (.bl _) (.cons .non (.cons (.str _) (.cons d9 (.cons (.int _) .nil))))))
    have hL9 : upd H9 L (.lst xs) L = some (.lst xs) := upd_same
    have lx : xs.length = 7 := by rw [exs]; rfl
    have offL := (P8.ext0 e9).off hL
    have e89 := e9.trans eL
    clear exs d9 e9 eL hL
    generalize upd H9 L (.lst xs) = H10 at *
    refine ⟨p, l, L, xs, rfl, P8.ext0 e89, .of hL9, offL.1, offL.2, by omega, by omega, fun j bd H11 hbd P11 e11 => ?_⟩
    obtain ⟨db, hdb, hDb⟩ := dpAll_get' hds hbd
    obtain ⟨o1, o2, o3⟩ := bad_ok h4 db (List.mem_of_getElem? hdb)
    have hDb := Dp.extL e11 (P8.ext0 e89).lsts hDb o2
    have T11 := e11.tabsL (P8.ext0 e89).only (T8.ext e89.toSame)
    have hb11 := (hb8.ext0 e89).ext e11 (P8.ext0 e89).lsts
    clear hds hbd hdb hL9 offL lx e11 P8 T8 hb8 e89 hba8
    refine ⟨_, rfl, 1, rfl, _, _, rfl, rfl, ⟨by decide, by decide, by decide⟩, (by show 6 ≤ sizeLine; decide), fun L hL => ?_⟩
    obtain ⟨xs, exs⟩ : ∃ xs : List V, xs = [(fun i : Int => V.int (-i)) 1, .int 9, .bl true, .non, .str (Str.ofString "1"), .int (10 ^ (20 : Int).toNat)] := ⟨_, rfl⟩
    rw [← exs]
    have eL : Ext [] H11 (upd H11 L (.lst xs)) := .new hL
    have hds : DpAll K (upd H11 L (.lst xs)) xs oddM := by
      rw [exs]
      exact .cons (.int _) (.cons (.int _) (.cons (.bl _) (.cons .non (.cons (.str _) (.cons (.int _) .nil)))))
    have hL9 : upd H11 L (.lst xs) L = some (.lst xs) := upd_same
    have lx : xs.length = 6 := by rw [exs]; rfl
    have offL := P11.off hL
    clear exs hL
    have hb12 := hb11.ext0 eL
    have hDb12 := Dp.ext0 eL hDb
    have T12 := T11.ext eL.toSame
    have P12 := P11.ext0 eL
    clear hb11 hDb T11 P11 eL
    generalize upd H11 L (.lst xs) = H12 at *
    refine ⟨p, l, L, xs, rfl, P12, .of hL9, offL.1, offL.2, by omega, by omega, fun j2 ov H13 hov P13 e13 => ?_⟩
    obtain ⟨dn, hdn, hDn⟩ := dpAll_get' hds hov
    obtain ⟨n1, n2⟩ := odd_ok dn (List.mem_of_getElem? hdn)
    have hDn := Dp.extL e13 P12.lsts hDn n2
    have hDb := Dp.extL e13 P12.lsts hDb12 o2
    have T13 := e13.tabsL P12.only T12
    have hb13 := hb12.ext e13 P12.lsts
    clear hds hov hdn hL9 offL lx e13 P12 T12 hb12 hDb12
    refine ⟨(by show 2 ≤ sizeLine; decide), fun tp htp => ⟨tp, _, rfl, .of upd_same, rfl, _, _, rfl, _, _, rfl, rfl, ?_⟩⟩
    have et : Ext [] H13 (upd H13 tp (.tup [bd, ov])) := .new htp
    have hb := hb13.ext0 et
    have hDb := Dp.ext0 et hDb
    have hDn := Dp.ext0 et hDn
    have P1 := P13.ext0 et
    have T1 := T13.ext et.toSame
    clear hb13 P13 T13 et htp
    generalize upd H13 tp (.tup [bd, ov]) = G at *
    have noS : ∀ {s : Nat} {α : Prop}, db = .int (s : Int) → s < b.length → α := fun {s α} h hs => by
      rw [h] at o1
      rw [show inD (.int (s : Int)) 0 ((b.length : Int) - 1) = true from decide_eq_true (by omega)] at o1
      cases o1
    -- rows_from(book, bad, odd)
    refine ⟨T1, fun G1 eN1 T1' => heard_err T (.inl ⟨rfl, rfl⟩) (Dp.extN eN1 hDb) (fun E Q o => ⟨_, rfl, _, rfl, _, rfl, .ref ba, bd, ov, b, db, dn, rfl, hb.extN eN1, ok, Dp.extN eN1 hDb, Dp.extN eN1 hDn, fun _ => o, fun s h hs => noS h hs⟩) fun t G2 d2 e2 => ?_⟩
    refine ⟨.ref t, errD "BadState" db, rfl, d2, o3, ?_⟩
    have hb2 := (hb.extN eN1).ext0 e2
    have hDb2 := Dp.ext0 e2 (Dp.extN eN1 hDb)
    have hDn2 := Dp.ext0 e2 (Dp.extN eN1 hDn)
    have P2 := (P1.extN eN1).ext0 e2
    have T2 := T1'.ext e2.toSame
    clear hb hDb hDn P1 T1 T1' eN1 e2 d2
    refine ⟨_, rfl, (by show 3 ≤ sizeLine; decide), fun t3 ht3 => ?_⟩
    have e3 : Ext [] G2 (upd G2 t3 (.tup [.str (Str.ofString "BadState"), bd, .bl true])) := .new ht3
    refine ⟨.ref t3, errD "BadState" db, rfl, .tup (.of upd_same) (.cons (.str _) (.cons (Dp.ext0 e3 hDb2) (.cons (.bl _) .nil))), o3, rfl, _, rfl, ?_⟩
    rw [str_ne]
    refine iteF ?_
    have hb := hb2.ext0 e3
    have hDb := Dp.ext0 e3 hDb2
    have hDn := Dp.ext0 e3 hDn2
    have P1 := P2.ext0 e3
    have T1 := T2.ext e3.toSame
    clear hb2 hDb2 hDn2 P2 T2 e3 ht3
    generalize upd G2 t3 (.tup [.str (Str.ofString "BadState"), bd, .bl true]) = G at *
    -- way_to(book, bad)
    refine ⟨T1, fun G1 eN1 T1' => heard_err T (.inl ⟨rfl, rfl⟩) (Dp.extN eN1 hDb) (fun E Q o => ⟨_, rfl, _, rfl, .ref ba, bd, b, db, rfl, hb.extN eN1, ok, Dp.extN eN1 hDb, fun _ => o, fun s h hs => noS h hs⟩) fun t G2 d2 e2 => ?_⟩
    refine ⟨.ref t, errD "BadState" db, rfl, d2, o3, ?_⟩
    have hb2 := (hb.extN eN1).ext0 e2
    have hDb2 := Dp.ext0 e2 (Dp.extN eN1 hDb)
    have hDn2 := Dp.ext0 e2 (Dp.extN eN1 hDn)
    have P2 := (P1.extN eN1).ext0 e2
    have T2 := T1'.ext e2.toSame
    clear hb hDb hDn P1 T1 T1' eN1 e2 d2
    refine ⟨_, rfl, (by show 3 ≤ sizeLine; decide), fun t3 ht3 => ?_⟩
    have e3 : Ext [] G2 (upd G2 t3 (.tup [.str (Str.ofString "BadState"), bd, .bl true])) := .new ht3
    refine ⟨.ref t3, errD "BadState" db, rfl, .tup (.of upd_same) (.cons (.str _) (.cons (Dp.ext0 e3 hDb2) (.cons (.bl _) .nil))), o3, rfl, _, rfl, ?_⟩
    rw [str_ne]
    refine iteF ?_
    have hb := hb2.ext0 e3
    have hDn := Dp.ext0 e3 hDn2
    have P1 := P2.ext0 e3
    have T1 := T2.ext e3.toSame
    clear hb2 hDb2 hDn2 P2 T2 e3 ht3
    generalize upd G2 t3 (.tup [.str (Str.ofString "BadState"), bd, .bl true]) = G at *
    -- rows_from(book, len(book) - 1, odd)
    refine ⟨T1, fun G1 eN1 T1' => heard_err T (.inr (.inl ⟨rfl, rfl⟩)) (.int 0) (fun E Q o => ?_) fun t G2 d2 e2 => ?_⟩
    · obtain ⟨_, bs4, e, hba4, hbs4⟩ := hb.extN eN1
      cases e
      have bl4 := Paired.len hbs4
      refine ⟨_, rfl, _, rfl, ba, _, rfl, .inr hba4, _, _, rfl, rfl, _, rfl, .ref ba, .int ((bs4.length : Int) - 1), ov, b, .int ((bs4.length : Int) - 1), dn, rfl, hb.extN eN1, ok, .int _, Dp.extN eN1 hDn, fun h => ?_, fun s h hs => ⟨fun _ => o, fun n h2 hn => ?_⟩⟩
      · rw [bl4, show inD (.int ((b.length : Int) - 1)) 0 ((b.length : Int) - 1) = true from decide_eq_true (by omega)] at h
        cases h
      · rw [h2, show inD (.int (n : Int)) 0 8 = true from decide_eq_true (by omega)] at n1
        cases n1
    refine ⟨_, rfl, fun v2 G3 e3 d3 => ⟨errD "BadMany" (.int 0), _, Dp.ext0 e3 d2, d3, by decide +kernel, by decide +kernel, _, rfl, ?_⟩⟩
    rw [show (!PyData.eqv (errD "BadMany" (.int 0)) (.tuple [.str (Str.ofString "BadMany"), .int 0, .bool true])) = false by decide +kernel]
    refine iteF ?_
    exact ⟨_, rfl, p, l, rfl, (P1.extN eN1).ext0 (e2.trans e3), T1'.ext (e2.trans e3).toSame, fun H' => q H'⟩
end
end Nv
namespace Nv
open PySem PySem.Spec PyProof.Rows L2
section
variable {K : PySem.W.Frag} {mg : Str → Option Value} {h : Heap}
def mkDef {name : Str} {st : Stmt} {ps : List Str} {f : Addr} {oc : Value} {od an : Option Addr} {osl : Array (Option Value)} {kV doc pm cdv ct : Value} (X : K.In h) (G : h.Ns mainGlobals mg)
    (a : PySem.W.nsIn K mainGlobals name = some (some (.ref f))) (l : K.lookup f = some ⟨oc, od, .func (PySem.W.fnOf name name (defArgs st) (defBody st) (defScope st) .none kV doc pm an cdv ct), osl⟩)
    (c : PySem.W.codeIn K cdv name = true) (k : PySem.W.keepIn K (.ref f) = true)
    (b : ∀ (kV doc pm : Value) (an : Option Addr) (cdv ct : Value) (us : List Value), us.length = ps.length → bindArgs (PySem.W.fnOf name name (defArgs st) (defBody st) (defScope st) .none kV doc pm an cdv ct) ⟨us, []⟩ = pure (ps.zip us)) : DefAt K mg name st ps :=
  ⟨f, _, fun_mk l c k, PySem.W.mg_of X G a, b kV doc pm an cdv ct⟩
def mkDefD {name : Str} {st : Stmt} {ps : List Str} {v : V} {u : Value} (r : RelV v u) {f dT : Addr} {oc doc1 : Value} {od an dod : Option Addr} {osl dsl : Array (Option Value)} {dn : Nat} {kV doc pm cdv ct : Value} (X : K.In h) (G : h.Ns mainGlobals mg)
    (a : PySem.W.nsIn K mainGlobals name = some (some (.ref f))) (l : K.lookup f = some ⟨oc, od, .func (PySem.W.fnOf name name (defArgs st) (defBody st) (defScope st) (.ref dT) kV doc pm an cdv ct), osl⟩)
    (c : PySem.W.codeIn K cdv name = true) (k : PySem.W.keepIn K (.ref f) = true) (d : K.lookup dT = some ⟨doc1, dod, .seq #[u] dn, dsl⟩) (n : Nat) (hn : n + 1 = ps.length)
    (b : ∀ (T : Addr) (kV doc pm : Value) (an : Option Addr) (cdv ct : Value) (us its : List Value), us.length = n → its.length = 1 →
      ∃ k, bindArgs (PySem.W.fnOf name name (defArgs st) (defBody st) (defScope st) (.ref T) kV doc pm an cdv ct) ⟨us, []⟩ = seqItems? (.ref T) >>= k ∧ k (some its.toArray) = pure (ps.zip (us ++ its.drop 0)))
    (b1 : ∀ (T : Addr) (kV doc pm : Value) (an : Option Addr) (cdv ct : Value) (us its : List Value), us.length = n + 1 → its.length = 1 →
      ∃ k, bindArgs (PySem.W.fnOf name name (defArgs st) (defBody st) (defScope st) (.ref T) kV doc pm an cdv ct) ⟨us, []⟩ = seqItems? (.ref T) >>= k ∧ k (some its.toArray) = pure (ps.zip (us ++ its.drop 1))) : DefAtD K mg name st ps [v] := by
  have F : FunD K name name (defArgs st) (defBody st) (defScope st) [v] [] f _ := ⟨⟨oc, od, .ref dT, kV, doc, pm, an, cdv, ct, osl, rfl, l, c, .inr ⟨by nofun, dT, _, [u], dn, rfl, d, rfl, .cons r .nil⟩, .inl rfl⟩, k⟩
  refine ⟨f, _, ⟨F⟩, PySem.W.mg_of X G a, ?_, F.binds1 n 0 (by nofun) (by simpa using hn) b⟩
  obtain ⟨ds, hv, hb⟩ := F.binds1 (n + 1) 1 (by nofun) (by simpa using hn) b1
  cases hv
  exact hb
end

set_option maxHeartbeats 0 in
theorem all_mk {l : PySem.W.OpenLaw} {w : World} {K : PySem.W.Frag} {h : Heap} {mg : Str → Option Value} {fa : Addr} (X : K.In h) (G : h.Ns mainGlobals mg) (hfa : mg "law" = some (.ref fa))
    {f0 : Addr} {oc0 kV0 dc0 pm0 cd0 ct0 : Value} {od0 an0 : Option Addr} {sl0 : Array (Option Value)}
    {f1 : Addr} {oc1 kV1 dc1 pm1 cd1 ct1 : Value} {od1 an1 : Option Addr} {sl1 : Array (Option Value)}
    {f2 : Addr} {oc2 kV2 dc2 pm2 cd2 ct2 : Value} {od2 an2 : Option Addr} {sl2 : Array (Option Value)}
    {f3 : Addr} {oc3 kV3 dc3 pm3 cd3 ct3 : Value} {od3 an3 : Option Addr} {sl3 : Array (Option Value)} {zT3 : Addr} {zc3 : Value} {zo3 : Option Addr} {zs3 : Array (Option Value)} {zn3 : Nat} {zk3 : Tok}
    {f4 : Addr} {oc4 kV4 dc4 pm4 cd4 ct4 : Value} {od4 an4 : Option Addr} {sl4 : Array (Option Value)}
    {f5 : Addr} {oc5 kV5 dc5 pm5 cd5 ct5 : Value} {od5 an5 : Option Addr} {sl5 : Array (Option Value)}
    {f6 : Addr} {oc6 kV6 dc6 pm6 cd6 ct6 : Value} {od6 an6 : Option Addr} {sl6 : Array (Option Value)}
    {f7 : Addr} {oc7 kV7 dc7 pm7 cd7 ct7 : Value} {od7 an7 : Option Addr} {sl7 : Array (Option Value)}
    {f8 : Addr} {oc8 kV8 dc8 pm8 cd8 ct8 : Value} {od8 an8 : Option Addr} {sl8 : Array (Option Value)}
    {f9 : Addr} {oc9 kV9 dc9 pm9 cd9 ct9 : Value} {od9 an9 : Option Addr} {sl9 : Array (Option Value)}
    {f10 : Addr} {oc10 kV10 dc10 pm10 cd10 ct10 : Value} {od10 an10 : Option Addr} {sl10 : Array (Option Value)}
    {f11 : Addr} {oc11 kV11 dc11 pm11 cd11 ct11 : Value} {od11 an11 : Option Addr} {sl11 : Array (Option Value)}
    {f12 : Addr} {oc12 kV12 dc12 pm12 cd12 ct12 : Value} {od12 an12 : Option Addr} {sl12 : Array (Option Value)}
    {f13 : Addr} {oc13 kV13 dc13 pm13 cd13 ct13 : Value} {od13 an13 : Option Addr} {sl13 : Array (Option Value)}
    {f14 : Addr} {oc14 kV14 dc14 pm14 cd14 ct14 : Value} {od14 an14 : Option Addr} {sl14 : Array (Option Value)}
    {f15 : Addr} {oc15 kV15 dc15 pm15 cd15 ct15 : Value} {od15 an15 : Option Addr} {sl15 : Array (Option Value)}
    {f16 : Addr} {oc16 kV16 dc16 pm16 cd16 ct16 : Value} {od16 an16 : Option Addr} {sl16 : Array (Option Value)}
    {f17 : Addr} {oc17 kV17 dc17 pm17 cd17 ct17 : Value} {od17 an17 : Option Addr} {sl17 : Array (Option Value)}
    {f18 : Addr} {oc18 kV18 dc18 pm18 cd18 ct18 : Value} {od18 an18 : Option Addr} {sl18 : Array (Option Value)}
    {f19 : Addr} {oc19 kV19 dc19 pm19 cd19 ct19 : Value} {od19 an19 : Option Addr} {sl19 : Array (Option Value)}
    {f20 : Addr} {oc20 kV20 dc20 pm20 cd20 ct20 : Value} {od20 an20 : Option Addr} {sl20 : Array (Option Value)}
    {f21 : Addr} {oc21 kV21 dc21 pm21 cd21 ct21 : Value} {od21 an21 : Option Addr} {sl21 : Array (Option Value)}
    {f22 : Addr} {oc22 kV22 dc22 pm22 cd22 ct22 : Value} {od22 an22 : Option Addr} {sl22 : Array (Option Value)}
    {f23 : Addr} {oc23 kV23 dc23 pm23 cd23 ct23 : Value} {od23 an23 : Option Addr} {sl23 : Array (Option Value)}
    {f24 : Addr} {oc24 kV24 dc24 pm24 cd24 ct24 : Value} {od24 an24 : Option Addr} {sl24 : Array (Option Value)}
    {f25 : Addr} {oc25 kV25 dc25 pm25 ct25 : Value} {od25 an25 : Option Addr} {sl25 : Array (Option Value)} {cL1 pL1 : Addr} {vc1 : Value} {vd1 : Option Addr} {vs1 : Array Value} {vl1 : Array (Option Value)}
    {f26 : Addr} {oc26 kV26 dc26 pm26 ct26 : Value} {od26 an26 : Option Addr} {sl26 : Array (Option Value)} {cL0 pL0 : Addr} {vc0 : Value} {vd0 : Option Addr} {vs0 : Array Value} {vl0 : Array (Option Value)}
    {fI : Addr} {ocI kVI dcI pmI cdI ctI : Value} {odI anI : Option Addr} {slI : Array (Option Value)}
    {C0 R0 N0 : Addr} {nm0 q0 : Str} {bs0 : List Value} {sn0 : List Str} {sub0 : List Value} {ab0 : Bool} {col0 : Option Bool} {dd0 : Option Addr} {m00 m10 m30 m50 : Option Value} {mt0 : Tok}
    {C1 R1 N1 : Addr} {nm1 q1 : Str} {bs1 : List Value} {sn1 : List Str} {sub1 : List Value} {ab1 : Bool} {col1 : Option Bool} {dd1 : Option Addr} {m01 m11 m31 m51 : Option Value} {mt1 : Tok}
    {C2 R2 N2 : Addr} {nm2 q2 : Str} {bs2 : List Value} {sn2 : List Str} {sub2 : List Value} {ab2 : Bool} {col2 : Option Bool} {dd2 : Option Addr} {m02 m12 m32 m52 : Option Value} {mt2 : Tok}
    {C3 R3 N3 : Addr} {nm3 q3 : Str} {bs3 : List Value} {sn3 : List Str} {sub3 : List Value} {ab3 : Bool} {col3 : Option Bool} {dd3 : Option Addr} {m03 m13 m33 m53 : Option Value} {mt3 : Tok}
    {C4 R4 N4 : Addr} {nm4 q4 : Str} {bs4 : List Value} {sn4 : List Str} {sub4 : List Value} {ab4 : Bool} {col4 : Option Bool} {dd4 : Option Addr} {m04 m14 m34 m54 : Option Value} {mt4 : Tok}
    {CR : Addr}
    {t0 : Tok}
    {t1 : Tok}
    {t2 : Tok}
    {t3 : Tok}
    (a0 : PySem.W.nsIn K mainGlobals "whole" = some (some (.ref f0))) (l0 : K.lookup f0 = some ⟨oc0, od0, .func (PySem.W.fnOf "whole" "whole" (defArgs s_whole) (defBody s_whole) (defScope s_whole) .none kV0 dc0 pm0 an0 cd0 ct0), sl0⟩) (c0 : PySem.W.codeIn K cd0 "whole" = true) (k0 : PySem.W.keepIn K (.ref f0) = true)
    (a1 : PySem.W.nsIn K mainGlobals "whole_within" = some (some (.ref f1))) (l1 : K.lookup f1 = some ⟨oc1, od1, .func (PySem.W.fnOf "whole_within" "whole_within" (defArgs s_whole_within) (defBody s_whole_within) (defScope s_whole_within) .none kV1 dc1 pm1 an1 cd1 ct1), sl1⟩) (c1 : PySem.W.codeIn K cd1 "whole_within" = true) (k1 : PySem.W.keepIn K (.ref f1) = true)
    (a2 : PySem.W.nsIn K mainGlobals "tuple_within" = some (some (.ref f2))) (l2 : K.lookup f2 = some ⟨oc2, od2, .func (PySem.W.fnOf "tuple_within" "tuple_within" (defArgs s_tuple_within) (defBody s_tuple_within) (defScope s_tuple_within) .none kV2 dc2 pm2 an2 cd2 ct2), sl2⟩) (c2 : PySem.W.codeIn K cd2 "tuple_within" = true) (k2 : PySem.W.keepIn K (.ref f2) = true)
    (a3 : PySem.W.nsIn K mainGlobals "first_rows" = some (some (.ref f3))) (l3 : K.lookup f3 = some ⟨oc3, od3, .func (PySem.W.fnOf "first_rows" "first_rows" (defArgs s_first_rows) (defBody s_first_rows) (defScope s_first_rows) (.ref zT3) kV3 dc3 pm3 an3 cd3 ct3), sl3⟩) (c3 : PySem.W.codeIn K cd3 "first_rows" = true) (k3 : PySem.W.keepIn K (.ref f3) = true)
    (df3 : K.lookup zT3 = some ⟨zc3, zo3, .seq #[.int 0 zk3] zn3, zs3⟩)
    (a4 : PySem.W.nsIn K mainGlobals "by_meeting" = some (some (.ref f4))) (l4 : K.lookup f4 = some ⟨oc4, od4, .func (PySem.W.fnOf "by_meeting" "by_meeting" (defArgs s_by_meeting) (defBody s_by_meeting) (defScope s_by_meeting) .none kV4 dc4 pm4 an4 cd4 ct4), sl4⟩) (c4 : PySem.W.codeIn K cd4 "by_meeting" = true) (k4 : PySem.W.keepIn K (.ref f4) = true)
    (a5 : PySem.W.nsIn K mainGlobals "made_book" = some (some (.ref f5))) (l5 : K.lookup f5 = some ⟨oc5, od5, .func (PySem.W.fnOf "made_book" "made_book" (defArgs s_made_book) (defBody s_made_book) (defScope s_made_book) .none kV5 dc5 pm5 an5 cd5 ct5), sl5⟩) (c5 : PySem.W.codeIn K cd5 "made_book" = true) (k5 : PySem.W.keepIn K (.ref f5) = true)
    (a6 : PySem.W.nsIn K mainGlobals "trimmed" = some (some (.ref f6))) (l6 : K.lookup f6 = some ⟨oc6, od6, .func (PySem.W.fnOf "trimmed" "trimmed" (defArgs s_trimmed) (defBody s_trimmed) (defScope s_trimmed) .none kV6 dc6 pm6 an6 cd6 ct6), sl6⟩) (c6 : PySem.W.codeIn K cd6 "trimmed" = true) (k6 : PySem.W.keepIn K (.ref f6) = true)
    (a7 : PySem.W.nsIn K mainGlobals "check_form" = some (some (.ref f7))) (l7 : K.lookup f7 = some ⟨oc7, od7, .func (PySem.W.fnOf "check_form" "check_form" (defArgs s_check_form) (defBody s_check_form) (defScope s_check_form) .none kV7 dc7 pm7 an7 cd7 ct7), sl7⟩) (c7 : PySem.W.codeIn K cd7 "check_form" = true) (k7 : PySem.W.keepIn K (.ref f7) = true)
    (a8 : PySem.W.nsIn K mainGlobals "has_state_form" = some (some (.ref f8))) (l8 : K.lookup f8 = some ⟨oc8, od8, .func (PySem.W.fnOf "has_state_form" "has_state_form" (defArgs s_has_state_form) (defBody s_has_state_form) (defScope s_has_state_form) .none kV8 dc8 pm8 an8 cd8 ct8), sl8⟩) (c8 : PySem.W.codeIn K cd8 "has_state_form" = true) (k8 : PySem.W.keepIn K (.ref f8) = true)
    (a9 : PySem.W.nsIn K mainGlobals "check_state" = some (some (.ref f9))) (l9 : K.lookup f9 = some ⟨oc9, od9, .func (PySem.W.fnOf "check_state" "check_state" (defArgs s_check_state) (defBody s_check_state) (defScope s_check_state) .none kV9 dc9 pm9 an9 cd9 ct9), sl9⟩) (c9 : PySem.W.codeIn K cd9 "check_state" = true) (k9 : PySem.W.keepIn K (.ref f9) = true)
    (a10 : PySem.W.nsIn K mainGlobals "rows_from" = some (some (.ref f10))) (l10 : K.lookup f10 = some ⟨oc10, od10, .func (PySem.W.fnOf "rows_from" "rows_from" (defArgs s_rows_from) (defBody s_rows_from) (defScope s_rows_from) .none kV10 dc10 pm10 an10 cd10 ct10), sl10⟩) (c10 : PySem.W.codeIn K cd10 "rows_from" = true) (k10 : PySem.W.keepIn K (.ref f10) = true)
    (a11 : PySem.W.nsIn K mainGlobals "way_to" = some (some (.ref f11))) (l11 : K.lookup f11 = some ⟨oc11, od11, .func (PySem.W.fnOf "way_to" "way_to" (defArgs s_way_to) (defBody s_way_to) (defScope s_way_to) .none kV11 dc11 pm11 an11 cd11 ct11), sl11⟩) (c11 : PySem.W.codeIn K cd11 "way_to" = true) (k11 : PySem.W.keepIn K (.ref f11) = true)
    (a12 : PySem.W.nsIn K mainGlobals "ends_of" = some (some (.ref f12))) (l12 : K.lookup f12 = some ⟨oc12, od12, .func (PySem.W.fnOf "ends_of" "ends_of" (defArgs s_ends_of) (defBody s_ends_of) (defScope s_ends_of) .none kV12 dc12 pm12 an12 cd12 ct12), sl12⟩) (c12 : PySem.W.codeIn K cd12 "ends_of" = true) (k12 : PySem.W.keepIn K (.ref f12) = true)
    (a13 : PySem.W.nsIn K mainGlobals "_law_pool" = some (some (.ref f13))) (l13 : K.lookup f13 = some ⟨oc13, od13, .func (PySem.W.fnOf "_law_pool" "_law_pool" (defArgs s_law_pool) (defBody s_law_pool) (defScope s_law_pool) .none kV13 dc13 pm13 an13 cd13 ct13), sl13⟩) (c13 : PySem.W.codeIn K cd13 "_law_pool" = true) (k13 : PySem.W.keepIn K (.ref f13) = true)
    (a14 : PySem.W.nsIn K mainGlobals "_law_draw" = some (some (.ref f14))) (l14 : K.lookup f14 = some ⟨oc14, od14, .func (PySem.W.fnOf "_law_draw" "_law_draw" (defArgs s_law_draw) (defBody s_law_draw) (defScope s_law_draw) .none kV14 dc14 pm14 an14 cd14 ct14), sl14⟩) (c14 : PySem.W.codeIn K cd14 "_law_draw" = true) (k14 : PySem.W.keepIn K (.ref f14) = true)
    (a15 : PySem.W.nsIn K mainGlobals "_law_pick" = some (some (.ref f15))) (l15 : K.lookup f15 = some ⟨oc15, od15, .func (PySem.W.fnOf "_law_pick" "_law_pick" (defArgs s_law_pick) (defBody s_law_pick) (defScope s_law_pick) .none kV15 dc15 pm15 an15 cd15 ct15), sl15⟩) (c15 : PySem.W.codeIn K cd15 "_law_pick" = true) (k15 : PySem.W.keepIn K (.ref f15) = true)
    (a16 : PySem.W.nsIn K mainGlobals "_law_book_meeting" = some (some (.ref f16))) (l16 : K.lookup f16 = some ⟨oc16, od16, .func (PySem.W.fnOf "_law_book_meeting" "_law_book_meeting" (defArgs s_law_book_meeting) (defBody s_law_book_meeting) (defScope s_law_book_meeting) .none kV16 dc16 pm16 an16 cd16 ct16), sl16⟩) (c16 : PySem.W.codeIn K cd16 "_law_book_meeting" = true) (k16 : PySem.W.keepIn K (.ref f16) = true)
    (a17 : PySem.W.nsIn K mainGlobals "_law_book_messages" = some (some (.ref f17))) (l17 : K.lookup f17 = some ⟨oc17, od17, .func (PySem.W.fnOf "_law_book_messages" "_law_book_messages" (defArgs s_law_book_messages) (defBody s_law_book_messages) (defScope s_law_book_messages) .none kV17 dc17 pm17 an17 cd17 ct17), sl17⟩) (c17 : PySem.W.codeIn K cd17 "_law_book_messages" = true) (k17 : PySem.W.keepIn K (.ref f17) = true)
    (a18 : PySem.W.nsIn K mainGlobals "_law_book_drawn" = some (some (.ref f18))) (l18 : K.lookup f18 = some ⟨oc18, od18, .func (PySem.W.fnOf "_law_book_drawn" "_law_book_drawn" (defArgs s_law_book_drawn) (defBody s_law_book_drawn) (defScope s_law_book_drawn) .none kV18 dc18 pm18 an18 cd18 ct18), sl18⟩) (c18 : PySem.W.codeIn K cd18 "_law_book_drawn" = true) (k18 : PySem.W.keepIn K (.ref f18) = true)
    (a19 : PySem.W.nsIn K mainGlobals "_law_book_next" = some (some (.ref f19))) (l19 : K.lookup f19 = some ⟨oc19, od19, .func (PySem.W.fnOf "_law_book_next" "_law_book_next" (defArgs s_law_book_next) (defBody s_law_book_next) (defScope s_law_book_next) .none kV19 dc19 pm19 an19 cd19 ct19), sl19⟩) (c19 : PySem.W.codeIn K cd19 "_law_book_next" = true) (k19 : PySem.W.keepIn K (.ref f19) = true)
    (a20 : PySem.W.nsIn K mainGlobals "_law_book_at" = some (some (.ref f20))) (l20 : K.lookup f20 = some ⟨oc20, od20, .func (PySem.W.fnOf "_law_book_at" "_law_book_at" (defArgs s_law_book_at) (defBody s_law_book_at) (defScope s_law_book_at) .none kV20 dc20 pm20 an20 cd20 ct20), sl20⟩) (c20 : PySem.W.codeIn K cd20 "_law_book_at" = true) (k20 : PySem.W.keepIn K (.ref f20) = true)
    (a21 : PySem.W.nsIn K mainGlobals "_law_book_moves" = some (some (.ref f21))) (l21 : K.lookup f21 = some ⟨oc21, od21, .func (PySem.W.fnOf "_law_book_moves" "_law_book_moves" (defArgs s_law_book_moves) (defBody s_law_book_moves) (defScope s_law_book_moves) .none kV21 dc21 pm21 an21 cd21 ct21), sl21⟩) (c21 : PySem.W.codeIn K cd21 "_law_book_moves" = true) (k21 : PySem.W.keepIn K (.ref f21) = true)
    (a22 : PySem.W.nsIn K mainGlobals "_law_heard" = some (some (.ref f22))) (l22 : K.lookup f22 = some ⟨oc22, od22, .func (PySem.W.fnOf "_law_heard" "_law_heard" (defArgs s_law_heard) (defBody s_law_heard) (defScope s_law_heard) .none kV22 dc22 pm22 an22 cd22 ct22), sl22⟩) (c22 : PySem.W.codeIn K cd22 "_law_heard" = true) (k22 : PySem.W.keepIn K (.ref f22) = true)
    (a23 : PySem.W.nsIn K mainGlobals "_law_all_rows" = some (some (.ref f23))) (l23 : K.lookup f23 = some ⟨oc23, od23, .func (PySem.W.fnOf "_law_all_rows" "_law_all_rows" (defArgs s_law_all_rows) (defBody s_law_all_rows) (defScope s_law_all_rows) .none kV23 dc23 pm23 an23 cd23 ct23), sl23⟩) (c23 : PySem.W.codeIn K cd23 "_law_all_rows" = true) (k23 : PySem.W.keepIn K (.ref f23) = true)
    (a24 : PySem.W.nsIn K mainGlobals "_law_way" = some (some (.ref f24))) (l24 : K.lookup f24 = some ⟨oc24, od24, .func (PySem.W.fnOf "_law_way" "_law_way" (defArgs s_law_way) (defBody s_law_way) (defScope s_law_way) .none kV24 dc24 pm24 an24 cd24 ct24), sl24⟩) (c24 : PySem.W.codeIn K cd24 "_law_way" = true) (k24 : PySem.W.keepIn K (.ref f24) = true)
    (a25 : PySem.W.nsIn K mainGlobals "_law_bounds_right" = some (some (.ref f25))) (l25 : K.lookup f25 = some ⟨oc25, od25, .func (PySem.W.fnOf "_law_bounds_right" "_law_bounds_right" (defArgs s_law_bounds_right) (defBody s_law_bounds_right) (defScope s_law_bounds_right) .none kV25 dc25 pm25 an25 (.ref cL1) ct25), sl25⟩) (c25 : PySem.W.codeIn K (.ref cL1) "_law_bounds_right" = true) (k25 : PySem.W.keepIn K (.ref f25) = true)
    (tbO1 : K.lookup cL1 = some ⟨vc1, vd1, .fields vs1, vl1⟩) (tbV1 : vs1[11]? = some (.ref pL1))
    (tbC1 : PySem.W.codeHdIn K cL1 pL1 = true) (tbN1 : K.lookup pL1 = none)
    (a26 : PySem.W.nsIn K mainGlobals "law" = some (some (.ref f26))) (l26 : K.lookup f26 = some ⟨oc26, od26, .func (PySem.W.fnOf "law" "law" (defArgs s_law) (defBody s_law) (defScope s_law) .none kV26 dc26 pm26 an26 (.ref cL0) ct26), sl26⟩) (c26 : PySem.W.codeIn K (.ref cL0) "law" = true) (k26 : PySem.W.keepIn K (.ref f26) = true)
    (tbO0 : K.lookup cL0 = some ⟨vc0, vd0, .fields vs0, vl0⟩) (tbV0 : vs0[11]? = some (.ref pL0))
    (tbC0 : PySem.W.codeHdIn K cL0 pL0 = true) (tbN0 : K.lookup pL0 = none)
    (lI : K.lookup fI = some ⟨ocI, odI, .func (PySem.W.fnOf "__init__" "Refused.__init__" (defArgs s_init) (defBody s_init) (defScope s_init) .none kVI dcI pmI anI cdI ctI), slI⟩) (cI : PySem.W.codeIn K cdI "Refused.__init__" = true) (kI : PySem.W.keepIn K (.ref fI) = true) (tI : PySem.W.typeIn K (.ref fI) = some (.type "function"))
    (xg0 : PySem.W.nsIn K mainGlobals "BadBook" = some (some (.ref C0))) (xl0 : K.lookup C0 = some (excClassObj nm0 q0 C0 N0 bs0 [.ref R0, .type "ValueError", .type "Exception", .type "BaseException", .type "object"] true sn0 sub0 ab0 col0 dd0 m00 m10 (some (.str "BadBook" mt0)) m30 m50 "ValueError.__new__"))
    (xs0 : PySem.W.findIn K (.ref C0) "__setattr__" = some (some (.builtin "object.__setattr__"))) (xe0 : PySem.W.subIn K (.ref C0) (.type "BaseException") = some true) (xt0 : PySem.W.typeIn K (.ref C0) = some (.type "type")) (xk0 : PySem.W.keepIn K (.ref C0) = true)
    (xi0 : PySem.W.findIn K (.ref C0) "__init__" = some (some (.ref fI))) (xa0 : PySem.W.findIn K (.ref C0) "__getattribute__" = some (some (.builtin "BaseException.__getattribute__"))) (xb0 : PySem.W.findIn K (.ref C0) "__getattr__" = some none) (xw0 : PySem.W.findIn K (.ref C0) "what" = some none) (xh0 : PySem.W.hasDictIn K C0 = true) (xc0 : PySem.W.isClsIn K C0 = true)
    (xm0 : PySem.W.mroIn K C0 (.type "object") = some true) (xr0 : PySem.W.readsIn K C0 (.type "type") = true) (xf0 : PySem.W.findCls K (.ref C0) (.type "type") "__name__" = some (.get (.builtin "getset_descriptor.__get__") (.builtin "type.__name__") (.ref C0) (.type "type"))) (xn0 : PySem.W.findIn K (.ref C0) "kind" = some none) (xo0 : PySem.W.findIn K (.ref C0) "__class__" = some (some (.builtin "object.__class__")))
    (xg1 : PySem.W.nsIn K mainGlobals "Stray" = some (some (.ref C1))) (xl1 : K.lookup C1 = some (excClassObj nm1 q1 C1 N1 bs1 [.ref R1, .type "ValueError", .type "Exception", .type "BaseException", .type "object"] true sn1 sub1 ab1 col1 dd1 m01 m11 (some (.str "Stray" mt1)) m31 m51 "ValueError.__new__"))
    (xs1 : PySem.W.findIn K (.ref C1) "__setattr__" = some (some (.builtin "object.__setattr__"))) (xe1 : PySem.W.subIn K (.ref C1) (.type "BaseException") = some true) (xt1 : PySem.W.typeIn K (.ref C1) = some (.type "type")) (xk1 : PySem.W.keepIn K (.ref C1) = true)
    (xi1 : PySem.W.findIn K (.ref C1) "__init__" = some (some (.ref fI))) (xa1 : PySem.W.findIn K (.ref C1) "__getattribute__" = some (some (.builtin "BaseException.__getattribute__"))) (xb1 : PySem.W.findIn K (.ref C1) "__getattr__" = some none) (xw1 : PySem.W.findIn K (.ref C1) "what" = some none) (xh1 : PySem.W.hasDictIn K C1 = true) (xc1 : PySem.W.isClsIn K C1 = true)
    (xm1 : PySem.W.mroIn K C1 (.type "object") = some true) (xr1 : PySem.W.readsIn K C1 (.type "type") = true) (xf1 : PySem.W.findCls K (.ref C1) (.type "type") "__name__" = some (.get (.builtin "getset_descriptor.__get__") (.builtin "type.__name__") (.ref C1) (.type "type"))) (xn1 : PySem.W.findIn K (.ref C1) "kind" = some none) (xo1 : PySem.W.findIn K (.ref C1) "__class__" = some (some (.builtin "object.__class__")))
    (xg2 : PySem.W.nsIn K mainGlobals "BadState" = some (some (.ref C2))) (xl2 : K.lookup C2 = some (excClassObj nm2 q2 C2 N2 bs2 [.ref R2, .type "ValueError", .type "Exception", .type "BaseException", .type "object"] true sn2 sub2 ab2 col2 dd2 m02 m12 (some (.str "BadState" mt2)) m32 m52 "ValueError.__new__"))
    (xs2 : PySem.W.findIn K (.ref C2) "__setattr__" = some (some (.builtin "object.__setattr__"))) (xe2 : PySem.W.subIn K (.ref C2) (.type "BaseException") = some true) (xt2 : PySem.W.typeIn K (.ref C2) = some (.type "type")) (xk2 : PySem.W.keepIn K (.ref C2) = true)
    (xi2 : PySem.W.findIn K (.ref C2) "__init__" = some (some (.ref fI))) (xa2 : PySem.W.findIn K (.ref C2) "__getattribute__" = some (some (.builtin "BaseException.__getattribute__"))) (xb2 : PySem.W.findIn K (.ref C2) "__getattr__" = some none) (xw2 : PySem.W.findIn K (.ref C2) "what" = some none) (xh2 : PySem.W.hasDictIn K C2 = true) (xc2 : PySem.W.isClsIn K C2 = true)
    (xm2 : PySem.W.mroIn K C2 (.type "object") = some true) (xr2 : PySem.W.readsIn K C2 (.type "type") = true) (xf2 : PySem.W.findCls K (.ref C2) (.type "type") "__name__" = some (.get (.builtin "getset_descriptor.__get__") (.builtin "type.__name__") (.ref C2) (.type "type"))) (xn2 : PySem.W.findIn K (.ref C2) "kind" = some none) (xo2 : PySem.W.findIn K (.ref C2) "__class__" = some (some (.builtin "object.__class__")))
    (xg3 : PySem.W.nsIn K mainGlobals "BadMany" = some (some (.ref C3))) (xl3 : K.lookup C3 = some (excClassObj nm3 q3 C3 N3 bs3 [.ref R3, .type "ValueError", .type "Exception", .type "BaseException", .type "object"] true sn3 sub3 ab3 col3 dd3 m03 m13 (some (.str "BadMany" mt3)) m33 m53 "ValueError.__new__"))
    (xs3 : PySem.W.findIn K (.ref C3) "__setattr__" = some (some (.builtin "object.__setattr__"))) (xe3 : PySem.W.subIn K (.ref C3) (.type "BaseException") = some true) (xt3 : PySem.W.typeIn K (.ref C3) = some (.type "type")) (xk3 : PySem.W.keepIn K (.ref C3) = true)
    (xi3 : PySem.W.findIn K (.ref C3) "__init__" = some (some (.ref fI))) (xa3 : PySem.W.findIn K (.ref C3) "__getattribute__" = some (some (.builtin "BaseException.__getattribute__"))) (xb3 : PySem.W.findIn K (.ref C3) "__getattr__" = some none) (xw3 : PySem.W.findIn K (.ref C3) "what" = some none) (xh3 : PySem.W.hasDictIn K C3 = true) (xc3 : PySem.W.isClsIn K C3 = true)
    (xm3 : PySem.W.mroIn K C3 (.type "object") = some true) (xr3 : PySem.W.readsIn K C3 (.type "type") = true) (xf3 : PySem.W.findCls K (.ref C3) (.type "type") "__name__" = some (.get (.builtin "getset_descriptor.__get__") (.builtin "type.__name__") (.ref C3) (.type "type"))) (xn3 : PySem.W.findIn K (.ref C3) "kind" = some none) (xo3 : PySem.W.findIn K (.ref C3) "__class__" = some (some (.builtin "object.__class__")))
    (xg4 : PySem.W.nsIn K mainGlobals "TooMany" = some (some (.ref C4))) (xl4 : K.lookup C4 = some (excClassObj nm4 q4 C4 N4 bs4 [.ref R4, .type "ValueError", .type "Exception", .type "BaseException", .type "object"] true sn4 sub4 ab4 col4 dd4 m04 m14 (some (.str "TooMany" mt4)) m34 m54 "ValueError.__new__"))
    (xs4 : PySem.W.findIn K (.ref C4) "__setattr__" = some (some (.builtin "object.__setattr__"))) (xe4 : PySem.W.subIn K (.ref C4) (.type "BaseException") = some true) (xt4 : PySem.W.typeIn K (.ref C4) = some (.type "type")) (xk4 : PySem.W.keepIn K (.ref C4) = true)
    (xi4 : PySem.W.findIn K (.ref C4) "__init__" = some (some (.ref fI))) (xa4 : PySem.W.findIn K (.ref C4) "__getattribute__" = some (some (.builtin "BaseException.__getattribute__"))) (xb4 : PySem.W.findIn K (.ref C4) "__getattr__" = some none) (xw4 : PySem.W.findIn K (.ref C4) "what" = some none) (xh4 : PySem.W.hasDictIn K C4 = true) (xc4 : PySem.W.isClsIn K C4 = true)
    (xm4 : PySem.W.mroIn K C4 (.type "object") = some true) (xr4 : PySem.W.readsIn K C4 (.type "type") = true) (xf4 : PySem.W.findCls K (.ref C4) (.type "type") "__name__" = some (.get (.builtin "getset_descriptor.__get__") (.builtin "type.__name__") (.ref C4) (.type "type"))) (xn4 : PySem.W.findIn K (.ref C4) "kind" = some none) (xo4 : PySem.W.findIn K (.ref C4) "__class__" = some (some (.builtin "object.__class__")))
    (zcn : PySem.W.specialIn K (.builtin "object.__class__") "__get__" = some (some (.builtin "getset_descriptor.__get__"))) (zct : PySem.W.takesIn K (.builtin "object.__class__") = some true)
    (ps_BadBook_BadState : PySem.W.subIn K (.ref C0) (.ref C2) = some false)
    (ps_BadBook_BadMany : PySem.W.subIn K (.ref C0) (.ref C3) = some false)
    (ps_BadBook_TooMany : PySem.W.subIn K (.ref C0) (.ref C4) = some false)
    (ps_Stray_BadState : PySem.W.subIn K (.ref C1) (.ref C2) = some false)
    (ps_Stray_BadMany : PySem.W.subIn K (.ref C1) (.ref C3) = some false)
    (ps_Stray_TooMany : PySem.W.subIn K (.ref C1) (.ref C4) = some false)
    (ps_BadState_BadState : PySem.W.subIn K (.ref C2) (.ref C2) = some true)
    (ps_BadMany_BadState : PySem.W.subIn K (.ref C3) (.ref C2) = some false)
    (ps_BadMany_BadMany : PySem.W.subIn K (.ref C3) (.ref C3) = some true)
    (ps_TooMany_BadState : PySem.W.subIn K (.ref C4) (.ref C2) = some false)
    (ps_TooMany_BadMany : PySem.W.subIn K (.ref C4) (.ref C3) = some false)
    (ps_TooMany_TooMany : PySem.W.subIn K (.ref C4) (.ref C4) = some true)
    (rg : PySem.W.nsIn K mainGlobals "Refused" = some (some (.ref CR))) (rc : PySem.W.isClsIn K CR = true) (rt : PySem.W.typeIn K (.ref CR) = some (.type "type")) (rb : PySem.W.subIn K (.ref CR) (.type "BaseException") = some true)
    (rq0 : PySem.W.subIn K (.ref C0) (.ref CR) = some true) (rv0 : PySem.W.subIn K (.ref C0) (.type "ValueError") = some true)
    (rq1 : PySem.W.subIn K (.ref C1) (.ref CR) = some true) (rv1 : PySem.W.subIn K (.ref C1) (.type "ValueError") = some true)
    (rq2 : PySem.W.subIn K (.ref C2) (.ref CR) = some true) (rv2 : PySem.W.subIn K (.ref C2) (.type "ValueError") = some true)
    (rq3 : PySem.W.subIn K (.ref C3) (.ref CR) = some true) (rv3 : PySem.W.subIn K (.ref C3) (.type "ValueError") = some true)
    (rq4 : PySem.W.subIn K (.ref C4) (.ref CR) = some true) (rv4 : PySem.W.subIn K (.ref C4) (.type "ValueError") = some true)
    (z0 : PySem.W.nsIn K mainGlobals "isinstance" = some none)
    (z1 : PySem.W.nsIn K mainGlobals "int" = some none)
    (z2 : PySem.W.nsIn K mainGlobals "bool" = some none)
    (z3 : PySem.W.nsIn K mainGlobals "tuple" = some none)
    (z4 : PySem.W.nsIn K mainGlobals "len" = some none)
    (z5 : PySem.W.nsIn K mainGlobals "list" = some none)
    (z6 : PySem.W.nsIn K mainGlobals "enumerate" = some none)
    (z7 : PySem.W.nsIn K mainGlobals "range" = some none)
    (z8 : PySem.W.nsIn K mainGlobals "sorted" = some none)
    (z9 : PySem.W.nsIn K mainGlobals "min" = some none)
    (z10 : PySem.W.nsIn K mainGlobals "ValueError" = some none)
    (z11 : PySem.W.nsIn K mainGlobals "set" = some none)
    (z12 : PySem.W.nsIn K mainGlobals "repr" = some none)
    (y0 : PySem.W.nsIn K mainGlobals "MOST_STATES" = some (some (.int 8 t0)))
    (y1 : PySem.W.nsIn K mainGlobals "MOST_MESSAGES" = some (some (.int 5 t1)))
    (y2 : PySem.W.nsIn K mainGlobals "GREATEST_MESSAGE" = some (some (.int 99 t2)))
    (y3 : PySem.W.nsIn K mainGlobals "MOST_ROWS" = some (some (.int 5000 t3)))
    (tbD0_1 : (pL0 == pL1) = false)
    : (∀ p ∈ [(cL0, pL0), (cL1, pL1)], K.lookup p.2 = none ∧ PySem.W.codeHdIn K p.1 p.2 = true) ∧ ∃ fd : FuncData, (∀ (s : Shared) (v : Value), BindsTo s fd ⟨[v], []⟩ [("script", v)]) ∧ ∀ base : Heap, K.In base → base.Ns mainGlobals mg → (∀ p ∈ [(cL0, pL0), (cL1, pL1)], LamX.TabB base mg p.1 p.2) → FnG l.prog w K mg base CX0 11 fa fd ["script"] (spLaw K [(cL0, pL0), (cL1, pL1)]) := by
  have T : Tx K mg := {
    whole := mkDef X G a0 l0 c0 k0 fun _ _ _ _ _ _ us hl => match us, hl with | [_], _ => rfl
    whole_within := mkDef X G a1 l1 c1 k1 fun _ _ _ _ _ _ us hl => match us, hl with | [_, _, _], _ => rfl
    tuple_within := mkDef X G a2 l2 c2 k2 fun _ _ _ _ _ _ us hl => match us, hl with | [_, _, _], _ => rfl
    first_rows := mkDefD ⟨zk3, rfl⟩ X G a3 l3 c3 k3 df3 1 rfl (fun _ _ _ _ _ _ _ us its h1 h2 => match us, its, h1, h2 with | [_], [_], _, _ => ⟨_, rfl, rfl⟩) (fun _ _ _ _ _ _ _ us its h1 h2 => match us, its, h1, h2 with | [_, _], [_], _, _ => ⟨_, rfl, rfl⟩)
    by_meeting := mkDef X G a4 l4 c4 k4 fun _ _ _ _ _ _ us hl => match us, hl with | [_], _ => rfl
    made_book := mkDef X G a5 l5 c5 k5 fun _ _ _ _ _ _ us hl => match us, hl with | [_], _ => rfl
    trimmed := mkDef X G a6 l6 c6 k6 fun _ _ _ _ _ _ us hl => match us, hl with | [_], _ => rfl
    check_form := mkDef X G a7 l7 c7 k7 fun _ _ _ _ _ _ us hl => match us, hl with | [_], _ => rfl
    has_state_form := mkDef X G a8 l8 c8 k8 fun _ _ _ _ _ _ us hl => match us, hl with | [_, _], _ => rfl
    check_state := mkDef X G a9 l9 c9 k9 fun _ _ _ _ _ _ us hl => match us, hl with | [_, _], _ => rfl
    rows_from := mkDef X G a10 l10 c10 k10 fun _ _ _ _ _ _ us hl => match us, hl with | [_, _, _], _ => rfl
    way_to := mkDef X G a11 l11 c11 k11 fun _ _ _ _ _ _ us hl => match us, hl with | [_, _], _ => rfl
    ends_of := mkDef X G a12 l12 c12 k12 fun _ _ _ _ _ _ us hl => match us, hl with | [_], _ => rfl
    law_pool := mkDef X G a13 l13 c13 k13 fun _ _ _ _ _ _ us hl => match us, hl with | [_], _ => rfl
    law_draw := mkDef X G a14 l14 c14 k14 fun _ _ _ _ _ _ us hl => match us, hl with | [_, _], _ => rfl
    law_pick := mkDef X G a15 l15 c15 k15 fun _ _ _ _ _ _ us hl => match us, hl with | [_, _], _ => rfl
    law_book_meeting := mkDef X G a16 l16 c16 k16 fun _ _ _ _ _ _ us hl => match us, hl with | [_], _ => rfl
    law_book_messages := mkDef X G a17 l17 c17 k17 fun _ _ _ _ _ _ us hl => match us, hl with | [_, _], _ => rfl
    law_book_drawn := mkDef X G a18 l18 c18 k18 fun _ _ _ _ _ _ us hl => match us, hl with | [_, _, _], _ => rfl
    law_book_next := mkDef X G a19 l19 c19 k19 fun _ _ _ _ _ _ us hl => match us, hl with | [_, _, _], _ => rfl
    law_book_at := mkDef X G a20 l20 c20 k20 fun _ _ _ _ _ _ us hl => match us, hl with | [_, _, _], _ => rfl
    law_book_moves := mkDef X G a21 l21 c21 k21 fun _ _ _ _ _ _ us hl => match us, hl with | [_], _ => rfl
    law_heard := mkDef X G a22 l22 c22 k22 fun _ _ _ _ _ _ us hl => match us, hl with | [_], _ => rfl
    law_all_rows := mkDef X G a23 l23 c23 k23 fun _ _ _ _ _ _ us hl => match us, hl with | [_, _, _], _ => rfl
    law_way := mkDef X G a24 l24 c24 k24 fun _ _ _ _ _ _ us hl => match us, hl with | [_, _], _ => rfl
    law_bounds_right := mkDef X G a25 l25 c25 k25 fun _ _ _ _ _ _ us hl => match us, hl with | [_], _ => rfl
    law := mkDef X G a26 l26 c26 k26 fun _ _ _ _ _ _ us hl => match us, hl with | [_], _ => rfl
    init := ⟨fI, _, fun_mk lI cI kI, tI, fun us hl => match us, hl with | [_, _], _ => rfl⟩
    x_BadBook := ⟨C0, PySem.W.mg_of X G xg0, ⟨⟨_, _, _, _, _, _, _, _, _, _, _, _, _, _, _, xl0, (show PySem.HandSPX.refsVE [.type "ValueError", .type "Exception", .type "BaseException", .type "object"] = true by decide +kernel)⟩, xs0, xe0, xt0, xk0⟩, xi0, xa0, xb0, xw0, ⟨xa0, xb0, xe0, xc0, xo0, zcn, zct, xm0, xr0, xf0, ⟨_, _, _, _, mt0, xl0, rfl⟩, xn0⟩, xh0, xc0⟩
    x_Stray := ⟨C1, PySem.W.mg_of X G xg1, ⟨⟨_, _, _, _, _, _, _, _, _, _, _, _, _, _, _, xl1, (show PySem.HandSPX.refsVE [.type "ValueError", .type "Exception", .type "BaseException", .type "object"] = true by decide +kernel)⟩, xs1, xe1, xt1, xk1⟩, xi1, xa1, xb1, xw1, ⟨xa1, xb1, xe1, xc1, xo1, zcn, zct, xm1, xr1, xf1, ⟨_, _, _, _, mt1, xl1, rfl⟩, xn1⟩, xh1, xc1⟩
    x_BadState := ⟨C2, PySem.W.mg_of X G xg2, ⟨⟨_, _, _, _, _, _, _, _, _, _, _, _, _, _, _, xl2, (show PySem.HandSPX.refsVE [.type "ValueError", .type "Exception", .type "BaseException", .type "object"] = true by decide +kernel)⟩, xs2, xe2, xt2, xk2⟩, xi2, xa2, xb2, xw2, ⟨xa2, xb2, xe2, xc2, xo2, zcn, zct, xm2, xr2, xf2, ⟨_, _, _, _, mt2, xl2, rfl⟩, xn2⟩, xh2, xc2⟩
    x_BadMany := ⟨C3, PySem.W.mg_of X G xg3, ⟨⟨_, _, _, _, _, _, _, _, _, _, _, _, _, _, _, xl3, (show PySem.HandSPX.refsVE [.type "ValueError", .type "Exception", .type "BaseException", .type "object"] = true by decide +kernel)⟩, xs3, xe3, xt3, xk3⟩, xi3, xa3, xb3, xw3, ⟨xa3, xb3, xe3, xc3, xo3, zcn, zct, xm3, xr3, xf3, ⟨_, _, _, _, mt3, xl3, rfl⟩, xn3⟩, xh3, xc3⟩
    x_TooMany := ⟨C4, PySem.W.mg_of X G xg4, ⟨⟨_, _, _, _, _, _, _, _, _, _, _, _, _, _, _, xl4, (show PySem.HandSPX.refsVE [.type "ValueError", .type "Exception", .type "BaseException", .type "object"] = true by decide +kernel)⟩, xs4, xe4, xt4, xk4⟩, xi4, xa4, xb4, xw4, ⟨xa4, xb4, xe4, xc4, xo4, zcn, zct, xm4, xr4, xf4, ⟨_, _, _, _, mt4, xl4, rfl⟩, xn4⟩, xh4, xc4⟩
    s_BadBook_BadState := ps_BadBook_BadState
    s_BadBook_BadMany := ps_BadBook_BadMany
    s_BadBook_TooMany := ps_BadBook_TooMany
    s_Stray_BadState := ps_Stray_BadState
    s_Stray_BadMany := ps_Stray_BadMany
    s_Stray_TooMany := ps_Stray_TooMany
    s_BadState_BadState := ps_BadState_BadState
    s_BadMany_BadState := ps_BadMany_BadState
    s_BadMany_BadMany := ps_BadMany_BadMany
    s_TooMany_BadState := ps_TooMany_BadState
    s_TooMany_BadMany := ps_TooMany_BadMany
    s_TooMany_TooMany := ps_TooMany_TooMany
    r_Refused := ⟨CR, PySem.W.mg_of X G rg, rc, rt, rb⟩
    q_BadBook := rq0
    v_BadBook := rv0
    q_Stray := rq1
    v_Stray := rv1
    q_BadState := rq2
    v_BadState := rv2
    q_BadMany := rq3
    v_BadMany := rv3
    q_TooMany := rq4
    v_TooMany := rv4
    n_isinstance := PySem.W.mg_none_of X G z0
    n_int := PySem.W.mg_none_of X G z1
    n_bool := PySem.W.mg_none_of X G z2
    n_tuple := PySem.W.mg_none_of X G z3
    n_len := PySem.W.mg_none_of X G z4
    n_list := PySem.W.mg_none_of X G z5
    n_enumerate := PySem.W.mg_none_of X G z6
    n_range := PySem.W.mg_none_of X G z7
    n_sorted := PySem.W.mg_none_of X G z8
    n_min := PySem.W.mg_none_of X G z9
    n_ValueError := PySem.W.mg_none_of X G z10
    n_set := PySem.W.mg_none_of X G z11
    n_repr := PySem.W.mg_none_of X G z12
    c_MOST_STATES := ⟨_, PySem.W.mg_of X G y0⟩
    c_MOST_MESSAGES := ⟨_, PySem.W.mg_of X G y1⟩
    c_GREATEST_MESSAGE := ⟨_, PySem.W.mg_of X G y2⟩
    c_MOST_ROWS := ⟨_, PySem.W.mg_of X G y3⟩
  }
  have gl : T.law.f = fa := Value.ref.inj (Option.some.inj (T.law.g.symm.trans hfa))
  refine ⟨fun p hp => ?_, ?_⟩
  · simp only [List.mem_cons, List.not_mem_nil, or_false] at hp
    rcases hp with rfl | rfl
    · exact ⟨tbN0, tbC0⟩
    · exact ⟨tbN1, tbC1⟩
  obtain rfl : f26 = fa := Value.ref.inj (Option.some.inj ((PySem.W.mg_of X G a26).symm.trans hfa))
  refine ⟨PySem.W.fnOf "law" "law" (defArgs s_law) (defBody s_law) (defScope s_law) .none kV26 dc26 pm26 an26 (.ref cL0) ct26, fun s v => .of_eq rfl, fun base _ _ TB => ?_⟩
  have gr0 : T.law.f = f26 := Value.ref.inj (Option.some.inj (T.law.g.symm.trans (PySem.W.mg_of X G a26)))
  have gr1 : T.law_bounds_right.f = f25 := Value.ref.inj (Option.some.inj (T.law_bounds_right.g.symm.trans (PySem.W.mg_of X G a25)))
  have r := ok_law (P := l.prog) (w := w) (base := base) T (by rw [gr0]; exact l26) c26 (TB (cL0, pL0) (by simp)) (by rw [gr1]; exact l25) c25 (TB (cL1, pL1) (by simp)) (fun z => by have z : pL0 = pL1 := z; rw [z] at tbD0_1; simp at tbD0_1)
  rw [gl] at r
  exact r
end Nv
open PySem PySem.W PyProof.Rows
set_option maxRecDepth 100000 in
set_option maxHeartbeats 0 in
theorem PySem.Challenge.cw_neverfour_k03_rows_from_states_holds : PySem.Challenge.rw_neverfour_k03_rows_from_states.Holds := by
  w_on; o_law; k_head; (case hw => w_witness2)
  k_fill
  refine' Nv.endGTs (Ts := [(?tc0, ?tp0), (?tc1, ?tp1)]) (l := PySem.Challenge.rw_neverfour_k03_rows_from_states) (n := 63) (k := 11) (x := "script") (sp := Nv.spLaw) rfl (by decide) rfl ⟨rfl, by decide, by decide⟩ (fun w h Y => PySem.W.km_in_of Y) ?HP ?F (fun _ _ a ns hl hS hP => ⟨a, ns, rfl, hS, hl, hP, fun _ => rfl⟩)
  case F =>
    intro w mg fa h KX G hmg
    refine' Nv.all_mk KX G hmg ?a0 ?l0 ?c0 ?k0 ?a1 ?l1 ?c1 ?k1 ?a2 ?l2 ?c2 ?k2 ?a3 ?l3 ?c3 ?k3 ?df3 ?a4 ?l4 ?c4 ?k4 ?a5 ?l5 ?c5 ?k5 ?a6 ?l6 ?c6 ?k6 ?a7 ?l7 ?c7 ?k7 ?a8 ?l8 ?c8 ?k8 ?a9 ?l9 ?c9 ?k9 ?a10 ?l10 ?c10 ?k10 ?a11 ?l11 ?c11 ?k11 ?a12 ?l12 ?c12 ?k12 ?a13 ?l13 ?c13 ?k13 ?a14 ?l14 ?c14 ?k14 ?a15 ?l15 ?c15 ?k15 ?a16 ?l16 ?c16 ?k16 ?a17 ?l17 ?c17 ?k17 ?a18 ?l18 ?c18 ?k18 ?a19 ?l19 ?c19 ?k19 ?a20 ?l20 ?c20 ?k20 ?a21 ?l21 ?c21 ?k21 ?a22 ?l22 ?c22 ?k22 ?a23 ?l23 ?c23 ?k23 ?a24 ?l24 ?c24 ?k24 ?a25 ?l25 ?c25 ?k25 ?tbO1 ?tbV1 ?tbC1 ?tbN1 ?a26 ?l26 ?c26 ?k26 ?tbO0 ?tbV0 ?tbC0 ?tbN0 ?lI ?cI ?kI ?tI ?xg0 ?xl0 ?xs0 ?xe0 ?xt0 ?xk0 ?xi0 ?xa0 ?xb0 ?xw0 ?xh0 ?xc0 ?xm0 ?xr0 ?xf0 ?xn0 ?xo0 ?xg1 ?xl1 ?xs1 ?xe1 ?xt1 ?xk1 ?xi1 ?xa1 ?xb1 ?xw1 ?xh1 ?xc1 ?xm1 ?xr1 ?xf1 ?xn1 ?xo1 ?xg2 ?xl2 ?xs2 ?xe2 ?xt2 ?xk2 ?xi2 ?xa2 ?xb2 ?xw2 ?xh2 ?xc2 ?xm2 ?xr2 ?xf2 ?xn2 ?xo2 ?xg3 ?xl3 ?xs3 ?xe3 ?xt3 ?xk3 ?xi3 ?xa3 ?xb3 ?xw3 ?xh3 ?xc3 ?xm3 ?xr3 ?xf3 ?xn3 ?xo3 ?xg4 ?xl4 ?xs4 ?xe4 ?xt4 ?xk4 ?xi4 ?xa4 ?xb4 ?xw4 ?xh4 ?xc4 ?xm4 ?xr4 ?xf4 ?xn4 ?xo4 ?zcn ?zct ?ps_BadBook_BadState ?ps_BadBook_BadMany ?ps_BadBook_TooMany ?ps_Stray_BadState ?ps_Stray_BadMany ?ps_Stray_TooMany ?ps_BadState_BadState ?ps_BadMany_BadState ?ps_BadMany_BadMany ?ps_TooMany_BadState ?ps_TooMany_BadMany ?ps_TooMany_TooMany ?rg ?rc ?rt ?rb ?rq0 ?rv0 ?rq1 ?rv1 ?rq2 ?rv2 ?rq3 ?rv3 ?rq4 ?rv4 ?z0 ?z1 ?z2 ?z3 ?z4 ?z5 ?z6 ?z7 ?z8 ?z9 ?z10 ?z11 ?z12 ?y0 ?y1 ?y2 ?y3 ?tbD0_1
    (case a0 => k_is); (case l0 => k_is); (case c0 => k_is); (case k0 => k_is); (case a1 => k_is); (case l1 => k_is)
    (case c1 => k_is); (case k1 => k_is); (case a2 => k_is); (case l2 => k_is); (case c2 => k_is); (case k2 => k_is)
    (case a3 => k_is); (case l3 => k_is); (case c3 => k_is); (case k3 => k_is); (case df3 => k_is); (case a4 => k_is)
    (case l4 => k_is); (case c4 => k_is); (case k4 => k_is); (case a5 => k_is); (case l5 => k_is); (case c5 => k_is)
    (case k5 => k_is); (case a6 => k_is); (case l6 => k_is); (case c6 => k_is); (case k6 => k_is); (case a7 => k_is)
    (case l7 => k_is); (case c7 => k_is); (case k7 => k_is); (case a8 => k_is); (case l8 => k_is); (case c8 => k_is)
    (case k8 => k_is); (case a9 => k_is); (case l9 => k_is); (case c9 => k_is); (case k9 => k_is); (case a10 => k_is)
    (case l10 => k_is); (case c10 => k_is); (case k10 => k_is); (case a11 => k_is); (case l11 => k_is); (case c11 => k_is)
    (case k11 => k_is); (case a12 => k_is); (case l12 => k_is); (case c12 => k_is); (case k12 => k_is); (case a13 => k_is)
    (case l13 => k_is); (case c13 => k_is); (case k13 => k_is); (case a14 => k_is); (case l14 => k_is); (case c14 => k_is)
    (case k14 => k_is); (case a15 => k_is); (case l15 => k_is); (case c15 => k_is); (case k15 => k_is); (case a16 => k_is)
    (case l16 => k_is); (case c16 => k_is); (case k16 => k_is); (case a17 => k_is); (case l17 => k_is); (case c17 => k_is)
    (case k17 => k_is); (case a18 => k_is); (case l18 => k_is); (case c18 => k_is); (case k18 => k_is); (case a19 => k_is)
    (case l19 => k_is); (case c19 => k_is); (case k19 => k_is); (case a20 => k_is); (case l20 => k_is); (case c20 => k_is)
    (case k20 => k_is); (case a21 => k_is); (case l21 => k_is); (case c21 => k_is); (case k21 => k_is); (case a22 => k_is)
    (case l22 => k_is); (case c22 => k_is); (case k22 => k_is); (case a23 => k_is); (case l23 => k_is); (case c23 => k_is)
    (case k23 => k_is); (case a24 => k_is); (case l24 => k_is); (case c24 => k_is); (case k24 => k_is); (case a25 => k_is)
    (case l25 => k_is); (case c25 => k_is); (case k25 => k_is); (case tbO1 => k_is); (case tbV1 => rfl); (case tbC1 => kernel_rfl)
    (case tbN1 => kernel_rfl); (case a26 => k_is); (case l26 => k_is); (case c26 => k_is); (case k26 => k_is); (case tbO0 => k_is)
    (case tbV0 => rfl); (case tbC0 => kernel_rfl); (case tbN0 => kernel_rfl); (case xg0 => k_is); (case xl0 => k_is); (case xs0 => k_is)
    (case xe0 => k_is); (case xt0 => k_is); (case xk0 => k_is); (case xi0 => k_is); (case xa0 => k_is); (case xb0 => k_is)
    (case xw0 => k_is); (case xh0 => k_is); (case xc0 => k_is); (case xm0 => k_is); (case xr0 => k_is); (case xf0 => k_is)
    (case xn0 => k_is); (case xo0 => k_is); (case xg1 => k_is); (case xl1 => k_is); (case xs1 => k_is); (case xe1 => k_is)
    (case xt1 => k_is); (case xk1 => k_is); (case xi1 => k_is); (case xa1 => k_is); (case xb1 => k_is); (case xw1 => k_is)
    (case xh1 => k_is); (case xc1 => k_is); (case xm1 => k_is); (case xr1 => k_is); (case xf1 => k_is); (case xn1 => k_is)
    (case xo1 => k_is); (case xg2 => k_is); (case xl2 => k_is); (case xs2 => k_is); (case xe2 => k_is); (case xt2 => k_is)
    (case xk2 => k_is); (case xi2 => k_is); (case xa2 => k_is); (case xb2 => k_is); (case xw2 => k_is); (case xh2 => k_is)
    (case xc2 => k_is); (case xm2 => k_is); (case xr2 => k_is); (case xf2 => k_is); (case xn2 => k_is); (case xo2 => k_is)
    (case xg3 => k_is); (case xl3 => k_is); (case xs3 => k_is); (case xe3 => k_is); (case xt3 => k_is); (case xk3 => k_is)
    (case xi3 => k_is); (case xa3 => k_is); (case xb3 => k_is); (case xw3 => k_is); (case xh3 => k_is); (case xc3 => k_is)
    (case xm3 => k_is); (case xr3 => k_is); (case xf3 => k_is); (case xn3 => k_is); (case xo3 => k_is); (case xg4 => k_is)
    (case xl4 => k_is); (case xs4 => k_is); (case xe4 => k_is); (case xt4 => k_is); (case xk4 => k_is); (case xi4 => k_is)
    (case xa4 => k_is); (case xb4 => k_is); (case xw4 => k_is); (case xh4 => k_is); (case xc4 => k_is); (case xm4 => k_is)
    (case xr4 => k_is); (case xf4 => k_is); (case xn4 => k_is); (case xo4 => k_is); (case zcn => k_is); (case zct => k_is)
    (case ps_BadBook_BadState => k_is); (case ps_BadBook_BadMany => k_is); (case ps_BadBook_TooMany => k_is); (case ps_Stray_BadState => k_is); (case ps_Stray_BadMany => k_is); (case ps_Stray_TooMany => k_is)
    (case ps_BadState_BadState => k_is); (case ps_BadMany_BadState => k_is); (case ps_BadMany_BadMany => k_is); (case ps_TooMany_BadState => k_is); (case ps_TooMany_BadMany => k_is); (case ps_TooMany_TooMany => k_is)
    (case rg => k_is); (case rc => k_is); (case rt => k_is); (case rb => k_is); (case rq0 => k_is); (case rv0 => k_is)
    (case rq1 => k_is); (case rv1 => k_is); (case rq2 => k_is); (case rv2 => k_is); (case rq3 => k_is); (case rv3 => k_is)
    (case rq4 => k_is); (case rv4 => k_is); (case z0 => k_is); (case z1 => k_is); (case z2 => k_is); (case z3 => k_is)
    (case z4 => k_is); (case z5 => k_is); (case z6 => k_is); (case z7 => k_is); (case z8 => k_is); (case z9 => k_is)
    (case z10 => k_is); (case z11 => k_is); (case z12 => k_is); (case y0 => k_is); (case y1 => k_is); (case y2 => k_is)
    (case y3 => k_is); (case tbD0_1 => kernel_rfl); (case lI => k_is); (case cI => k_is); (case kI => k_is); (case tI => k_is)
  case HP =>
    intro w h Y p hp
    refine PySem.W.km_tabs_of Y _ ?_
    simp only [List.mem_cons, List.not_mem_nil, or_false] at hp
    rcases hp with rfl | rfl <;> decide
